import PyProof.Rows.All
import Wide.All
import OpenK.AllK
import Wide.FinOn
import Lean
import PyProof.EqAt
import PyProof.EqKinds
import PyProof.TupleCall
import PySem.Challenge.RW_retrace_k14_whole_however_deep
set_option genSizeOf false
set_option compiler.extract_closed false
set_option bootstrap.genMatcherCode false
set_option Elab.async false
set_option linter.all false
set_option maxHeartbeats 4000000
set_option maxRecDepth 100000
open PySem renaming mainGlobals→b6,wpAny→bb,Shared→bv,model→bn,starEach→ci,bootBuiltins→c7,Program→cf,World→b7,behindInMarks→gb,Around→cr,FuncData→dL,attributeBase→ge,rawInt→cx,foldedSetIterable→hG,noteFrame→eC,backTo→db,DictEntry→fy,sysModules→gt,assignEach→gz,codeAny→eH,keywordEach→hB,holding→ft,letOwnedTupleGo→ji,swapsWith→gZ,sliceBounds→hL
open PySem renaming wpAny_bind→aa,wpAny_pure→au,wpAny_field→bI,wpAny_newObj_type→bZ,wpAny_holding→cG,wpAny_callSpecial?_slot→cK,wpAny_passesOwn→cV,wpAny_mono→dB,wpAny_truthy_bool→d8,wpAny_call_entry→eJ,call_meets→eO,wpAny_Call_Name_kw→eP,wpAny_seqItems→eQ,wpAny_setField→eR,wpAny_setField_rec→f7,codeAny_builtin→gv,wpAny_execs_nil→gA,wpAny_rule→iq,mem_of_lookup→iR,wpAny_getItem_str_slice→jE,codeAny_mono→jY,strKind_is→kE,wpAny_execs_cons→kF,wpAny_typeOf→mJ,typeIs_str→oj,wpAny_pyIter_tuple→om,wpAny_pyIter_list→pN,wpAny_attempt→pW,wpAny_getItem_of→qY,wpAny_Call_method_late→sR,wpAny_call→sS,post_val_or_str→tL,wpAny_isTrue_Compare1→ur,wpAny_updateSeq_pair→wx,plainId_quiet→Ab,wpAny_onRaise→Ac,wpAny_standAt→Ad,tupleKind_room_in1→Al,wpAny_Return_some→Cz,wpAny_sequenceKey→CA,noFill_tuple_add→Hf,sizeLine_eq→Jz,wpAny_of_eq→JA,wpAny_newFunctionEnv_cells→Pp,evalPart_none→Wg,seq_tuple_add→Wh,wpAny_comprehension_free→Wj,wpAny_pyNext_tuple_item→s_,codeAny_compStart_list→D',concat_meets→F',seqIndex_neg→J',wpAny_pyNext_list_item→L',codeAny_call_function→O',wpAny_pyNext_list_end→wS,codeAny_call_builtin→Qa,seqIndex_of→wp,wpAny_letGo→sB,wpAny_newFunctionEnv→Xz,wpAny_throw→ut,codeAny_forLoop_any→Ix,length_partsBetween→y0
open List renaming length_append→ae,getElem?_eq_some_iff→ai,length_map→ak,length_cons→ao,mem_cons_of_mem→aq,mem_cons_self→aw,append_assoc→aA,size_toArray→aD,getElem?_eq_getElem→aE,getElem?_set_ne→aG,mem_cons→aJ,append_nil→aM,getElem?_append_right→aP,mem_singleton→aQ,mem_append_right→aR,all_eq_true→aS,map_append→aV,getElem?_append_left→aW,map_cons→aY,mem_of_getElem?→aZ,mem_append→bf,all_cons→bh,length_set→bp,mem_map→bL,getElem?_map→bM,length_replicate→bV,length_reverse→cg,all_append→cy,getElem?_set_self→cB,nodup_cons→cD,replicate_succ→cH,mem_append_left→cP,length_take→c0,reverse_cons→de,length_eq_zero_iff→dm,take_length→dN,flatten_cons→dY,getElem?_cons_succ→dZ,length_range→d7,filterMap_cons→eo,take_succ_cons→er,map_map→fi,map_nil→fj,nodup_append→fk,cons_append→fK,filter_cons_of_pos→fL,getElem?_replicate→fM,lookup_cons→fN,filter_append→fU,getElem_cons_drop→fV,take_of_length_le→fW,mem_filter→gq,nil_append→gu,dropLast_concat→hZ,drop_zero→ic,mem_of_mem_take→ie,nodup_nil→ig,take_zero→ik,getElem_mem→iB,getElem?_take_of_lt→iZ,find?_cons→jl,forIn_cons→jm,filter_cons_of_neg→jD,append_eq_nil_iff→jT,mem_range→jU,getElem?_eq_none→kA,getElem?_toArray→kB,getElem_inj→kC,any_cons→kY,all_map→mE,forIn_nil→nZ,mem_filterMap→og,take_left→oh,getElem?_eq_none_iff→o7,drop_length→qQ,getElem?_cons_zero→qR,length_drop→qS,not_mem_nil→qT,of_mem_zip→tI,take_append_drop→uq,count_cons_self→wq,getElem?_of_mem→wt,getElem?_range→x8,count_eq_zero→Aj,count_append→Cr,set_set→Cu,dropLast_append_of_ne_nil→G8,flatten_nil→G9,length_nil→JQ,set_append→JR,getD_eq_getElem?_getD→Pk,append_eq_append_iff→UB,length_erase_of_mem→Wc,drop_of_length_le→U_,find?_cons_of_neg→V_,find?_cons_of_pos→W_,length_pos_of_mem→X_,contains_iff_mem→Ev,dropLast_cons₂→U2,dropLast_subset→A7,map_id→sw,mem_erase_of_ne→Uf,mem_iff_getElem→QU,mem_of_mem_drop→Op,filter_eq_self→G_,replicate_zero→FS
open PySem.Heap renaming get?_push_of_some→aj,lt_size→aN,get?_push_size→aU,get?_update_other→bT,get?_update_self→cI,size_push→fJ,size_after_update→S_
open Nat renaming eq_of_beq_eq_true→ax,le_refl→aB,le_trans→aH,le_of_ble_eq_true→bg,lt_of_lt_of_le→bt,ne_of_lt→bu,zero_le→bG,lt_irrefl→cS,le_add_right→dq,lt_succ_self→eG,ble_eq_true_of_le→eU,beq_refl→fX,sub_self→fY,ne_of_gt→iD,min_eq_left→jn,lt_of_le_of_lt→jv,le_of_eq→mG,add_le_add→oi,lt_succ_of_lt→pL,zero_add→sM,le_of_lt→Cv,min_eq_right→Hc,min_le_right→He,lt_of_succ_lt_succ→Y_,succ_mul→Z_,mul_le_mul_right→XD,mul_le_mul_left→Db
open Bool renaming and_eq_true→aI,false_ne_true→aK,eq_false_iff→bw,and_true→bX,true_and→cR,eq_iff_iff→dG,or_eq_true→gp,false_bne→jR,beq_eq_decide_eq→ky,and_false→nW,false_eq_true→nX,true_bne→pR,not_eq_true'→Cp,or_false→Wa,or_eq_false_iff→Do
open PySem.W renaming mg_of→bj,mg_none_of→bQ,kia_one→cE,mapOf_K→jq,callWith_K→jw,cellsFrom_some→sQ,plainGet_of→x9,callWith_K0→PP,looks_subIn→Jf
open Array renaming length_toList→bJ,getElem?_eq_some_iff→eM,find?_toList→Ag,getElem?_toList→QQ,toList_append→Jh
open PyProof.Rows renaming slot_tuple_getitem→bP,subscriptTail_builtinR→fZ,gl_int→jx,callWith_type1→mH,vals1→pM,take_snoc→qX,slicePart_none→wu,entry_tuple_getitem→yb,args_tuple_getitem→Ak,len_partsBetween→Jy,Subscript_→Pn,strs_map→Po,Constant_none→Wb,tupleItemsOf_→Wi,split_le→L3
open Ne renaming symm→bY
open PySem.F renaming plainAttrs_list→cA,slot_tuple_iterator_next→dA,slot_dict_getitem→iJ,slot_list_append→jc,type_list_append→jd,plainAttrs_str→jV,slot_str_split→jW,args_tuple_iterator_next_1→mj,entry_tuple_iterator_next→mD,slot_list_getattribute→pS,args_str_split_2→pT,args_tuple_add_2→pU,slot_list_extend→pV,entry_str_split→qU,entry_tuple_add→qV,slot_tuple_add→sO,slot_zip_next→tG,slot_tuple_index→We,type_list_extend→Wf,attr_ValueError→p_,slot_list_count→q_,slot_list_index→r_,slot_dict_get→WP
open Option renaming isSome_iff_exists→cF,map_some→tJ
open Option.some renaming inj→cU
open Int renaming toNat_natCast→dc,ofNat_eq_natCast→fh,emod_lt_of_pos→nY,emod_nonneg→tH,toNat_of_nonneg→x6,zero_add→T_
open PySem.Obj renaming data_mapFields→dO,isFreed_of_fields→gM
open PySem.Heap.SameBut renaming update→fH
open PySem.Around renaming under_plainId→hW
open PySem.Calls renaming callWith_builtin→jS,evalArgs_plain→lg,Constant_str→Ah,spliced_cons→Ai,spliced_nil→Cq,Name_function_global→Pj
open PySem.Str renaming cps_append→jX
open LawfulBEq renaming eq_of_beq→nE
open PyProof.Rows.F renaming plain_set_update_loop→qP,entry_set_update_loop→n_
open PySem.PassesOwn renaming never→tK,leaving→Cw
open PySem.Value renaming isStrOf_shape→ya
open PySem.Txt renaming slice_le→Cy
open PySem.StrLaws renaming glued_between_self→Pl,glued_eq_join→No,occ_length_le→L4
open PyProof.Rows.IsTup renaming new→o_
theorem f8(h:True:=by rfl):True:=h
def o0:Lean.Syntax:=f8._auto_1
theorem u8(h:True:=by decide):True:=h
def P3:Lean.Syntax:=u8._auto_1
theorem W1(h:True:=by first|exact .inl rfl|exact .inr rfl|assumption):True:=h
def ib:Lean.Syntax:=W1._auto_1
theorem ah0(h:True:=by decide+kernel):True:=h
def h9:Lean.Syntax:=ah0._auto_1
theorem ah4(h:True:=by intro _;rfl):True:=h
def hY:Lean.Syntax:=ah4._auto_1
open Option renaming some→O,none→af
open Bool renaming true→J,false→a7
local macro_rules|`(tactic|ext)=>`(tactic|decide+kernel)
open Nat renaming beq→aa3,ble→aa5,blt→ad8
open List renaming replicate→aa4,range→ab6,lookup→af9,length→ag0,foldl→ah9
open PySem.Value renaming ref→ab0,none→ab1,isStrOf→ab5,bool→ad0,type→af3,int→ag3,str→ah2
open PySem renaming intText?→ab2,strKind→ac7,Const→ag7,Within→ai0
open PySem.Builtin.Str renaming occurrences→ab3,partsBetween→ad4,subAt→ag6
open PySem.Builtin.Slice renaming slicePlaces→ab4,sliceAdjust→ac6,sliceApplied→ae3,sliceFields→ag2
open PySem.Builtin.Tuple renaming tupleExact→ab7,tupleItemsOf→ae9,tupleIsExact→ag1
open PySem.Str renaming join→ab8,ofString→ac5
open PySem.NameKind renaming free→ac4,cell→ah6
open False renaming elim→ac8
open PySem.Txt renaming split→ac9,replace→ad7,startswith→ae0,join→ah5
open PySem.Obj renaming mapFields→ad1,putSet→ag4,mapSeq→ah3
open PySem.Heap renaming SameBut→ad2
open PySem.Builtin.List renaming listTooLong→ad3
open Exists renaming intro→ad5
open ForInStep renaming yield→ad6
open PySem.SetTable renaming grown→ad9
open And renaming intro→af0
open PySem.PyData renaming keyHash→af1
open True renaming intro→af2
open Sum renaming inl→ah7,inr→ah8
open PySem PySem.Spec PyProof.Rows
noncomputable section
abbrev dC:=PySem.Value->PySem.Shared->Prop
open PySem.Builtin.SmallTypes renaming nextOf→q0',ownedTupleHandOut→q1',ownedTupleIsFree→q2'
abbrev ce:=List (PySem.Addr×PySem.Obj)
abbrev b':=PySem.Str->Option PySem.Value
section
def aX:=@of_decide_eq_true
def bx:=@if_pos
def bE:=@if_neg
def bN:=@decide_eq_false
def bU:=@congrArg
def cq:=@decide_eq_true
def cu:=@beq_eq_false_iff_ne
def eI:=@beq_self_eq_true
def gP:=@decide_eq_true_eq
def kD:=@beq_iff_eq
def mI:=@if_true
def qW:=@if_false
def yc:=@ne_true_of_eq_false
end
open PySem.W(instObj methodObj Frag lookIn plainGet hasDictIn findIn handedIn isFn plainOver takerIn Looks makesIn typeIn emptyDict keepIn specialIn takesIn mroIn kitOne fnOf codeIn OpenLaw WalkO KeysLit excIn clsIn subIn KitX nsIn kitCls findObj kIn_of)
namespace L2
variable{P prog:cf}{w:b7}{H H':Hp}{h h' base:Heap}{a b dx C it:Addr}{o:HO}{x name m b1:Str}{e tg c:Expr}{X:Cx}{am:ce}{σ:tSt}{s s':bv}{ta te:TE}{tb:TS}{pos pos' p b5:Pos}{xs vs:List V}{E:dC}{t:TA}{u:Value}{tc:TT}{A:cr}{K:Frag}{f:Value->Value->Sem Value}{mA mg:b'}{v y:V}{Q:Unit->bv->Prop}{es:List Expr}{CX:xg}{k t' i j n:Nat}{fd:dL}{ps N:List Str}{sp:Sp}{r r':R2}{us:List Value}{α:Type}{g':Array GenState}{d':Drawn}{ch fp:List Addr}{M:Model}{op:CmpOp}{D:Ends}{body:List Stmt}{pl:Sem Bool}{kw:List (Str×Value)}{outer:List Env}{scope:Scope}
abbrev b8:=Sum Int Str
noncomputable def xF:b8->Value->Bool|.inl k,v=>Value.isInt k v|.inr x,v=>ab5 x v
noncomputable def agi(w:b7):b8->Int|.inl k=>hashInt k|.inr x=>hashStr w x
def eg:∀{k:b8}{v:Value},xF k v=J->(∃i t,k=ah7 i/\v=ag3 i t)\/∃x t,k=ah8 x/\v=ah2 x t|.inl i,v,h=>by obtain⟨t,e⟩:=Value.isInt_shape (k:=i) (v:=v) h;exact .inl ⟨i,t,rfl,e⟩|.inr x,v,h=>by obtain⟨t,e⟩:=ya (x:=x) (v:=v) h;exact .inr ⟨x,t,rfl,e⟩
def Io(i:Int)(t:Tok):xF (.inl i) (.int i t)=true:=by simp[xF,Value.isInt]
def Ip(x:Str)(t:Tok):xF (.inr x) (.str x t)=true:=by simp[xF,ab5]
def Yc(a b:Int):decide ((ah7 a:b8)=ah7 b)=(a==b):=by
 by_cases e:a=b;·subst e;simp
 ·have h:¬(ah7 a:b8)=ah7 b:=λq=>e (Sum.inl.inj q);rw[bN h];exact(cu.mpr e).symm
def Yg(a b:Str):decide ((ah8 a:b8)=ah8 b)=decide (a=b):=by
 by_cases e:a=b;·subst e;simp
 ·have h:¬(ah8 a:b8)=ah8 b:=λq=>e (Sum.inr.inj q);rw[bN h,bN e]
def Yd(a:Int)(b:Str):decide ((ah7 a:b8)=ah8 b)=false:=bN λq=>nomatch q
def Yf(a:Str)(b:Int):decide ((ah8 a:b8)=ah7 b)=false:=bN λq=>nomatch q
def fB(prog:cf)(w:b7):PySem.KeyKind prog w b8 where
 is:=xF;hash:=agi w;inj:=λv a b q l=>by
  rcases eg q with ⟨i,t,rfl,rfl⟩|⟨x,t,rfl,rfl⟩
  ·rcases eg l with ⟨j,u,rfl,e⟩|⟨y,u,rfl,e⟩;·injection e with d _;rw[d]
   ·exact nomatch e
  ·rcases eg l with ⟨j,u,rfl,e⟩|⟨y,u,rfl,e⟩;·exact nomatch e
   ·injection e with d _;rw[d]
 byValue:=λk v h=>by rcases eg h with ⟨i,t,rfl,rfl⟩|⟨x,t,rfl,rfl⟩<;>rfl
 pyHash:=λg h=>by
  rcases eg g with ⟨i,t,rfl,rfl⟩|⟨x,t,rfl,rfl⟩;·exact wpAny_pyHash_int h
  ·exact wpAny_pyHash_str h
 eqBool:=λhu g h=>by
  rcases eg hu with ⟨i,t,rfl,rfl⟩|⟨x,t,rfl,rfl⟩
  ·rcases eg g with ⟨j,u,rfl,rfl⟩|⟨y,u,rfl,rfl⟩;·rw[Yc]at h;exact wpAny_eqBool_int h
   ·rw[Yd]at h;exact SeqAt.EqAt.int_str i t y u _ _ _ _ h
  ·rcases eg g with ⟨j,u,rfl,rfl⟩|⟨y,u,rfl,rfl⟩;·rw[Yf]at h;exact SeqAt.EqAt.str_int x t j u _ _ _ _ h
   ·rw[Yg]at h;exact wpAny_eqBool_str h
 «strs»:=λk x t v h=>by
  rcases eg h with ⟨i,u,rfl,e⟩|⟨y,u,rfl,e⟩;·exact nomatch e
  ·injection e with d _;subst d;cases v<;>rfl
def sH(prog:cf)(w:b7)(i:Int)(t:Tok):(fB prog w).is (.inl i) (.int i t)=true:=Io i t
def sI(prog:cf)(w:b7)(x:Str)(t:Tok):(fB prog w).is (.inr x) (.str x t)=true:=Ip x t
inductive V where|non|bl(b:Bool)|int(i:Int)|str(x:Str)|JE(b:Array UInt8)|QF(b:UInt64)|ref(a:Addr)|ty(n:String)deriving DecidableEq
def RelV:V->Value->Prop|.non,u=>u=ab1|.bl b,u=>u=ad0 b|.int i,u=>∃t,u=ag3 i t|.str x,u=>∃t,u=ah2 x t|.JE b,u=>∃t,u=Value.bytes b t|.QF b,u=>∃t,u=Value.float b t|.ref a,u=>u=ab0 a|.ty n,u=>u=af3 n
abbrev Vals:List V->List Value->Prop:=Paired RelV
theorem Vals.length(r:Vals xs us):xs.length=us.length:=Paired.length r
theorem Vals.get:∀{xs:List V}{us:List Value}{i:Nat}{x:V},Vals xs us->xs[i]?=O x->∃u,us[i]?=O u/\RelV x u|_,_,_,_,.nil,e=>by simp at e|_,_,0,_,.cons r _,e=>by simp at e;subst e;exact⟨_,rfl,r⟩|_,_,i+1,x,.cons _ t,e=>by obtain⟨u,d,g⟩:=Vals.get (i:=i) (x:=x) t (by simpa using e);exact⟨u,by simpa using d,g⟩
theorem Vals.set{x:V}{u:Value}(r:RelV x u):∀{xs:List V}{us:List Value}(i:Nat),Vals xs us->Vals (xs.set i x) (us.set i u)|_,_,_,.nil=>.nil|_,_,0,.cons _ t=>.cons r t|_,_,i+1,.cons q t=>.cons q (Vals.set r i t)
def Vals.append:∀{xs ys:List V}{us ws:List Value},Vals xs us->Vals ys ws->Vals (xs++ys) (us++ws):=by intro xs ys us ws a b;induction a with|nil=>exact b|cons r t I=>exact .cons r I
theorem Vals.take:∀{xs:List V}{us:List Value}(n:Nat),Vals xs us->Vals (xs.take n) (us.take n)|_,_,0,_=>.nil|_,_,_+1,.nil=>.nil|_,_,n+1,.cons r t=>.cons r (Vals.take n t)
theorem Vals.drop:∀{xs:List V}{us:List Value}(n:Nat),Vals xs us->Vals (xs.drop n) (us.drop n)|_,_,0,r=>r|_,_,_+1,.nil=>.nil|_,_,n+1,.cons _ t=>Vals.drop n t
def oq:Option V->Option Value->Prop|some v,O u=>RelV v u|none,af=>True|_,_=>False
def KV{κ:Type}:List (κ×V)->List (κ×Value)->Prop:=Paired λ(p:κ×V)(q:κ×Value)=>p.1=q.1/\RelV p.2 q.2
noncomputable def kV:b8->V|.inl i=>.int i|.inr x=>.str x
inductive HO where|lst(xs:List V)|tup(xs:List V)|dK(bK:List (b8×V))|dT(bK:List (List b8×V))|set(S:Int->Bool)(n:Nat)|ins(C dx:Addr)(fs:List (Str×V))|own(x:Addr)|xd(fs:List (Str×V))|met(f x:Addr)|rng(lo hi:Int)|DE(o:Obj)(u:HO)|V6(ps:Array Value)|ext(φ:Heap->Prop)
abbrev Hp:=Addr->Option HO
noncomputable def cQ(H:Hp)(a:Addr)(o:HO):Hp:=λb=>if b=a then O o else H b
def bF:cQ H a o a=O o:=by unfold cQ;rw[bx rfl]
def bC(h:b≠a):cQ H a o b=H b:=by unfold cQ;rw[bE h]
def bS(h:H a=O o)(h':H b=af):a≠b:=by intro e;subst e;rw[h]at h';cases h'
section
variable(P:cf)(w:b7)
def eB(H:Hp)(h:Heap)(a:Addr):HO->Prop|.lst xs=>xs.length<=sizeLine/\∃(I:List Value)(n:Nat),Vals xs I/\h.get? a=O {cls:=.type "list",data:=.seq I.toArray n}|.tup xs=>xs.length<=sizeLine/\∃I:List Value,Vals xs I/\IsTup h a I.toArray|.dK B=>B.length<=sizeLine/\(a==gt)=a7/\∃vs,KV B vs/\h.DictOf (fB P w) a vs|.dT B=>B.length<=sizeLine/\(a==gt)=a7/\∃xs:List (List b8×Addr×Value),Paired (λ(p:List b8×V)(q:List b8×Addr×Value)=>p.1=q.1/\H q.2.1=O (.tup (p.1.map kV))/\RelV p.2 q.2.2) B xs/\∃o es l,h.get? a=O o/\o.ExactDict/\o.data=.dict es l/\es.toList=xs.map (entryOfKey (tupleKind (fB P w)))/\(xs.map (·.1)).Nodup|.set S n=>h.SetOf (intKind P w) a S n|.ins C dx fs=>H dx=O (.own a)/\fs.length<=1000/\dx≠a/\h.get? a=O (instObj C dx)/\∃mA,h.Ns1 dx mA/\(∀f,oq (fs.lookup f) (mA f))/\ai0 mA (fs.map (·.1))|.own _=>∃o,h.get? a=O o|.xd fs=>∃mA,h.Ns1 a mA/\∀f,oq (fs.lookup f) (mA f)|.rng lo z=>∃t u v,h.get? a=O {cls:=.type "range",data:=.fields #[.int lo t,.int z u,.int 1 v]}|.DE o u=>h.get? a=O o/\eB H h a u|.V6 ps=>h.get? a=O {cls:=.none,data:=.fields ps}|.met f x=>h.get? a=O (methodObj (.ref f) (.ref x))|.ext φ=>φ h/\(∃o,h.get? a=O o)/\∀d g:Heap,φ d->(∀o,d.get? a=O o->g.get? a=O o)->φ g
def kZ(H:Hp)(h:Heap):Prop:=∀a o,H a=O o->eB P w H h a o
end
theorem eB.lt(x:eB P w H h a o):a<h.objs.size:=by cases o with|lst xs=>obtain⟨_,_,_,_,e⟩:=x;exact aN e|tup xs=>obtain⟨_,_,_,p⟩:=x;exact p.lt|dK B=>obtain⟨_,_,_,_,o,_,_,e,_⟩:=x;exact aN e|dT B=>obtain⟨_,_,_,_,o,_,_,e,_⟩:=x;exact aN e|set S n=>obtain⟨o,_,_,_,e,_⟩:=x;exact aN e|ins C dx fs=>obtain⟨_,_,_,e,_⟩:=x;exact aN e|own y=>obtain⟨_,e⟩:=x;exact aN e|xd fs=>obtain⟨_,⟨_,_,_,e,_⟩,_⟩:=x;exact aN e|rng lo d=>obtain⟨_,_,_,e⟩:=x;exact aN e|DE g u=>obtain⟨e,_⟩:=x;exact aN e|V6 ps=>exact aN (show h.get? a=O _ from x)|met f y=>exact aN (show h.get? a=O _ from x)|ext φ=>obtain⟨_,⟨_,e⟩,_⟩:=x;exact aN e
def Paired.agr{β:Type}{F G:α->β->Prop}:∀{l₁:List α}{l₂:List β},Paired F l₁ l₂->(∀a b,F a b->G a b)->Paired G l₁ l₂:=by intro l₁ l₂ h f;induction h with|nil=>exact .nil|cons r t I=>exact .cons (f _ _ r) I
def eB.zN(x:eB P w H h a o)(k:∀b u,b=a\/H b=O (.own a)->h.get? b=O u->h'.get? b=O u)(F:∀b,H b=O (.own a)->H' b=O (.own a))(G:∀b xs,H b=O (.tup xs)->H' b=O (.tup xs)):eB P w H' h' a o:=by induction o with|lst xs=>obtain⟨z,I,n,r,e⟩:=x;exact⟨z,I,n,r,k _ _ (.inl rfl) e⟩|tup xs=>obtain⟨z,I,r,g,e,c⟩:=x;exact⟨z,I,r,g,k _ _ (.inl rfl) e,c⟩|dK L=>obtain⟨z,y,vs,r,g,es,l,e,c⟩:=x;exact⟨z,y,vs,r,g,es,l,k _ _ (.inl rfl) e,c⟩|dT L=>obtain⟨z,y,xs,r,g,es,l,e,c⟩:=x;exact⟨z,y,xs,Paired.agr r λp q z=>⟨z.1,G _ _ z.2.1,z.2.2⟩,g,es,l,k _ _ (.inl rfl) e,c⟩|set S n=>obtain⟨g,es,l,t,e,c⟩:=x;exact⟨g,es,l,t,k _ _ (.inl rfl) e,c⟩|ins C dx fs=>obtain⟨d,z,R,e,mA,⟨B,es,l,T,c⟩,r⟩:=x;exact⟨F _ d,z,R,k _ _ (.inl rfl) e,mA,⟨B,es,l,k _ _ (.inr d) T,c⟩,r⟩|own y=>obtain⟨g,e⟩:=x;exact⟨g,k _ _ (.inl rfl) e⟩|xd fs=>obtain⟨mA,⟨B,es,l,e,c⟩,r⟩:=x;exact⟨mA,⟨B,es,l,k _ _ (.inl rfl) e,c⟩,r⟩|rng lo W=>obtain⟨t,u,v,e⟩:=x;exact⟨t,u,v,k _ _ (.inl rfl) e⟩|DE g u U=>obtain⟨e,q⟩:=x;exact⟨k _ _ (.inl rfl) e,U q⟩|V6 ps=>have e:h.get? a=O {cls:=.none,data:=.fields ps}:=x;show h'.get? a=O {cls:=.none,data:=.fields ps};exact k a _ (.inl rfl) e|met f y=>have e:h.get? a=O (methodObj (.ref f) (.ref y)):=x;show h'.get? a=O (methodObj (.ref f) (.ref y));exact k a _ (.inl rfl) e|ext φ=>obtain⟨p,⟨o,e⟩,st⟩:=x;exact⟨st _ _ p λo q=>k _ _ (.inl rfl) q,⟨o,k _ _ (.inl rfl) e⟩,st⟩
theorem kZ.lt(x:kZ P w H h)(e:H a=O o):a<h.objs.size:=(x a o e).lt
def kZ.fresh(x:kZ P w H h)(e:h.objs.size<=a):H a=none:=by cases q:H a with|none=>rfl|some u=>exact absurd (bt (x.lt q) e) (cS _)
def kZ.kept(x:kZ P w H h)(k:∀b u,h.get? b=O u->h'.get? b=O u):kZ P w H h':=λa o e=>(x a o e).zN (λb u _ q=>k b u q) (λ_ q=>q) λ_ _ q=>q
def kZ.laid(x:kZ P w H h)(k:∀b u,h.get? b=O u->h'.get? b=O u)(g:h.objs.size<=a)(new:eB P w (cQ H a o) h' a o):kZ P w (cQ H a o) h':=λb u e=>by
 have hn:=x.fresh g;by_cases d:b=a;·subst d;rw[bF]at e;cases e;exact new
 ·rw[bC d]at e;exact(x b u e).zN (λc v _ q=>k c v q) (λc q=>by rw[bC (bS q hn)];exact q) λc xs q=>by rw[bC (bS q hn)];exact q
def Rd(H:Hp)(a:Addr)(u:HO):Prop:=H a=O u\/∃o,H a=O (.DE o u)
def Rd.ok{P:cf}{w:b7}{H:Hp}{h:Heap}{a:Addr}{u:HO}(r:Rd H a u)(x:kZ P w H h):eB P w H h a u:=by
 rcases r with r|⟨o,r⟩;·exact x a u r
 ·obtain⟨_,q⟩:=x a _ r;exact q
def lx:Option HO->Prop|some (.lst _)=>True|some (.dK _)=>True|some (.dT _)=>True|some (.set _ _)=>True|some (.ins _ _ _)=>True|some (.ext _)=>True|_=>False
section
variable{x e:Addr}{o':HO}
def kZ.write(ok:kZ P w H h)(g:lx (H x))(I:e=x\/H e=O (.own x))(k:∀b u,b≠e->h.get? b=O u->h'.get? b=O u)(R:∃u,h'.get? e=O u)(new:eB P w (cQ H x o') h' x o'):kZ P w (cQ H x o') h':=λb u q=>by
 have d:∀c y,H c=O (.own y)->c≠x:=λc y r z=>by subst z;rw[r]at g;exact g
 have G:∀c xs,H c=O (.tup xs)->c≠x:=λc xs r z=>by subst z;rw[r]at g;exact g
 by_cases l:b=x;·subst l;rw[bF]at q;cases q;exact new
 ·rw[bC l]at q;by_cases B:b=e
  ·have L:H b=O (.own x):=by
    rcases I with z|z;·exact absurd (B.trans z) l
    ·rw[B];exact z
   rw[q]at L;cases L;obtain⟨v,S⟩:=R;exact⟨v,by rw[B];exact S⟩
  ·refine(ok b u q).zN (λc v F r=>k c v ?_ r) (λc r=>by rw[bC (d c b r)];exact r) λc xs r=>by rw[bC (G c xs r)];exact r
   rcases F with rfl|F;·exact B
   ·rintro rfl;rcases I with z|z;·exact d c b F z
    ·rw[F]at z;cases z;exact l rfl
end
structure Un(fs ex:List Addr)(H H':Hp)(h h':Heap):Prop where
 keep:∀b o,h.get? b=O o->H b=af->b∉fs->b∉ex->h'.get? b=O o
 slot:∀b o,h.get? b=O o->H b=af->b∈fs->b∉ex->∃sl,h'.get? b=O {o with slots:=sl}free:∀b o,h.get? b=O o->H b=af->b∉ex->H' b=af
 there:∀b o,h.get? b=O o->b∉ex->∃o',h'.get? b=O o'
 qK:∀b xs,H b=O (.tup xs)->H' b=O (.tup xs)pd:∀b o u,H b=O (.DE o u)->H' b=O (.DE o u)qI:∀b ps,H b=O (.V6 ps)->∃more,H' b=O (.V6 (ps++more))
section
variable{fs yP ex ex':List Addr}{H1 H2:Hp}{h1 h2:Heap}{x e:Addr}
def Un.any(u:Un fs ex H H1 h h1){d:Obj}(q:h.get? b=O d)(n:H b=af)(g:b∉ex):∃sl,h1.get? b=O {d with slots:=sl}:=by
 by_cases l:b∈fs;·exact u.slot b d q n l g
 ·exact⟨d.slots,u.keep b d q n l g⟩
def Un.kept(k:∀b u,h.get? b=O u->h'.get? b=O u):Un fs ex H H h h':=⟨λb d q _ _ _=>k b d q,λb d q _ _ _=>⟨d.slots,k b d q⟩,λ_ _ _ n _=>n,λb d q _=>⟨d,k b d q⟩,λ_ _ q=>q,λ_ _ _ q=>q,λ_ ps q=>⟨#[],by rw[q];simp⟩⟩
def Un.refl:Un fs ex H H h h:=Un.kept λ_ _ q=>q
def Un.laid(k:∀b u,h.get? b=O u->h'.get? b=O u)(d:h.objs.size<=a)(hn:H a=af):Un fs ex H (cQ H a o) h h' where
 keep:=λb u q _ _ _=>k b u q;slot:=λb u q _ _ _=>⟨u.slots,k b u q⟩;free:=λb u q n _=>by rw[bC (bu (bt (aN q) d))];exact n
 there:=λb u q _=>⟨u,k b u q⟩;qK:=λb xs q=>by rw[bC (bS q hn)];exact q
 pd:=λb u xs q=>by rw[bC (bS q hn)];exact q
 qI:=λb ps q=>⟨#[],by rw[bC (bS q hn),q];simp⟩
def Un.write(d:lx (H x))(G:e=x\/H e=O (.own x))(k:∀b u,b≠e->h.get? b=O u->h'.get? b=O u)(I:∃u,h'.get? e=O u):Un fs ex H (cQ H x o) h h':=by
 have l:∀b,H b=af->b≠x:=λb n z=>by subst z;rw[n]at d;exact d
 have B:∀b,H b=af->b≠e:=λb n z=>by
  subst z;rcases G with r|r;·exact l b n r
  ·rw[n]at r;cases r
 have g:∀b u,H b=O u->¬lx (O u)->b≠x:=λb u q L z=>by subst z;rw[q]at d;exact L d
 refine⟨λb u q n _ _=>k b u (B b n) q,λb u q n _ _=>⟨u.slots,k b u (B b n) q⟩,λb u q n _=>by rw[bC (l b n)];exact n,λb u q _=>?_,λb xs q=>by rw[bC (g b _ q λz=>z)];exact q,λb u xs q=>by rw[bC (g b _ q λz=>z)];exact q,λb ps q=>⟨#[],by rw[bC (g b _ q λz=>z),q];simp⟩⟩;by_cases F:b=e;·subst F;exact I
 ·exact⟨u,k b u F q⟩
end
noncomputable def l7(h:Heap)(H:Hp):List Addr:=(ab6 h.objs.size).filter λa=>(H a).isSome
def yX(h:Heap)(H:Hp):Heap:=PySem.W.hideAll h (l7 h H)
def Ie(h:Heap)(H:Hp):(yX h H).objs.size=h.objs.size:=PySem.W.hideAll_size _ _
def K7{o:Obj}(e:h.get? b=O o)(n:H b=af):(yX h H).get? b=O o:=PySem.W.hideAll_get _ e λd=>by have q:(H b).isSome=true:=(gq.mp d).2;rw[n]at q;simp at q
def RZ{o:Obj}(e:(yX h H).get? b=O o):h.get? b=O o/\H b=none:=by have d:h.get? b=O o:=PySem.W.of_hideAll (l7 h H) e;refine⟨d,?_⟩;cases q:H b with|none=>rfl|some x=>have g:b∈l7 h H:=gq.mpr ⟨jU.mpr (aN d),by simp[q]⟩;have z:(yX h H).get? b=none:=PySem.W.hideAll_none (l7 h H) g;rw[z]at e;cases e
structure Mod(K:Frag)(mg:b')(base:Heap):Prop where
 Pb:K.In base
 glob:base.Ns b6 mg
 blt:∃mb,base.Ns builtinsNs mb/\∀x:Str,x≠"__name__"->mb x=c7 x
 nolimit:base.NoLimit
set_option genInjectivity false in
structure Cx where
 prog:cf
 w:b7
 K:Frag
 mg:b'
 base:Heap
 A:cr
 N:List Str
 s₀:bv
 H₀:Hp
 env:Env
 outer:List Env
 stack:List Env
 ex:List Addr
 fn:Str->Bool
 calm:Bool
 pn:ce
 xe:dC
noncomputable def oF(l:List Env):List Addr:=l.filterMap (·.frame)
abbrev Cx.fs(X:Cx):List Addr:=oF X.outer
def v_(S:Scope)(x:Str):Prop:=S.names.lookup x=O .local\/S.names.lookup x=O .cell\/S.names.lookup x=O .free
def Loc(S:Scope)(x:Str):Prop:=S.names.lookup x=O .local\/S.names.lookup x=O .cell
def aeI(env:Env)(h:Heap)(m:b')(x:Str)(u:Value):Prop:=env.kindOf x=O .local/\m x=O u\/(env.kindOf x=O .cell\/env.kindOf x=O .free)/\∃c,env.cells.lookup x=O c/\h.IsCell c (O u)
structure Cx.Ok(X:Cx):Prop where
 mod:Mod X.K X.mg X.base
 kind:X.env.scope.kind=.function
 glob:X.env.globals=b6
 blt:X.env.builtins=builtinsNs
 above:X.s₀.heap.objs.size<=X.env.locals
 inj:∀x y c,X.env.cells.lookup x=O c->X.env.cells.lookup y=O c->x=y
 has:∀x,X.env.kindOf x=O .cell\/X.env.kindOf x=O .free->∃c,X.env.cells.lookup x=O c
 O4:∀x c,X.fn x=J->X.env.cells.lookup x=O c->X.s₀.heap.objs.size<=c
 hd:X.calm=J->X.A.handled=af
 frames:X.A.frames=O X.stack
 TF:X.stack=X.outer\/(X.stack=X.env::X.outer/\X.env.frame=O X.env.locals)KU:∀b∈X.ex,b≠X.env.locals/\∀x c,X.env.cells.lookup x=O c->c≠b
 bs:∀b o,X.base.get? b=O o->X.s₀.heap.get? b=O o/\X.H₀ b=af
 Cd:X.base.objs.size<=X.s₀.heap.objs.size
 vj:∀b o,X.base.get? b=O o->b∉X.ex
 uU:∀b∈X.ex,b∉X.fs
 kq:X.s₀.heap.FunFrames X.base X.outer
 HV:∀b∈X.fs,X.H₀ b=af
structure Inv(X:Cx)(am:ce)(σ:List (Option V))(H:Hp)(s:bv):Prop where
 ok:X.Ok
 os:s.os=X.s₀.os
 bare:AllBare s.gens
 base:Un X.fs X.ex X.H₀ H X.s₀.heap s.heap
 loc:∃m,s.heap.Ns X.env.locals m/\∀(i:Nat)(x:Str)(v:V),X.N[i]?=O x->σ[i]?=O (O v)->v_ X.env.scope x->∃u,RelV v u/\aeI X.env s.heap m x u
 cell:∀x c,X.env.cells.lookup x=O c->∃v,s.heap.IsCell c v
 free:H X.env.locals=af
 gT:∀x c,X.env.cells.lookup x=O c->H c=af
 pin:∀p∈X.pn++am,s.heap.get? p.1=O p.2/\H p.1=af/\p.1≠X.env.locals/\p.1∉X.fs/\∀v,p.2.data≠.cell v
 di:kZ X.prog X.w H s.heap
 len:σ.length=X.N.length
section
variable{σ:List (Option V)}
def Cx.Ok.agB(ok:X.Ok){o:Obj}(e:X.base.get? b=O o):b∉X.fs:=λd=>by have:=(ok.kq.mem d).1;rw[e]at this;cases this
theorem Inv.bs(I:Inv X am σ H s):∀b o,X.base.get? b=O o->s.heap.get? b=O o/\H b=none:=λb o e=>⟨I.base.keep b o (I.ok.bs b o e).1 (I.ok.bs b o e).2 (I.ok.agB e) (I.ok.vj b o e),I.base.free b o (I.ok.bs b o e).1 (I.ok.bs b o e).2 (I.ok.vj b o e)⟩
def Inv.bk(I:Inv X am σ H s):∀b o,X.base.get? b=O o->s.heap.get? b=O o:=λb o e=>(I.bs b o e).1
theorem Inv.mod(I:Inv X am σ H s):Mod X.K X.mg X.base:=I.ok.mod
def Inv.l9(I:Inv X am σ H s):X.K.In s.heap:=I.ok.mod.Pb.keeps I.bk
theorem Inv.lt(I:Inv X am σ H s):X.env.locals<s.heap.objs.size:=let ⟨_,hn,_⟩:=I.loc;hn.lt
def Inv.sz(I:Inv X am σ H s):X.s₀.heap.objs.size<=s.heap.objs.size:=aH I.ok.above (Cv I.lt)
def Inv.agC(I:Inv X am σ H s)(h:s.heap.objs.size<=a):a∉X.fs:=λd=>by obtain⟨_,o,g,_⟩:=I.ok.kq.mem d;exact absurd (bt (aN g) (aH I.sz h)) (cS _)
def Inv.P7(I:Inv X am σ H s):∀x c,X.env.cells.lookup x=O c->c≠X.env.locals:=λx c e z=>by obtain⟨v,o,d,g⟩:=I.cell x c e;obtain⟨m,⟨B,es,F,l,q,_⟩,_⟩:=I.loc;rw[z,l]at d;cases d;rw[q]at g;cases g
theorem Inv.kq(I:Inv X am σ H s):s.heap.FunFrames X.base X.outer:=by
 have all:∀(l:List Env),(∀b∈oF l,b∈X.fs)->X.s₀.heap.FunFrames X.base l->s.heap.FunFrames X.base l:=by intro l;induction l with|nil=>intro _ _;trivial|cons F r G=>intro B R;obtain⟨S,⟨L,o,d,hn,T,U⟩,W⟩:=R;have g:L∈X.fs:=B L (by unfold oF;rw[eo,d];exact aw);obtain⟨sl,e⟩:=I.base.slot L o T (I.ok.HV L g) g λz=>I.ok.uU L z g;exact⟨S,⟨L,_,d,hn,e,U⟩,G (λb q=>B b (by unfold oF;rw[eo,d];exact aq _ q)) W⟩
 exact all X.outer (λ_ q=>q) I.ok.kq
theorem Inv.stack(I:Inv X am σ H s):s.heap.FunFrames X.base X.stack:=by
 rcases I.ok.TF with e|⟨e,d⟩;·rw[e];exact I.kq
 ·rw[e];obtain⟨m,hn,_⟩:=I.loc;refine .cons (by rw[I.ok.kind];decide) d hn ?_ I.kq;exact Heap.get?_none_of_le (aH I.ok.Cd I.ok.above)
def Inv.zO(I:Inv X am σ H s):∀b∈oF X.stack,b∈X.env.locals::X.fs:=λb d=>by
 rcases I.ok.TF with e|⟨e,g⟩;·rw[e]at d;exact aq _ d
 ·rw[e]at d;unfold oF at d;rw[eo,g]at d;exact d
def Inv.qF(I:Inv X am σ H s):∀b∈oF X.stack,H b=none:=λb d=>by
 rcases aJ.mp (I.zO b d)with e|d;·rw[e];exact I.free
 ·obtain⟨_,o,g,_⟩:=I.ok.kq.mem d;exact I.base.free b o g (I.ok.HV b d) λz=>I.ok.uU b z d
def Inv.step(I:Inv X am σ H s)(T:∀b∈ch,(b∈X.ex\/X.s₀.heap.objs.size<=b)/\b≠X.env.locals/\(∀x c,X.env.cells.lookup x=O c->c≠b)/\∀p∈X.pn++am,p.1≠b)(keep:∀b o,b≠X.env.locals->b∉X.fs->b∉ch->s.heap.get? b=O o->H b=af->h'.get? b=O o)(slot:∀b o,b≠X.env.locals->b∈X.fs->b∉ch->s.heap.get? b=O o->H b=af->∃sl,h'.get? b=O {o with slots:=sl})(F:∀b o,b∉ch->s.heap.get? b=O o->H b=af->H' b=af)(there:∀b o,b∉ch->s.heap.get? b=O o->∃o',h'.get? b=O o')(qK:∀b xs,H b=O (.tup xs)->H' b=O (.tup xs))(pd:∀b o u,H b=O (.DE o u)->H' b=O (.DE o u))(qI:∀b ps,H b=O (.V6 ps)->∃U,H' b=O (.V6 (ps++U)))(ns:∀m,s.heap.Ns X.env.locals m->h'.Ns X.env.locals m)(di:kZ X.prog X.w H' h')(hg:AllBare g'):Inv X am σ H' {s with heap:=h',gens:=g',drawn:=d',toks:=t'}:=by
 have W:∀b o,X.s₀.heap.get? b=O o->b≠X.env.locals:=λb o e=>bu (bt (aN e) I.ok.above);have Z:∀b o,X.s₀.heap.get? b=O o->b∉X.ex->b∉ch:=λb o e g R=>by
  rcases(T b R).1 with z|z;·exact g z
  ·exact absurd (bt (aN e) z) (cS _)
 have B:∀x c,X.env.cells.lookup x=O c->∀v,s.heap.IsCell c v->h'.IsCell c v:=λx c e v ⟨o,S,hd⟩=>by
  have G:c∉ch:=λz=>(T c z).2.2.1 x c e rfl;by_cases hc:c∈X.fs;·obtain⟨sl,q⟩:=slot c o (I.P7 x c e) hc G S (I.gT x c e);exact⟨_,q,hd⟩
  ·exact⟨o,keep c o (I.P7 x c e) hc G S (I.gT x c e),hd⟩
 refine⟨I.ok,I.os,hg,⟨λb o e n R g=>?_,λb o e n R g=>?_,λb o e n g=>?_,λb o e g=>?_,λb xs e=>qK b xs (I.base.qK b xs e),λb o xs e=>pd b o xs (I.base.pd b o xs e),λb ps e=>?_⟩,?_,λx c e=>?_,?_,λx c e=>?_,λp hp=>?_,di,I.len⟩;·exact keep b o (W b o e) R (Z b o e g) (I.base.keep b o e n R g) (I.base.free b o e n g)
 ·obtain⟨sl,L⟩:=I.base.slot b o e n R g;obtain⟨sl',Y⟩:=slot b _ (W b o e) R (Z b o e g) L (I.base.free b o e n g);exact⟨sl',Y⟩
 ·obtain⟨o',L⟩:=I.base.there b o e g;exact F b o' (Z b o e g) L (I.base.free b o e n g)
 ·obtain⟨o',L⟩:=I.base.there b o e g;exact there b o' (Z b o e g) L
 ·obtain⟨m1,L⟩:=I.base.qI b ps e;obtain⟨m2,Y⟩:=qI b _ L;exact⟨m1++m2,by rw[Y,Array.append_assoc]⟩
 ·obtain⟨m,hn,hl⟩:=I.loc;refine⟨m,ns m hn,λi x v L Y e3=>?_⟩;obtain⟨u,r,l⟩:=hl i x v L Y e3;refine⟨u,r,?_⟩;rcases l with l|⟨k,c,e,z⟩;·exact .inl l
  ·exact .inr ⟨k,c,e,B x c e _ z⟩
 ·obtain⟨v,z⟩:=I.cell x c e;exact⟨v,B x c e v z⟩
 ·obtain⟨m,⟨o,_,_,S,_⟩,_⟩:=I.loc;exact F _ o (λz=>(T _ z).2.1 rfl) S I.free
 ·obtain⟨v,o,S,hd⟩:=I.cell x c e;exact F c o (λz=>(T c z).2.2.1 x c e rfl) S (I.gT x c e)
 ·obtain⟨e,n,ne,nf,d⟩:=I.pin p hp;have G:p.1∉ch:=λz=>(T p.1 z).2.2.2 p hp rfl;exact⟨keep p.1 p.2 ne nf G e n,F p.1 p.2 G e n,ne,nf,d⟩
def Inv.un(I:Inv X am σ H s)(u:Un X.fs [] H H' s.heap h')(B:kZ X.prog X.w H' h'):Inv X am σ H' {s with heap:=h',toks:=t'}:=by obtain⟨m,⟨o,es,G,l,r⟩,_⟩:=id I.loc;obtain⟨sl,L⟩:=u.any l I.free (by simp);exact I.step (g':=s.gens) (d':=s.drawn) (ch:=[]) (λ_ z=>nomatch z) (λb o _ d _ e n=>u.keep b o e n d (by simp)) (λb o _ d _ e n=>u.slot b o e n d (by simp)) (λb o _ e n=>u.free b o e n (by simp)) (λb o _ e=>u.there b o e (by simp)) u.qK u.pd u.qI (λR F=>by obtain⟨S,U,g,q,r'⟩:=F;rw[l]at q;cases q;exact⟨_,U,g,L,r'⟩) B I.bare
def Inv.call(I:Inv X am σ H s)(u:Un (oF X.stack) ch H H' s.heap h')(F:kZ X.prog X.w H' h')(G:AllBare g')(l:∀b∈ch,(b∈X.ex\/X.s₀.heap.objs.size<=b)/\b≠X.env.locals/\(∀x c,X.env.cells.lookup x=O c->c≠b)/\∀p∈X.pn++am,p.1≠b):Inv X am σ H' {s with heap:=h',gens:=g',drawn:=d',toks:=t'}:=by obtain⟨m,⟨o,es,T,q,r⟩,_⟩:=id I.loc;obtain⟨sl,L⟩:=u.any q I.free λz=>(l _ z).2.1 rfl;exact I.step (ch:=ch) l (λb o L R d e n=>u.keep b o e n (λz=>(aJ.mp (I.zO b z)).elim L R) d) (λb o _ _ d e n=>u.any e n d) (λb o d e n=>u.free b o e n d) (λb o d e=>u.there b o e d) u.qK u.pd u.qI (λW S=>by obtain⟨Y,U,g,B,r'⟩:=S;rw[q]at B;cases B;exact⟨_,U,g,L,r'⟩) F G
def Inv.turned(I:Inv X am σ H s)(k:∀b o,b≠it->s.heap.get? b=O o->h'.get? b=O o)(hn:H it=af)(L:it≠X.env.locals)(l:it∈X.ex\/X.s₀.heap.objs.size<=it)(B:∀x c,X.env.cells.lookup x=O c->c≠it)(F:∀p∈X.pn++am,p.1≠it):Inv X am σ H {s with heap:=h',toks:=t'}:=by
 have g:∀b u,H b=O u->b≠it:=λb u e z=>by rw[z,hn]at e;cases e
 refine I.step (g':=s.gens) (d':=s.drawn) (ch:=[it]) (λb G=>?_) (λb o _ _ d e _=>k b o (λz=>d (by simp[z])) e) (λb o _ _ d e _=>⟨o.slots,k b o (λz=>d (by simp[z])) e⟩) (λ_ _ _ _ n=>n) (λb o d e=>⟨o,k b o (λz=>d (by simp[z])) e⟩) (λ_ _ e=>e) (λ_ _ _ e=>e) (λb ps e=>⟨#[],by rw[e];simp⟩) (λm R=>?_) (λb u e=>?_) I.bare
 ·have e:b=it:=by simpa using G
  subst e;exact⟨l,L,B,F⟩
 ·obtain⟨o,es,S,T,r⟩:=R;exact⟨o,es,S,k _ o (bY L) T,r⟩
 ·refine(I.di b u e).zN (λc v d q=>k c v ?_ q) (λ_ q=>q) λ_ _ q=>q;rcases d with z|z;·rw[z];exact g b u e
  ·exact g c _ z
def Inv.tok(I:Inv X am σ H s)(t:Nat):Inv X am σ H {s with toks:=t}:=I.un (h':=s.heap) (t':=t) Un.refl I.di
theorem Inv.kept(I:Inv X am σ H s)(k:∀b u,s.heap.get? b=O u->h'.get? b=O u):Inv X am σ H {s with heap:=h',toks:=t'}:=I.un (Un.kept k) (I.di.kept k)
theorem Inv.laid(I:Inv X am σ H s)(k:∀b u,s.heap.get? b=O u->h'.get? b=O u)(d:s.heap.objs.size<=a)(new:eB X.prog X.w (cQ H a o) h' a o):Inv X am σ (cQ H a o) {s with heap:=h',toks:=t'}:=I.un (Un.laid k d (I.di.fresh d)) (I.di.laid k d new)
theorem Inv.write{x e:Addr}(I:Inv X am σ H s)(d:lx (H x))(g:e=x\/H e=O (.own x))(k:∀b u,b≠e->s.heap.get? b=O u->h'.get? b=O u)(l:∃u,h'.get? e=O u)(new:eB X.prog X.w (cQ H x o) h' x o):Inv X am σ (cQ H x o) {s with heap:=h',toks:=t'}:=I.un (Un.write d g k l) (I.di.write d g k l new)
def Inv.zv{B:ce}(I:Inv X am σ H s)(h:∀p∈B,s.heap.get? p.1=O p.2/\H p.1=af/\p.1≠X.env.locals/\p.1∉X.fs/\∀v,p.2.data≠.cell v):Inv X B σ H s:=⟨I.ok,I.os,I.bare,I.base,I.loc,I.cell,I.free,I.gT,λp d=>(bf.mp d).elim (λz=>I.pin p (cP _ z)) (h p),I.di,I.len⟩
def vi(d:N.Nodup)(a:N[i]?=O x)(b:N[j]?=O x):i=j:=by obtain⟨q,g⟩:=ai.mp a;obtain⟨z,l⟩:=ai.mp b;exact(kC d).mp (g.trans l.symm)
def Jn(I:Inv X am σ H s)(hN:X.N.Nodup)(W:X.N[i]?=O x)(F:Loc X.env.scope x)(r:RelV v u)(h:∀s',Inv X am (σ.set i (O v)) H s'->(∃a,ad2 a s.heap s'.heap/\(a=X.env.locals\/X.env.cells.lookup x=O a))->Q () s')(hf:autoParam (X.fn x=J\/X.env.scope.names.lookup x=O .local) ib):bb M A (storeName X.env x u) Q E s:=by
 obtain⟨m,hn,hl⟩:=id I.loc;have afE:(X.env.scope.kind==.class||X.env.scope.kind==.module&&X.env.locals !=X.env.globals)=false:=by rw[I.ok.kind];rfl
 have Y:i<σ.length:=by rw[I.len];exact(ai.mp W).1
 have P7:=I.P7;have T:∀{a:Addr}{h':Heap},(∃o,s.heap.get? a=O o/\H a=af)->ad2 a s.heap h'->kZ X.prog X.w H h':=λ{a h'}ha g b ob e=>by
  obtain⟨_,_,j9⟩:=ha;refine(I.di b ob e).zN (λc w' B q=>(g.2 c ?_).trans q) (λ_ q=>q) λ_ _ q=>q;rintro rfl;rcases B with rfl|B;·rw[j9]at e;cases e
  ·rw[j9]at B;cases B
 rcases F with L|L
 ·refine wpAny_storeName_local L hn (λh' hn' g=>?_) afE;obtain⟨oL,_,_,hoL,_⟩:=id hn;refine h _ ⟨I.ok,I.os,I.bare,⟨λb o e n R F=>?_,λb o e n R F=>?_,I.base.free,λb o e F=>?_,I.base.qK,I.base.pd,I.base.qI⟩,⟨_,hn',λj y v' l G e3=>?_⟩,λy c e=>?_,I.free,I.gT,λp hp=>?_,T ⟨oL,hoL,I.free⟩ g,by simpa using I.len⟩ ⟨_,g,.inl rfl⟩;·exact(g.2 b (bu (bt (aN e) I.ok.above))).trans (I.base.keep b o e n R F)
  ·obtain⟨sl,l⟩:=I.base.slot b o e n R F;exact⟨sl,(g.2 b (bu (bt (aN e) I.ok.above))).trans l⟩
  ·obtain⟨o',l⟩:=I.base.there b o e F;exact⟨o',(g.2 b (bu (bt (aN e) I.ok.above))).trans l⟩
  ·by_cases S:j=i;·subst S;rw[W]at l;cases l;rw[cB Y]at G;cases G;exact⟨u,r,.inl ⟨L,by simp⟩⟩
   ·rw[aG (bY S)]at G;obtain⟨u',r',q⟩:=hl j y v' l G e3;refine⟨u',r',?_⟩;rcases q with ⟨k,e⟩|⟨k,c,e,z⟩;·refine .inl ⟨k,?_⟩;have:y≠x:=λe=>S (vi hN l (e▸W));simp[this,e]
    ·exact .inr ⟨k,c,e,z.sameBut g (P7 y c e)⟩
  ·obtain⟨w',z⟩:=I.cell y c e;exact⟨w',z.sameBut g (P7 y c e)⟩
  ·obtain⟨e,n,ne,nf,d⟩:=I.pin p hp;exact⟨(g.2 p.1 ne).trans e,n,ne,nf,d⟩
 ·have U:X.fn x=true:=by
   rcases hf with z|z;·exact z
   ·rw[z]at L;cases L
  obtain⟨c,B⟩:=I.ok.has x (.inl L);obtain⟨w',z⟩:=I.cell x c B;refine wpAny_storeName_cell I.ok.kind L B z λh' HZ g=>?_;obtain⟨oc,XF,afS⟩:=id z;refine h {s with heap:=h'} ⟨I.ok,I.os,I.bare,⟨λb o e n R F=>?_,λb o e n R F=>?_,I.base.free,λb o e F=>?_,I.base.qK,I.base.pd,I.base.qI⟩,⟨m,hn.sameBut g (bY (P7 x c B)),λj y v' l G e3=>?_⟩,λy c' e=>?_,I.free,I.gT,λp hp=>?_,T ⟨oc,XF,I.gT x c B⟩ g,by simpa using I.len⟩ ⟨c,g,.inr B⟩;·exact(g.2 b (bu (bt (aN e) (I.ok.O4 x c U B)))).trans (I.base.keep b o e n R F)
  ·obtain⟨sl,l⟩:=I.base.slot b o e n R F;exact⟨sl,(g.2 b (bu (bt (aN e) (I.ok.O4 x c U B)))).trans l⟩
  ·obtain⟨o',l⟩:=I.base.there b o e F;exact⟨o',(g.2 b (bu (bt (aN e) (I.ok.O4 x c U B)))).trans l⟩
  ·by_cases S:j=i;·subst S;rw[W]at l;cases l;rw[cB Y]at G;cases G;exact⟨u,r,.inr ⟨.inl L,c,B,HZ⟩⟩
   ·rw[aG (bY S)]at G;obtain⟨u',r',q⟩:=hl j y v' l G e3;refine⟨u',r',?_⟩;rcases q with q|⟨k,c',e,z'⟩;·exact .inl q
    ·refine .inr ⟨k,c',e,z'.sameBut g ?_⟩;rintro rfl;exact S (vi hN l (I.ok.inj _ _ _ e B▸W))
  ·by_cases Z:c'=c;·subst Z;exact⟨_,HZ⟩
   ·obtain⟨w2,z2⟩:=I.cell y c' e;exact⟨w2,z2.sameBut g Z⟩
  ·obtain⟨e,n,ne,nf,d⟩:=I.pin p hp;refine⟨(g.2 p.1 ?_).trans e,n,ne,nf,d⟩;intro q;rw[q,XF]at e;have q':oc=p.2:=cU e;exact d w' (by rw[<-q'];exact afS)
def qG(I:Inv X am σ H s)(d:X.N.Nodup)(g:X.N[i]?=O x)(l:Loc X.env.scope x)(r:RelV v u)(h:∀s',Inv X am (σ.set i (O v)) H s'->Q () s')(q:autoParam (X.fn x=J\/X.env.scope.names.lookup x=O .local) ib):bb M A (storeName X.env x u) Q E s:=Jn I d g l r (λs' z _=>h s' z) q
def Inv.Fe(I:Inv X am σ H s)(d:s'.os=s.os)(u:Un (oF X.stack) ch H H' s.heap s'.heap)(g:kZ X.prog X.w H' s'.heap)(l:AllBare s'.gens)(q:∀b∈ch,(b∈X.ex\/X.s₀.heap.objs.size<=b)/\b≠X.env.locals/\(∀x c,X.env.cells.lookup x=O c->c≠b)/\∀p∈X.pn++am,p.1≠b):Inv X am σ H' s':=by obtain⟨h',g',d',t',z⟩:=s';have e:z=s.os:=d;subst e;exact I.call (g':=g') (t':=t') (d':=d') u g l q
end
abbrev XK:=Value->Option Addr->Hp->Prop
abbrev tSt:=List (Option V)
abbrev VK:=V->Hp->Prop
abbrev TE:=tSt->Hp->VK->Prop
abbrev TT:=tSt->Hp->(Bool->Hp->Prop)->Prop
abbrev TA:=tSt->Hp->(List V->Hp->Prop)->Prop
set_option genInjectivity false in
structure Ends where
 nx:tSt->Hp->Prop
 rt:VK
 bk:tSt->Hp->Prop:=λ_ _=>False
 ct:tSt->Hp->Prop:=λ_ _=>False
abbrev TS:=Ends->tSt->Hp->Prop
def EP(X:Cx)(am:ce)(σ:tSt)(Q:VK)(u:Value)(s':bv):Prop:=∃v H',Inv X am σ H' s'/\RelV v u/\Q v H'
def TP(X:Cx)(am:ce)(σ:tSt)(Q:Bool->Hp->Prop)(b:Bool)(s':bv):Prop:=∃H',Inv X am σ H' s'/\Q b H'
def AP(X:Cx)(am:ce)(σ:tSt)(Q:List V->Hp->Prop)(us:List Value)(s':bv):Prop:=∃vs H',Inv X am σ H' s'/\Vals vs us/\Q vs H'
def SP(X:Cx)(am:ce)(D:Ends)(f:Flow)(s':bv):Prop:=match f with|.next=>∃d H',Inv X am d H' s'/\D.nx d H'|.brk=>∃d H',Inv X am d H' s'/\D.bk d H'|.cont=>∃d H',Inv X am d H' s'/\D.ct d H'|.ret u=>∃v d H',Inv X am d H' s'/\RelV v u/\D.rt v H'
def PE(X:Cx)(e:Expr)(t:TE):Prop:=∀(am:ce)(s:bv)(σ:tSt)(H:Hp)(Q:VK),Inv X am σ H s->t σ H Q->bb (bn X.prog X.w) X.A (eval e X.env) (EP X am σ Q) X.xe s
def PT(X:Cx)(e:Expr)(t:TT):Prop:=∀(am:ce)(s:bv)(σ:tSt)(H:Hp)(Q:Bool->Hp->Prop),Inv X am σ H s->t σ H Q->bb (bn X.prog X.w) X.A (isTrue e X.env (eval e X.env)) (TP X am σ Q) X.xe s
def PW(X:Cx)(e:Expr)(t:TT):Prop:=∀(oZ:Sem Value)(am:ce)(s:bv)(σ:tSt)(H:Hp)(Q:Bool->Hp->Prop),Inv X am σ H s->t σ H Q->bb (bn X.prog X.w) X.A (isTrue e X.env oZ) (TP X am σ Q) X.xe s
def PW.pt{t:TT}(h:PW X e t):PT X e t:=h _
def PA(X:Cx)(es:List Expr)(t:TA):Prop:=∀(pos:Pos)(am:ce)(s:bv)(σ:tSt)(H:Hp)(Q:List V->Hp->Prop),Inv X am σ H s->t σ H Q->bb (bn X.prog X.w) X.A (spliced (db pos (ci es X.env))) (AP X am σ Q) X.xe s
def PS(X:Cx)(st:Stmt)(t:TS):Prop:=∀(am:ce)(s:bv)(σ:tSt)(H:Hp)(D:Ends),Inv X am σ H s->t D σ H->bb (bn X.prog X.w) X.A (exec st X.env) (SP X am D) X.xe s
def kH(X:Cx)(st:List Stmt)(t:TS):Prop:=∀(am:ce)(s:bv)(σ:tSt)(H:Hp)(D:Ends),Inv X am σ H s->t D σ H->bb (bn X.prog X.w) X.A (execs st X.env) (SP X am D) X.xe s
def dh{t:Sem α}{Q q:α->bv->Prop}(h:bb M A t Q E s)(d:∀a s,Q a s->q a s):bb M A t q E s:=dB h d λ_ _ x=>x
section
def Jr(i:Nat):TE:=λσ H Q=>∃v,σ[i]?=O (O v)/\Q v H
def tC(v:V):TE:=λ_ H Q=>Q v H
def MW(z:X.N[i]?=O x)(B:v_ X.env.scope x)(g:autoParam ((x==("__debug__":Str))=a7) P3)(Y:autoParam ((x==("__classdict__":Str))=a7) P3):PE X (.Name x pos) (Jr i):=by
 intro am s σ H Q I h;obtain⟨v,e,h⟩:=h;obtain⟨m,hn,F⟩:=I.loc;obtain⟨u,r,l⟩:=F i x v z e B;have fin:EP X am σ Q u s:=⟨v,H,I,r,h⟩;rcases l with ⟨d,G⟩|⟨d,c,q,U⟩;·exact wpAny_Name (wpAny_loadName_local I.ok.kind d hn G fin) g
 ·rcases d with d|d;·exact wpAny_Name (wpAny_loadName_cell I.ok.kind d q U fin) g
  ·exact wpAny_Name (wpAny_loadName_free I.ok.kind d q U fin Y) g
def vp{i j pos}:PE X (.Constant (.int i) j pos) (tC (.int i)):=λ_ _ _ H _ I h=>wpAny_Constant_int ⟨.int i,H,I.tok _,⟨_,rfl⟩,h⟩
def Vu{b j pos}:PE X (.Constant (.bool b) j pos) (tC (.bl b)):=λ_ _ _ H _ I h=>Constant_bool ⟨.bl b,H,I,rfl,h⟩
def MU{j pos}:PE X (.Constant .none j pos) (tC .non):=λ_ _ _ H _ I h=>Wb ⟨.non,H,I,rfl,h⟩
def vq{x j pos}:PE X (.Constant (.str x) j pos) (tC (.str x)):=λ_ _ _ H _ I h=>Ah ⟨.str x,H,I.tok _,⟨_,rfl⟩,h⟩
def Gl(X:Cx)(x:Str):Prop:=X.env.kindOf x=O .globalImplicit
def kg{Q:dC}(I:Inv X am σ H s)(g:Gl X x)(d:X.mg x=O u)(h:Q u s)(l:autoParam ((x==("__debug__":Str))=a7) P3):bb (bn X.prog X.w) X.A (eval (.Name x pos) X.env) Q E s:=Pj I.ok.kind g (Calls.loadGlobal_global (by rw[I.ok.glob];exact I.mod.glob.keeps I.bk) d h) l
def vb{Q:dC}(I:Inv X am σ H s)(g:Gl X x)(d:X.mg x=af)(l:c7 x=O u)(h:Q u s)(hn:autoParam (x≠"__name__") P3)(q:autoParam ((x==("__debug__":Str))=a7) P3):bb (bn X.prog X.w) X.A (eval (.Name x pos) X.env) Q E s:=by obtain⟨F,z,B⟩:=I.mod.blt;exact Pj I.ok.kind g (Calls.loadGlobal_builtin (by rw[I.ok.glob];exact I.mod.glob.keeps I.bk) d (by rw[I.ok.blt];exact z.keeps I.bk) ((B x hn).trans l) h) q
def e9(g:Gl X x)(d:X.mg x=O u)(r:RelV v u)(l:autoParam ((x==("__debug__":Str))=a7) P3):PE X (.Name x pos) (tC v):=λ_ _ _ H _ I h=>kg I g d ⟨v,H,I,r,h⟩ l
def Sd(g:Gl X x)(d:X.mg x=af)(l:c7 x=O u)(r:RelV v u)(hn:autoParam (x≠"__name__") P3)(q:autoParam ((x==("__debug__":Str))=a7) P3):PE X (.Name x pos) (tC v):=λ_ _ _ H _ I h=>vb I g d l ⟨v,H,I,r,h⟩ hn q
variable{a b:Expr}{tb:TE}
def PC(X:Cx)(op:CmpOp)(a b:Expr)(t:TE):Prop:=∀(am:ce)(s:bv)(σ:tSt)(H:Hp)(Q:VK),Inv X am σ H s->t σ H Q->bb (bn X.prog X.w) X.A (eval a X.env) (λv S=>bb (bn X.prog X.w) X.A (eval b X.env) (λu d=>bb (bn X.prog X.w) X.A (compareOp op v u) (EP X am σ Q) X.xe d) X.xe S) X.xe s
def ahg(ta:TE):TE:=λσ H Q=>ta σ H λx d=>Q (.bl (decide (x=.non))) d
def acK(ta:TE):TE:=λσ H Q=>ta σ H λx d=>Q (.bl !decide (x=.non)) d
def RelV.Bs{x:V}{v:Value}(r:RelV x v):(v==ab1)=decide (x=.non):=by cases x with|non=>cases r;rfl|bl _=>cases r;rfl|int _=>obtain⟨t,rfl⟩:=r;rfl|str _=>obtain⟨t,rfl⟩:=r;rfl|JE _=>obtain⟨t,rfl⟩:=r;rfl|QF _=>obtain⟨t,rfl⟩:=r;rfl|ref _=>cases r;rfl|ty _=>cases r;rfl
def Y0{j pos'}(d:PE X a ta):PC X .Is a (.Constant .none j pos') (ahg ta):=by intro am s σ H Q I h;refine dh (d am s σ H _ I h) λv s1 x=>?_;obtain⟨x,g,l,R,q⟩:=x;exact Wb (is_none_gen ⟨.bl _,g,l,by rw[R.Bs];rfl,q⟩)
def Sa{j pos'}(d:PE X a ta):PC X .IsNot a (.Constant .none j pos') (acK ta):=by intro am s σ H Q I h;refine dh (d am s σ H _ I h) λv s1 x=>?_;obtain⟨x,g,l,R,q⟩:=x;exact Wb (isnot_none_gen ⟨.bl _,g,l,by rw[R.Bs];rfl,q⟩)
def tB(t:TE):TT:=λσ H Q=>t σ H λx d=>∃c,x=.bl c/\Q c d
def Y3{t:TE}(h:PC X op a b t)(d:gb op b=false:=by first|exact l _ (by ext) (by ext)|rfl):PE X (.Compare a [op] [b] pos) t:=λam s σ H Q I g=>wpAny_Compare1 (h am s σ H Q I g) d
def Zs{t:TE}(h:PC X op a b t)(g:gb op b=false:=by first|exact L _ (by ext) (by ext)|rfl):PT X (.Compare a [op] [b] pos) (tB t):=by intro am s σ H Q I l;refine ur (dh (h am s σ H _ I l) λv s1 g=>dh g λu s2 z=>dh z λc S x=>?_) g;obtain⟨x,B,F,R,G⟩:=x;obtain⟨d,rfl,q⟩:=G;cases R;exact d8 ⟨B,F,q⟩
def Nq{t:TE}(h:PE X e t)(g:autoParam (∀oZ,isTrue e X.env oZ=do let v<-oZ;standAt e.pos;ft [v] (truthy v)) hY):PT X e (tB t):=by intro am s σ H Q I l;refine isTrue_plain (dh (h am s σ H _ I l) λv s1 x=>?_) (g _);obtain⟨x,z,B,R,F⟩:=x;obtain⟨d,rfl,q⟩:=F;cases R;exact d8 ⟨z,B,q⟩
variable{tA tB':TT}{b4:List Expr}
def Xt(t u:TT):TT:=λσ H Q=>t σ H λc d=>if c=J then u σ d Q else Q a7 d
def TW(t u:TT):TT:=λσ H Q=>t σ H λc d=>if c=J then Q J d else u σ d Q
def Tl(t:TT):TT:=λσ H Q=>t σ H λc d=>Q (!c) d
def SQ(d:PT X a tA):PW X (.BoolOp .And [a] pos) tA:=by intro W am s σ H Q I h;refine isTrue_and (dh (d am s σ H Q I h) λc s1 e=>?_);cases c with|true=>exact isTrue_and_nil e|false=>exact e
def Nu(d:PT X a tA):PW X (.BoolOp .Or [a] pos) tA:=by intro W am s σ H Q I h;refine isTrue_or (dh (d am s σ H Q I h) λc s1 e=>?_);cases c with|false=>exact isTrue_or_nil e|true=>exact e
def Zv(l:PT X a tA)(z:PW X (.BoolOp .And (b::b4) pos) tB'):PW X (.BoolOp .And (a::b::b4) pos) (Xt tA tB'):=by intro W am s σ H Q I h;refine isTrue_and (dh (l am s σ H _ I h) λc s1 d=>?_);obtain⟨d,g,q⟩:=d;cases c with|true=>exact z W am s1 σ d Q g q|false=>exact⟨d,g,q⟩
def VD(l:PT X a tA)(z:PW X (.BoolOp .Or (b::b4) pos) tB'):PW X (.BoolOp .Or (a::b::b4) pos) (TW tA tB'):=by intro W am s σ H Q I h;refine isTrue_or (dh (l am s σ H _ I h) λc s1 d=>?_);obtain⟨d,g,q⟩:=d;cases c with|true=>exact⟨d,g,q⟩|false=>exact z W am s1 σ d Q g q
def Np(d:PT X a tA):PT X (.UnaryOp .Not a pos) (Tl tA):=by intro am s σ H Q I h;exact isTrue_not (d am s σ H (λc g=>Q (!c) g) I h)
def V2(ta tb:TE):TE:=λσ H Q=>ta σ H λx d=>∃c,x=.bl c/\if c=J then tb σ d Q else Q (.bl a7) d
def K'(ta tb:TE):TE:=λσ H Q=>ta σ H λx d=>∃c,x=.bl c/\if c=J then Q (.bl J) d else tb σ d Q
def MV{op}{t:TE}(h:PE X a t):PE X (.BoolOp op [a] pos) t:=λam s σ H Q I d=>BoolOp_one (h am s σ H Q I d)
def Y1(l:PE X a ta)(z:PE X (.BoolOp .And (b::b4) pos) tb):PE X (.BoolOp .And (a::b::b4) pos) (V2 ta tb):=by intro am s σ H Q I h;refine BoolOp_and (dh (l am s σ H _ I h) λv s1 x=>?_);obtain⟨x,d,g,R,q⟩:=x;obtain⟨c,rfl,q⟩:=q;cases R;refine d8 ?_;cases c with|true=>exact z am s1 σ d Q g q|false=>exact⟨.bl a7,d,g,rfl,q⟩
def abO(l:PE X a ta)(z:PE X (.BoolOp .Or (b::b4) pos) tb):PE X (.BoolOp .Or (a::b::b4) pos) (K' ta tb):=by intro am s σ H Q I h;refine BoolOp_or (dh (l am s σ H _ I h) λv s1 x=>?_);obtain⟨x,d,g,R,q⟩:=x;obtain⟨c,rfl,q⟩:=q;cases R;refine d8 ?_;cases c with|false=>exact z am s1 σ d Q g q|true=>exact⟨.bl J,d,g,rfl,q⟩
def K6(t:TT)(ta tb:TE):TE:=λσ H Q=>t σ H λc d=>if c=J then ta σ d Q else tb σ d Q
def MQ(z:PT X c tA)(B:PE X a ta)(F:PE X b tb):PE X (.IfExp c a b pos) (K6 tA ta tb):=by intro am s σ H Q I h;refine wpAny_IfExp (dh (z am s σ H _ I h) λd s1 g=>?_);obtain⟨g,l,q⟩:=g;cases d with|true=>exact B am s1 σ g Q l q|false=>exact F am s1 σ g Q l q
end
def gN(K:Frag)(H:Hp)(a:Addr)(xs:List V):Prop:=Rd H a (.lst xs)\/∃(o:Obj)(I:Array Value)(n:Nat),K.lookup a=O o/\o.cls=.type "list"/\o.dict=af/\o.data=.seq I n/\I.size<=sizeLine/\Vals xs I.toList
def eL(K:Frag)(H:Hp)(a:Addr)(xs:List V):Prop:=Rd H a (.tup xs)\/∃(o:Obj)(I:Array Value)(n:Nat),K.lookup a=O o/\o.cls=.type "tuple"/\o.data=.seq I n/\I.size<=sizeLine/\Vals xs I.toList
noncomputable def aeM:Value->Option V|.none=>O .non|.bool b=>O (.bl b)|.int i _=>O (.int i)|.str x _=>O (.str x)|.bytes b _=>O (.JE b)|.float b _=>O (.QF b)|.ref a=>O (.ref a)|.type n=>O (.ty n)|_=>af
def RelV.abs{x:V}(r:RelV x u):aeM u=O x:=by cases x with|non=>cases r;rfl|bl _=>cases r;rfl|int _=>obtain⟨t,rfl⟩:=r;rfl|str _=>obtain⟨t,rfl⟩:=r;rfl|JE _=>obtain⟨t,rfl⟩:=r;rfl|QF _=>obtain⟨t,rfl⟩:=r;rfl|ref _=>cases r;rfl|ty _=>cases r;rfl
def RelV.inj{x:V}(r:RelV x u)(q:RelV y u):x=y:=cU (r.abs.symm.trans q.abs)
theorem Vals.inj:∀{xs ys:List V}{us:List Value},Vals xs us->Vals ys us->xs=ys:=by intro xs ys us a;induction a generalizing ys with|nil=>intro b;cases b;rfl|cons r t I=>intro b;cases b with|cons r' t'=>rw[r.inj r',I t']
section
variable{ys:List V}
def gN.of(h:H a=O (.lst xs)):gN K H a xs:=.inl (.inl h)
def eL.of(h:H a=O (.tup xs)):eL K H a xs:=.inl (.inl h)
def Inv.list(I:Inv X am σ H s)(h:gN X.K H a xs):∃its:List Value,Vals xs its/\PlainL s.heap a its.toArray/\xs.length<=sizeLine:=by
 rcases h with h|⟨o,its,n,d,g,l,q,B,r⟩;·obtain⟨z,its,n,r,e⟩:=h.ok I.di;exact⟨its,r,⟨_,n,e,rfl,rfl,rfl⟩,z⟩
 ·refine⟨its.toList,r,⟨o,n,I.l9 a o d,g,l,by simpa using q⟩,?_⟩;have e:=r.length;simp only[bJ]at e;lia
def Inv.tuple(I:Inv X am σ H s)(h:eL X.K H a xs):∃its:List Value,Vals xs its/\IsTup s.heap a its.toArray/\xs.length<=sizeLine:=by
 rcases h with h|⟨o,its,n,d,g,l,q,r⟩;·obtain⟨z,its,r,p⟩:=h.ok I.di;exact⟨its,r,p,z⟩
 ·refine⟨its.toList,r,⟨o,I.l9 a o d,g,n,by simpa using l⟩,?_⟩;have e:=r.length;simp only[bJ]at e;lia
def Inv.Bl(I:Inv X am σ H s)(h:gN X.K H a xs)(h':gN X.K H a ys):xs=ys:=by
 obtain⟨g,r,⟨o,n,e,_,_,d⟩,_⟩:=I.list h;obtain⟨its',r',⟨z,B,l,_,_,d'⟩,_⟩:=I.list h';rw[e]at l;cases l;rw[d]at d';injection d' with q _;have:g=its':=by simpa using bU Array.toList q
 subst this;exact r.inj r'
def Inv.kU(I:Inv X am σ H s)(h:eL X.K H a xs)(h':eL X.K H a ys):xs=ys:=by
 obtain⟨g,r,⟨o,e,_,n,d⟩,_⟩:=I.tuple h;obtain⟨its',r',⟨z,l,_,B,d'⟩,_⟩:=I.tuple h';rw[e]at l;cases l;rw[d]at d';injection d' with q _;have:g=its':=by simpa using bU Array.toList q
 subst this;exact r.inj r'
end
noncomputable abbrev Cx.xf(X:Cx)(E:dC):Cx:={X with xe:=E}
abbrev Cx.Vl(X:Cx):Cx:=X.xf λ_ _=>False
theorem Cx.Ok.xf(ok:X.Ok)(E:dC):(X.xf E).Ok:=⟨ok.mod,ok.kind,ok.glob,ok.blt,ok.above,ok.inj,ok.has,ok.O4,ok.hd,ok.frames,ok.TF,ok.KU,ok.bs,ok.Cd,ok.vj,ok.uU,ok.kq,ok.HV⟩
def Cx.Ok.nB(ok:(X.xf E).Ok):X.Ok:=⟨ok.mod,ok.kind,ok.glob,ok.blt,ok.above,ok.inj,ok.has,ok.O4,ok.hd,ok.frames,ok.TF,ok.KU,ok.bs,ok.Cd,ok.vj,ok.uU,ok.kq,ok.HV⟩
theorem Inv.xf(I:Inv X am σ H s)(E:dC):Inv (X.xf E) am σ H s:=⟨I.ok.xf E,I.os,I.bare,I.base,I.loc,I.cell,I.free,I.gT,I.pin,I.di,I.len⟩
theorem Inv.nB(I:Inv (X.xf E) am σ H s):Inv X am σ H s:=⟨I.ok.nB,I.os,I.bare,I.base,I.loc,I.cell,I.free,I.gT,I.pin,I.di,I.len⟩
theorem SP.nB{f:Flow}(h:SP (X.xf E) am D f s'):SP X am D f s':=by cases f with|next=>obtain⟨d,H',I,q⟩:=h;exact⟨d,H',I.nB,q⟩|brk=>obtain⟨d,H',I,q⟩:=h;exact⟨d,H',I.nB,q⟩|cont=>obtain⟨d,H',I,q⟩:=h;exact⟨d,H',I.nB,q⟩|ret u=>obtain⟨v,d,H',I,r,q⟩:=h;exact⟨v,d,H',I.nB,r,q⟩
theorem kH.Vl{st:List Stmt}{t:TS}(h:kH X.Vl st t):kH X st t:=λam s σ H D I d=>dB (h am s σ H D (I.xf _) d) (λ_ _ q=>q.nB) λ_ _ z=>ac8 z
section
variable{st:Stmt}{b4:List Stmt}{t u:TS}
def acI:TS:=λD σ H=>D.nx σ H
def Go(t u:TS):TS:=λD σ H=>t {D with nx:=u D} σ H
def zw:kH X [] acI:=λ_ _ σ H _ I h=>gA ⟨σ,H,I,h⟩
def g9(g:PS X st t)(l:kH X b4 u):kH X (st::b4) (Go t u):=by intro am s σ H D I h;refine kF (dh (g am s σ H {D with nx:=u D} I h) λf s1 q=>?_);cases f with|next=>obtain⟨d,H',z,q⟩:=q;exact l am s1 d H' D z q|ret v=>exact q|brk=>exact q|cont=>exact q
def iP(d:PS X st t):kH X [st] t:=by intro am s σ H D I h;refine kF (dh (d am s σ H D I h) λf s1 q=>?_);cases f with|next=>exact gA q|ret v=>exact q|brk=>exact q|cont=>exact q
def Inv.quiet(I:Inv X am σ H s):interactive X.env=false:=by simp[interactive,I.ok.kind]
def V3(te:TE):TS:=λD σ H=>te σ H λ_ d=>D.nx σ d
def ua(d:PE X e te)(g:autoParam (gZ e af pos.line X.env=pure a7) o0):PS X (.Expr e pos) (V3 te):=by intro am s σ H D I h;exact wpAny_Expr_any (dh (d am s σ H _ I h) λv s1 ⟨x,l,q,R,z⟩=>⟨σ,l,q,z⟩) I.quiet g
def Oh(te:TE):TS:=λD σ H=>te σ H D.rt
def pI(d:PE X e te):PS X (.Return (O e) pos) (Oh te):=by intro am s σ H D I h;exact Cz (dh (d am s σ H _ I h) λv s1 ⟨x,g,l,R,q⟩=>⟨x,σ,g,l,R,q⟩)
def ZZ(c:TT)(t u:TS):TS:=λD σ H=>c σ H λb d=>if b=J then t D σ d else u D σ d
def Nl{a b:List Stmt}(z:PT X c tc)(B:kH X a t)(F:kH X b u):PS X (.If c a b pos) (ZZ tc t u):=by intro am s σ H D I h;refine wpAny_If (dh (z am s σ H _ I h) λd s1 g=>?_);obtain⟨g,l,q⟩:=g;cases d with|true=>exact B am s1 σ g D l q|false=>exact F am s1 σ g D l q
end
abbrev TG:=V->tSt->Hp->(tSt->Hp->Prop)->Prop
abbrev UE:=List V->tSt->Hp->(tSt->Hp->Prop)->Prop
def PG(X:Cx)(T:Expr)(t:TG):Prop:=∀(am:ce)(s:bv)(σ:tSt)(H:Hp)(v:V)(u:Value)(Q:tSt->Hp->Prop),Inv X am σ H s->RelV v u->t v σ H Q->bb (bn X.prog X.w) X.A (assign T X.env u) (λ_ s'=>∃d H',Inv X am d H' s'/\Q d H') X.xe s
def UD(X:Cx)(T:List Expr)(t:UE):Prop:=∀(am:ce)(s:bv)(σ:tSt)(H:Hp)(vs:List V)(us:List Value)(Q:tSt->Hp->Prop),Inv X am σ H s->Vals vs us->t vs σ H Q->bb (bn X.prog X.w) X.A (assignInOrder ((gz T X.env).map (·.2)) us) (λ_ s'=>∃d H',Inv X am d H' s'/\Q d H') X.xe s
abbrev Ww:=V->V->V->Hp->(Hp->Prop)->Prop
def J1(X:Cx)(t:Ww):Prop:=∀(am:ce)(s:bv)(σ:tSt)(H:Hp)(o i v:V)(d I u:Value)(Q:Hp->Prop),Inv X am σ H s->RelV o d->RelV i I->RelV v u->t o i v H Q->bb (bn X.prog X.w) X.A (setItem d I u) (λ_ s'=>∃H',Inv X am σ H' s'/\Q H') X.xe s
def kM(i:Nat):TG:=λv σ H Q=>Q (σ.set i (O v)) H
def zu(d:X.N.Nodup)(g:autoParam (X.N[i]?=O x) o0)(l:Loc X.env.scope x:=by exact Or.inl rfl)(q:autoParam (X.fn x=J\/X.env.scope.names.lookup x=O .local) ib):PG X (.Name x pos) (kM i):=by intro am s σ H v u Q I r h;exact wpAny_assign_Name (qG I d g l r (λs' z=>⟨_,H,z,h⟩) q)
def UR:UE:=λvs σ H Q=>vs=[]/\Q σ H
def UT(t:TG)(u:UE):UE:=λvs σ H Q=>∃v r,vs=v::r/\t v σ H λd H'=>u r d H' Q
def SJ:UD X [] UR:=by intro am s σ H vs us Q I r h;obtain⟨e,h⟩:=h;subst e;cases r;exact assignInOrder_nil ⟨σ,H,I,h⟩
def Nb{t:TG}{u:UE}(g:PG X e t)(l:UD X es u)(q:autoParam ((gz (e::es) X.env).map (·.2)=assign e X.env::(gz es X.env).map (·.2)) o0):UD X (e::es) (UT t u):=by intro am s σ H vs us Q I r h;obtain⟨v,L,z,h⟩:=h;subst z;cases r with|cons r R=>rw[q];refine assignInOrder_cons (dh (g am s σ H _ _ _ I r h) λ_ s1 d=>?_);obtain⟨d,B,F,G⟩:=d;exact l am s1 d B _ _ Q F R G
def Xn(K:Frag)(n:Nat)(t:UE):TG:=λv σ H Q=>∃a xs,v=.ref a/\eL K H a xs/\xs.length=n/\t xs σ H Q
def Zm{t:UE}(g:X.calm)(h:UD X es t)(hn:autoParam ((gz es X.env).length=n) o0)(l:autoParam ((gz es X.env).findIdx? (·.1)=af) o0):PG X (.Tuple es k pos) (Xn X.K n t):=by intro am s σ H v u Q I r d;obtain⟨a,xs,q,z,B,d⟩:=d;subst q;cases r;obtain⟨F,R,G,T⟩:=I.tuple z;refine assign_Tuple_tuple (I.ok.hd g) G (by simp[hn,<-B,R.length]) l λh' L=>?_;have S:Inv X am σ H {s with heap:=h'}:=I.kept (t':=s.toks) λb o e=>L b o (bu (aN e)) e;exact h am _ σ H xs _ Q S (by simpa using R) d
def TD(T ti:TE)(t:Ww):TG:=λv σ H Q=>T σ H λo d=>ti σ d λi g=>t o i v g λl=>Q σ l
def Zl{o i:Expr}{T ti:TE}{t:Ww}(l:PE X o T)(q:PE X i ti)(z:J1 X t)(B:autoParam (∀v,assign (.Subscript o i pos) X.env v=do
   let d<-ft [v] (eval o X.env)let g<-ft [v,d] (eval i X.env)standAt pos
   ft [v,d,g] (setItem d g v)release [v,d,g] []) hY):PG X (.Subscript o i pos) (TD T ti t):=by intro am s σ H v u Q I r h;rw[B];refine aa (cG (dh (l am s σ H _ I h) λd s1 x=>?_));obtain⟨x,F,G,R,L⟩:=x;refine aa (cG (dh (q am s1 σ F _ G L) λg s2 y=>?_));obtain⟨y,S,U,W,Y⟩:=y;refine aa (Ad (aa (cG (dh (z am s2 σ S x y v d g u _ U R W r Y) λ_ s3 Z=>?_))));obtain⟨Z,I3,q3⟩:=Z;exact wpAny_release ⟨σ,Z,I3,q3⟩
def BV(te:TE)(g:TG):TS:=λD σ H=>te σ H λx d=>g x σ d D.nx
def Nj{g:TG}(d:PE X e te)(l:PG X tg g)(z:autoParam (swapsWithSole [tg] e pos.line X.env=pure a7) o0)(B:autoParam (swappedStores [tg] e X.env=pure af) o0)(F:autoParam ((gz [tg] X.env).map (·.2)=[assign tg X.env]) o0):PS X (.Assign [tg] e pos) (BV te g):=by intro am s σ H D I h;refine wpAny_Assign_stores (dh (d am s σ H _ I h) λv s1 x=>?_) z B;obtain⟨x,G,L,R,S⟩:=x;rw[F];exact dh (l am s1 σ G x v _ L R S) λ_ s2 q=>q
def Nn(d:X.N.Nodup)(g:X.N[i]?=O x)(l:Loc X.env.scope x)(q:PE X e te)(z:autoParam (gZ e (O (.Name x pos')) pos.line X.env=pure a7) o0)(B:autoParam (X.fn x=J\/X.env.scope.names.lookup x=O .local) ib):PS X (.Assign [.Name x pos'] e pos) (BV te (kM i)):=by intro am s σ H D I h;refine wpAny_Assign_Name (dh (q am s σ H _ I h) λv s1 y=>?_) z;obtain⟨y,F,G,R,L⟩:=y;exact qG G d g l R (λs2 S=>⟨_,F,S,L⟩) B
def Gs(i:Nat)(d:X.N.Nodup)(g:PE X e te)(l:autoParam (X.N[i]?=O x) o0)(q:Loc X.env.scope x:=by exact Or.inl rfl)(z:autoParam (gZ e (O (.Name x pos')) pos.line X.env=pure a7) o0)(B:autoParam (X.fn x=J\/X.env.scope.names.lookup x=O .local) ib):PS X (.Assign [.Name x pos'] e pos) (BV te (kM i)):=Nn d l q g z B
def Oi(c:TT)(tb:TS):TS:=λD σ H=>∃W:Nat->tSt->Hp->Prop,(∃m,W m σ H)/\∀m σ H,W m σ H->c σ H λb g=>if b=J then ∃N:tSt->Hp->Prop,(∀d H',N d H'->∃l,l<m/\W l d H')/\tb {D with nx:=N,ct:=N,bk:=D.nx} σ g else D.nx σ g
def BB(U:PassesOwn (bn X.prog X.w) X.A X.env X.xe)(hc:PT X c tc)(hb:kH X body tb):PS X (.While c body [] pos) (Oi tc tb):=by intro am s σ H D I h;obtain⟨W,⟨m0,w0⟩,T⟩:=h;refine wpAny_While (codeAny_whileLoop (λn s'=>∃l H',Inv X am l H' s'/\W n l H') ?_ m0 ⟨σ,H,I,w0⟩);rintro n s1 ⟨g,Y,I1,w1⟩;refine cV U (dh (hc am s1 g Y _ I1 (T n g Y w1)) λb s2 Z=>?_);obtain⟨Z,I2,z⟩:=Z;cases b with
 |true=>obtain⟨N,hN,z⟩:=z;rw[bx rfl];refine cV U (dh (hb am s2 g Z _ I2 z) λf s3 B=>?_);cases f with|next=>obtain⟨d,q,F,G⟩:=B;obtain⟨L,R,S⟩:=hN d q G;exact⟨L,R,d,q,F,S⟩|cont=>obtain⟨d,q,F,G⟩:=B;obtain⟨L,R,S⟩:=hN d q G;exact⟨L,R,d,q,F,S⟩|brk=>exact B|ret v=>exact B
 |false=>rw[bE aK];exact gA ⟨g,Z,I2,z⟩
set_option genInjectivity false in
structure It where
 go:Nat->Hp->Prop
 k_:Nat->Hp->V->Hp->Prop
 stop:Nat->Hp->Prop
def mm(X:Cx)(am:ce)(H:Hp)(b:Addr):Prop:=H b=af/\b≠X.env.locals/\b∉X.fs/\(b∈X.ex\/X.s₀.heap.objs.size<=b)/\(∀x c,X.env.cells.lookup x=O c->c≠b)/\∀p∈X.pn++am,p.1≠b
def Inv.HU(I:Inv X am σ H s)(d:s.heap.objs.size<=b)(hn:H' b=af):mm X am H' b:=by
 refine⟨hn,iD (bt I.lt d),I.agC d,.inr (aH I.sz d),λx c e z=>?_,λp g z=>?_⟩;·obtain⟨v,q⟩:=I.cell x c e;exact absurd (bt q.lt (by rw[z];exact d)) (cS _)
 ·exact absurd (bt (aN (I.pin p g).1) (by rw[z];exact d)) (cS _)
structure Hm(P:cf)(w:b7)(K:Frag)(tg:Expr)(a:It)(fp:List Addr)(it:Addr)(tn:Nat->Heap->Prop):Prop where
 mem:it∈fp
 obj:∀i h,tn i h->∀b∈fp,∃o,h.get? b=O o/\∀v,o.data≠.cell v
 keep:∀i h h',tn i h->(∀b∈fp,∀o,h.get? b=O o->h'.get? b=O o)->tn i h'
 item:∀(X:Cx),X.prog=P->X.w=w->X.K=K->X.calm->∀(i:Nat)(am:ce)(s:bv)(σ:tSt)(H:Hp)(E:dC),Inv X am σ H s->(∀b∈fp,mm X am H b)->tn i s.heap->a.go i H->bb (bn P w) X.A (pyNext (.ref it)) (λr s1=>∃u,r=O u/\bb (bn P w) X.A (ji tg (.ref it) u) (λ_ s2=>∃x H',Inv X am σ H' s2/\RelV x u/\a.k_ i H x H'/\tn (i+1) s2.heap/\∀b∈fp,H' b=af) E s1) E s
 done:∀(X:Cx),X.prog=P->X.w=w->X.K=K->X.calm->∀(i:Nat)(am:ce)(s:bv)(σ:tSt)(H:Hp)(E:dC),Inv X am σ H s->(∀b∈fp,mm X am H b)->tn i s.heap->a.stop i H->bb (bn P w) X.A (pyNext (.ref it)) (λr s1=>r=af/\Inv X am σ H s1) E s
 self:∀(A:cr)(i:Nat)(s:bv)(Q:dC)(E:dC),tn i s.heap->Q (.ref it) s->bb (bn P w) A (pyIter (.ref it)) Q E s
abbrev TI:=tSt->Hp->(It->Hp->Prop)->Prop
def wT(X:Cx)(am:ce)(σ:tSt)(tg:Expr)(R:It->Hp->Prop)(I:Value)(s2:bv):Prop:=∃(it:Addr)(fp:List Addr)(T:Nat->Heap->Prop)(d:It)(H':Hp),I=.ref it/\Inv X am σ H' s2/\Hm X.prog X.w X.K tg d fp it T/\T 0 s2.heap/\(∀b∈fp,mm X am H' b)/\R d H'
def PI(X:Cx)(tg iter:Expr)(W:TI):Prop:=∀(am:ce)(s:bv)(σ:tSt)(H:Hp)(R:It->Hp->Prop),Inv X am σ H s->W σ H R->bb (bn X.prog X.w) X.A (eval iter X.env) (λv s1=>bb (bn X.prog X.w) X.A (pyIter v) (wT X am σ tg R) X.xe s1) X.xe s
def FE{o:Obj}{n:String}{vs:Array Value}(g:s.heap.get? it=O o)(l:o.cls=.type n)(q:o.data=.fields vs)(hn:["enumerate","zip","dict_itemiterator","dict_reverseitemiterator","odict_iterator","itertools.zip_longest","itertools.pairwise"].contains n=a7)(d:Q () s):bb M A (ji tg (.ref it) u) Q E s:=by unfold ji;cases tg<;>first|exact au d|(cases u<;>first|exact au d|(refine aa (wpAny_load g ?_);rw[l,q];show bb M A (if(["enumerate","zip","dict_itemiterator","dict_reverseitemiterator","odict_iterator","itertools.zip_longest","itertools.pairwise"].contains n&&vs[0]?==O (cx _))=J then _ else _) Q E s;rw[bE (by intro h;rw[hn,Bool.false_and]at h;cases h)];exact au d))
noncomputable def ms(K:Frag)(a:Addr):It:=⟨λi H=>∃xs x,gN K H a xs/\xs[i]?=O x,λi H x H'=>H'=H/\∀xs,gN K H a xs->xs[i]?=O x,λi H=>∃xs,gN K H a xs/\xs.length<=i⟩
def OY(K:Frag)(a:Addr):It:=⟨λi H=>∃xs x,eL K H a xs/\xs[i]?=O x,λi H x H'=>H'=H/\∀xs,eL K H a xs->xs[i]?=O x,λi H=>∃xs,eL K H a xs/\xs.length<=i⟩
noncomputable def n'(lo:Int)(n:Nat):It:=⟨λi _=>i<n,λi H x H'=>H'=H/\x=.int (lo+i),λi _=>n<=i⟩
def Jt(a it:Addr):Hm P w K tg (ms K a) [it] it λi h=>h.IsListIter it a i where
 mem:=by simp
 obj:=λi h st b g=>by
  have e:b=it:=by simpa using g
  subst e;obtain⟨o,e,c,d⟩:=st;exact⟨o,e,λv z=>by rw[d]at z;cases z⟩
 keep:=λi h h' st k=>st.at λo e=>k it (by simp) o e;item:=by intro X B F G hc i am s σ H E I l st L;subst B F G;obtain⟨xs,x,q,R⟩:=L;obtain⟨S,T,p,hz⟩:=I.list q;obtain⟨u,hu,ru⟩:=T.get R;obtain⟨U,W,f2,Y,Z,f5⟩:=l it (by simp);refine L' st p.isList (x:=u) (by simpa using hu) λh' EF sb=>?_;have I1:Inv X am σ H {s with heap:=h'}:=I.turned (t':=s.toks) (λb o g e=>(sb.2 b g).trans e) U W Y Z f5;obtain⟨o,e,c,d⟩:=id EF;exact⟨u,rfl,FE (s:={s with heap:=h'}) e c d (by ext) ⟨x,H,I1,ru,⟨rfl,λys hy=>by rw[I.Bl hy q];exact R⟩,EF,λb g=>(l b g).1⟩⟩
 done:=by intro X B F G hc i am s σ H E I l st L;subst B F G;obtain⟨xs,q,R⟩:=L;obtain⟨S,T,p,hz⟩:=I.list q;obtain⟨U,W,f2,Y,Z,f5⟩:=l it (by simp);have hl:=T.length;exact wS (I.ok.hd hc) st p.isList (by simp;lia) λh' eb=>⟨rfl,I.turned (t':=s.toks) (λb o g e=>eb b o g e) U W Y Z f5⟩
 self:=λ_ _ _ _ _ st h=>wpAny_pyIter_listiter st h
def EM(a it:Addr):Hm P w K tg (OY K a) [it] it λi h=>h.IsTupleIter it a i where
 mem:=by simp
 obj:=λi h st b g=>by
  have e:b=it:=by simpa using g
  subst e;obtain⟨o,e,c,d⟩:=st;exact⟨o,e,λv z=>by rw[d]at z;cases z⟩
 keep:=λi h h' st k=>st.at λo e=>k it (by simp) o e;item:=by intro X F G L hc i am s σ H E I q st R;subst F G L;obtain⟨xs,x,B,S⟩:=R;obtain⟨l,T,p,hz⟩:=I.tuple B;obtain⟨u,hu,ru⟩:=T.get S;obtain⟨U,W,f2,Y,Z,f5⟩:=q it (by simp);refine s_ st (show s.heap.IsTuple a l.toArray from p) (x:=u) (by simpa using hu) λh' EF sb=>?_;have I1:Inv X am σ H {s with heap:=h'}:=I.turned (t':=s.toks) (λb o g e=>(sb.2 b g).trans e) U W Y Z f5;obtain⟨o,e,c,d⟩:=id EF;exact⟨u,rfl,FE (s:={s with heap:=h'}) e c d (by ext) ⟨x,H,I1,ru,⟨rfl,λys hy=>by rw[I.kU hy B];exact S⟩,EF,λb g=>(q b g).1⟩⟩
 done:=by intro X F G L hc i am s σ H E I q st R;subst F G L;obtain⟨xs,B,S⟩:=R;obtain⟨l,T,p,hz⟩:=I.tuple B;obtain⟨U,W,f2,Y,Z,f5⟩:=q it (by simp);have hl:=T.length;exact wpAny_pyNext_tuple_end (I.ok.hd hc) st (show s.heap.IsTuple a l.toArray from p) (by simp;lia) λh' eb=>⟨rfl,I.turned (t':=s.toks) (λb o g e=>eb b o g e) U W Y Z f5⟩
 self:=λ_ _ _ _ _ st h=>wpAny_pyIter_tupleiter st h
def EL(it:Addr)(lo:Int)(n:Nat):Hm P w K tg (n' lo n) [it] it λi h=>IsRangeIter h it (lo+(i:Nat)*1) ((n:Int)-(i:Nat)) 1 where
 mem:=by simp
 obj:=λi h st b d=>by
  have e:b=it:=by simpa using d
  subst e;exact⟨_,st,λv z=>by have z':Data.fields _=Data.cell v:=z;cases z'⟩
 keep:=λi h h' st k=>k it (by simp) _ st;item:=by intro X l q B F i am s σ H E I g st G;subst l q B;obtain⟨L,R,f2,S,T,U⟩:=g it (by simp);have W:=Walks.range (prog:=X.prog) (w:=X.w) (I.ok.hd F) it lo 1 n;refine W.item i s _ _ G st λv h' Y hv Z kk=>?_;obtain⟨t,rfl⟩:=hv;have I1:Inv X am σ H {s with heap:=h',toks:=Y}:=I.turned (λb o d e=>kk b o (by simpa using d) e) L R S T U;refine⟨_,rfl,FE (s:={s with heap:=h',toks:=Y}) (n:="range_iterator") Z rfl rfl (by ext) ⟨.int (lo+i),H,I1,⟨t,?_⟩,⟨rfl,rfl⟩,Z,λb d=>(g b d).1⟩⟩;rw[Int.mul_one]
 done:=by intro X l q B F i am s σ H E I g st G;subst l q B;obtain⟨L,R,f2,S,T,U⟩:=g it (by simp);exact wpAny_pyNext_range_end (I.ok.hd F) st (by have:n<=i:=G;lia) λh' eb=>⟨rfl,I.turned (t':=s.toks) (λb o d e=>eb b o d e) L R S T U⟩
 self:=λ_ _ _ _ _ st h=>wpAny_pyIter_rangeiter st h
def af6(K:Frag)(T:TE):TI:=λσ H R=>T σ H λx d=>∃a,x=.ref a/\(∃xs,eL K d a xs)/\R (OY K a) d
def NA{R:It->Hp->Prop}{lo d:Int}{t u v:Tok}{T:Nat}(I:Inv X am σ H s)(l:-2^62<=lo)(z:lo<2^62)(B:-2^62<=d)(F:d<2^62)(q:R (n' lo (d-lo).toNat) H):bb (bn X.prog X.w) X.A (pyIter (.ref s.heap.objs.size)) (wT X am σ tg R) E {s with heap:=s.heap.push {cls:=.type "range",data:=.fields #[.int lo t,.int d u,.int 1 v]},toks:=T}:=by
 refine wpAny_pyIter_range (IsRange.new ..) (small_one l z B F) ?_;have g:Inv X am σ H {s with heap:=s.heap.push {cls:=.type "range",data:=.fields #[.int lo t,.int d u,.int 1 v]},toks:=T}:=I.kept λb o e=>aj _ e;refine⟨(s.heap.push {cls:=.type "range",data:=.fields #[.int lo t,.int d u,.int 1 v]}).objs.size,[(s.heap.push {cls:=.type "range",data:=.fields #[.int lo t,.int d u,.int 1 v]}).objs.size],_,_,H,rfl,g.kept (t':=T) λb o e=>aj _ e,EL _ lo (d-lo).toNat,?_,λb G=>?_,q⟩
 ·have L:lo+((0:Nat):Int)*1=lo:=by simp
  have S:(((d-lo).toNat:Nat):Int)-((0:Nat):Int)=Builtin.Range.rangeSize lo d 1:=by rw[rangeSize_one];split<;>lia
  show IsRangeIter _ _ (lo+((0:Nat):Int)*1) ((((d-lo).toNat:Nat):Int)-((0:Nat):Int)) 1;rw[L,S];exact aU _ rfl
 ·have e:b=(s.heap.push {cls:=.type "range",data:=.fields #[.int lo t,.int d u,.int 1 v]}).objs.size:=by simpa using G
  subst e;exact g.HU (aB _) (g.di.fresh (aB _))
def aaV(ta:TA):TI:=λσ H R=>ta σ H λvs d=>∃j:Int,vs=[.int j]/\-2^62<=j/\j<2^62/\R (n' 0 j.toNat) d
def IT{a:Expr}{ta:TA}(g:Gl X "range")(l:X.mg "range"=af)(z:PA X [a] ta)(B:autoParam (ci [a] X.env=[(a7,eval a X.env)]) o0):PI X tg (.Call (.Name "range" p) [a] [] pos) (aaV ta):=by intro am s σ H R I h;refine Call_ (vb I g l boot_range (mH (dh (z pos am s σ H _ I h) λus s1 vs=>?_) B rfl));obtain⟨vs,T,F,G,d⟩:=vs;obtain⟨j,e,d,L,q⟩:=d;subst e;cases G with|cons r S=>cases S;obtain⟨t,rfl⟩:=r;exact call_range_1 (NA F (by lia) (by lia) d L (by simpa using q))
def TM(B:TI)(g:TG)(tb:TS):TS:=λD σ H=>B σ H λd F=>∃W:Nat->Nat->tSt->Hp->Prop,(∃m,W 0 m σ F)/\∀i m σ H,W i m σ H->d.stop i H/\D.nx σ H\/d.go i H/\∃N:tSt->Hp->Prop,(∀l H',N l H'->∃z,z<m/\W (i+1) z l H')/\∀x H',d.k_ i H x H'->g x σ H' λq G=>tb {D with nx:=N,ct:=N,bk:=D.nx} q G
noncomputable def nq(fp:List Addr)(h:Heap):ce:=fp.filterMap λb=>(h.get? b).map λo=>(b,o)
def fE{o:Obj}(d:b∈fp)(e:h.get? b=O o):(b,o)∈nq fp h:=og.mpr ⟨b,d,by rw[e];rfl⟩
def IE{p:Addr×Obj}(d:p∈nq fp h):p.1∈fp/\h.get? p.1=O p.2:=by obtain⟨b,g,e⟩:=og.mp d;cases q:h.get? b with|none=>rw[q]at e;cases e|some o=>rw[q]at e;have l:(b,o)=p:=cU e;subst l;exact⟨g,q⟩
def Inv.pinned(I:Inv X am σ H s)(q:∀b∈fp,mm X am H b)(B:∀b∈fp,∃o,s.heap.get? b=O o/\∀v,o.data≠.cell v):Inv X (am++nq fp s.heap) σ H s:=I.zv λp F=>(bf.mp F).elim (λz=>I.pin p (aR _ z)) λz=>by obtain⟨g,e⟩:=IE z;obtain⟨G,L,R,_⟩:=q p.1 g;obtain⟨o,l,d⟩:=B p.1 g;rw[e]at l;cases l;exact⟨e,G,L,R,d⟩
def Inv.fG{pl:ce}(I:Inv X (am++pl) σ H s):Inv X am σ H s:=I.zv λp d=>I.pin p (aR _ (cP _ d))
def Nk{iter:Expr}{wi:TI}{g:TG}(S:PassesOwn (bn X.prog X.w) X.A X.env X.xe)(hc:X.calm)(hi:PI X tg iter wi)(hg:PG X tg g)(z:kH X body tb)(hs:autoParam (∀x,hG iter X.env x=pure x) hY):PS X (.For tg iter body [] pos) (TM wi g tb):=by
 intro am s σ H D I h;refine wpAny_For (dh (hi am s σ H _ I h) λv s1 h1=>dh h1 λitv s2 h2=>?_) hs;obtain⟨it,fp,tn,l,H2,e,I2,T,JN,f2,W,⟨m0,w0⟩,U⟩:=h2;subst e;have vQ:∀{H':Hp},(∀b∈fp,H' b=af)->∀b∈fp,mm X am H' b:=λhn b z=>⟨hn b z,(f2 b z).2⟩;refine Ix (λn s'=>∃i B H',Inv X am B H' s'/\tn i s'.heap/\(∀b∈fp,H' b=af)/\W i n B H') ?_ m0 ⟨0,σ,H2,I2,JN,λb z=>(f2 b z).1,w0⟩;rintro n s3 ⟨i,F,H3,I3,Y,Z,w3⟩;rcases U i n F H3 w3 with ⟨stop,qn⟩|⟨go,N,hN,step⟩;·refine cV S (dh (T.done X rfl rfl rfl hc i am s3 F H3 X.xe I3 (vQ Z) Y stop) λr s4 ⟨hr,I4⟩=>?_);subst hr;exact gA ⟨F,H3,I4,qn⟩
 ·refine cV S (dh (T.item X rfl rfl rfl hc i am s3 F H3 X.xe I3 (vQ Z) Y go) λr s4 u=>?_);obtain⟨u,hr,h4⟩:=u;subst hr;refine cV S (dh h4 λ_ s5 x=>?_);obtain⟨x,H5,I5,r5,y5,TC,Xk⟩:=x;have I5':=I5.pinned (vQ Xk) (T.obj _ _ TC);refine cV S (dh (hg _ s5 F H5 x u _ I5' r5 (step x H5 y5)) λ_ s6 H6=>?_);obtain⟨σ6,H6,I6,q6⟩:=H6;refine cV S (dh (z _ s6 σ6 H6 _ I6 q6) λf s7 R=>?_);have again:∀{q:tSt}{G:Hp},Inv X (am++nq fp s5.heap) q G s7->N q G->∃m,m<n/\∃i B H',Inv X am B H' s7/\tn i s7.heap/\(∀b∈fp,H' b=af)/\W i m B H':=λ{q G}L n7=>by obtain⟨m',hm,w7⟩:=hN q G n7;refine⟨m',hm,i+1,q,G,L.fG,T.keep _ _ _ TC λb z o e=>(L.pin (b,o) (aR _ (aR _ (fE z e)))).1,λb z=>?_,w7⟩;obtain⟨o,e,d⟩:=T.obj _ _ TC b z;exact(L.pin (b,o) (aR _ (aR _ (fE z e)))).2.1
  cases f with|next=>obtain⟨q,G,L,n7⟩:=R;exact again L n7|cont=>obtain⟨q,G,L,n7⟩:=R;exact again L n7|brk=>obtain⟨q,G,L,R⟩:=R;exact⟨q,G,L.fG,R⟩|ret v=>obtain⟨x7,q,G,L,r7,R⟩:=R;exact⟨x7,q,G,L.fG,r7,R⟩
def QK{g:TG}(Pv:Nat->tSt->Hp->Prop)(G:Pv 0 σ H)(I:∀i σ H,i<=xs.length->Pv i σ H->eL K H a xs)(L:∀i x σ H,xs[i]?=O x->Pv i σ H->g x σ H λd z=>tb {D with nx:=Pv (i+1),ct:=Pv (i+1),bk:=D.nx} d z)(R:∀σ H,Pv xs.length σ H->D.nx σ H):∃W:Nat->Nat->tSt->Hp->Prop,(∃m,W 0 m σ H)/\∀i m σ H,W i m σ H->(OY K a).stop i H/\D.nx σ H\/(OY K a).go i H/\∃N:tSt->Hp->Prop,(∀l H',N l H'->∃B,B<m/\W (i+1) B l H')/\∀x H',(OY K a).k_ i H x H'->g x σ H' λd z=>tb {D with nx:=N,ct:=N,bk:=D.nx} d z:=by
 refine⟨λi m σ H=>m=xs.length-i/\i<=xs.length/\Pv i σ H,⟨xs.length,by simp,bG _,G⟩,?_⟩;rintro i m σ H ⟨rfl,S,p⟩;have q:=I i σ H S p;by_cases F:i<xs.length;·refine .inr ⟨⟨xs,xs[i],q,by simp[F]⟩,Pv (i+1),λl H' T=>⟨xs.length-(i+1),by lia,rfl,F,T⟩,λx H' y=>?_⟩;obtain⟨e,y⟩:=y;subst e;exact L i x σ _ (y xs q) p
 ·have e:i=xs.length:=by lia
  subst e;exact .inl ⟨⟨xs,q,aB _⟩,R σ H p⟩
abbrev R2:=V->V->Hp->VK->Prop
def jQ(X:Cx)(f:Value->Value->Sem Value)(r:R2):Prop:=∀(am:ce)(s:bv)(σ:tSt)(H:Hp)(x y:V)(v u:Value)(Q:VK),Inv X am σ H s->RelV x v->RelV y u->r x y H Q->bb (bn X.prog X.w) X.A (f v u) (EP X am σ Q) X.xe s
def Wx(X:Cx)(f:Value->Sem Value)(r:V->Hp->VK->Prop):Prop:=∀(am:ce)(s:bv)(σ:tSt)(H:Hp)(x:V)(v:Value)(Q:VK),Inv X am σ H s->RelV x v->r x H Q->bb (bn X.prog X.w) X.A (f v) (EP X am σ Q) X.xe s
def dJ(X:Cx)(f:Value)(r:List V->Hp->VK->Prop):Prop:=∀(am:ce)(s:bv)(σ:tSt)(H:Hp)(xs:List V)(us:List Value)(Q:VK),Inv X am σ H s->Vals xs us->r xs H Q->bb (bn X.prog X.w) X.A (call f us) (EP X am σ Q) X.xe s
def Q_(r:R2)(ta tb:TE):TE:=λσ H Q=>ta σ H λx d=>tb σ d λy g=>r x y g Q
def Fk(r:V->Hp->VK->Prop)(ta:TE):TE:=λσ H Q=>ta σ H λx d=>r x d Q
def rI(C:Int->Int->Prop)(g:Int->Int->V):R2:=λx y H Q=>∃i j,x=.int i/\y=.int j/\C i j/\Q (g i j) H
def Jc(g:Int->Int->V):R2:=λx y H Q=>∃i j,x=.int i/\y=.int j/\Q (g i j) H
def rU(g:Int->V):V->Hp->VK->Prop:=λx H Q=>∃i,x=.int i/\Q (g i) H
section
variable{a b:Expr}{tb tc:TE}
def WG(q:PE X a ta)(z:PE X b tb){R:V->V->Hp->Prop}(I:Inv X am σ H s)(h:ta σ H λx l=>tb σ l λy d=>R x y d){Q:dC}(B:∀v u s2 x y d,Inv X am σ d s2->RelV x v->RelV y u->R x y d->bb (bn X.prog X.w) X.A (f v u) Q X.xe s2):bb (bn X.prog X.w) X.A (eval a X.env) (λv S=>bb (bn X.prog X.w) X.A (eval b X.env) (λu g=>bb (bn X.prog X.w) X.A (f v u) Q X.xe g) X.xe S) X.xe s:=by refine dh (q am s σ H _ I h) λv s1 x=>?_;obtain⟨x,l,F,G,L⟩:=x;refine dh (z am s1 σ l _ F L) λu s2 y=>?_;obtain⟨y,d,T,U,W⟩:=y;exact B v u s2 x y d T G U W
def abN{op:Operator}(d:jQ X (binaryOp op) r)(g:PE X a ta)(l:PE X b tb):PE X (.BinOp a op b pos) (Q_ r ta tb):=by intro am s σ H Q I h;exact wpAny_BinOp (WG g l I h λv u s2 x y z B R F q=>d am s2 σ z x y v u Q B R F q)
def Vy{op:UnaryOp}{r:V->Hp->VK->Prop}(d:Wx X (unaryOp op) r)(g:PE X a ta):PE X (.UnaryOp op a pos) (Fk r ta):=by intro am s σ H Q I h;exact UnaryOp_ (dh (g am s σ H _ I h) λv s1 ⟨x,l,q,R,z⟩=>d am s1 σ l x v Q q R z)
def r9{C:Int->Int->Prop}{g:Int->Int->Int}(rule:∀(i j:Int)(t u:Tok)(s:bv)(Q:dC)(E:dC),C i j->Q (.int (g i j) s.toks) {s with toks:=s.toks+1}->bb (bn X.prog X.w) X.A (f (.int i t) (.int j u)) Q E s):jQ X f (rI C λi j=>.int (g i j)):=by intro am s σ H x y v u Q I R d h;obtain⟨i,j,rfl,rfl,l,q⟩:=h;obtain⟨t,rfl⟩:=R;obtain⟨t',rfl⟩:=d;exact rule i j t t' s _ _ l ⟨.int (g i j),H,I.tok _,⟨_,rfl⟩,q⟩
def C_{g:Int->Int->Int}(rule:∀(i j:Int)(t u:Tok)(s:bv)(Q:dC)(E:dC),Q (.int (g i j) s.toks) {s with toks:=s.toks+1}->bb (bn X.prog X.w) X.A (f (.int i t) (.int j u)) Q E s):jQ X f (Jc λi j=>.int (g i j)):=by intro am s σ H x y v u Q I R d h;obtain⟨i,j,rfl,rfl,q⟩:=h;obtain⟨t,rfl⟩:=R;obtain⟨t',rfl⟩:=d;exact rule i j t t' s _ _ ⟨.int (g i j),H,I.tok _,⟨_,rfl⟩,q⟩
def YM{g:Int->Int->Bool}(rule:∀(i j:Int)(t u:Tok)(s:bv)(Q:dC)(E:dC),Q (.bool (g i j)) s->bb (bn X.prog X.w) X.A (f (.int i t) (.int j u)) Q E s):jQ X f (Jc λi j=>.bl (g i j)):=by intro am s σ H x y v u Q I R d h;obtain⟨i,j,rfl,rfl,q⟩:=h;obtain⟨t,rfl⟩:=R;obtain⟨t',rfl⟩:=d;exact rule i j t t' s _ _ ⟨.bl (g i j),H,I,rfl,q⟩
def P'(i j:Int):Prop:=0<j/\j<1073741824
def JT(i j:Int):Prop:=-2^64<i/\i<2^64\/-2^64<j/\j<2^64
def JT.ok{i j:Int}(h:JT i j):IntMulOk i j:=by
 rcases h with ⟨d,g⟩|⟨d,g⟩;·exact .of_left (intBits_le_64 d g)
 ·exact .of_right (intBits_le_64 d g)
def YN:jQ X (binaryOp .Add) (Jc λi j=>.int (i+j)):=C_ λ_ _ _ _ _ _ _ q=>add_int q
def YX:jQ X (binaryOp .Sub) (Jc λi j=>.int (i-j)):=C_ λ_ _ _ _ _ _ _ q=>sub_int q
def YU:jQ X (binaryOp .Mult) (rI JT λi j=>.int (i*j)):=r9 λ_ _ _ _ _ _ _ d q=>mul_int q d.ok
def R6:jQ X (binaryOp .FloorDiv) (rI P' λi j=>.int (i/j)):=r9 λi j _ _ _ _ _ d q=>by have g:(0:Int)<j:=d.1;have l:j<1073741824:=d.2;exact floordiv_int (by lia) (by rw[Int.fdiv_eq_ediv_of_nonneg i (by lia)];exact q) (.inl (PyProof.noPylong_small (by lia)))
def YT:jQ X (binaryOp .Mod) (rI (λ_ j=>0<j) λi j=>.int (i%j)):=r9 λi j _ _ _ _ _ d q=>by have g:(0:Int)<j:=d;exact mod_int' (by lia) (by rw[Int.fmod_eq_emod_of_nonneg i (by lia)];exact q)
def unI{f:Value->Sem Value}{g:Int->Int}(rule:∀(i:Int)(t:Tok)(s:bv)(Q:dC)(E:dC),Q (.int (g i) s.toks) {s with toks:=s.toks+1}->bb (bn X.prog X.w) X.A (f (.int i t)) Q E s):Wx X f (rU λi=>.int (g i)):=by intro am s σ H x v Q I R h;obtain⟨i,rfl,q⟩:=h;obtain⟨t,rfl⟩:=R;exact rule i t s _ _ ⟨.int (g i),H,I.tok _,⟨_,rfl⟩,q⟩
def Oz:Wx X (unaryOp .USub) (rU λi=>.int (-i)):=unI λ_ _ _ _ _ q=>neg_int q
noncomputable def ag8:V->V->Bool|.non,.non=>J|.non,.int _=>J|.int _,.non=>J|.non,.bl _=>J|.bl _,.non=>J|.non,.str _=>J|.str _,.non=>J|.int _,.int _=>J|.bl _,.bl _=>J|.str _,.str _=>J|.JE _,.JE _=>J|.int _,.str _=>J|.str _,.int _=>J|.bl _,.str _=>J|.str _,.bl _=>J|_,_=>a7
def rNe:R2:=λx y H Q=>ag8 x y=J/\Q (.bl !decide (x=y)) H
def Qn{i j:Int}:decide (V.int i=V.int j)=(i==j):=by rw[dG];simp
def Xa{i j:Bool}:decide (V.bl i=V.bl j)=(i==j):=by rw[dG];simp
def Qo{i j:Str}:decide (V.str i=V.str j)=(i==j):=by rw[dG];simp
def Qm{i j:Array UInt8}:decide (V.JE i=V.JE j)=(i.toList==j.toList):=by rw[dG];cases i;cases j;simp
def fR{Q:VK}{k d:Bool}(I:Inv X am σ H s)(q:Q (.bl k) H)(e:k=d):EP X am σ Q (.bool d) s:=by subst e;exact⟨.bl k,H,I,rfl,q⟩
def abM:jQ X (compareOp .NotEq) rNe:=by intro am s σ H x y v u Q I g R h;obtain⟨d,q⟩:=h;cases x with
 |non=>cases g;cases y with|non=>cases R;exact PySem.EqNone.ne_none_none (fR I q (by simp))|bl j=>cases R;exact PySem.EqNone.ne_none_bool (fR I q (by simp))|int j=>obtain⟨t',rfl⟩:=R;exact PySem.EqNone.ne_none_int (fR I q (by simp))|str j=>obtain⟨t',rfl⟩:=R;exact PySem.EqNone.ne_none_str (fR I q (by simp))|_=>exact absurd (show a7=J from d) aK
 |bl i=>cases g;cases y with|non=>cases R;exact PySem.EqNone.ne_bool_none (fR I q (by simp))|bl j=>cases R;exact ne_bool (fR I q (bU not Xa))|str j=>obtain⟨t',rfl⟩:=R;exact PySem.EqMixed.ne_bool_str (fR I q (by simp))|_=>exact absurd (show a7=J from d) aK
 |int i=>obtain⟨t,rfl⟩:=g;cases y with|non=>cases R;exact PySem.EqNone.ne_int_none (fR I q (by simp))|int j=>obtain⟨t',rfl⟩:=R;exact ne_int (fR I q (bU not Qn))|str j=>obtain⟨t',rfl⟩:=R;exact PySem.EqMixed.ne_int_str (fR I q (by simp))|_=>exact absurd (show a7=J from d) aK
 |str i=>obtain⟨t,rfl⟩:=g;cases y with|non=>cases R;exact PySem.EqNone.ne_str_none (fR I q (by simp))|bl j=>cases R;exact PySem.EqMixed.ne_str_bool (fR I q (by simp))|int j=>obtain⟨t',rfl⟩:=R;exact PySem.EqMixed.ne_str_int (fR I q (by simp))|str j=>obtain⟨t',rfl⟩:=R;exact ne_str (fR I q (bU not Qo))|_=>exact absurd (show a7=J from d) aK
 |JE i=>obtain⟨t,rfl⟩:=g;cases y with|JE j=>obtain⟨t',rfl⟩:=R;exact PySem.W.ne_bytes (fR I q (bU not Qm))|_=>exact absurd (show a7=J from d) aK
 |_=>cases y<;>exact absurd (show a7=J from d) aK
def abL:jQ X (compareOp .Lt) (Jc λi j=>.bl (decide (i<j))):=YM λ_ _ _ _ _ _ _ q=>lt_int q
def abK:jQ X (compareOp .LtE) (Jc λi j=>.bl (decide (i<=j))):=YM λ_ _ _ _ _ _ _ q=>le_int q
def abJ:jQ X (compareOp .Gt) (Jc λi j=>.bl (decide (j<i))):=YM λ_ _ _ _ _ _ _ q=>gt_int q
def IF:jQ X (compareOp .In) λx y H Q=>∃i j,x=.str i/\y=.str j/\Q (.bl !(ab3 j i 0 j.length 1).isEmpty) H:=by intro am s σ H x y v u Q I R d h;obtain⟨i,j,rfl,rfl,q⟩:=h;obtain⟨t,rfl⟩:=R;obtain⟨t',rfl⟩:=d;exact in_str (fR I q rfl)
def jQ.or(h:jQ X f r)(h':jQ X f r'):jQ X f λx y H Q=>r x y H Q\/r' x y H Q:=by
 intro am s σ H x y v u Q I R d q;rcases q with q|q;·exact h am s σ H x y v u Q I R d q
 ·exact h' am s σ H x y v u Q I R d q
def Mi(b:Expr)(h:autoParam (op≠.In) P3)(d:autoParam (op≠.NotIn) P3):gb op b=false:=by
 have g:(op==CmpOp.In)=false:=by cases op<;>first|rfl|exact absurd rfl h
 have l:(op==CmpOp.NotIn)=false:=by cases op<;>first|rfl|exact absurd rfl d
 cases b<;>simp[gb,g,l]
def Sf(d:jQ X (compareOp op) r)(g:PE X a ta)(l:PE X b tb)(z:gb op b=a7):PE X (.Compare a [op] [b] pos) (Q_ r ta tb):=by intro am s σ H Q I h;exact wpAny_Compare1 (WG g l I h λv u s2 x y B F R G q=>d am s2 σ B x y v u Q F R G q) z
def V5(t:TE):TT:=λσ H Q=>t σ H λx H'=>∃k,x=.bl k/\Q k H'
def uc(d:jQ X (compareOp op) r)(g:PE X a ta)(l:PE X b tb)(q:gb op b=a7):PT X (.Compare a [op] [b] pos) (V5 (Q_ r ta tb)):=by intro am s σ H Q I h;refine ur (dh (g am s σ H _ I h) λv s1 ⟨x,B,F,R,G⟩=>dh (l am s1 σ B _ F G) λu s2 ⟨y,L,S,T,U⟩=>dh (d am s2 σ L x y v u _ S R T U) λc s3 z=>?_) q;obtain⟨z,W,Y,Z,k,e,q3⟩:=z;subst e;cases Z;exact d8 ⟨W,Y,q3⟩
def Oa(r r':R2)(ta tb tc:TE):TE:=λσ H Q=>ta σ H λx g=>tb σ g λy l=>r x y l λz d=>∃k,z=.bl k/\if k=J then tc σ d λW q=>r' y W q Q else Q (.bl a7) d
def MO{g:CmpOp}(F:jQ X (compareOp op) r)(G:jQ X (compareOp g) r')(L:PE X a ta)(S:PE X b tb)(T:PE X c tc)(U:lastMarks [op,g] [b,c]=false:=by with_unfolding_all rfl):PE X (.Compare a [op,g] [b,c] pos) (Oa r r' ta tb tc):=by intro am s σ H Q I h;refine Compare_chain (dh (L am s σ H _ I h) λv s1 ⟨x,W,Y,Z,q1⟩=>chain_link (dh (S am s1 σ W _ Y q1) λu s2 ⟨y,H2,I2,R,q2⟩=>dh (F am s2 σ H2 x y v u _ I2 Z R q2) λd s3 z=>?_)) U;obtain⟨z,l,q,r3,k,e,B⟩:=z;subst e;cases r3;refine d8 ?_;cases k with|false=>exact ite_ff ⟨.bl a7,l,q,rfl,B⟩|true=>exact ite_tt (chain_last (dh (T am s3 σ l _ q B) λw' s4 ⟨z',H4,I4,r4,q4⟩=>G am s4 σ H4 y z' u w' Q I4 R r4 q4))
def rO:(sizeLine:Nat)<2^63:=by rw[Jz];decide
def Ec:jQ X (binaryOp .Add) λx y H Q=>∃i j,x=.str i/\y=.str j/\i.length+j.length<=sizeLine/\Q (.str (i++j)) H:=by intro am s σ H x y v u Q I R d h;obtain⟨i,j,rfl,rfl,z,q⟩:=h;obtain⟨t,rfl⟩:=R;obtain⟨t',rfl⟩:=d;exact add_str (λt' T=>⟨.str (i++j),H,I.tok _,⟨_,rfl⟩,q⟩) z
def pM{x:V}(r:Vals [x] us):∃u,us=[u]/\RelV x u:=by cases r with|cons R d=>cases d;exact⟨_,rfl,R⟩
def acZ{x:V}(r:Vals [x,y] us):∃u w',us=[u,w']/\RelV x u/\RelV y w':=by cases r with|cons R d=>cases d with|cons g l=>cases l;exact⟨_,_,rfl,R,g⟩
def HE(g:X.calm):dJ X (.builtin "min") λxs H Q=>∃i j,xs=[.int i,.int j]/\Q (.int (if j<i then j else i)) H:=by
 intro am s σ H xs us Q I r h;obtain⟨i,j,rfl,q⟩:=h;obtain⟨u,W,rfl,⟨t,rfl⟩,⟨t',rfl⟩⟩:=acZ r;refine min_two_ints (I.ok.hd g) λh' T k=>⟨_,H,I.kept k,?_,q⟩;by_cases d:j<i;·rw[bx d,bx d];exact⟨_,rfl⟩
 ·rw[bE d,bE d];exact⟨_,rfl⟩
def Hy:dJ X (.type "int") λxs H Q=>(∃i,xs=[.int i]/\Q (.int i) H)\/∃k,xs=[.bl k]/\Q (.int (if k then 1 else 0)) H:=by
 intro am s σ H xs us Q I r h;rcases h with ⟨i,rfl,q⟩|⟨k,rfl,q⟩;·obtain⟨u,rfl,t,rfl⟩:=pM r;exact call_int_int ⟨.int i,H,I,⟨_,rfl⟩,q⟩
 ·obtain⟨u,rfl,R⟩:=pM r;cases R;exact call_int_bool ⟨.int (if k then 1 else 0),H,I.tok _,⟨_,rfl⟩,q⟩
def yw:dJ X (.type "str") λxs H Q=>∃i,xs=[.int i]/\i.natAbs.log2<1920/\Q (.str (toString i)) H:=by intro am s σ H xs us Q I r h;obtain⟨i,rfl,z,q⟩:=h;obtain⟨u,rfl,t,rfl⟩:=pM r;exact PySem.P.str_of_int z ⟨.str _,H,I.tok _,⟨_,rfl⟩,q⟩
end
structure CG(h:Heap)(x dx C:Addr)(mA:b'):Prop where
 obj:h.get? x=O (instObj C dx)ns:h.Ns1 dx mA
 ne:dx≠x
def Ir(n:h.Ns1 dx mA):∃od,h.get? dx=O od/\∀name,lookIn name od=O (mA name):=by
 obtain⟨o,es,L,d,g,l,_,B⟩:=n;refine⟨o,d,λname=>?_⟩;have e:=B name;unfold nsFind findBy at e;rw[<-Ag]at e;unfold lookIn;rw[g];dsimp only;split;·rename_i y q;rw[q]at e;exact bU O e
 ·rename_i q;rw[q]at e;have a:es.toList.any (·.refKey)=false:=by rw[List.any_eq_false];intro y F;obtain⟨z,t,I⟩:=l y (Array.mem_toList_iff.mp F);simp[DictEntry.refKey,I]
  have G:¬es.toList.any (·.refKey)=true:=by rw[a];exact aK
  rw[bE G];exact bU O e
def CG.look{x:Addr}(I:CG h x dx C mA):∃od,PySem.W.InstAt h x (instObj C dx) C (O od)/\∀name,lookIn name od=O (mA name):=let ⟨od,d,l⟩:=Ir I.ns;⟨od,⟨I.obj,rfl,rfl,d⟩,l⟩
section
variable{x f:Addr}{v:Value}
def QN{g:Bool}{Q:dC}(X:K.In s.heap)(I:CG s.heap x dx C mA)(q:plainGet K C name)(z:hasDictIn K C)(B:findIn K (.ref C) name=O af)(F:mA name=O v)(l:handedIn v)(h:Q v {s with toks:=s.toks+1}):bb (bn prog w) A (getAttr (.ref x) name g) Q E s:=by obtain⟨L,d,G⟩:=I.look;exact PySem.W.get_value X d (x9 q).1 (PySem.W.findObj_own z B rfl (by rw[G,F])) l h
def K3{Q:Value×List Value->bv->Prop}(X:K.In s.heap)(I:CG s.heap x dx C mA)(g:plainGet K C name)(l:findIn K (.ref C) name=O (O (.ref f)))(q:isFn K (.ref f))(z:mA name=af)(h:Q (.ref f,[.ref x]) s):bb (bn prog w) A (getMethod (.ref x) name pl) Q E s:=by obtain⟨B,d,F⟩:=I.look;exact PySem.W.method_fn X d (x9 g).1 (x9 g).2 l (kD.mp q) (by show(lookIn name B).map (·.isSome)=O a7;rw[F,z];rfl) h
def Tq{z:List Str}(X:K.In s.heap)(I:CG s.heap x dx C mA)(F:findIn K (.ref C) "__setattr__"=O (O (.builtin "object.__setattr__")))(G:plainOver K C)(L:takerIn K C name=O af)(S:hasDictIn K C)(T:ai0 mA z)(Ae:z.length<=sizeLine)(h:∀h',CG h' x dx C (λy=>if y=name then O v else mA y)->ad2 dx s.heap h'->Q () {s with heap:=h',toks:=s.toks+2}):bb (bn prog w) A (setAttr (.ref x) name v) Q E s:=by obtain⟨od,d,hl⟩:=I.look;refine PySem.W.set_plain X d F (PySem.W.osa_open (s:={s with toks:=s.toks+1}) (r:=af) X d G L λb=>?_);obtain⟨cd,U,Y⟩:=PySem.W.any_some S;have Z:s.heap.get? x=O ⟨.ref C,O dx,.plain,#[]⟩:=I.obj;refine aa (au (aa (aa (wpAny_loadPart Z (aa (Looks.here (s:={s with toks:=s.toks+1}) (PySem.W.looks_clsIn X U) ?_))))));rw[Y];refine au (a:=O dx) (aa (au (aa ?_)));refine wpAny_nsSet1 (s:={s with toks:=s.toks+1}) I.ns λh' R B=>?_;obtain⟨oD,esD,epD,g,l,q⟩:=R.count (PySem.Within.cons name v T);refine aa (wpAny_lookBehind g (by rw[l];exact pastItsLine_dict (aH q (by rw[ao];lia))) ?_);exact au (h _ ⟨(B.2 _ (bY I.ne)).trans I.obj,R,I.ne⟩ B)
def L9{R:Result->bv->Prop}{vs:List Value}(X:K.In s.heap)(l:makesIn K C)(q:findIn K (.ref C) "__init__"=O (O (.ref f)))(z:typeIn K (.ref f)=O (.type "function"))(h:eH (bn prog w) (A.under (.builtin "type.__call__" ⟨.ref C::vs,kw⟩)) (.call (.ref f) ⟨.ref (s.heap.objs.size+1)::vs,kw⟩) (PySem.W.InitBack (s.heap.objs.size+1) R) {s with heap:=(s.heap.push emptyDict).push (instObj C s.heap.objs.size)}):eH (bn prog w) A (.call (.ref C) ⟨vs,kw⟩) R s:=by obtain⟨B,g,d,t,os⟩:=s;exact PySem.W.make_core (PySem.W.makes_of X l) (PySem.W.looks_findIn X q) (λself=>PySem.W.bind_fn X self z) (.inl rfl) h
end
noncomputable def iX(f:Str)(v:V):List (Str×V)->List (Str×V)|[]=>[(f,v)]|(g,x)::r=>if g=f then(g,v)::r else(g,x)::iX f v r
theorem sE(f g:Str)(v:V):∀fs:List (Str×V),(iX f v fs).lookup g=if g=f then O v else fs.lookup g
 |[]=>by
  show af9 g [(f,v)]=_;by_cases h:g=f;·have d:(g==f)=true:=kD.mpr h;simp only[af9,d,bx h]
  ·have d:(g==f)=false:=cu.mpr h;simp only[af9,d,bE h]|(k,x)::r=>by
  have I:=sE f g v r;rw[show iX f v ((k,x)::r)=if k=f then(k,v)::r else(k,x)::iX f v r from rfl];by_cases l:k=f
  ·rw[bx l];by_cases h:g=k;·have d:(g==k)=true:=kD.mpr h;simp only[af9,d,bx (h.trans l)]
   ·have d:(g==k)=false:=cu.mpr h;simp only[af9,d,bE λe:g=f=>h (e.trans l.symm)]
  ·rw[bE l];by_cases h:g=k;·have d:(g==k)=true:=kD.mpr h;simp only[af9,d,bE λe:g=f=>l (h.symm.trans e)]
   ·have d:(g==k)=false:=cu.mpr h;simp only[af9,d];exact I
theorem rM(f:Str)(v:V):∀fs:List (Str×V),f∈(iX f v fs).map (·.1)/\∀g,g∈fs.map (·.1)->g∈(iX f v fs).map (·.1)
 |[]=>⟨by simp[iX],λg h=>by simp at h⟩|(k,x)::r=>by
  obtain⟨I,l⟩:=rM f v r;rw[show iX f v ((k,x)::r)=if k=f then(k,v)::r else(k,x)::iX f v r from rfl];by_cases d:k=f;·rw[bx d];subst d;exact⟨by simp,λg h=>by simpa using h⟩
  ·rw[bE d];refine⟨?_,λg h=>?_⟩;·rw[aY];exact aq _ I
   ·rw[aY]at h⊢;rcases aJ.mp h with e|e;·exact aJ.mpr (.inl e)
    ·exact aq _ (l g e)
theorem sD(f:Str)(v:V):∀fs:List (Str×V),(iX f v fs).length<=fs.length+1
 |[]=>by simp[iX]|(k,x)::r=>by
  have I:=sD f v r;rw[show iX f v ((k,x)::r)=if k=f then(k,v)::r else(k,x)::iX f v r from rfl];by_cases d:k=f;·rw[bx d,ao,ao];lia
  ·rw[bE d,ao,ao];lia
def oq.some_of{o:Option Value}(r:oq (O v) o):∃u,o=O u/\RelV v u:=by cases o with|none=>exact(show False from r).elim|some u=>exact⟨u,rfl,r⟩
def oq.none_of{o:Option Value}(r:oq af o):o=none:=by cases o with|none=>rfl|some u=>exact(show False from r).elim
def HY(r:RelV v u):handedIn u=true:=by cases v with|non=>cases show u=ab1 from r;rfl|bl b=>cases show u=ad0 b from r;rfl|int i=>obtain⟨t,e⟩:=show ∃t,u=ag3 i t from r;cases e;rfl|str x=>obtain⟨t,e⟩:=show ∃t,u=ah2 x t from r;cases e;rfl|JE b=>obtain⟨t,e⟩:=show ∃t,u=Value.bytes b t from r;cases e;rfl|QF b=>obtain⟨t,e⟩:=show ∃t,u=Value.float b t from r;cases e;rfl|ref a=>cases show u=ab0 a from r;rfl|ty n=>cases show u=af3 n from r;rfl
section
variable{fs yP:List (Str×V)}
def tU(g:kZ P w H h)(e:H a=O (.ins C dx fs)):∃mA,CG h a dx C mA/\(∀f,oq (fs.lookup f) (mA f))/\ai0 mA (fs.map (·.1))/\fs.length<=1000/\H dx=O (.own a):=by obtain⟨d,z,l,B,mA,n,r,q⟩:=show eB P w H h a (.ins C dx fs)from g a _ e;exact⟨mA,⟨B,n,l⟩,r,q,z,d⟩
end
structure ET(K:Frag)(C:Addr):Prop where
 pg:plainGet K C Str.empty=J
 hd:hasDictIn K C=J
 po:plainOver K C=J
 sa:findIn K (.ref C) "__setattr__"=O (O (.builtin "object.__setattr__"))
def ET.get(c:ET K C)(f:Str):plainGet K C f=true:=c.pg
def lr(K:Frag)(C:Addr)(f:Str):Prop:=findIn K (.ref C) f=O af
def lr.acR{f:Str}(n:lr K C f):takerIn K C f=O none:=by unfold takerIn;rw[show findIn K (.ref C) f=O af from n];rfl
structure Pu(K:Frag)(C:Addr)(m:Str)(f:Addr):Prop where
 at_:findIn K (.ref C) m=O (O (.ref f))fn:isFn K (.ref f)=J
 kp:keepIn K (.ref f)=J
section
variable{fs:List (Str×V)}{f:Str}
def u0{b:Bool}{Q:dC}(I:Inv X am σ H s)(e:H a=O (.ins C dx fs))(c:ET X.K C)(n:lr X.K C f)(l:fs.lookup f=O v)(h:∀u s',Inv X am σ H s'->RelV v u->Q u s'):bb (bn X.prog X.w) A (getAttr (.ref a) f b) Q E s:=by obtain⟨mA,d,r,_,_,_⟩:=tU I.di e;obtain⟨u,hu,R⟩:=oq.some_of (v:=v) (o:=mA f) (by rw[<-l];exact r f);exact QN I.l9 d (c.get f) c.hd n hu (HY R) (h u _ (I.tok _) R)
def DF{g:Addr}{Q:Value×List Value->bv->Prop}(I:Inv X am σ H s)(e:H a=O (.ins C dx fs))(c:ET X.K C)(k:Pu X.K C m g)(l:fs.lookup m=af)(h:Q (.ref g,[.ref a]) s):bb (bn X.prog X.w) A (getMethod (.ref a) m pl) Q E s:=by obtain⟨mA,d,r,_,_,_⟩:=tU I.di e;have hn:mA m=none:=oq.none_of (by rw[<-l];exact r m);exact K3 I.l9 d (c.get m) k.at_ k.fn hn h
def vI(I:Inv X am σ H s)(e:H a=O (.ins C dx fs))(c:ET X.K C)(n:lr X.K C f)(Y:fs.length<1000)(R:RelV y u)(h:∀s',Inv X am σ (cQ H a (.ins C dx (iX f y fs))) s'->Q () s'):bb (bn X.prog X.w) A (setAttr (.ref a) f u) Q E s:=by
 obtain⟨mA,d,r,W,_,B⟩:=tU I.di e;have F:(fs.map (·.1)).length<=sizeLine:=by rw[ak,Jz];lia
 refine Tq I.l9 d c.sa c.po n.acR c.hd W F λh' l S=>h _ ?_;have G:∃o,h'.get? dx=O o:=let ⟨o,_,_,L,_⟩:=l.ns;⟨o,L⟩;refine I.write (x:=a) (e:=dx) (by rw[e];exact af2) (.inr B) (λb q T z=>(S.2 b T).trans z) G ?_;refine⟨by rw[bC d.ne];exact B,?_,d.ne,l.obj,_,l.ns,λg=>?_,λg U=>?_⟩;·have:=sD f y fs;lia
 ·show oq ((iX f y fs).lookup g) (if g=f then O u else mA g);rw[sE];by_cases q:g=f;·rw[bx q,bx q];exact R
  ·rw[bE q,bE q];exact r g
 ·by_cases q:g=f;·rw[q];exact(rM f y fs).1
  ·refine(rM f y fs).2 g (W g λz=>U ?_);show(if g=f then O u else mA g)=af;rw[bE q];exact z
def Inv.made(I:Inv X am σ H s):Inv X am σ (cQ (cQ H s.heap.objs.size (.own (s.heap.objs.size+1))) (s.heap.objs.size+1) (.ins C s.heap.objs.size [])) {s with heap:=(s.heap.push emptyDict).push (instObj C s.heap.objs.size)}:=by
 have d:(s.heap.push emptyDict).get? s.heap.objs.size=O emptyDict:=aU s.heap rfl;have l:((s.heap.push emptyDict).push (instObj C s.heap.objs.size)).get? (s.heap.objs.size+1)=O (instObj C s.heap.objs.size):=by have:=aU (s.heap.push emptyDict) (o:=instObj C s.heap.objs.size) rfl;rwa[fJ]at this
 have z:(s.heap.push emptyDict).Ns s.heap.objs.size λ_=>af:=⟨emptyDict,#[],_,d,rfl,λe B=>absurd B (by simp),λ_=>rfl⟩;have F:=I.laid (a:=s.heap.objs.size) (o:=.own (s.heap.objs.size+1)) (h':=s.heap.push emptyDict) (t':=s.toks) (λb u q=>aj _ q) (aB _) ⟨_,d⟩;refine F.laid (a:=s.heap.objs.size+1) (o:=.ins C s.heap.objs.size []) (t':=s.toks) (λb u q=>aj _ q) (mG (fJ _ _)) ?_;have g:s.heap.objs.size≠s.heap.objs.size+1:=bu (eG _);refine⟨by rw[bC g,bF],bG _,g,l,λ_=>af,(Heap.Ns1.of_empty z).at λo q=>aj _ q,λ_=>af2,λy G=>absurd rfl G⟩
def PF{env:Env}{f:Str}{Q:dC}(d:ge e f env (eval e env)=eval e env)(h:bb (bn prog w) A (eval e env) (λo S=>bb (bn prog w) A (getAttr o f J) Q E S) E s):bb (bn prog w) A (eval (.Attribute e f pos) env) Q E s:=Attribute_any_ h (by rw[arm_eval_Attribute,d])
end
def ahf(K:Frag)(ta:TE)(f:Str):TE:=λσ H Q=>ta σ H λx d=>∃a C dx fs v,x=.ref a/\d a=O (.ins C dx fs)/\ET K C/\lr K C f/\fs.lookup f=O v/\Q v d
def AT(K:Frag)(ta T:TE)(f:Str):TS:=λD σ H=>T σ H λy g=>ta σ g λx d=>∃a C dx fs,x=.ref a/\d a=O (.ins C dx fs)/\ET K C/\lr K C f/\fs.length<1000/\D.nx σ (cQ d a (.ins C dx (iX f y fs)))
def W'(X:Cx)(op:Operator)(rd:V->V->Hp->VK->Prop):Prop:=∀(am:ce)(s:bv)(σ:tSt)(H:Hp)(x y:V)(u v:Value)(Q:VK),Inv X am σ H s->RelV x u->RelV y v->rd x y H Q->bb (bn X.prog X.w) X.A (inplaceOp op u v) (EP X am σ Q) X.xe s
def GA(K:Frag)(ta T:TE)(rd:V->V->Hp->VK->Prop)(f:Str):TS:=λD σ H=>ta σ H λx g=>∃a C dx fs v,x=.ref a/\g a=O (.ins C dx fs)/\ET K C/\lr K C f/\fs.lookup f=O v/\T σ g λy q=>rd v y q λz l=>∃d Y,l a=O (.ins C d Y)/\Y.length<1000/\D.nx σ (cQ l a (.ins C d (iX f z Y)))
section
variable{o value:Expr}{f:Str}{BY:Pos}{tv:TE}
def Y4(d:PE X e ta)(g:ge e f X.env (eval e X.env)=eval e X.env):PE X (.Attribute e f pos) (ahf X.K ta f):=by intro am s σ H Q I h;refine PF g (dh (d am s σ H _ I h) λu s1 x=>?_);obtain⟨x,z,B,R,a,C,dx,fs,v,ex,F,c,n,l,q⟩:=x;subst ex;obtain rfl:u=ab0 a:=R;exact u0 B F c n l λU s2 G L=>⟨v,z,G,L,q⟩
def Zq(d:PE X o ta)(g:PE X value tv)(z:gZ value (O (.Attribute o f pos')) pos.line X.env=pure a7):PS X (.Assign [.Attribute o f pos'] value pos) (AT X.K ta tv f):=by intro am s σ H D I h;refine plainObj_wpAny_Assign_Attribute (dh (g am s σ H _ I h) λu s1 ⟨y,B,F,R,q⟩=>dh (d am s1 σ B _ F q) λG s2 x=>?_) z;obtain⟨x,Y,L,S,a,C,dx,fs,ex,T,c,n,l,U⟩:=x;subst ex;obtain rfl:G=ab0 a:=S;exact vI L T c n l R λZ W=>⟨σ,_,W,U⟩
def IV{op:Operator}{rd:V->V->Hp->VK->Prop}(g:PE X o ta)(B:PE X value tv)(G:W' X op rd):PS X (.AugAssign (.Attribute o f BY) op value pos) (GA X.K ta tv rd f):=by intro am s σ H D I h;refine wpAny_AugAssign_AttributeAny (dh (g am s σ H _ I h) λF s1 x=>?_);obtain⟨x,L,R,S,a,C,dx,fs,v,ex,T,c,n,l,q⟩:=x;subst ex;obtain rfl:F=ab0 a:=S;refine u0 R T c n l λu s2 U W=>dh (B am s2 σ L _ U q) λY Z ⟨y,H2,I3,ry,q3⟩=>dh (G am Z σ H2 v y u Y _ I3 W ry q3) λw4 s4 z=>?_;obtain⟨z,H3,I4,rz,dx',yP,d,l',q4⟩:=z;exact vI I4 d c n l' rz λs5 I5=>⟨σ,_,I5,q4⟩
def QO:V->V->Hp->VK->Prop:=λx y H Q=>∃i j,x=.int i/\y=.int j/\Q (.int (i+j)) H
def XS:W' X .Add QO:=by rintro am s σ H x y u v Q I R d ⟨i,j,rfl,rfl,q⟩;obtain⟨t,rfl⟩:=show ∃t,u=ag3 i t from R;obtain⟨t',rfl⟩:=show ∃t',v=ag3 j t' from d;exact PyProof.Rows.iadd_int ⟨.int (i+j),H,I.tok _,⟨_,rfl⟩,q⟩
end
section
variable{Q:dC}{c:Value}{b:Bool}
inductive rm(K:Frag)(H:Hp):V->Value->Prop where|non:rm K H .non (.type "NoneType")|bl(x:Bool):rm K H (.bl x) (.type "bool")|int(i:Int):rm K H (.int i) (.type "int")|str(x:Str):rm K H (.str x) (.type "str")|QF(x:UInt64):rm K H (.QF x) (.type "float")|lst{a:Addr}{xs:List V}(e:H a=O (.lst xs)):rm K H (.ref a) (.type "list")|DE{a:Addr}{o:Obj}{xs:List V}(e:H a=O (.DE o (.lst xs))):rm K H (.ref a) (.type "list")|tup{a:Addr}{xs:List V}(e:H a=O (.tup xs)):rm K H (.ref a) (.type "tuple")|dK{a:Addr}{bK:List (b8×V)}(e:H a=O (.dK bK)):rm K H (.ref a) (.type "dict")|dT{a:Addr}{bK:List (List b8×V)}(e:H a=O (.dT bK)):rm K H (.ref a) (.type "dict")|ins{a C dx:Addr}{fs:List (Str×V)}(e:H a=O (.ins C dx fs))(cl:ET K C)(ha:findIn K (.ref C) "__class__"=O (O (.builtin "object.__class__")))(hn:specialIn K (.builtin "object.__class__") "__get__"=O (O (.builtin "getset_descriptor.__get__")))(htk:takesIn K (.builtin "object.__class__")=O J)(hm:mroIn K C (.type "object")=O J):rm K H (.ref a) (.ref C)
def Il{x:V}{t:Value}(I:Inv X am σ H s)(R:RelV x u)(ty:rm X.K H x t)(e:kitOne X.K t c=O b)(h:∀T,Q (.bool b) {s with toks:=T}):bb (bn X.prog X.w) A (call (.builtin "isinstance") [u,c]) Q E s:=by cases ty with|non=>cases show u=ab1 from R;exact cE PySem.W.kitx_none I.l9 af2 e (λz=>nomatch z) h|bl y=>cases show u=ad0 y from R;exact cE PySem.W.kitx_bool I.l9 af2 e (λz=>nomatch z) h|int i=>obtain⟨t,q⟩:=show ∃t,u=ag3 i t from R;cases q;exact cE PySem.W.kitx_int I.l9 af2 e (λz=>nomatch z) h|str y=>obtain⟨t,q⟩:=show ∃t,u=ah2 y t from R;cases q;exact cE PySem.W.kitx_str I.l9 af2 e (λz=>nomatch z) h|QF y=>obtain⟨t,q⟩:=show ∃t,u=Value.float y t from R;cases q;exact cE PySem.W.kitx_float I.l9 af2 e (λz=>nomatch z) h|@lst a xs l=>cases show u=ab0 a from R;obtain⟨_,_,n,_,B⟩:=show eB X.prog X.w H s.heap a (.lst xs)from I.di a _ l;exact cE PySem.W.kitx_list I.l9 ⟨_,B,rfl⟩ e (λz=>nomatch z) h|@DE a S xs l=>cases show u=ab0 a from R;obtain⟨_,_,_,n,_,B⟩:=show eB X.prog X.w H s.heap a (.DE S (.lst xs))from I.di a _ l;exact cE PySem.W.kitx_list I.l9 ⟨_,B,rfl⟩ e (λz=>nomatch z) h|@tup a xs l=>cases show u=ab0 a from R;obtain⟨_,_,_,p⟩:=show eB X.prog X.w H s.heap a (.tup xs)from I.di a _ l;obtain⟨o,B,F,_⟩:=p;exact cE PySem.W.kitx_tuple I.l9 ⟨o,B,F⟩ e (λz=>nomatch z) h|@dK a G l=>cases show u=ab0 a from R;obtain⟨_,_,vs,_,p⟩:=show eB X.prog X.w H s.heap a (.dK G)from I.di a _ l;obtain⟨o,es,U,B,F,_⟩:=p;exact cE PySem.W.kitx_dict I.l9 ⟨o,B,F.1⟩ e (λz=>nomatch z) h|@dT a G l=>cases show u=ab0 a from R;obtain⟨_,_,xs,_,o,es,U,B,F,_⟩:=show eB X.prog X.w H s.heap a (.dT G)from I.di a _ l;exact cE PySem.W.kitx_dict I.l9 ⟨o,B,F.1⟩ e (λz=>nomatch z) h|@ins a C dx fs l cl Y hn L Z=>cases show u=ab0 a from R;obtain⟨mA,g,_⟩:=tU I.di l;obtain⟨od,d,_⟩:=g.look;exact cE (PySem.W.kitx_own (cl.get _) cl.hd Y hn L Z) I.l9 d e (λz=>nomatch z) h
end
structure dQ(k:Nat)(A:cr):Prop where
 hd:A.handled=af
 dp:A.depth+3*k+5<recursionLimit
 un:A.units+16*k+200<cLine
def dQ.mono(r:dQ k A)(h:j<=k):dQ j A:=⟨r.hd,by have:=r.dp;lia,by have:=r.un;lia⟩
theorem dQ.deeper(r:dQ (k+1) A)(env:Env):dQ k (A.deeper env):=⟨r.hd,by have:=r.dp;show A.depth+1+3*k+5<_;lia,by have:=r.un;show A.units+3+16*k+200<_;lia⟩
def DW:(A.under (.builtin "type.__call__" ⟨.ref C::us,kw⟩)).depth=A.depth+1:=by first|rfl|simp[Around.under,Code.weight,Code.isCreation,Code.isGuard,Code.isCaller,Code.frames,Code.isFrame,guardIds]
def DY:(A.under (.builtin "type.__call__" ⟨.ref C::us,kw⟩)).units=A.units+1:=by first|rfl|simp[Around.under,Code.cUnits,Code.frames,Code.isFrame]
def dQ.make(r:dQ (k+1) A)(C:Addr)(us:List Value)(kw:List (Str×Value)):dQ k (A.under (.builtin "type.__call__" ⟨.ref C::us,kw⟩)):=⟨r.hd,by have:=r.dp;rw[DW];lia,by have:=r.un;rw[DY];lia⟩
theorem dQ.depth(r:dQ k A):A.depth<recursionLimit:=by have:=r.dp;lia
theorem dQ.units(r:dQ k A):A.units+64<cLine:=by have:=r.un;lia
def BX:TA:=λ_ H Q=>Q [] H
def GS(ta:TE)(tr:TA):TA:=λσ H Q=>ta σ H λx d=>tr σ d λxs g=>Q (x::xs) g
def dF:PA X [] BX:=λ_ _ _ _ H Q I h=>Cq ⟨[],H,I,.nil,h⟩
def Ge(d:PE X e te)(g:PA X es t)(l:autoParam (ci (e::es) X.env=(a7,eval e X.env)::ci es X.env) o0):PA X (e::es) (GS te t):=by intro pos am s σ H Q I h;rw[l];show bb _ _ (spliced ((a7,eval e X.env)::db pos (ci es X.env))) _ _ s;refine Ai (dh (d am s σ H _ I h) λu s1 x=>?_);obtain⟨x,q,z,R,B⟩:=x;exact dh (g pos am s1 σ q _ z B) λus s2 ⟨xs,F,G,L,S⟩=>⟨x::xs,F,G,.cons R L,S⟩
def xz(t:TA):TE:=λσ H Q=>t σ H λxs d=>xs.length<=sizeLine/\∀p,d p=af->Q (.ref p) (cQ d p (.tup xs))
def TR(t:TA):TE:=λσ H Q=>t σ H λxs d=>xs.length<=sizeLine/\∀p,d p=af->Q (.ref p) (cQ d p (.lst xs))
def Ei{l}(h:PA X es t):PE X (.Tuple es l pos) (xz t):=by intro am s σ H Q I B;refine wpAny_Tuple_spliced (dh (h pos am s σ H _ I B) λus s1 ⟨xs,d,g,r,z,q⟩=>⟨by rw[<-r.length];exact z,?_⟩);have F:d s1.heap.objs.size=none:=g.di.fresh (aB _);refine⟨.ref s1.heap.objs.size,cQ d s1.heap.objs.size (.tup xs),g.laid (t':=s1.toks) (λb u e=>aj _ e) (aB _) ?_,rfl,q _ F⟩;exact⟨z,us,r,⟨_,aU _ rfl,rfl,_,rfl⟩⟩
def rR(h:PA X es t):PE X (.List es pos) (TR t):=by intro am s σ H Q I l;refine wpAny_List_spliced (dh (h pos am s σ H _ I l) λus s1 ⟨xs,d,g,r,z,q⟩=>⟨by rw[<-r.length];exact z,?_⟩);have B:d s1.heap.objs.size=none:=g.di.fresh (aB _);refine⟨.ref s1.heap.objs.size,cQ d s1.heap.objs.size (.lst xs),g.laid (t':=s1.toks) (λb u e=>aj _ e) (aB _) ?_,rfl,q _ B⟩;exact⟨z,us,0,r,aU _ rfl⟩
abbrev Sp:=List V->Hp->VK->XK->Prop
abbrev xg:=List Env->Hp->bv->XK->Value->bv->Prop
structure An(P:cf)(w:b7)(K:Frag)(mg:b')(base:Heap)(A:cr)(outer:List Env)(s:bv)(H:Hp):Prop where
 frames:A.frames=O outer
 mod:Mod K mg base
 bs:∀b o,base.get? b=O o->s.heap.get? b=O o/\H b=af
 Cd:base.objs.size<=s.heap.objs.size
 kq:s.heap.FunFrames base outer
 HV:∀b∈oF outer,H b=af
 di:kZ P w H s.heap
 bare:AllBare s.gens
def CE(outer:List Env)(P:cf)(w:b7)(H:Hp)(s:bv)(Q:VK)(u:Value)(s':bv):Prop:=∃v H',s'.os=s.os/\AllBare s'.gens/\Un (oF outer) [] H H' s.heap s'.heap/\kZ P w H' s'.heap/\RelV v u/\Q v H'
def CR(CX:xg)(outer:List Env)(P:cf)(w:b7)(H:Hp)(s:bv)(Q:VK)(E:XK)(r:Result)(s':bv):Prop:=match r with|.ok (.ret u)=>CE outer P w H s Q u s'|.ok _=>False|.error e=>CX outer H s E e s'
structure je(P:cf)(w:b7)(K:Frag)(mg:b')(base:Heap)(CX:xg)(k:Nat)(f:Addr)(fd:dL)(ps:List Str)(sp:Sp):Prop where
 len:∀vs H Q E,sp vs H Q E->vs.length=ps.length
 run:∀(A:cr)(outer:List Env)(s:bv)(H:Hp)(args:Args)(us:List Value)(vs:List V)(Q:VK)(E:XK),dQ k A->An P w K mg base A outer s H->BindsTo s fd args (ps.zip us)->Vals vs us->sp vs H Q E->eH (bn P w) A (.call (.ref f) args) (CR CX outer P w H s Q E) s
theorem je.mono{f:Addr}(F:je P w K mg base CX j f fd ps sp)(h:j<=k):je P w K mg base CX k f fd ps sp:=⟨F.len,λA outer s H args us vs Q E d=>F.run A outer s H args us vs Q E (d.mono h)⟩
def je.imp{f:Addr}{ZR:Sp}(F:je P w K mg base CX k f fd ps sp)(h:∀vs H Q E,ZR vs H Q E->sp vs H Q E):je P w K mg base CX k f fd ps ZR:=⟨λvs H Q E q=>F.len vs H Q E (h _ _ _ _ q),λA outer s H args us vs Q E d g l z B=>F.run A outer s H args us vs Q E d g l z (h _ _ _ _ B)⟩
def An.make(e:An P w K mg base A outer s H)(C:Addr)(us:List Value)(kw:List (Str×Value)):An P w K mg base (A.under (.builtin "type.__call__" ⟨.ref C::us,kw⟩)) outer s H:=⟨by first|exact e.frames|(simpa[Around.under,Code.envs,Code.isFrame,pushEnvs]using e.frames),e.mod,e.bs,e.Cd,e.kq,e.HV,e.di,e.bare⟩
def Inv.Xf(I:Inv X am σ H s):An X.prog X.w X.K X.mg X.base X.A X.stack s H:=⟨I.ok.frames,I.ok.mod,I.bs,aH I.ok.Cd I.sz,I.stack,I.qF,I.di,I.bare⟩
def Inv.after{Q:VK}(I:Inv X am σ H s)(h:CE X.stack X.prog X.w H s Q u s'):EP X am σ Q u s':=by obtain⟨v,H',os,B,un,F,r,q⟩:=h;obtain⟨G,g,d,t,l⟩:=s';obtain rfl:l=s.os:=os;exact⟨v,H',I.call (h':=G) (g':=g) (d':=d) (t':=t) (ch:=[]) un F B λb z=>absurd z (by simp),r,q⟩
def N8(sp:Sp)(W:List V)(E:XK)(t:TA):TE:=λσ H Q=>t σ H λvs d=>sp (vs++W) d Q E
def Od(C:Addr)(m:Str)(sp:Sp)(W:List V)(E:XK)(ta:TE)(t:TA):TE:=λσ H Q=>ta σ H λx d=>∃a dx fs,x=.ref a/\d a=O (.ins C dx fs)/\fs.lookup m=af/\t σ d λvs g=>sp (x::(vs++W)) g Q E
def GU(C:Addr)(sp:Sp)(W:List V)(E:XK)(t:TA):TE:=λσ H Q=>t σ H λvs d=>∀x dx,d x=af->d dx=af->dx≠x->sp (.ref x::(vs++W)) (cQ (cQ d dx (.own x)) x (.ins C dx [])) (λv g=>v=.non/\Q (.ref x) g) E
def Binds(K:Frag)(fd:dL)(ps:List Str)(ds:List Value):Prop:=∀(s:bv)(us:List Value),K.In s.heap->(us++ds).length=ps.length->BindsTo s fd ⟨us,[]⟩ (ps.zip (us++ds))
def Binds.all(h:∀us:List Value,us.length=ps.length->bindArgs fd ⟨us,[]⟩=pure (ps.zip us)):Binds K fd ps []:=λs us _ l=>by rw[aM]at l⊢;exact .of_eq (h us l)
def eu(CX:xg)(X:Cx)(E:XK):Prop:=∀(am:ce)(σ:tSt)(H:Hp)(s:bv)(e:Value)(s':bv),Inv X am σ H s->CX X.stack H s E e s'->X.xe e s'
section
variable{f:Addr}{wg:List V}{ds:List Value}{E:XK}{o:Expr}
def zD{Q:VK}(F:je X.prog X.w X.K X.mg X.base CX k f fd ps sp)(d:dQ k X.A)(g:Binds X.K fd ps ds)(l:Vals wg ds)(z:eu CX X E)(I:Inv X am σ H s)(r:Vals vs us)(h:sp (vs++wg) H Q E):bb (bn X.prog X.w) X.A (call (.ref f) us) (EP X am σ Q) X.xe s:=by
 have R:Vals (vs++wg) (us++ds):=r.append l;have B:(us++ds).length=ps.length:=by rw[<-R.length];exact F.len _ _ _ _ h
 refine sS (jY (F.run X.A X.stack s H ⟨us,[]⟩ (us++ds) (vs++wg) Q E d I.Xf (g s us I.l9 B) R h) λr s' q=>?_);cases r with|error e=>exact z am σ H s e s' I q|ok G=>cases G with|ret u=>exact I.after q|next=>exact ac8 q|brk=>exact ac8 q|cont=>exact ac8 q
def Se(F:je X.prog X.w X.K X.mg X.base CX k f fd ps sp)(g:dQ k X.A)(l:Gl X x)(z:X.mg x=O (.ref f))(B:keepIn X.K (.ref f))(G:Binds X.K fd ps ds)(L:Vals wg ds)(R:eu CX X E)(S:PA X (e::es) t)(T:autoParam ((x==("__debug__":Str))=a7) P3)(U:autoParam (ci (e::es) X.env=(a7,eval e X.env)::ci es X.env) o0)(W:autoParam ((db pos (ci es X.env)).any (·.1)=a7) o0):PE X (.Call (.Name x p) (e::es) [] pos) (N8 sp wg E t):=by intro am s σ H Q I h;refine eP (kg I l z ?_ T);refine jw (h₀:=X.base) I.ok.mod.Pb B (dh (S pos am s σ H _ I h) λus s1 ⟨vs,Y,d,r,q⟩=>⟨d.l9,?_⟩) U W;exact zD F g G L R d r q
def MS(B:PE X o ta)(c:ET X.K C)(g:Pu X.K C m f)(F:je X.prog X.w X.K X.mg X.base CX k f fd ps sp)(G:dQ k X.A)(L:Binds X.K fd ps ds)(R:Vals wg ds)(S:eu CX X E)(T:autoParam (eval (.Call (.Attribute o m b5) [] [] pos) X.env=do
   let z<-eval o X.env
   standAt b5.atName let(f,first)<-ft [z] (getMethod z m pl)callWith pos f first (db pos (ci [] X.env)) (backToKw pos (hB [] X.env))) o0):PE X (.Call (.Attribute o m b5) [] [] pos) (Od C m sp wg E ta BX):=by intro am s σ H Q I h;refine PySem.W.methodCall_KW (pl:=pl) (dh (B am s σ H _ I h) λu s1 x=>?_) T;obtain⟨x,Z,d,U,a,dx,fs,ex,Y,l,q⟩:=x;subst ex;obtain rfl:u=ab0 a:=U;refine DF d Y c g l ?_;exact PP (first:=[.ref a]) d.l9 g.kp (zD (us:=[.ref a]) (vs:=[.ref a]) F G L R S d (.cons rfl .nil) q)
structure Mk(K:Frag)(C f:Addr):Prop where
 makes:makesIn K C=J
 init:findIn K (.ref C) "__init__"=O (O (.ref f))fn:isFn K (.ref f)=J
 kp:keepIn K (.ref C)=J
def BR{Q:VK}(M:Mk X.K C f)(F:je X.prog X.w X.K X.mg X.base CX k f fd ps sp)(l:dQ (k+1) X.A)(z:Binds X.K fd ps ds)(B:Vals wg ds)(G:eu CX X E)(I:Inv X am σ H s)(r:Vals vs us)(h:∀x dx,H x=af->H dx=af->dx≠x->sp (.ref x::(vs++wg)) (cQ (cQ H dx (.own x)) x (.ins C dx [])) (λv L=>v=.non/\Q (.ref x) L) E):bb (bn X.prog X.w) X.A (call (.ref C) us) (EP X am σ Q) X.xe s:=by
 have q:=h (s.heap.objs.size+1) s.heap.objs.size (I.di.fresh (Nat.le_succ _)) (I.di.fresh (aB _)) (bu (eG _));have g:=Inv.made (C:=C) I;have R:Vals (V.ref (s.heap.objs.size+1)::(vs++wg)) (ab0 (s.heap.objs.size+1)::(us++ds)):=.cons rfl (r.append B);have S:(ab0 (s.heap.objs.size+1)::us++ds).length=ps.length:=by have e:=R.length;rw[F.len _ _ _ _ q]at e;exact e.symm
 refine sS (L9 (f:=f) I.l9 M.makes M.init (kD.mp M.fn) (jY (F.run _ X.stack _ _ ⟨ab0 (s.heap.objs.size+1)::us,[]⟩ (ab0 (s.heap.objs.size+1)::(us++ds)) _ _ E (l.make C us []) (g.Xf.make C us []) (z _ (ab0 (s.heap.objs.size+1)::us) g.l9 S) R q) λr s' d=>?_));cases r with|error e=>exact G am σ _ _ e s' g d|ok T=>cases T with|ret u=>obtain⟨v,H',U,W,ev,Y⟩:=g.after d;subst ev;exact⟨W,⟨V.ref (s.heap.objs.size+1),H',U,rfl,Y⟩⟩|next=>exact ac8 d|brk=>exact ac8 d|cont=>exact ac8 d
def Sj(M:Mk X.K C f)(F:je X.prog X.w X.K X.mg X.base CX k f fd ps sp)(g:dQ (k+1) X.A)(l:Gl X x)(z:X.mg x=O (.ref C))(B:Binds X.K fd ps ds)(G:Vals wg ds)(L:eu CX X E)(R:PA X (e::es) t)(T:autoParam ((x==("__debug__":Str))=a7) P3)(S:autoParam (ci (e::es) X.env=(a7,eval e X.env)::ci es X.env) o0)(U:autoParam ((db pos (ci es X.env)).any (·.1)=a7) o0):PE X (.Call (.Name x p) (e::es) [] pos) (GU C sp wg E t):=by intro am s σ H Q I h;refine eP (kg I l z ?_ T);refine jw (h₀:=X.base) I.ok.mod.Pb M.kp (dh (R pos am s σ H _ I h) λus s1 ⟨vs,W,d,r,q⟩=>⟨d.l9,?_⟩) S U;exact BR M F g B G L d r q
def MR(M:Mk X.K C f)(F:je X.prog X.w X.K X.mg X.base CX k f fd ps sp)(d:dQ (k+1) X.A)(g:Gl X x)(l:X.mg x=O (.ref C))(q:Binds X.K fd ps ds)(z:Vals wg ds)(B:eu CX X E)(T:autoParam ((x==("__debug__":Str))=a7) P3):PE X (.Call (.Name x p) [] [] pos) (GU C sp wg E BX):=by intro am s σ H Q I h;refine eP (kg I g l ?_ T);exact PP I.l9 M.kp (BR (us:=[]) M F d q z B I .nil h)
end
section
variable{f:Addr}{ks:List Str}{E:XK}{agj:Pos}{o:Expr}{kws:List Keyword}{tk:TA}{nm:Option Str}
variable{g:List Value->List Value->List Value}{gV:List V->List V->List V}
end
structure dD(N P:List Str)(sc:Scope):Prop where
 kind:sc.kind=.function
 co:sc.isCoroutine=a7
 gen:sc.isGenerator=a7
 nd:N.Nodup
 pre:N.take P.length=P
 par:∀x∈P,sc.names.lookup x=O .local\/sc.names.lookup x=O .cell
 Yu:∀y∈sc.names,y.2≠.free
theorem xm{kindOf:Str->Option NameKind}{x:Str}:∀{binds:List (Str×Value)}{m:b'},(∀v,(x,v)∉binds)->bindL kindOf binds m x=m x
 |[],_,_=>rfl|(n,v)::r,m,h=>by
  unfold bindL;rw[xm λw d=>h w (aq _ d)];split
  ·have:x≠n:=by rintro rfl;exact h v aw
   simp[this]
  ·rfl
theorem xk{kindOf:Str->Option NameKind}{x:Str}:∀{binds:List (Str×Value)}{m:b'},(∀v,(x,v)∉binds)->bindC kindOf binds m x=m x
 |[],_,_=>rfl|(n,v)::r,m,h=>by
  unfold bindC;rw[xk λw d=>h w (aq _ d)];split;·rfl
  ·have:x≠n:=by rintro rfl;exact h v aw
   simp[this]
theorem xl{kindOf:Str->Option NameKind}{x:Str}{v:Value}:∀{P:List Str}{vs:List Value}{i:Nat}{m:b'},P.Nodup->P[i]?=O x->vs[i]?=O v->kindOf x=O .local->bindL kindOf (P.zip vs) m x=O v|[],_,_,_,_,h,_,_=>by simp at h|_::_,[],_,_,_,_,h,_=>by simp at h|p::P,w::vs,0,m,l,d,g,q=>by simp at d g;subst d;subst g;show bindL kindOf ((p,w)::P.zip vs) m p=_;unfold bindL;rw[xm λv z=>(cD.mp l).1 (tI z).1,bx q];simp|p::P,w::vs,i+1,m,l,d,g,q=>by show bindL kindOf ((p,w)::P.zip vs) m x=_;unfold bindL;exact xl (i:=i) (cD.mp l).2 (by simpa using d) (by simpa using g) q
theorem xj{kindOf:Str->Option NameKind}{x:Str}{v:Value}:∀{P:List Str}{vs:List Value}{i:Nat}{m:b'},P.Nodup->P[i]?=O x->vs[i]?=O v->kindOf x≠O .local->bindC kindOf (P.zip vs) m x=O v|[],_,_,_,_,h,_,_=>by simp at h|_::_,[],_,_,_,_,h,_=>by simp at h|p::P,w::vs,0,m,l,d,g,q=>by simp at d g;subst d;subst g;show bindC kindOf ((p,w)::P.zip vs) m p=_;unfold bindC;rw[xk λv z=>(cD.mp l).1 (tI z).1,bE q];simp|p::P,w::vs,i+1,m,l,d,g,q=>by show bindC kindOf ((p,w)::P.zip vs) m x=_;unfold bindC;exact xj (i:=i) (cD.mp l).2 (by simpa using d) (by simpa using g) q
noncomputable def start(N:List Str)(vs:List V):tSt:=vs.map O++aa4 (N.length-vs.length) af
noncomputable def oE(CX:xg)(P:cf)(w:b7)(K:Frag)(mg:b')(base:Heap)(N:List Str)(b1:Str)(scope:Scope)(f:Addr)(d:Value)(A:cr)(outer:List Env)(s:bv)(H:Hp)(E:XK):Cx where prog:=P;w:=w;K:=K;mg:=mg;base:=base;A:=A.deeper (envOfC b1 scope s.heap.objs.size f d);N:=N;s₀:=s;H₀:=H;env:=envOfC b1 scope s.heap.objs.size f d;outer:=outer;stack:=envOfC b1 scope s.heap.objs.size f d::outer;ex:=[];calm:=J;fn:=λ_=>J;pn:=[];xe:=λe s'=>bb (bn P w) (A.deeper (envOfC b1 scope s.heap.objs.size f d)) (leaving (envOfC b1 scope s.heap.objs.size f d) e) (λ_ g=>CX outer H s E e g) (λl g=>CX outer H s E l g) s'
def AF{S:Scope}(h:S.names.lookup x=O .cell):∃c,(cellsFrom n S.names []).lookup x=O c:=by have q:=sQ S.names n [] (.inl h);exact cF.mp q
def xC{f:Addr}{G:Value}{s1:bv}{E:XK}(S:dD N ps scope)(T:A.handled=af)(g:An P w K mg base A outer s H)(Y:vs.length=ps.length)(r:Vals vs us)(x:InCallC s s.heap.objs.size (bindL (envOfC b1 scope s.heap.objs.size f G).kindOf (ps.zip us) λ_=>af) (cellsFrom (s.heap.objs.size+1) scope.names []) (bindC (envOfC b1 scope s.heap.objs.size f G).kindOf (ps.zip us) λ_=>af) s1):Inv (oE CX P w K mg base N b1 scope f G A outer s H E) [] (start N vs) H s1:=by
 have Z:ps.length<=N.length:=by have:=bU ag0 S.pre;rw[c0]at this;lia
 obtain⟨I,tk,rfl,R⟩:=x.done;have Vi:∀b:Addr,b∉(oE CX P w K mg base N b1 scope f G A outer s H E).ex:=λb z=>absurd (show b∈([]:List Addr)from z) (by simp);refine⟨⟨g.mod,S.kind,rfl,rfl,aB _,λy z c I d=>?_,λy l=>?_,λy c _ h=>?_,λ_=>T,Around.frames_deeper g.frames,.inr ⟨rfl,rfl⟩,λb z=>absurd z (Vi b),g.bs,g.Cd,λb _ _=>Vi b,λb z=>absurd z (Vi b),g.kq,g.HV⟩,rfl,g.bare,Un.kept R,⟨_,x.toInCall.ns,λi y v I d h3=>?_⟩,λy c h=>⟨_,x.cell y c h⟩,g.di.fresh (aB _),λy c h=>?_,λp B=>absurd (show p∈([]:ce)from B) (by simp),g.di.kept R,?_⟩;·exact name_of_addr x.apart (iR I) (iR d)
 ·have l:scope.names.lookup y=O .cell\/scope.names.lookup y=O .free:=l;rcases l with l|l;·exact AF l
  ·exact absurd rfl (S.Yu _ (iR l))
 ·exact Cv (x.above y c (iR h))
 ·have L:i<vs.length:=by
   unfold start at d;by_cases L:i<vs.length;·exact L
   ·rw[aP (by simpa using L)]at d;rw[fM]at d;split at d<;>cases d
  have U:vs[i]?=O v:=by unfold start at d;rw[aW (by simpa using L),bM]at d;cases e:vs[i]? with|none=>rw[e]at d;cases d|some a=>rw[e]at d;cases d;rfl
  obtain⟨u,hu,W⟩:=r.get U;have B:ps[i]?=O y:=by rw[<-S.pre,iZ (by lia)];exact I
  have F:ps.Nodup:=by rw[<-S.pre];exact S.nd.sublist (List.take_sublist _ _)
  refine⟨u,W,?_⟩;rcases S.par y (aZ B)with k|k;·exact .inl ⟨k,xl F B hu k⟩
  ·obtain⟨c,e⟩:=AF (n:=s.heap.objs.size+1) k;refine .inr ⟨.inl k,c,e,?_⟩;have q:=x.cell y c e;rw[xj F B hu (by show scope.names.lookup y≠_;rw[k];decide)]at q;exact q
 ·exact g.di.fresh (Cv (x.above y c (iR h)))
 ·unfold start;show _=N.length;rw[ae,ak,bV];lia
def FA{f:Addr}{g:Arguments}{T kV doc U z Y oc:Value}{Z od:Option Addr}{tD:Array (Option Value)}(lk:K.lookup f=O ⟨oc,od,.func (fnOf name b1 g body scope T kV doc U Z z Y),tD⟩)(yW:codeIn K z b1)(S:dD N ps scope)(len:∀vs H Q E,sp vs H Q E->vs.length=ps.length)(kN:∀(A:cr)(outer:List Env)(s:bv)(H:Hp)(vs:List V)(Q:VK)(E:XK),dQ k (A.deeper (envOfC b1 scope s.heap.objs.size f z))->sp vs H Q E->∃t,kH (oE CX P w K mg base N b1 scope f z A outer s H E) body t/\t {nx:=λ_ H'=>Q .non H',rt:=Q} (start N vs) H):je P w K mg base CX (k+1) f (fnOf name b1 g body scope T kV doc U Z z Y) ps sp:=by
 refine⟨len,λA outer s H args us vs Q E G F hb r wL=>?_⟩;have hl:=len _ _ _ _ wL;have KX:K.In s.heap:=F.mod.Pb.keeps λb o e=>(F.bs b o e).1;have L:s.heap.NoLimit:=F.mod.nolimit.keeps λb o e=>(F.bs b o e).1;have K9:∀y∈ps.zip us,scope.names.lookup y.1=O .local\/scope.names.lookup y.1=O .cell/\((cellsFrom (s.heap.objs.size+1) scope.names []).lookup y.1).isSome:=λ⟨n,v⟩ hy=>by
  rcases S.par n (tI hy).1 with q|q;·exact .inl q
  ·exact .inr ⟨q,sQ _ _ _ (.inl q)⟩
 refine O' G.depth (KX _ _ lk) rfl S.co S.gen rfl (PySem.W.codeRec_of KX yW) (hb _ _ _ _ ?_);refine Pp S.kind K9 λenv he s1 x=>?_;subst he;refine⟨L.keeps x.toInCall.keep,codeAny_func ?_⟩;obtain⟨t,ht,hq⟩:=kN A outer s H vs Q E (G.deeper _) wL;have I:Inv (oE CX P w K mg base N b1 scope f z A outer s H E) [] (start N vs) H s1:=xC S G.hd F hl r x;refine dB (ht [] s1 (start N vs) H _ I hq) (λfl s' B=>?_) λe s' B=>B;have fin:∀{l:tSt}{H':Hp}{v:V}{u:Value},Inv (oE CX P w K mg base N b1 scope f z A outer s H E) [] l H' s'->RelV v u->Q v H'->CE outer P w H s Q u s':=λ{l H' v u}d R q=>⟨v,H',d.os,d.bare,d.base,d.di,R,q⟩;cases fl with|ret u=>obtain⟨v,l,H',d,R,q⟩:=B;exact fin d R q|next=>obtain⟨l,H',d,q⟩:=B;exact fin (v:=V.non) (u:=ab1) d rfl q|brk=>obtain⟨_,_,_,q⟩:=B;exact ac8 q|cont=>obtain⟨_,_,_,q⟩:=B;exact ac8 q
section
variable{id T:String}{r:List V->Hp->VK->Prop}
def lz(r:List V->Hp->VK->Prop)(t:TA):TE:=λσ H Q=>t σ H λvs d=>r vs d Q
def MM(d:dJ X (.builtin id) r)(g:Gl X x)(l:X.mg x=af)(q:c7 x=O (.builtin id))(z:PA X (e::es) t)(hn:autoParam (x≠"__name__") P3)(B:autoParam ((x==("__debug__":Str))=a7) P3)(F:autoParam (ci (e::es) X.env=(a7,eval e X.env)::ci es X.env) o0)(U:autoParam ((db pos (ci es X.env)).any (·.1)=a7) o0):PE X (.Call (.Name x p) (e::es) [] pos) (lz r t):=by intro am s σ H Q I h;refine eP (vb I g l q ?_ hn B);exact PyProof.Rows.callWith_builtin1 (dh (z pos am s σ H _ I h) λus s1 ⟨vs,G,L,R,S⟩=>d am s1 σ G vs us Q L R S) F U
def IK(d:dJ X (.type T) r)(g:Gl X x)(l:X.mg x=af)(q:c7 x=O (.type T))(z:PA X (e::es) t)(hn:autoParam (x≠"__name__") P3)(B:autoParam ((x==("__debug__":Str))=a7) P3)(F:autoParam (ci (e::es) X.env=(a7,eval e X.env)::ci es X.env) o0)(U:autoParam ((db pos (ci es X.env)).any (·.1)=a7) o0):PE X (.Call (.Name x p) (e::es) [] pos) (lz r t):=by intro am s σ H Q I h;refine eP (vb I g l q ?_ hn B);exact mH (dh (z pos am s σ H _ I h) λus s1 ⟨vs,G,L,R,S⟩=>d am s1 σ G vs us Q L R S) F U
end
end L2
namespace HT
variable{t sl:Addr}{vl vu:Value}{hi:Option Int}
section
open PySem.SeqAt
open PySem.AutoSeq1(wpAny_loadPart')
open PySem.MeetsSeq PySem.MeetsSeq2 PySem.MeetsSeq3
end
section
variable{prog:cf}{w:b7}{A:cr}{E:dC}{s:bv}
def P2{b:Addr}{vs ws:List Value}{Q:dC}(f:IsTup s.heap t vs.toArray)(g:IsTup s.heap b ws.toArray)(v:vs ≠[])(i:ws=[]->Q (.ref t) s)(j:ws ≠[]->Q (.ref s.heap.objs.size) {s with heap:=s.heap.push {cls:=.type "tuple",data:=.seq (vs++ws).toArray}})(k:vs.length+ws.length<=sizeLine):bb (bn prog w) A (binaryOp .Add (.ref t) (.ref b)) Q E s:=by
 obtain⟨⟨cls,D,data,sl⟩,h,c,n,a⟩:=id f;obtain⟨⟨l,d,data2,S⟩,X,x,N,cp⟩:=id g;simp only at c a x cp;subst c a x cp;have e:vs.toArray++ws.toArray=(vs++ws).toArray:=by simp
 by_cases H:ws=[];·exact F' ⟨_,h,rfl⟩ ⟨_,X,rfl⟩ Hf Wh sO qV (pU _ _) (tuple_addW1 t b vs.toArray ws.toArray n N D d sl S (by simpa using v) (by simp[H])) ⟨h,X,i H⟩
 ·refine F' ⟨_,h,rfl⟩ ⟨_,X,rfl⟩ Hf Wh sO qV (pU _ _) (tuple_addW2 t b vs.toArray ws.toArray n N D d sl S (by simpa using v) (by simpa using H) (by rw[aD,aD];exact k)) ⟨h,X,?_⟩;rw[e];exact j H
def fT(n d:Nat):Option Int->Nat|none=>d|some v=>if v<0 then(v+(n:Int)).toNat else min v.toNat n
def vG(n d:Nat):fT n d af=d:=rfl
def GB(n d k:Nat):fT n d (O (k:Int))=min k n:=by show(if(k:Int)<0 then((k:Int)+(n:Int)).toNat else min (k:Int).toNat n)=min k n;rw[bE (by lia),dc]
def ZL(n d:Nat)(H:d<=n)(o:Option Int):fT n d o<=n:=by cases o with|none=>exact H|some v=>
  show(if v<0 then(v+(n:Int)).toNat else min v.toNat n)<=n;by_cases h:v<0;·rw[bx h];lia
  ·rw[bE h];exact He _ _
def yz(v:Int)(n d:Nat):(if v<0 then max (v+(n:Int)) 0 else min v (n:Int))=((fT n d (O v):Nat):Int):=by
 show(if v<0 then max (v+(n:Int)) 0 else min v (n:Int))=((if v<0 then(v+(n:Int)).toNat else min v.toNat n:Nat):Int);by_cases h:v<0;·simp only[bx h];lia
 ·simp only[bE h];lia
def CL(lo hi:Option Int)(n:Nat):ac6 lo hi 1 (n:Int)=(((fT n 0 lo:Nat):Int),((fT n n hi:Nat):Int)):=by
 have h:¬(1:Int)<0:=by lia
 unfold ac6;simp only[h,qW];refine Prod.ext ?_ ?_;·cases lo with|none=>rfl|some v=>exact yz v n 0
 ·cases hi with|none=>rfl|some v=>exact yz v n n
def Ek(i j:Nat):ab4 (i:Int) (j:Int) 1=j-i:=by
 unfold ab4;have h:(1:Int)>0:=by lia
 simp only[h,mI,Int.ediv_one];split<;>lia
def vK{v:Value}{o:Option Int}{Q:Option Int->bv->Prop}(p:IsPart v o)(h:Q o s):bb (bn prog w) A (Builtin.Slice.slicePartIndex v) Q E s:=by cases p with|none=>exact wu h|int i t=>exact slicePart_int h
def kS{lo:Option Int}{n:Nat}{Q:Int×Int×Nat->bv->Prop}(H:s.heap.IsSliceOf sl vl vu .none)(pl:IsPart vl lo)(p:IsPart vu hi)(h:Q (((fT n 0 lo:Nat):Int),1,fT n n hi-fT n 0 lo) s):bb (bn prog w) A (ae3 (.ref sl) (pure (n:Int))) Q E s:=by obtain⟨os,F,C,q⟩:=id H;unfold ae3 ag2;refine aa (aa (bI F q (x:=vl) rfl (aa (bI F q (x:=vu) rfl (aa (bI F q (x:=.none) rfl (au ?_)))))));refine aa (wu ?_);show bb _ _ (if((1:Int)==0)=J then _ else _) _ _ s;rw[bE (by ext)];refine aa (vK pl (aa (vK p (aa (au ?_)))));show bb _ _ (match ac6 lo hi 1 (n:Int)with|(lo,hi)=>pure (lo,(1:Int),ab4 lo hi 1)) _ _ s;rw[CL lo hi n];show bb _ _ (pure (((fT n 0 lo:Nat):Int),(1:Int),ab4 ((fT n 0 lo:Nat):Int) ((fT n n hi:Nat):Int) 1)) _ _ s;rw[Ek];exact au h
def Nd(xs:Array Value)(i k:Nat):((ab6 k).filterMap λ(m:Nat)=>xs[((i:Int)+(m:Int)*1).toNat]?).toArray=((xs.toList.drop i).take k).toArray:=by
 have e:(λ(m:Nat)=>xs[((i:Int)+(m:Int)*1).toNat]?)=λm=>xs[i+m]?:=by
  funext m;have:((i:Int)+(m:Int)*1).toNat=i+m:=by lia
  rw[this]
 rw[e];have:=pick_run xs i k;rw[List.filterMap_map]at this;have a:((λx=>xs[x]?)∘ λx=>i+x)=λm=>xs[i+m]?:=rfl;rw[a]at this;rw[this]
def qm{a8:Array Value}{lo:Option Int}{Q:dC}(H:IsTup s.heap t a8)(b:s.heap.IsSliceOf sl vl vu .none)(pl:IsPart vl lo)(p:IsPart vu hi)(c:¬(fT a8.size 0 lo=0/\fT a8.size a8.size hi=a8.size))(h:Q (.ref s.heap.objs.size) {s with heap:=s.heap.push {cls:=.type "tuple",data:=.seq ((a8.toList.drop (fT a8.size 0 lo)).take (fT a8.size a8.size hi-fT a8.size 0 lo)).toArray}})(e:a8.size<=sizeLine):bb (bn prog w) A (getItem (.ref t) (.ref sl)) Q E s:=by
 have F:sizeOk (.seq ((a8.toList.drop (fT a8.size 0 lo)).take (fT a8.size a8.size hi-fT a8.size 0 lo)).toArray):=by show((a8.toList.drop (fT a8.size 0 lo)).take (fT a8.size a8.size hi-fT a8.size 0 lo)).toArray.size<=sizeLine;rw[aD,c0,qS,bJ];lia
 have j:fT a8.size a8.size hi<=a8.size:=ZL _ _ (aB _) hi;obtain⟨os,f,C,d⟩:=id b;have a:s.TypeIs (.ref sl) "slice":=⟨os,f,C⟩;unfold getItem;try with_reducible refine cG ?_
 first|refine aa (au ?_)|skip
 refine aa (CA H.typeIs (by ext) ?_);refine aa (cK (name:=ac5 "__getitem__") H.typeIs bP (eJ bP H.typeIs yb ?_ (Ak _ _)));show bb _ _ (ae9 (.ref t)>>=_) _ _ s;refine aa (Wi H ?_);refine aa (mJ a ?_);rw[bx (by ext)];refine aa (kS b pl p ?_);have X:¬(((fT a8.size 0 lo:Nat):Int)==0&&(1:Int)==1&&fT a8.size a8.size hi-fT a8.size 0 lo==a8.size)=J:=by intro q;rw[aI,aI]at q;have g:((fT a8.size 0 lo:Nat):Int)=0:=nE q.1.1;have i:fT a8.size a8.size hi-fT a8.size 0 lo=a8.size:=nE q.2;exact c ⟨by lia,by lia⟩
 show bb _ _ (if(((fT a8.size 0 lo:Nat):Int)==0&&(1:Int)==1&&fT a8.size a8.size hi-fT a8.size 0 lo==a8.size)=J then _ else _) _ _ s;rw[bE X,Nd];first|exact aa (m:=ab7 _) (bZ (au ⟨_,rfl,au h⟩) F)|exact aa (m:=ab7 _) (bZ (aa (au (au ⟨_,rfl,au h⟩))) F)|exact aa (aa (m:=ab7 _) (bZ (au (au ⟨_,rfl,au h⟩)) F))|exact aa (aa (m:=ab7 _) (bZ (au ⟨_,rfl,au h⟩) F))
end
end HT
namespace L2
variable{X:Cx}{e:Expr}{pos:Pos}{T:String}{r:V->Option Int->Option Int->Hp->VK->Prop}{am:ce}{σ:tSt}{H:Hp}{s:bv}{xs ys:List V}{A:cr}{us its its':List Value}{α:Type}{n j t':Nat}{i:Int}{x:V}{u v:Value}
abbrev TO:=tSt->Hp->(Option Int->Hp->Prop)->Prop
def PO(X:Cx)(e:Option Expr)(t:TO):Prop:=∀(am:ce)(s:bv)(σ:tSt)(H:Hp)(Q:Option Int->Hp->Prop),Inv X am σ H s->t σ H Q->bb (bn X.prog X.w) X.A (evalPart e X.env) (λu S=>∃o h,Inv X am σ h S/\IsPart u o/\Q o h) X.xe s
def TV:TO:=λ_ H Q=>Q af H
def acM(t:TE):TO:=λσ H Q=>t σ H λx h=>∃i,x=.int i/\Q (O i) h
section
variable{te:TE}{lo hi:Option Expr}{tl th:TO}{p2:Pos}
def Gi:PO X af TV:=by intro am s σ H Q I h;rw[Wg];exact au ⟨af,H,I,.none,h⟩
def Gj(h:PE X e te):PO X (O e) (acM te):=by intro am s σ H Q I w;rw[evalPart_some];refine dh (h am s σ H _ I w) λu s1 x=>?_;obtain⟨x,a,b,R,c⟩:=x;obtain⟨i,rfl,q⟩:=c;obtain⟨t,rfl⟩:=R;exact⟨O i,a,b,.int i t,q⟩
def Hj(X:Cx)(r:V->Option Int->Option Int->Hp->VK->Prop):Prop:=∀(am:ce)(s:bv)(σ:tSt)(H:Hp)(x:V)(v l a:Value)(lo hi:Option Int)(sl:Addr)(Q:VK),Inv X am σ H s->RelV x v->s.heap.IsSliceOf sl l a .none->IsPart l lo->IsPart a hi->r x lo hi H Q->∃T id,typeLookup (.type T) "__getitem__"=pure (O (.builtin id))/\s.TypeIs v T/\bb (bn X.prog X.w) X.A (getItem v (.ref sl)) (EP X am σ Q) X.xe s
def Hj.or{R:V->Option Int->Option Int->Hp->VK->Prop}(h:Hj X r)(h':Hj X R):Hj X λx lo hi H Q=>r x lo hi H Q\/R x lo hi H Q:=by
 intro am s σ H x v l a lo hi sl Q I b c p P q;rcases q with q|q;·exact h am s σ H x v l a lo hi sl Q I b c p P q
 ·exact h' am s σ H x v l a lo hi sl Q I b c p P q
def tSl(r:V->Option Int->Option Int->Hp->VK->Prop)(te:TE)(tl th:TO):TE:=λσ H Q=>te σ H λx h=>tl σ h λl a=>th σ a λu b=>r x l u b Q
def Bz(f:Hj X r)(g:PE X e te)(k:PO X lo tl)(hu:PO X hi th):PE X (.Subscript e (.Slice lo hi af p2) pos) (tSl r te tl th):=by intro am s σ H Q I h;refine Pn (dh (g am s σ H _ I h) λv s1 x=>?_);obtain⟨x,m,o,R,p⟩:=x;refine wpAny_Slice (dh (k am s1 σ m _ o p) λa s2 ⟨l,t,y,P,z⟩=>dh (hu am s2 σ t _ y z) λc S u=>?_);obtain⟨u,d,B,C,D⟩:=u;rw[Wg];refine au ?_;have E:Inv X am σ d {S with heap:=S.heap.push {cls:=.type "slice",data:=.fields #[a,c,.none]}}:=B.kept (t':=S.toks) λb L q=>aj _ q;obtain⟨T,id,F,G,K⟩:=f am {S with heap:=S.heap.push {cls:=.type "slice",data:=.fields #[a,c,.none]}} σ d x v a c l u S.heap.objs.size Q E R (Heap.IsSliceOf.new ..) P C D;show bb (bn X.prog X.w) X.A (subscriptTail e (.Slice lo hi af p2) v (.ref S.heap.objs.size)) (EP X am σ Q) X.xe {S with heap:=S.heap.push {cls:=.type "slice",data:=.fields #[a,c,.none]}};exact tail_any (ops:=[.ref S.heap.objs.size,v]) G F K (by with_unfolding_all rfl)
noncomputable def mR(xs:List V)(lo hi:Option Int):List V:=(xs.drop (HT.fT xs.length 0 lo)).take (HT.fT xs.length xs.length hi-HT.fT xs.length 0 lo)
def sg(xs:List V)(lo hi:Option Int):(mR xs lo hi).length<=xs.length:=by unfold mR;rw[c0,qS];lia
def agX(K:Frag):V->Option Int->Option Int->Hp->VK->Prop:=λx lo hi H Q=>∃a xs,x=.ref a/\eL K H a xs/\¬(HT.fT xs.length 0 lo=0/\HT.fT xs.length xs.length hi=xs.length)/\∀p,H p=af->Q (.ref p) (cQ H p (.tup (mR xs lo hi)))
def ZQ:Hj X (agX X.K):=by
 intro am s σ H x v l g lo hi sl Q I R d p P h;obtain⟨a,xs,rfl,f,w,q⟩:=h;cases R;obtain⟨its,r,t,z⟩:=I.tuple f;have c:its.toArray.size=xs.length:=by rw[aD];exact r.length.symm
 refine⟨"tuple",_,bP.lookup,t.typeIs,?_⟩;refine HT.qm t d p P (by rw[c];exact w) ?_ (by rw[c];exact z);rw[c];refine⟨.ref s.heap.objs.size,_,I.laid (t':=s.toks) (o:=.tup (mR xs lo hi)) (λb k q=>aj _ q) (aB _) ?_,rfl,q _ (I.di.fresh (aB _))⟩;exact⟨aH (sg xs lo hi) z,_,(r.drop (HT.fT xs.length 0 lo)).take (HT.fT xs.length xs.length hi-HT.fT xs.length 0 lo),o_ _ _⟩
def abZ(K:Frag):R2:=λx y H Q=>∃a b xs ys,x=.ref a/\y=.ref b/\eL K H a xs/\eL K H b ys/\xs ≠[]/\xs.length+ys.length<=sizeLine/\(ys=[]->Q (.ref a) H)/\(ys ≠[]->∀p,H p=af->Q (.ref p) (cQ H p (.tup (xs++ys))))
def Vals.ze(r:Vals xs us):us=[]↔xs=[]:=by cases r with|nil=>simp|cons _ _=>simp
def R5:jQ X (binaryOp .Add) (abZ X.K):=by intro am s σ H x y v u Q I f g h;obtain⟨a,b,xs,ys,rfl,rfl,k,l,m,d,p,t⟩:=h;cases f;cases g;obtain⟨its,c,P,_⟩:=I.tuple k;obtain⟨B,R,p2,_⟩:=I.tuple l;refine HT.P2 P p2 (λz=>m (c.ze.mp z)) (λz=>⟨.ref a,H,I,rfl,p (R.ze.mp z)⟩) (λz=>?_) (by rw[<-c.length,<-R.length];exact d);refine⟨.ref s.heap.objs.size,_,I.laid (t':=s.toks) (o:=.tup (xs++ys)) (λb C q=>aj _ q) (aB _) ?_,rfl,t (λw=>z (R.ze.mpr w)) _ (I.di.fresh (aB _))⟩;exact⟨by rw[ae];exact d,_,c.append R,o_ _ _⟩
end
noncomputable def Rn(n:Nat)(i:Int):Option Nat:=if 0<=i then(if i<n then O i.toNat else af)else if-(n:Int)<=i then O (i+n).toNat else af
def Cb(xs:List α)(i:Int):Option α:=(Rn xs.length i).bind λj=>xs[j]?
def FN(h:Rn n i=O j):seqIndex? i n=O j/\j<n/\-(n:Int)<=i/\i<n:=by
 unfold Rn at h;by_cases b:0<=i
 ·rw[bx b]at h;by_cases a:i<n;·rw[bx a]at h;have e:i.toNat=j:=cU h;exact⟨by rw[wp b a,e],by lia,by lia,a⟩
  ·rw[bE a]at h;cases h
 ·rw[bE b]at h;by_cases a:-(n:Int)<=i;·rw[bx a]at h;have e:(i+n).toNat=j:=cU h;exact⟨by rw[J' (by lia) a,e],by lia,a,by lia⟩
  ·rw[bE a]at h;cases h
def yg{xs:List α}{v:α}(h:Cb xs i=O v):∃j,seqIndex? i xs.length=O j/\xs[j]?=O v/\j<xs.length/\-(xs.length:Int)<=i/\i<xs.length:=by unfold Cb at h;cases e:Rn xs.length i with|none=>rw[e]at h;cases h|some j=>rw[e]at h;obtain⟨a,b,c,d⟩:=FN e;exact⟨j,a,h,b,c,d⟩
def EZ{xs:List α}{v:α}(h:xs[j]?=O v):Cb xs (j:Int)=O v:=by
 have a:j<xs.length:=(ai.mp h).1;have e:Rn xs.length (j:Int)=O j:=by unfold Rn;rw[bx (by lia),bx (by lia)];simp
 unfold Cb;rw[e];exact h
def nF(b:Expr):Prop:=∀o i,subscripted b a7 o i=operate [o,i] (getItem o i)
def CF(X:Cx)(r:R2):Prop:=∀(a slice:Expr)(am:ce)(s:bv)(σ:tSt)(H:Hp)(x y:V)(v u:Value)(Q:VK),Inv X am σ H s->RelV x v->RelV y u->r x y H Q->subscripted slice a7 v u=operate [v,u] (getItem v u)->bb (bn X.prog X.w) X.A (subscriptTail a slice v u) (EP X am σ Q) X.xe s
def Ca(X:Cx)(id:String)(r:V->List V->Hp->VK->Prop):Prop:=∀(am:ce)(s:bv)(σ:tSt)(H:Hp)(x:V)(xs:List V)(v:Value)(us:List Value)(Q:VK),Inv X am σ H s->RelV x v->Vals xs us->r x xs H Q->bb (bn X.prog X.w) X.A (call (.builtin id) (v::us)) (EP X am σ Q) X.xe s
section
variable{a b:Expr}{ta tb:TE}
def CF.or{r R:R2}(h:CF X r)(h':CF X R):CF X λx y H Q=>r x y H Q\/R x y H Q:=by
 intro c slice am s σ H x y v u Q I d f q g;rcases q with q|q;·exact h c slice am s σ H x y v u Q I d f q g
 ·exact h' c slice am s σ H x y v u Q I d f q g
def Ca.or{id:String}{r R:V->List V->Hp->VK->Prop}(h:Ca X id r)(h':Ca X id R):Ca X id λx xs H Q=>r x xs H Q\/R x xs H Q:=by
 intro am s σ H x xs v us Q I c d q;rcases q with q|q;·exact h am s σ H x xs v us Q I c d q
 ·exact h' am s σ H x xs v us Q I c d q
def Bx{r:R2}(c:CF X r)(d:PE X a ta)(f:PE X b tb)(g:nF b:=by exact λ_ _=>rfl):PE X (.Subscript a b pos) (Q_ r ta tb):=by intro am s σ H Q I h;exact Pn (WG d f I h λv u s2 x y k l R m q=>c a b am s2 σ k x y v u Q l R m q (g _ _))
def KE(K:Frag):R2:=λx y H Q=>∃p xs i v,x=.ref p/\y=.int i/\gN K H p xs/\Cb xs i=O v/\Q v H
def U0(K:Frag):R2:=λx y H Q=>∃p xs i v,x=.ref p/\y=.int i/\eL K H p xs/\Cb xs i=O v/\Q v H
def UY:R2:=λx y H Q=>∃z i c,x=.str z/\y=.int i/\z.length<=sizeLine/\Cb z.cps.toList i=O c/\Q (.str ⟨#[c]⟩) H
def FO:CF X (KE X.K):=by
 intro d slice am s σ H x y v u Q I R l h g;obtain⟨p,xs,i,z,rfl,rfl,m,o,q⟩:=h;cases R;obtain⟨t,rfl⟩:=l;obtain⟨its,r,P,G⟩:=I.list m;obtain⟨j,c,B,L,C,D⟩:=yg o;obtain⟨w,E,F⟩:=r.get B;have hl:=r.length;have hn:=rO;have fin:EP X am σ Q w s:=⟨z,H,I,F,q⟩;by_cases k:0<=i
 ·have f:i.toNat=j:=by rw[wp k D]at c;exact cU c
  exact item_listR P.isList k (by lia) (by rw[f];simpa using E) fin g
 ·have f:(i+(its.toArray.size:Int)).toNat=j:=by rw[J' (by lia) C]at c;rw[aD,<-hl];exact cU c
  exact fZ (x:=w) P.isList.typeIs slot_list_getitem.lookup (wpAny_getItem_list_neg (Q:=λr S=>r=w/\EP X am σ Q r S) P.isList (by lia) (by rw[aD]<;>lia) (by lia) (by rw[f];simpa using E) ⟨rfl,fin⟩) g
def Ya:CF X (U0 X.K):=by intro c slice am s σ H x y v u Q I R d h f;obtain⟨p,xs,i,z,rfl,rfl,g,k,q⟩:=h;cases R;obtain⟨t,rfl⟩:=d;obtain⟨its,r,P,B⟩:=I.tuple g;obtain⟨j,l,m,C,D,F⟩:=yg k;obtain⟨w,E,o⟩:=r.get m;have hl:=r.length;have hn:=rO;have fin:EP X am σ Q w s:=⟨z,H,I,o,q⟩;exact fZ (x:=w) P.typeIs slot_tuple_getitem.lookup (getItem_tuple (j:=j) (Q:=λr S=>r=w/\EP X am σ Q r S) P (by lia) (by lia) (by rw[aD,<-hl];exact l) (by simpa using E) ⟨rfl,fin⟩) f
def X8:CF X UY:=by
 intro d slice am s σ H x y v u Q I R g h k;obtain⟨z,i,c,rfl,rfl,C,l,q⟩:=h;obtain⟨t,rfl⟩:=R;obtain⟨t',rfl⟩:=g;obtain⟨j,f,m,D,o,p⟩:=yg l;have w:z.cps.toList.length=z.length:=by simp[Str.length]
 rw[w]at f o p;have hn:=rO;exact tail_any (oj s z t) slot_str_getitem.lookup (getItem_str (c:=c) (by have E:decide (i< -(2^63:Int))=false:=bN (by lia);have B:decide (i>=2^63)=false:=bN (by lia);rw[E,B,Wa]) (by rw[f];simpa using m) ⟨.str ⟨#[c]⟩,H,I.tok _,⟨_,rfl⟩,q⟩) k
def Wn(K:Frag):R2:=λx y H Q=>KE K x y H Q\/U0 K x y H Q\/UY x y H Q
def X7:CF X (Wn X.K):=FO.or (Ya.or X8)
def DZ(its:List Value)(n j:Nat)(u:Value):ah3 (·.setIfInBounds j u) {cls:=.type "list",data:=.seq its.toArray n}={cls:=.type "list",data:=.seq (its.set j u).toArray n}:=by simp[ah3]
theorem Inv.lst{am:ce}{σ:tSt}{H:Hp}{s:bv}{p:Addr}{xs:List V}(I:Inv X am σ H s)(h:H p=O (.lst xs)):∃(its:List Value)(n:Nat),Vals xs its/\s.heap.get? p=O {cls:=.type "list",data:=.seq its.toArray n}/\xs.length<=sizeLine:=by obtain⟨z,its,n,r,e⟩:=I.di p _ h;exact⟨its,n,r,e,z⟩
def Inv.Yo{p:Addr}{N:Nat}{f:Obj->Obj}(I:Inv X am σ H s)(h:H p=O (.lst xs))(o:s.heap.get? p=O {cls:=.type "list",data:=.seq its.toArray n})(c:f {cls:=.type "list",data:=.seq its.toArray n}={cls:=.type "list",data:=.seq its'.toArray N})(r:Vals ys its')(hz:ys.length<=sizeLine)(t:Nat):Inv X am σ (cQ H p (.lst ys)) {s with heap:=s.heap.update p f,toks:=t}:=by
 have e:(s.heap.update p f).get? p=O {cls:=.type "list",data:=.seq its'.toArray N}:=by rw[cI f o (by rw[c]<;>rfl),c]
 refine I.write (x:=p) (e:=p) (by rw[h];trivial) (.inl rfl) (λb u d q=>(bT _ _ (bY d)).trans q) ⟨_,e⟩ ?_;exact⟨hz,its',N,r,e⟩
def VH:V->V->V->Hp->(Hp->Prop)->Prop:=λo i v H Q=>∃p xs k j,o=.ref p/\i=.int k/\H p=O (.lst xs)/\Rn xs.length k=O j/\Q (cQ H p (.lst (xs.set j v)))
def N0:J1 X VH:=by
 intro am s σ H o i v E F u Q I R z B h;obtain⟨p,xs,k,j,rfl,rfl,g,C,q⟩:=h;cases R;obtain⟨t,rfl⟩:=z;obtain⟨its,n,r,d,D⟩:=I.lst g;obtain⟨c,G,l,m⟩:=FN C;have hl:=r.length;have hn:=rO;have w:Inv X am σ (cQ H p (.lst (xs.set j v))) {s with heap:=s.heap.update p (ah3 (·.setIfInBounds j u))}:=I.Yo g d (DZ its n j u) (r.set B j) (by rw[bp];exact D) s.toks;by_cases y:0<=k
 ·have f:k.toNat=j:=by rw[wp y m]at c;exact cU c
  exact PySem.W.ki_setAt d y (by lia) (by rw[aD,<-hl];exact m) (by rw[f];exact⟨_,w,q⟩)
 ·have f:(k+(its.toArray.size:Int)).toNat=j:=by rw[J' (by lia) l]at c;rw[aD,<-hl];exact cU c
  exact PySem.W.ki_setBack d (by lia) (by rw[aD,<-hl];exact l) (by lia) (by rw[f];exact⟨_,w,q⟩)
def zK(lo c:Option Int)(n:Nat):(hL lo c af n).1=((HT.fT n 0 lo:Nat):Int)/\(hL lo c af n).2.1=((HT.fT n n c:Nat):Int)/\(hL lo c af n).2.2=1:=by
 refine⟨?_,?_,rfl⟩;·cases lo with|none=>simp[hL,HT.fT]|some i=>
   simp only[hL,HT.fT,Option.getD_none,show(1:Int)>0 by ext,mI];by_cases h:i<0;·simp only[h,mI]<;>lia
   ·simp only[h,qW]<;>lia
 ·cases c with|none=>simp[hL,HT.fT]|some i=>
   simp only[hL,HT.fT,Option.getD_none,show(1:Int)>0 by ext,mI];by_cases h:i<0;·simp only[h,mI]<;>lia
   ·simp only[h,qW]<;>lia
def w6(its:List Value)(lo h:Option Int):slicePick its.toArray lo h af=((its.drop (HT.fT its.length 0 lo)).take (HT.fT its.length its.length h-HT.fT its.length 0 lo)).toArray:=by obtain⟨c,d,f⟩:=zK lo h its.toArray.size;unfold slicePick;rw[c,d,f];simp only[sliceRange_one,pick_run,aD]<;>rfl
def D_(K:Frag):V->Option Int->Option Int->Hp->VK->Prop:=λx lo h H Q=>∃a xs,x=.ref a/\gN K H a xs/\∀p,H p=af->Q (.ref p) (cQ H p (.lst (mR xs lo h)))
def Tr:Hj X (D_ X.K):=by intro am s σ H x v l k lo d sl Q I R f p P h;obtain⟨a,xs,rfl,g,q⟩:=h;cases R;obtain⟨its,r,t,z⟩:=I.list g;have c:=r.length;refine⟨"list",_,slot_list_getitem.lookup,t.isList.typeIs,?_⟩;refine wpAny_getItem_list_slice t.isList f p P .none (by simp) ?_ (by rw[aD]<;>lia);rw[w6,<-c];refine⟨.ref s.heap.objs.size,_,I.laid (t':=s.toks) (o:=.lst (mR xs lo d)) (λb m q=>aj _ q) (aB _) ?_,rfl,q _ (I.di.fresh (aB _))⟩;exact⟨aH (sg xs lo d) z,_,0,(r.drop (HT.fT xs.length 0 lo)).take (HT.fT xs.length xs.length d-HT.fT xs.length 0 lo),aU _ rfl⟩
noncomputable def mT:V->Bool|.non=>J|.bl _=>J|.int _=>J|.str _=>J|_=>a7
noncomputable def KQ:V->V->Bool|.non,.non=>J|.bl a,.bl b=>a==b|.bl a,.int b=>(if a then 1 else 0)==b|.int a,.bl b=>a==if b then 1 else 0|.int a,.int b=>a==b|.str a,.str b=>a==b|_,_=>a7
def KL{y:V}(c:RelV y u)(R:RelV x v)(F:mT y)(f:mT x):SeqAt.EqAt A s u v (KQ y x):=by cases y with
 |non=>cases c;cases x with|non=>cases R;exact SeqAt.EqAt.same _|bl b=>cases R;exact SeqAt.EqAt.none_bool b|int b=>obtain⟨t,rfl⟩:=R;exact SeqAt.EqAt.none_int b t|str b=>obtain⟨t,rfl⟩:=R;exact SeqAt.EqAt.none_str b t|_=>exact absurd (show a7=J from f) aK
 |bl a=>cases c;cases x with|non=>cases R;exact SeqAt.EqAt.bool_none a|bl b=>cases R;exact SeqAt.EqAt.bool_bool a b|int b=>obtain⟨t,rfl⟩:=R;exact SeqAt.EqAt.bool_int a b t|str b=>obtain⟨t,rfl⟩:=R;exact SeqAt.EqAt.bool_str a b t|_=>exact absurd (show a7=J from f) aK
 |int a=>obtain⟨t',rfl⟩:=c;cases x with|non=>cases R;exact SeqAt.EqAt.int_none a t'|bl b=>cases R;exact SeqAt.EqAt.int_bool a t' b|int b=>obtain⟨t,rfl⟩:=R;exact SeqAt.EqAt.int_int a t' b t|str b=>obtain⟨t,rfl⟩:=R;exact SeqAt.EqAt.int_str a t' b t|_=>exact absurd (show a7=J from f) aK
 |str a=>obtain⟨t',rfl⟩:=c;cases x with|non=>cases R;exact SeqAt.EqAt.str_none a t'|bl b=>cases R;exact SeqAt.EqAt.str_bool a t' b|int b=>obtain⟨t,rfl⟩:=R;exact SeqAt.EqAt.str_int a t' b t|str b=>obtain⟨t,rfl⟩:=R;exact SeqAt.EqAt.str_str a t' b t|_=>exact absurd (show a7=J from f) aK
 |_=>exact absurd (show a7=J from F) aK
def Qv(x:V)(u:Value):Bool:=match u with|.none=>KQ .non x|.bool b=>KQ (.bl b) x|.int i _=>KQ (.int i) x|.str z _=>KQ (.str z) x|_=>a7
def KO{y:V}(r:RelV y u)(f:mT y):Qv x u=KQ y x:=by cases y with|non=>cases r;rfl|bl b=>cases r;rfl|int i=>obtain⟨t,rfl⟩:=r;rfl|str z=>obtain⟨t,rfl⟩:=r;rfl|_=>exact absurd (show a7=J from f) aK
def EW:∀{xs:List V}{us:List Value},Vals xs us->xs.all mT->us.any (Qv x)=xs.any λy=>KQ y x:=by intro xs us h f;induction h with|nil=>rfl|cons r t I=>rw[bh,aI]at f;rw[kY,kY,KO r f.1,I f.2]
theorem ve{A:cr}{s:bv}{x:V}{v:Value}(R:RelV x v)(F:mT x):∀{xs:List V}{us:List Value},Vals xs us->xs.all mT->∀u∈us,SeqAt.EqAt A s u v (Qv x u)
 |_,_,.nil,_=>λu hu=>by cases hu|y::xs,u::us,.cons r t,f=>λU hu=>by
  rw[bh,aI]at f;rcases aJ.mp hu with rfl|hu;·rw[KO r f.1];exact KL r R f.1 F
  ·exact ve R F t f.2 U hu
def U5(x:V)(xs:List V):Bool:=xs.any λy=>KQ y x
def A8(K:Frag)(neg:Bool):R2:=λx y H Q=>∃p xs,y=.ref p/\(gN K H p xs\/eL K H p xs)/\mT x=J/\xs.all mT=J/\Q (.bl (if neg then !U5 x xs else U5 x xs)) H
def xM:jQ X (compareOp .In) (A8 X.K a7):=by
 intro am s σ H x y v u Q I R g h;obtain⟨p,xs,rfl,c,f,fs,q⟩:=h;cases g;rcases c with c|c;·obtain⟨its,r,P,z⟩:=I.list c;refine SeqAt.in_listAt (Qv x) P.isList (λw d=>ve R f r fs w (by simpa using d)) ⟨.bl _,H,I,rfl,?_⟩;rw[show its.toArray.any (Qv x)=its.any (Qv x)by simp,EW r fs];exact q
 ·obtain⟨its,r,P,z⟩:=I.tuple c;refine SeqAt.in_tupleAt (Qv x) P (λw d=>ve R f r fs w (by simpa using d)) ⟨.bl _,H,I,rfl,?_⟩;rw[show its.toArray.any (Qv x)=its.any (Qv x)by simp,EW r fs];exact q
def yq:dJ X (.builtin "len") λxs H Q=>∃p ys,xs=[.ref p]/\(gN X.K H p ys\/eL X.K H p ys)/\Q (.int ys.length) H:=by
 intro am s σ H xs us Q I r h;obtain⟨p,ys,rfl,d,q⟩:=h;obtain⟨u,rfl,f⟩:=pM r;cases f;have hn:=rO;rcases d with d|d;·obtain⟨its,R,P,z⟩:=I.list d;have c:=R.length;exact Calls.call_len_list P.isList (by simp only[aD]<;>lia) ⟨.int ys.length,H,I.tok _,⟨s.toks+1,by rw[aD,c]⟩,q⟩
 ·obtain⟨its,R,P,z⟩:=I.tuple d;have c:=R.length;exact len_tuple P (by simp only[aD]<;>lia) ⟨.int ys.length,H,I.tok _,⟨s.toks+1,by rw[aD,c]⟩,q⟩
def yr:dJ X (.builtin "len") λxs H Q=>∃z,xs=[.str z]/\z.length<=sizeLine/\Q (.int z.length) H:=by intro am s σ H xs us Q I r h;obtain⟨z,rfl,c,q⟩:=h;obtain⟨u,rfl,t,rfl⟩:=pM r;have hn:=rO;exact len_str (by lia) ⟨.int z.length,H,I.tok _,⟨_,rfl⟩,q⟩
def dJ.or{f:Value}{r R:List V->Hp->VK->Prop}(h:dJ X f r)(h':dJ X f R):dJ X f λxs H Q=>r xs H Q\/R xs H Q:=by
 intro am s σ H xs us Q I c q;rcases q with q|q;·exact h am s σ H xs us Q I c q
 ·exact h' am s σ H xs us Q I c q
def yt:dJ X (.type "list") λxs H Q=>∃p ys,xs=[.ref p]/\(gN X.K H p ys\/eL X.K H p ys)/\∀l,H l=af->Q (.ref l) (cQ H l (.lst ys)):=by
 intro am s σ H xs us Q I r h;obtain⟨p,ys,rfl,d,q⟩:=h;obtain⟨u,rfl,B⟩:=pM r;cases B;have fin:∀(its:List Value),Vals ys its->ys.length<=sizeLine->∀(c:Heap)(C:Nat),(∀b y,s.heap.get? b=O y->c.get? b=O y)->c.get? s.heap.objs.size=O {cls:=.type "list",dict:=af,data:=.seq its.toArray C,slots:=#[]}->EP X am σ Q (.ref s.heap.objs.size) {s with heap:=c}:=λits R z c C k e=>⟨.ref s.heap.objs.size,_,I.laid (t':=s.toks) k (aB _) (show eB X.prog X.w _ c _ (.lst ys)from⟨z,its,C,R,e⟩),rfl,q _ (I.di.fresh (aB _))⟩;rcases d with d|d;·obtain⟨its,R,P,z⟩:=I.list d;have f:=R.length;obtain⟨o,g,m,n,t⟩:=P.isList;exact call_list_seq p (.inl rfl) g m t (λc C k e=>fin its R z c C k e) (by simp only[aD]<;>lia)
 ·obtain⟨its,R,P,z⟩:=I.tuple d;have f:=R.length;obtain⟨o,g,m,n,t⟩:=P;exact call_list_seq p (.inr rfl) g m t (λc C k e=>fin its R z c C k e) (by simp only[aD]<;>lia)
def wF:dJ X (.type "tuple") λxs H Q=>∃p ys,xs=[.ref p]/\((gN X.K H p ys/\∀l,H l=af->Q (.ref l) (cQ H l (.tup ys)))\/eL X.K H p ys/\Q (.ref p) H):=by
 intro am s σ H xs us Q I r h;obtain⟨p,ys,rfl,h⟩:=h;obtain⟨u,rfl,k⟩:=pM r;cases k;rcases h with ⟨d,q⟩|⟨d,q⟩;·obtain⟨its,R,P,z⟩:=I.list d;have f:=R.length;refine call_tuple_list P.isList (λc m=>?_) (by simp only[aD]<;>lia);have g:Inv X am σ H {s with heap:=c}:=I.kept (t':=s.toks) m;have t:Inv X am σ (cQ H c.objs.size (.tup ys)) {s with heap:=c.push {cls:=.type "tuple",data:=.seq its.toArray}}:=g.laid (t':=s.toks) (λb o e=>aj _ e) (aB _) (show eB X.prog X.w _ _ _ (.tup ys)from⟨z,its,R,o_ _ _⟩);exact⟨.ref c.objs.size,_,t,rfl,q _ (g.di.fresh (aB _))⟩
 ·obtain⟨its,R,P,z⟩:=I.tuple d;exact call_tuple_same P ⟨.ref p,H,I,rfl,q⟩
def iu(K:Frag)(T:String)(x:V)(H:Hp):Prop:=match x with|.str _=>T="str"|.int _=>T="int"|.ref p=>(T="list"/\∃xs,gN K H p xs)\/(T="tuple"/\∃o,K.lookup p=O o/\o.cls=.type "tuple"/\o.dict=af)\/T="dict"/\((∃B,H p=O (.dK B))\/∃B,H p=O (.dT B))\/T="set"/\∃S n,H p=O (.set S n)|_=>False
def Oy(I:Inv X am σ H s)(r:RelV x v)(ty:iu X.K T x H):
  s.TypeIs v T/\∀a,v=.ref a->∃f,s.heap.get? a=O f/\f.dict=none:=by cases x with|str z=>obtain⟨t,rfl⟩:=r;cases show T="str"from ty;exact⟨oj s z t,λ_ e=>nomatch e⟩|int i=>obtain⟨t,rfl⟩:=r;cases show T="int"from ty;exact⟨typeIs_int s i t,λ_ e=>nomatch e⟩|ref p=>
  cases r;rcases ty with ⟨rfl,xs,q⟩|⟨rfl,o,h,g,d⟩|⟨rfl,h⟩|⟨rfl,S,n,h⟩;·obtain⟨its,_,P,_⟩:=I.list q;refine⟨P.isList.typeIs,λa e=>?_⟩;cases e;obtain⟨o,n,e,c,d,_⟩:=P;exact⟨o,e,d⟩
  ·refine⟨⟨o,I.l9 p o h,g⟩,λa e=>?_⟩;cases e;exact⟨o,I.l9 _ o h,d⟩
  ·have z:∃o,s.heap.get? p=O o/\o.ExactDict:=by
    rcases h with ⟨B,h⟩|⟨B,h⟩;·obtain⟨_,_,_,_,o,_,_,e,ex,_⟩:=I.di p _ h;exact⟨o,e,ex⟩
    ·obtain⟨_,_,_,_,o,_,_,e,ex,_⟩:=I.di p _ h;exact⟨o,e,ex⟩
   obtain⟨o,e,ex⟩:=z;refine⟨⟨o,e,ex.1⟩,λa E=>?_⟩;cases E;exact⟨o,e,ex.2.1⟩
  ·obtain⟨o,_,_,_,e,ex,_⟩:=I.di p _ h;refine⟨⟨o,e,ex.1⟩,λa E=>?_⟩;cases E;exact⟨o,e,ex.2.1⟩|_=>exact ac8 ty
def T1(K:Frag)(T:String)(r:V->List V->Hp->VK->Prop)(t:TE):TE:=λσ H Q=>t σ H λx h=>iu K T x h/\r x [] h Q
def vx(K:Frag)(T:String)(r:V->List V->Hp->VK->Prop)(o:TE)(t:TA):TE:=λσ H Q=>o σ H λx h=>iu K T x h/\t σ h λxs c=>r x xs c Q
variable{o:Expr}{es:List Expr}{to:TE}{t:TA}{name:Str}{b5 dP:Pos}{id:String}{r:V->List V->Hp->VK->Prop}
def Y2(p:PlainAttrs T)(slot:Slot T name id)(y:typeOf (.builtin id)=pure (.type "method_descriptor"))(m:Ca X id r)(d:PE X o to)(q:autoParam (ge o name X.env (eval o X.env)=eval o X.env) o0)(M:autoParam ((b5.endLine==dP.line)=J) o0):PE X (.Call (.Attribute o name b5) [] [] dP) (T1 X.K T r to):=by intro am s σ H Q I h;refine wpAny_Call_method0_late q M (dh (d am s σ H _ I h) λv s1 x=>?_);obtain⟨x,f,c,R,ty,g⟩:=x;obtain⟨k,l⟩:=Oy c R ty;exact⟨T,id,p,slot,y,k,l,jS rfl (PySem.evalArgs_none (m am s1 σ f x [] v [] Q c R .nil g))⟩
def vn(p:PlainAttrs T)(slot:Slot T name id)(y:typeOf (.builtin id)=pure (.type "method_descriptor"))(m:Ca X id r)(f:PE X o to)(g:PA X (e::es) t)(q:autoParam (ge o name X.env (eval o X.env)=eval o X.env) o0)(k:autoParam (((db dP (ci (e::es) X.env)).all (λx=>!x.1)&&(backToKw dP (hB [] X.env)).all (λx=>x.1.isSome)&&decide ((e::es).length+([]:List Keyword).length+(if([]:List Keyword).isEmpty then 0 else 1)<30))=J) o0)(M:autoParam ((b5.endLine==dP.line)=J) o0)(l:autoParam (ci (e::es) X.env=(a7,eval e X.env)::ci es X.env) o0)(w:autoParam ((db dP (ci es X.env)).any (·.1)=a7) o0):PE X (.Call (.Attribute o name b5) (e::es) [] dP) (vx X.K T r to t):=by intro am s σ H Q I h;refine sR q k M rfl (dh (f am s σ H _ I h) λv s1 x=>?_);obtain⟨x,z,c,R,ty,B⟩:=x;obtain⟨C,D⟩:=Oy c R ty;refine⟨T,id,p,slot,y,C,D,?_⟩;have d:=g dP am s1 σ z _ c B;rw[l]at d⊢;refine jS (by show(a7||(db dP (ci es X.env)).any (·.1))=a7;rw[w]<;>rfl) (lg ?_);exact dh d λus s2 ⟨E,F,G,L,N⟩=>m am s2 σ F x E v us Q G R L N
end
def ub(X:Cx)(id:String)(r:V->List V->Hp->VK->Prop):Prop:=∀(am:ce)(s:bv)(σ:tSt)(H:Hp)(x:V)(xs:List V)(v:Value)(us:List Value)(Q:VK),Inv X am σ H s->RelV x v->Vals xs us->r x xs H Q->bb (bn X.prog X.w) X.A (call (.builtin id) (v::us)) (EP X am σ Q) X.xe s
def Vals.one:∀{x:V}{us:List Value},Vals [x] us->∃u,us=[u]/\RelV x u:=by intro _ _ h;cases h with|cons r t=>cases t;exact⟨_,rfl,r⟩
def Vals.two:∀{x y:V}{us:List Value},Vals [x,y] us->∃u v,us=[u,v]/\RelV x u/\RelV y v:=by intro _ _ _ h;cases h with|cons r t=>cases t with|cons q t=>cases t;exact⟨_,_,rfl,r,q⟩
def Vals.zero:∀{us:List Value},Vals [] us->us=[]|_,.nil=>rfl
theorem Vals.dropLast(h:Vals xs us):Vals xs.dropLast us.dropLast:=by induction h with|nil=>exact .nil|cons r t I=>cases t with|nil=>exact .nil|cons q t'=>exact .cons r I
theorem Vals.reverse(h:Vals xs us):Vals xs.reverse us.reverse:=by induction h with|nil=>exact .nil|cons r t I=>rw[de,de];exact Vals.append I (.cons r .nil)
theorem Vals.rep{xs:List V}{us:List Value}(h:Vals xs us):∀k:Nat,Vals (aa4 k xs).flatten (aa4 k us).flatten|0=>.nil|k+1=>by rw[cH,cH,dY,dY];exact Vals.append h (Vals.rep h k)
def DA(l:List α):l.eraseIdx (l.length-1)=l.dropLast:=by induction l with|nil=>rfl|cons a r I=>cases r with|nil=>rfl|cons b r=>
   have e:(a::b::r).length-1=(b::r).length-1+1:=by have h:(a::b::r).length=r.length+2:=rfl;have c:(b::r).length=r.length+1:=rfl;lia
   rw[e,List.eraseIdx_cons_succ,I];all_goals rfl
theorem eh(its:List Value):∀(k:Nat)(acc:List Value),ah9 (λa b=>a++b) acc.toArray (aa4 k its.toArray)=(acc++(aa4 k its).flatten).toArray
 |0,acc=>by simp|k+1,acc=>by
  have e:acc.toArray++its.toArray=(acc++its).toArray:=by simp
  have E:acc++its++(aa4 k its).flatten=acc++(aa4 (k+1) its).flatten:=by rw[cH,dY,aA]
  rw[<-E,<-eh its k (acc++its),<-e,cH,List.foldl_cons]
section
variable{l b:Addr}{zs:List V}
def Inv.RD{f:Array Value->Array Value}(I:Inv X am σ H s)(h:H l=O (.lst xs))(e:s.heap.get? l=O {cls:=.type "list",data:=.seq its.toArray n})(a:f its.toArray=its'.toArray)(c:Vals ys its')(hz:ys.length<=sizeLine):Inv X am σ (cQ H l (.lst ys)) {s with heap:=s.heap.update l (ah3 f),toks:=t'}:=by have q:=PySem.IsL.update e f;rw[a]at q;refine I.write (x:=l) (e:=l) (by rw[h];exact trivial) (.inl rfl) (λB u d hu=>(bT s.heap (ah3 f) (bY d)).trans hu) ⟨_,q⟩ ?_;exact⟨hz,its',_,c,q⟩
def Inv.Rz(I:Inv X am σ H s)(h:Vals ys its)(hz:ys.length<=sizeLine):Inv X am σ (cQ H s.heap.objs.size (.lst ys)) {s with heap:=s.heap.push {cls:=.type "list",data:=.seq its.toArray},toks:=t'}:=I.laid (λ_ _ q=>aj _ q) (aB _) ⟨hz,its,0,h,aU _ rfl⟩
theorem Inv.fresh(I:Inv X am σ H s):H s.heap.objs.size=none:=I.di.fresh (aB _)
def Inv.Bp(I:Inv X am σ H s)(h:H l=O (.lst xs)):xs.length<=sizeLine/\∃(its:List Value)(n:Nat),Vals xs its/\xs.length=its.length/\s.heap.get? l=O {cls:=.type "list",data:=.seq its.toArray n}:=by obtain⟨z,its,n,r,e⟩:=I.di l _ h;exact⟨z,its,n,r,r.length,e⟩
def vk(h:n<=sizeLine):ad3 n=false:=by unfold ad3;exact bN (by lia)
end
def zy:V->List V->Hp->VK->Prop:=λx a H Q=>∃l xs y,x=.ref l/\a=[y]/\H l=O (.lst xs)/\xs.length<sizeLine/\Q .non (cQ H l (.lst (xs++[y])))
def jG:ub X "list.append" zy:=by intro am s σ H x d v us Q I R b h;obtain⟨l,xs,y,rfl,rfl,a,f,q⟩:=h;cases R;obtain⟨u,rfl,c⟩:=b.one;obtain⟨z,its,n,r,g,e⟩:=I.Bp a;refine eO F.slot_list_append ⟨_,e,rfl⟩ F.entry_list_append (F.args_list_append_2 _ _) (PySem.list_append l its.toArray n u (by rw[aD];lia)) ⟨e,?_⟩;refine⟨.non,_,I.RD (its':=its++[u]) a e (by simp) (r.append (.cons c .nil)) ?_,rfl,q⟩;rw[ae,List.length_singleton];lia
def zA:V->List V->Hp->VK->Prop:=λx a H Q=>∃l b xs z,x=.ref l/\a=[.ref b]/\H l=O (.lst xs)/\H b=O (.lst z)/\xs.length+z.length<=sizeLine/\Q .non (cQ H l (.lst (xs++z)))
def xI:ub X "list.extend" zA:=by
 intro am s σ H x p v us Q I R d h;obtain⟨l,b,xs,Z,rfl,rfl,c,B,t,q⟩:=h;cases R;obtain⟨u,rfl,f⟩:=d.one;cases f;obtain⟨z,its,n,r,w,e⟩:=I.Bp c;obtain⟨y,a,N,g,k,E⟩:=I.Bp B;have m:its.toArray.size+a.toArray.size<=sizeLine:=by rw[aD,aD];lia
 have o:¬(!its.toArray.isEmpty&&ad3 (its.toArray.size+a.toArray.size))=true:=by rw[vk m,nW];exact aK
 refine eO F.slot_list_extend ⟨_,e,rfl⟩ F.entry_list_extend (F.args_list_extend_2 _ _) (AutoSeq1.list_extend_list_list_0 l its.toArray n b a.toArray N o (by rw[aD];lia) (by lia)) ⟨e,E,?_⟩;refine⟨.non,_,I.RD (its':=its++a) c e (by simp) (r.append g) ?_,rfl,q⟩;rw[ae];lia
def L1:V->List V->Hp->VK->Prop:=λx a H Q=>∃l xs y,x=.ref l/\a=[]/\H l=O (.lst xs)/\xs[xs.length-1]?=O y/\Q y (cQ H l (.lst xs.dropLast))
def Ys:ub X "list.pop" L1:=by
 intro am s σ H x m v us Q I R d h;obtain⟨l,xs,y,rfl,rfl,c,f,q⟩:=h;cases R;have a:=d.zero;subst a;obtain⟨z,its,n,r,g,e⟩:=I.Bp c;obtain⟨u,hu,k⟩:=r.get f;have b:its.toArray[its.toArray.size-1]?=O u:=by show its.toArray[its.length-1]?=O u;rw[<-QQ,<-g];exact hu
 refine eO F.slot_list_pop ⟨_,e,rfl⟩ F.entry_list_pop (F.args_list_pop_1 _) (MeetsSeq.list_pop_last l its.toArray n u b (by rw[aD];lia)) ⟨e,?_⟩;refine⟨y,_,I.RD (its':=its.dropLast) c e ?_ r.dropLast ?_,k,q⟩;·show its.toArray.eraseIdxIfInBounds (its.toArray.size-1)=its.dropLast.toArray;rw[aD,List.eraseIdxIfInBounds_toArray,DA]
 ·rw[List.length_dropLast];lia
def Zz:R2:=λx y H Q=>∃l b xs z,x=.ref l/\y=.ref b/\H l=O (.lst xs)/\H b=O (.lst z)/\xs.length+z.length<=sizeLine/\∀p,H p=af->Q (.ref p) (cQ H p (.lst (xs++z)))
def MH:jQ X (binaryOp .Add) Zz:=by
 intro am s σ H x y v u Q I R c h;obtain⟨l,b,xs,Z,rfl,rfl,d,B,m,q⟩:=h;cases R;cases c;obtain⟨z,its,n,r,o,e⟩:=I.Bp d;obtain⟨p,a,N,f,g,E⟩:=I.Bp B;refine PySem.P.add_list e E ?_ (by rw[aD,aD];lia);have k:its.toArray++a.toArray=(its++a).toArray:=by simp
 rw[k];exact⟨.ref _,_,I.Rz (t':=s.toks) (r.append f) (by rw[ae];lia),rfl,q _ I.fresh⟩
def JK:R2:=λx y H Q=>∃l k xs,x=.ref l/\y=.int k/\H l=O (.lst xs)/\-2^63<=k/\k<2^63/\xs.length*k.toNat<=sizeLine/\∀p,H p=af->Q (.ref p) (cQ H p (.lst (aa4 k.toNat xs).flatten))
def Ry(xs:List α)(k:Nat):(aa4 k xs).flatten.length=k*xs.length:=by induction k with|zero=>simp|succ k I=>rw[cH,dY,ae,I,Z_,Nat.add_comm]
def YW:jQ X (binaryOp .Mult) JK:=by
 intro am s σ H x y v u Q I R g h;obtain⟨l,k,xs,rfl,rfl,o,p,w,f,q⟩:=h;cases R;obtain⟨t,rfl⟩:=g;obtain⟨z,its,n,r,B,e⟩:=I.Bp o;have b:its.toArray.size*k.toNat<=sizeLine:=by rw[aD,<-B];exact f
 have C:¬its.toArray.size*k.toNat>(2^63-1)/8:=by
  have:(sizeLine:Nat)<=(2^63-1)/8:=by ext
  lia
 have K:¬(!Builtin.List.listFitsIndex k)=true:=by rw[fitsIndex_both p w];exact aK
 have D:¬ad3 (its.toArray.size*k.toNat)=true:=by rw[vk b];exact aK
 have L:ah9 (λc d=>c++d) #[] (aa4 (if its.toArray.isEmpty=J then 0 else k.toNat) its.toArray)=(aa4 k.toNat its).flatten.toArray:=by
  have E:∀m:Nat,ah9 (λc d=>c++d) #[] (aa4 m its.toArray)=(aa4 m its).flatten.toArray:=λm=>by have:=eh its m [];rw[gu]at this;exact this
  rw[E];cases its with|nil=>simp|cons a G=>rw[bE (by simp)]
 refine wpAny_binaryOp_repeat_ref (T:="list") (U:="int") (by ext) ⟨_,e,rfl⟩ (λS=>typeIs_int S k t) noFill_list_mul F.fills_int_mul F.slot_int_rmul repeat_list F.slot_int_index.lookup (eO F.slot_int_rmul (typeIs_int s k t) F.entry_int_rmul (F.args_int_rmul_2 _ _) (int___rmul___int_list k t l its.toArray n) ⟨e,rfl,⟨_,e,rfl⟩,eO F.slot_list_mul ⟨_,e,rfl⟩ F.entry_list_mul (F.args_list_mul_2 _ _) (AutoListH.list___mul___list_int_3 l its.toArray n k t K C D) ⟨e,?_⟩⟩);rw[L];exact⟨.ref _,_,I.Rz (t':=s.toks) (r.rep k.toNat) (by rw[Ry,Nat.mul_comm];exact f),rfl,q _ I.fresh⟩
section
variable{prog:cf}{w:b7}{E:dC}
end
end L2
namespace Att
open PySem.W PySem.Calls
variable{P:Params}{h:Heap}{l:OpenLaw}{n:Nat}
def tu:∀(ns:List Int)(vs:List Value),WellAll P h vs (ns.map WData.int)->IntsAre vs ns:=by intro ns;induction ns with|nil=>intro vs w;rw[fj]at w;cases w;exact .nil|cons n ns i=>intro vs w;rw[aY]at w;cases w with|cons a b=>cases a;exact .cons _ _ (i _ b)
def Jj(hn:l.most=O n){args:List WData}{v:List Value}(Q:l.row.toRowW.claim.pre args)(c:WellAll P h v args):∃a vs N,v=[ab0 a]/\args=[WData.list (N.map WData.int)]/\h.get? a=O {cls:=.type "list",data:=.seq vs.toArray}/\IntsAre vs N/\N.length<=n:=by
 have e:WShape.hasAll [] args [.list .int]=true:=(pre_splitW Q).1;have f:l.pre.holds [] {args:=args}=true:=(pre_splitW Q).2;obtain⟨d,r,rfl,g,i⟩:=hasAllW_cons e;obtain rfl:=hasAllW_nil i;obtain⟨x,rfl,j⟩:=hasW_list g;obtain⟨N,rfl⟩:=items_int j;have H:N.length<=n:=by
  unfold OpenLaw.pre at f;have h4:(WTm.not (.lt (.lit (.int (n:Int))) (.len (.arg 0)))).holds [] {args:=[.list (N.map .int)]}=true:=by have h4:=(holds_andW f).1;rw[hn]at h4;exact h4
  have b:=condW_of h4 (w_not (w_lt w_lit (w_len_list (w_arg rfl))));rw[ak]at b;refine Nat.le_of_not_lt λq=>?_;have k:(n:Int)<((N.length:Nat):Int):=by lia
  first|(rw[cq k]at b;exact absurd b (by ext))|(simp at b;lia)
 cases c with|cons w W=>cases W;cases w with|list o E=>exact⟨_,_,N,rfl,rfl,o,tu N _ E,H⟩
def IU(l:OpenLaw)(args:List WData):l.row.toRowW.claim.post args (.bool J) args=true:=postW_of (r:=l.row.toRowW) (X:=J==J) (show WShape.has [] (.bool J) .bool=J by first|rfl|decide|simp[WShape.has,WShape.arms,WShape.armsAll]) (show(WTm.eq .res (.lit (.bool J))).value [] {args:=args,res:=O (.bool J),after:=args}=O (.bool (J==J))from w_eq_bool (w_res rfl) w_lit) rfl
def Av{q:cf}{L:List Str}{XP:b'->Heap->Prop}{y:b7->Heap->Prop}{d:DefRec}(hn:l.most=O n)(e:d.params.defaults=[])(call:∀(w:b7)(S s:bv)(m M:b')(F:Addr)(o:Obj)(p c doc:Value)(a:Addr)(vs:List Value)(N:List Int),Ground q L [] XP w S m M s.heap->y w s.heap->s.heap.get? F=O o->o.data=.func (docDef d.name d.params d.body d.scope p c doc)->s.heap.CodeRec c d.name->m d.name=O (.ref F)->s.heap.get? a=O {cls:=.type "list",data:=.seq vs.toArray}->IntsAre vs N->N.length<=n->s.gens=#[]->eH (bn l.prog w) callerA (.call (.ref F) ⟨[.ref a],[]⟩) (λr s'=>r=.ok (.ret (.bool J))/\OldK s.heap s'.heap/\s'.os=s.os/\AllBare s'.gens) s):WalkO q L XP y l.row.toRowW d [] λf vs=>PySem.call f vs:=by intro w S s m M G Y F o p c doc j kV k t W D g u args v R Q A x i z;obtain rfl:j=.none:=Dflts.none D e;obtain rfl:kV=.none:=Dflts.noKw D;obtain⟨a,vs,N,rfl,rfl,X,H,b⟩:=Jj hn Q i;refine enter_call (jY (call w S s m M F o p c doc a vs N G Y k (fd_plain t) W g X H b u) λr s' B=>?_);obtain⟨rfl,C,E,I⟩:=B;exact⟨.inl ⟨.bool J,.bool J,[],rfl,λ_=>rfl,.bool J,IU l _,λ_=>⟨List.Pairwise.nil,λ_ K=>nomatch K⟩⟩,C,E,I⟩
section
variable{prog:cf}{w:b7}{A:cr}{E:dC}{s:bv}{K:Frag}
end
end Att
namespace L2
variable{P prog:cf}{w:b7}{K:Frag}{mg:b'}{X:Cx}{H H' H1 H2:Hp}{h h':Heap}{a dx C f:Addr}{o:Option V}{x m b1:Str}{e b value:Expr}{fs:List (Str×V)}{am:ce}{σ:tSt}{s:bv}{ta tb te tv td ty:TE}{pos pos' BY p b5:Pos}{E Q:dC}{t:TA}{u:Value}{A:cr}{es:List Expr}{CX:xg}{fd:dL}{ps:List Str}{sp:Sp}{T:String}{y:V}{bK:List (b8×V)}
def Jx:∀{vs:List Value}{N:List Int},IntsAre vs N->Vals (N.map V.int) vs:=by intro vs N h;induction h with|nil=>exact .nil|cons n t h i=>exact .cons ⟨t,rfl⟩ i
def Wv(H:Hp):Prop:=∀b,H b=af\/∃o c,H b=O (.DE o (.lst c))
def LP{M:b'}{k:Nat}{G:Addr}{s₁:bv}{vs:List Value}{i:List Int}(KX:K.In s₁.heap)(j:s₁.heap.Ns b6 mg)(c:s₁.heap.Ns builtinsNs M)(I:∀x:Str,x≠"__name__"->M x=c7 x)(L:s₁.heap.NoLimit)(hg:s₁.gens=#[])(D:s₁.heap.get? a=O {cls:=.type "list",data:=.seq vs.toArray})(hi:IntsAre vs i)(hl:i.length<=sizeLine)(hr:dQ k callerA)(F:∀base:Heap,K.In base->base.Ns b6 mg->je P w K mg base CX k G fd [x] sp)(R:∀(s:bv)(u:Value),BindsTo s fd ⟨[u],[]⟩ [(x,u)])(wL:∀H:Hp,Wv H->gN K H a (i.map V.int)->sp [.ref a] H (λv _=>v=.bl J) λ_ _ _=>False)(S:∀H e s',CX [] H s₁ (λ_ _ _=>False) e s'->False):eH (bn P w) callerA (.call (.ref G) ⟨[.ref a],[]⟩) (λr s'=>r=.ok (.ret (.bool J))/\OldK s₁.heap s'.heap/\s'.os=s₁.os/\AllBare s'.gens) s₁:=by
 have rv:=Jx hi;have U:=hi.length;have g:∀H:Hp,Wv H->gN K H a (i.map V.int)->kZ P w H s₁.heap->(∀b,H b≠af->b=a)->(H a≠af->K.lookup a=af)->eH (bn P w) callerA (.call (.ref G) ⟨[.ref a],[]⟩) (λr s'=>r=.ok (.ret (.bool J))/\OldK s₁.heap s'.heap/\s'.os=s₁.os/\AllBare s'.gens) s₁:=by
  intro H hO hS di hA hK;have E4:∀{b:Addr}{o:Obj},s₁.heap.get? b=O o->H b=af->(yX s₁.heap H).get? b=O o:=λe n=>K7 e n;have Vi:∀{b:Addr}{o:Obj}{es:Array fy}{ep:Nat},s₁.heap.get? b=O o->o.data=.dict es ep->H b=none:=λ{b o es ep}e d=>by cases q:H b with|none=>rfl|some u=>have W:b=a:=hA b (by rw[q];simp);subst W;rw[D]at e;cases e;have d':Data.seq vs.toArray _=Data.dict es ep:=d;cases d'
  have N:∀{b:Addr}{m:b'},s₁.heap.Ns b m->(yX s₁.heap H).Ns b m:=λ{b m}⟨o,es,ep,e,d,r⟩=>⟨o,es,ep,E4 e (Vi e d),d,r⟩;have l:K.In (yX s₁.heap H):=λb o e=>E4 (KX b o e) (by cases q:H b with|none=>rfl|some u=>have W:b=a:=hA b (by rw[q];simp);subst W;rw[hK (by rw[q];simp)]at e;cases e);have hM:Mod K mg (yX s₁.heap H):=⟨l,N j,⟨M,N c,I⟩,let ⟨mc,h1,h2⟩:=L;⟨mc,N h1,h2⟩⟩;have e0:An P w K mg (yX s₁.heap H) callerA [] s₁ H:=⟨rfl,hM,λb o e=>RZ e,mG (Ie _ _),trivial,λb c=>absurd (show b∈([]:List Addr)from c) (by simp),di,.of_eq hg⟩;refine jY ((F _ l (N j)).run callerA [] s₁ H ⟨[.ref a],[]⟩ [.ref a] [.ref a] _ _ hr e0 (R s₁ (.ref a)) (.cons rfl .nil) (wL H hO hS)) λr s' h=>?_;cases r with|error e=>exact(S H e s' h).elim|ok fl=>cases fl with|next=>exact ac8 h|brk=>exact ac8 h|cont=>exact ac8 h|ret u=>obtain⟨v,H',os,B,un,DH,r',q⟩:=h;have q':v=.bl true:=q;subst q';obtain rfl:u=ad0 true:=r';refine⟨rfl,OldK.of_keep λb o e=>?_,os,B⟩;cases q:H b with|none=>exact un.keep b o e q (by intro z;exact absurd (show b∈([]:List Addr)from z) (by simp)) (by simp)|some u=>
     rcases hO b with z|⟨ob,xs,z⟩;·rw[q]at z;cases z
     ·have z2:=un.pd b ob _ z;obtain⟨e1,_⟩:=di b _ z;obtain⟨e2,_⟩:=DH b _ z2;rw[e]at e1;cases e1;exact e2
 cases Y:K.lookup a with|some o=>have e:=KX a o Y;rw[D]at e;cases e;refine g (λ_=>af) (λ_=>.inl rfl) (.inr ⟨_,vs.toArray,_,Y,rfl,rfl,rfl,by rw[aD,U];exact hl,by simpa using rv⟩) (λb u z=>by have Z:(af:Option HO)=O u:=z;cases Z) (λb z=>absurd rfl z) λz=>absurd rfl z|none=>
  refine g (λb=>if b=a then O (.DE {cls:=.type "list",data:=.seq vs.toArray} (.lst (i.map V.int)))else af) (λb=>?_) (.inl (.inr ⟨{cls:=.type "list",data:=.seq vs.toArray},bx rfl⟩)) (λb u z=>?_) (λb z=>?_) λ_=>Y
  ·by_cases c:b=a;·exact .inr ⟨_,_,bx c⟩
   ·exact .inl (bE c)
  ·by_cases c:b=a;·have Z:=(bx c).symm.trans z;cases Z;subst c;exact⟨D,by rw[ak];exact hl,vs,_,rv,D⟩
   ·have Z:=(bE c).symm.trans z;cases Z
  ·by_cases c:b=a;·exact c
   ·exact absurd (bE c) z
def Uw{l:OpenLaw}{n k:Nat}{q:cf}{L:List Str}{XP:b'->Heap->Prop}{D:b7->Heap->Prop}{d:DefRec}{K:Params->Frag}{CX:b7->xg}{sp:b7->Sp}(hn:l.most=O n)(R:n<=sizeLine)(r:d.params.defaults=[])(U:dQ k callerA)(W:∀(w:b7)(h:Heap),D w h->(K w.params).In h)(F:∀(w:b7)(mg:b')(j:Addr)(h:Heap),(K w.params).In h->h.Ns b6 mg->mg d.name=O (.ref j)->∃fd:dL,(∀(s:bv)(u:Value),BindsTo s fd ⟨[u],[]⟩ [(x,u)])/\∀base:Heap,(K w.params).In base->base.Ns b6 mg->je l.prog w (K w.params) mg base (CX w) k j fd [x] (sp w))(Z:∀(w:b7)(H:Hp)(a:Addr)(N:List Int),N.length<=n->Wv H->gN (K w.params) H a (N.map V.int)->sp w [.ref a] H (λv _=>v=.bl J) λ_ _ _=>False)(z:∀(w:b7)(H:Hp)(s:bv)(e:Value)(s':bv),CX w [] H s (λ_ _ _=>False) e s'->False):WalkO q L XP D l.row.toRowW d [] λf vs=>PySem.call f vs:=by refine Att.Av hn r λw I S mg mb j o pm cd doc a vs N G Y ho hd yW B XE i c hg=>?_;have M:=W w _ Y;obtain⟨fd,hb,hF⟩:=F w mg j _ M G.T.g B;exact LP M G.T.g G.T.b G.T.builtins G.T.nolimit hg XE i (aH c R) U hF hb (λH hO hS=>Z w H a N c hO hS) λH e s'=>z w H S e s'
noncomputable def gn(s:Stmt)(j:Nat):Stmt:=match s with|.ClassDef _ _ _ body _ _ _ _ _ _ _=>body.getD j (.Pass ⟨0,0,0,0⟩)|_=>.Pass ⟨0,0,0,0⟩
noncomputable def fu(s:Stmt):Arguments:=match s with|.FunctionDef _ a _ _ _ _ _ _ _ _=>a|_=>{posonlyargs:=[],args:=[],vararg:=af,kwonlyargs:=[],kw_defaults:=[],kwarg:=af,defaults:=[]}
noncomputable def cb(s:Stmt):List Stmt:=match s with|.FunctionDef _ _ b _ _ _ _ _ _ _=>b|_=>[]
noncomputable def aL(s:Stmt):Scope:=match s with|.FunctionDef _ _ _ _ _ _ S _ _ _=>S|_=>{kind:=.function,names:=[],isGenerator:=a7,isCoroutine:=a7}
abbrev CB:xg:=λ_ _ _ _ _ _=>False
abbrev E0:XK:=λ_ _ _=>False
def Vt:eu CB X E0:=λ_ _ _ _ _ _ _ h=>h.elim
structure JX(K:Frag)(x b1:Str)(st:Stmt)(f:Addr)(fd:dL):Prop where
 ex:∃(oc:Value)(od:Option Addr)(kV doc pm:Value)(an:Option Addr)(dW ct:Value)(tD:Array (Option Value)),fd=fnOf x b1 (fu st) (cb st) (aL st) .none kV doc pm an dW ct/\K.lookup f=O ⟨oc,od,.func fd,tD⟩/\codeIn K dW b1=J
 kp:keepIn K (.ref f)=J
section
variable{base:Heap}
def JX.ok{x b1:Str}{st:Stmt}{f:Addr}{fd:dL}{N ps:List Str}{k:Nat}{sp:Sp}(F:JX K x b1 st f fd)(S:dD N ps (aL st))(len:∀vs H Q E,sp vs H Q E->vs.length=ps.length)(c:∀(d:Value)(A:cr)(r:List Env)(s:bv)(H:Hp)(vs:List V)(Q:VK)(E:XK),dQ k (A.deeper (envOfC b1 (aL st) s.heap.objs.size f d))->sp vs H Q E->∃t,kH (oE CB P w K mg base N b1 (aL st) f d A r s H E).Vl (cb st) t/\t {nx:=λ_ H'=>Q .non H',rt:=Q} (start N vs) H):je P w K mg base CB (k+1) f fd ps sp:=by obtain⟨oc,i,kV,doc,j,n,d,l,D,rfl,lk,Y⟩:=F.ex;refine FA lk Y S len λA r s H vs Q E g W=>?_;obtain⟨t,h,q⟩:=c d A r s H vs Q E g W;exact⟨t,h.Vl,q⟩
def JX.binds{st:Stmt}(F:JX K x b1 st f fd)(h:∀(kV doc c:Value)(n:Option Addr)(d g:Value)(us:List Value),us.length=ps.length->bindArgs (fnOf x b1 (fu st) (cb st) (aL st) .none kV doc c n d g) ⟨us,[]⟩=pure (ps.zip us)):Binds K fd ps []:=by obtain⟨oc,i,kV,doc,c,n,d,g,D,rfl,lk,Y⟩:=F.ex;exact .all (h kV doc c n d g)
def uZ{st:Stmt}{oc:Value}{od n:Option Addr}{D:Array (Option Value)}{kV doc g d i:Value}(l:K.lookup f=O ⟨oc,od,.func (fnOf x b1 (fu st) (cb st) (aL st) .none kV doc g n d i),D⟩)(c:codeIn K d b1)(k:keepIn K (.ref f)):JX K x b1 st f (fnOf x b1 (fu st) (cb st) (aL st) .none kV doc g n d i):=⟨⟨oc,od,kV,doc,g,n,d,i,D,rfl,l,c⟩,k⟩
end
def ZE{k:Nat}(r:dQ k A):A.units+1<cLine:=jv (Nat.add_le_add_left (by decide:1<=64) _) r.units
def pv(i:Nat)(c:autoParam (X.N[i]?=O x) o0)(v:v_ X.env.scope x:=by first|exact Or.inl rfl|exact Or.inr (Or.inl rfl)|exact Or.inr (Or.inr rfl))(d:autoParam ((x==("__debug__":Str))=a7) P3)(Y:autoParam ((x==("__classdict__":Str))=a7) P3):PE X (.Name x pos) (Jr i):=MW c v d Y
def agd{c A B:Prop}[Decidable c](d:c->A)(g:¬c->B):if c then A else B:=by
 by_cases h:c;·rw[bx h];exact d h
 ·rw[bE h];exact g h
def jh(H H':Hp):Prop:=∀b o,H b=O o->H' b=O o
def jh.refl(H:Hp):jh H H:=λ_ _ h=>h
def jh.trans(a:jh H H1)(b:jh H1 H2):jh H H2:=λc o h=>b c o (a c o h)
section
variable(P:cf)(w:b7)
end
section
variable{o:HO}
end
section
variable{x e:Addr}{o':HO}
end
section
variable{fs yP ex ex':List Addr}{h1 h2:Heap}{x e:Addr}{o:HO}
end
section
variable{σ:List (Option V)}
end
section
variable{a:Expr}
variable{tA tB':TT}{b4:List Expr}
end
section
variable{xs ys:List V}
end
section
variable{st:Stmt}{b4:List Stmt}{t u:TS}
end
section
variable{tg:Expr}
end
section
variable{a c:Expr}{tc:TE}
end
section
variable{x:Addr}{mA:b'}{name:Str}{v:Value}
end
section
variable{yP:List (Str×V)}
end
section
variable{f:Str}{v:V}
end
section
variable{o:Expr}{f:Str}
end
section
variable{c:Value}{b:Bool}
end
section
variable{s':bv}
end
section
variable{k:Nat}{wg:List V}{ds:List Value}{E:XK}{o:Expr}
end
section
variable{k:Nat}{ks:List Str}{E:XK}{agj:Pos}{o:Expr}{kws:List Keyword}{tk:TA}{nm:Option Str}
variable{g:List Value->List Value->List Value}{gV:List V->List V->List V}
end
section
variable{id:String}{r:List V->Hp->VK->Prop}
end
section
variable{κ:Type}[DecidableEq κ]
noncomputable def oO(bK:List (κ×V))(k:κ):Option V:=(bK.find? λv=>decide (v.1=k)).map (·.2)
noncomputable def vv(bK:List (κ×V))(k:κ)(v:V):List (κ×V):=if(bK.any λc=>decide (c.1=k))=J then bK.map λc=>if c.1=k then(c.1,v)else c else bK++[(k,v)]
def vZ{p:κ×V}{r:List (κ×V)}{k:κ}(e:p.1=k):oO (p::r) k=O p.2:=by simp[oO,jl,e]
def vY{p:κ×V}{r:List (κ×V)}{k:κ}(e:¬p.1=k):oO (p::r) k=oO r k:=by simp[oO,jl,e]
def Bj(bK:List (κ×V))(k:κ)(v:V):(vv bK k v).length<=bK.length+1:=by
 unfold vv;split;·rw[ak];omega
 ·rw[ae,ao,JQ];omega
def oq.nO{u:Option Value}(r:oq o u):o.isSome=u.isSome:=by cases o with
 |none=>cases u with|none=>rfl|some _=>exact(show False from r).elim
 |some _=>cases u with|none=>exact(show False from r).elim|some _=>rfl
def KV.val{bK:List (κ×V)}{vs:List (κ×Value)}(r:KV bK vs)(k:κ):oq (oO bK k) (valueAt vs k):=by unfold KV at r;induction r with|nil=>exact af2|@cons p q ps c h t i=>
  obtain⟨g,j⟩:=h;by_cases e:p.1=k
  ·have d:q.1=k:=g.symm.trans e;have b:valueAt (q::c) k=O q.2:=by simp[valueAt,jl,d]
   rw[vZ e,b];exact j
  ·have d:¬q.1=k:=λz=>e (g.trans z);have b:valueAt (q::c) k=valueAt c k:=by simp[valueAt,jl,d]
   rw[vY e,b];exact i
theorem KV.any{bK:List (κ×V)}{vs:List (κ×Value)}(r:KV bK vs)(k:κ):(bK.any λv=>decide (v.1=k))=vs.any λv=>decide (v.1=k):=by unfold KV at r;induction r with|nil=>rfl|cons h t i=>rw[kY,kY,i,h.1]
def KV.agZ{bK:List (κ×V)}{vs:List (κ×Value)}(r:KV bK vs)(k:κ)(R:RelV y u):KV (bK.map λv=>if v.1=k then(v.1,y)else v) (vs.map λv=>if v.1=k then(v.1,u)else v):=by unfold KV at r⊢;induction r with|nil=>exact .nil|@cons p q ps g h t i=>
  rw[aY,aY];refine .cons ?_ i;obtain⟨c,d⟩:=h;by_cases e:p.1=k;·rw[bx e,bx (c.symm.trans e)];exact⟨c,R⟩
  ·rw[bE e,bE λz=>e (c.trans z)];exact⟨c,d⟩
def KV.put{bK:List (κ×V)}{vs:List (κ×Value)}(r:KV bK vs)(k:κ)(R:RelV y u):KV (vv bK k y) (stored vs k u):=by
 unfold vv stored;rw[r.any k];by_cases e:(vs.any λv=>decide (v.1=k))=J;·rw[bx e,bx e];exact r.agZ k R
 ·rw[bE e,bE e];exact Paired.snoc r ⟨rfl,R⟩
theorem KV.length{bK:List (κ×V)}{vs:List (κ×Value)}(r:KV bK vs):bK.length=vs.length:=Paired.length r
end
def FQ{k:b8}(r:RelV (kV k) u):(fB P w).is k u=true:=by cases k with|inl i=>obtain⟨t,e⟩:=show ∃t,u=ag3 i t from r;subst e;exact sH P w i t|inr x=>obtain⟨t,e⟩:=show ∃t,u=ah2 x t from r;subst e;exact sI P w x t
theorem xE{P:cf}{w:b7}:∀{ks:List b8}{us:List Value},Vals (ks.map kV) us->ItemsAre (fB P w) ks us|[],_,r=>by rw[fj]at r;cases r;exact .nil|k::ks,_,r=>by rw[aY]at r;cases r with|cons h t=>exact .cons (FQ h) (xE t)
abbrev KT(H:Hp):List (List b8×V)->List (List b8×Addr×Value)->Prop:=Paired λp q=>p.1=q.1/\H q.2.1=O (.tup (p.1.map kV))/\RelV p.2 q.2.2
def KT.val{bK:List (List b8×V)}{xs:List (List b8×Addr×Value)}(r:KT H bK xs)(k:List b8):oq (oO bK k) ((atKey xs k).map (·.2)):=by induction r with|nil=>exact af2|@cons p q ps c h t i=>
  obtain⟨g,_,j⟩:=h;by_cases e:p.1=k
  ·have d:q.1=k:=g.symm.trans e;have b:atKey (q::c) k=O q.2:=by simp[atKey,jl,d]
   rw[vZ e,b];exact j
  ·have d:¬q.1=k:=λz=>e (g.trans z);have b:atKey (q::c) k=atKey c k:=by simp[atKey,jl,d]
   rw[vY e,b];exact i
def VL{u:HO}(ok:kZ P w H h)(e:Rd H a u):eB P w H h a u:=e.ok ok
def AW(ok:kZ P w H h)(e:Rd H a (.dK bK)):bK.length<=sizeLine/\(a==gt)=a7/\∃vs,KV bK vs/\h.DictOf (fB P w) a vs:=show eB P w H h a (.dK bK)from VL ok e
def tV{ks:List b8}(ok:kZ P w H h)(e:H a=O (.tup (ks.map kV))):(tupleKind (fB P w)).is h ks a:=by obtain⟨_,i,r,o,c,d,n,g⟩:=show eB P w H h a (.tup (ks.map kV))from ok a _ e;exact⟨o,i.toArray,n,c,d,g,by simpa using xE r⟩
def Fw{bK:List (List b8×V)}(ok:kZ P w H h)(e:Rd H a (.dT bK)):bK.length<=sizeLine/\(a==gt)=a7/\∃xs,KT H bK xs/\h.DictOfH (tupleKind (fB P w)) a xs:=by
 obtain⟨z,y,xs,r,o,es,g,i,j,k,n,v⟩:=show eB P w H h a (.dT bK)from VL ok e;refine⟨z,y,xs,r,o,es,g,i,j,k,n,λx c=>?_,v⟩;have all:∀{l:List (List b8×V)}{m:List (List b8×Addr×Value)},KT H l m->∀x∈m,(tupleKind (fB P w)).is h x.1 x.2.1:=by intro l m q;induction q with|nil=>intro x c;exact nomatch c|@cons p q ps B d t I=>
   intro x c;rcases aJ.mp c with e|c;·subst e;exact tV ok (by rw[<-d.1];exact d.2.1)
   ·exact I x c
 exact all r x c
def rg(H:Hp)(a:Addr)(y:V)(r:Option V):Prop:=(∃bK k,Rd H a (.dK bK)/\y=kV k/\r=oO bK k)\/∃bK k b,Rd H a (.dT bK)/\y=.ref b/\H b=O (.tup (k.map kV))/\r=oO bK k
theorem rg.k{H:Hp}{a:Addr}{bK:List (b8×V)}{k:b8}(e:H a=O (.dK bK)):rg H a (kV k) (oO bK k):=.inl ⟨bK,k,.inl e,rfl,rfl⟩
section
variable{v:V}{r:Value}
def Inv.big(I:Inv X am σ H s):gt<s.heap.objs.size:=by have h:b6<s.heap.objs.size:=(I.mod.glob.keeps I.bk).lt;exact Nat.lt_trans (by ext) h
def HG(hu:A.units+1<cLine)(I:Inv X am σ H s)(g:rg H a y (O v))(R:RelV y u)(h:∀W s',Inv X am σ H s'->RelV v W->Q W s'):bb (bn X.prog X.w) A (getItem (.ref a) u) Q E s:=by
 rcases g with ⟨bK,k,e,c,l⟩|⟨bK,k,b,e,c,q,l⟩;·subst c;obtain⟨z,B,D,rel,d⟩:=AW I.di e;obtain⟨W,i,j⟩:=oq.some_of (v:=v) (o:=valueAt D k) (by rw[l];exact rel.val k);exact qY (FQ R) d.mapOf i (h W _ (I.tok _) j)
 ·subst c;cases show u=ab0 b from R;obtain⟨z,B,F,rel,d⟩:=Fw I.di e;obtain⟨W,i,j⟩:=oq.some_of (v:=v) (o:=(atKey F k).map (·.2)) (by rw[l];exact rel.val k);obtain⟨p,G,n⟩:=Option.map_eq_some_iff.mp i;refine wpAny_getItem_heap (Al hu) (tV I.di q) d G ?_;rw[n];exact h W _ (I.tok _) j
def ae4(hu:A.units+1<cLine)(I:Inv X am σ H s)(g:rg H a y o)(R:RelV y u)(h:∀s',Inv X am σ H s'->Q (.bool o.isSome) s'):bb (bn X.prog X.w) A (compareOp .In u (.ref a)) Q E s:=by
 rcases g with ⟨bK,k,e,c,l⟩|⟨bK,k,b,e,c,i,l⟩;·subst c;obtain⟨z,d,j,rel,D⟩:=AW I.di e;refine wpAny_in_of (FQ R) d D.mapOf ?_;rw[<-(rel.val k).nO,<-l];exact h _ (I.tok _)
 ·subst c;cases show u=ab0 b from R;obtain⟨z,d,n,rel,D⟩:=Fw I.di e;refine wpAny_in_heap (Al hu) (tV I.di i) d D ?_;have q:=(rel.val k).nO;rw[Option.isSome_map]at q;rw[<-q,<-l];exact h _ (I.tok _)
def Qg(hu:A.units+1<cLine)(I:Inv X am σ H s)(g:rg H a y o)(R:RelV y u)(h:∀s',Inv X am σ H s'->Q (.bool !o.isSome) s'):bb (bn X.prog X.w) A (compareOp .NotIn u (.ref a)) Q E s:=by
 rcases g with ⟨bK,k,e,c,l⟩|⟨bK,k,b,e,c,i,l⟩;·subst c;obtain⟨z,d,j,rel,D⟩:=AW I.di e;refine wpAny_notIn_of (FQ R) d D.mapOf ?_;rw[<-(rel.val k).nO,<-l];exact h _ (I.tok _)
 ·subst c;cases show u=ab0 b from R;obtain⟨z,d,n,rel,D⟩:=Fw I.di e;refine wpAny_notIn_heap (Al hu) (tV I.di i) d D ?_;have q:=(rel.val k).nO;rw[Option.isSome_map]at q;rw[<-q,<-l];exact h _ (I.tok _)
def Xc{vs:List (b8×Value)}(z:bK.length<=sizeLine)(d:(a==gt)=a7)(R:KV bK vs)(dd:h'.DictOf (fB P w) a vs):eB P w H' h' a (.dK bK):=⟨z,d,vs,R,dd⟩
end
section
variable{k:b8}
def Ω(I:Inv X am σ H s)(e:Rd H a (.dK bK))(h:∀t s',Inv X am σ H s'->Q (.int bK.length t) s'):bb (bn X.prog X.w) A (call (.builtin "len") [.ref a]) Q E s:=by obtain⟨z,d,v,rel,D⟩:=AW I.di e;refine call_len_dict d D (by rw[<-rel.length];rw[Jz]at z;omega) ?_;rw[<-rel.length];exact h _ _ (I.tok _)
end
def Wu(i:Expr):Prop:=∀v I,subscripted i a7 v I=operate [v,I] (getItem v I)
def TJ{env:Env}{slice:Expr}{id:String}(l:typeLookup (.type T) "__getitem__"=pure (O (.builtin id)))(n:Wu slice)(h:bb (bn prog w) A (eval value env) (λo S=>bb (bn prog w) A (eval slice env) (λi s₂=>s₂.TypeIs o T/\bb (bn prog w) A (getItem o i) Q E s₂) E S) E s):bb (bn prog w) A (eval (.Subscript value slice pos) env) Q E s:=by
 refine Pn (dB h (λo S g=>dB g (λi s₂ c=>?_) λ_ _ x=>x) λ_ _ x=>x);obtain⟨k,c⟩:=c;unfold subscriptTail;refine aa ?_;rw[getitemInPython_of_ne k.not_modules];refine aa (wpAny_specialOf k l ?_);have fin:bb (bn prog w) A (subscripted slice a7 o i) (λr d=>bb (bn prog w) A (letTemporaryGo value o r>>=λ_=>pure r) Q E d) E s₂:=by rw[n o i];exact wpAny_operating (dB c (λr d j=>aa (wpAny_letTemporaryGo (au j))) λ_ _ x=>x)
 first|exact au (aa fin)|exact aa (au (aa fin))|exact aa fin
def AV(I:Inv X am σ H s)(g:rg H a y o):s.TypeIs (.ref a) "dict":=by
 rcases g with ⟨bK,k,e,_,_⟩|⟨bK,k,b,e,_,_,_⟩;·obtain⟨_,_,v,_,d⟩:=AW I.di e;exact d.typeIs
 ·obtain⟨_,_,c,_,d⟩:=Fw I.di e;exact d.typeIs
def acH(td ty:TE):TE:=λσ H Q=>td σ H λx H1=>ty σ H1 λy H2=>∃a v,x=.ref a/\rg H2 a y (O v)/\Q v H2
def ahd(ty td:TE):TE:=λσ H Q=>ty σ H λy H1=>td σ H1 λx H2=>∃a o,x=.ref a/\rg H2 a y o/\Q (.bl o.isSome) H2
def TL(ty td:TE):TE:=λσ H Q=>ty σ H λy H1=>td σ H1 λx H2=>∃a o,x=.ref a/\rg H2 a y o/\Q (.bl !o.isSome) H2
section
variable{o i:Expr}
def Si(hu:X.A.units+1<cLine)(d:PE X o td)(j:PE X i ty)(k:Wu i:=by exact λ_ _=>rfl):PE X (.Subscript o i pos) (acH td ty):=by intro am s σ H Q I h;refine TJ iJ.lookup k (dh (d am s σ H _ I h) λu s1 ⟨x,H1,l,r,q⟩=>dh (j am s1 σ H1 _ l q) λD s2 y=>?_);obtain⟨y,H2,c,R,a,v,ex,g,n⟩:=y;subst ex;obtain rfl:u=ab0 a:=r;exact⟨AV c g,HG hu c g R λW S z B=>⟨v,H2,z,B,n⟩⟩
def Eg(hu:X.A.units+1<cLine)(c:PE X i ty)(d:PE X o td):PC X .In i o (ahd ty td):=by intro am s σ H Q I h;refine dh (c am s σ H _ I h) λz s1 ⟨y,H1,j,r,q⟩=>dh (d am s1 σ H1 _ j q) λu s2 x=>?_;obtain⟨x,H2,k,R,a,v,ex,g,l⟩:=x;subst ex;obtain rfl:u=ab0 a:=R;exact ae4 hu k g r λS n=>⟨.bl v.isSome,H2,n,rfl,l⟩
def II(hu:X.A.units+1<cLine)(c:PE X i ty)(d:PE X o td):PC X .NotIn i o (TL ty td):=by intro am s σ H Q I h;refine dh (c am s σ H _ I h) λz s1 ⟨y,H1,j,r,q⟩=>dh (d am s1 σ H1 _ j q) λu s2 x=>?_;obtain⟨x,H2,k,R,a,v,ex,g,l⟩:=x;subst ex;obtain rfl:u=ab0 a:=R;exact Qg hu k g r λS n=>⟨.bl !v.isSome,H2,n,rfl,l⟩
end
def lK(bK more:List (b8×V)):List (b8×V):=more.foldl (λc k=>vv c k.1 k.2) bK
def KV.merge:∀{M:List (b8×V)}{R:List (b8×Value)}{bK:List (b8×V)}{vs:List (b8×Value)},KV M R->KV bK vs->KV (lK bK M) (merged vs R):=by intro M R bK vs r;unfold KV at r;induction r generalizing bK vs with|nil=>intro q;exact q|@cons p q ps d h t i=>
  intro c;have e:KV (vv bK p.1 p.2) (stored vs q.1 q.2):=by have:=c.put p.1 h.2;rw[<-h.1];exact this
  exact i e
theorem oW:∀(more bK:List (b8×V)),(lK bK more).length<=bK.length+more.length|[],bK=>by show bK.length<=bK.length+0;omega|p::r,bK=>by have h1:=oW r (vv bK p.1 p.2);have h2:=Bj bK p.1 p.2;show(lK (vv bK p.1 p.2) r).length<=_;rw[ao];omega
section
variable{d:V}{r:Value}
end
section
variable{o f:Expr}{dP:Pos}{tx:TE}
end
end L2
namespace Att
open PySem.W PySem.Calls
section
variable{prog:cf}{w:b7}{A:cr}{E:dC}{s:bv}{K:Frag}
end
end Att
namespace L2
variable{P prog:cf}{w:b7}{K:Frag}{mg:b'}{base h h':Heap}{X:Cx}{am pn:ce}{σ:tSt}{H H':Hp}{s s':bv}{N' ps N ws:List Str}{scope sc:Scope}{fp:List Addr}{A:cr}{E:dC}{x y:Str}{k j tk i:Nat}{sp ZR:Sp}{M:Model}{env:Env}{outer l:List Env}{L a C t T c d z b t1 t2 sl T' f:Addr}{Q:Option Value->bv->Prop}{e elt target tg:Expr}{tb fl it acc dW:Value}{CX:xg}{p pos b5 py dP:Pos}{o oe:Obj}{es ifs:List Expr}{R:Result->bv->Prop}{its xs ys:Array Value}{hi:Option Int}{te:TE}{r:List V->Hp->VK->Prop}{α:Type}{wi:TI}{g:TG}{tc:TT}{σc:tSt->tSt}
def HC:dJ X (.builtin "len") λxs H Q=>∃a B,xs=[V.ref a]/\H a=O (.dK B)/\Q (.int B.length) H:=by intro am s σ H xs U Q I r h;obtain⟨a,B,rfl,m,q⟩:=h;obtain⟨u,rfl,n⟩:=pM r;cases n;exact Ω I (.inl m) λt s' v=>⟨.int B.length,H,v,⟨t,rfl⟩,q⟩
section
variable{κ:Type}[DecidableEq κ]
end
noncomputable def oA(cells:List (Str×Addr))(names:List (Str×NameKind))(acc:List (Str×Addr)):List (Str×Addr):=match names with|[]=>acc|(n,k)::r=>oA cells r (if k==.free then(n,(cells.lookup n).getD 0)::acc else acc)
theorem mP{cells:List (Str×Addr)}:∀{names:List (Str×NameKind)}{acc:List (Str×Addr)},(∀y∈names,y.2=.free->∃c,cells.lookup y.1=O c)->(∀x c,acc.lookup x=O c->cells.lookup x=O c)->∀x c,(oA cells names acc).lookup x=O c->cells.lookup x=O c
 |[],acc,_,h,x,c,e=>h x c e|(n,k)::r,acc,v,h,x,c,e=>by
  unfold oA at e;refine mP (λy G=>v y (aq _ G)) ?_ x c e;intro q B m;by_cases D:k=.free
  ·subst D;obtain⟨d,I⟩:=v (n,.free) aw rfl;have F:cells.lookup n=O d:=I
   simp only[eI,mI,fN]at m;cases u:q==n with|true=>
    rw[u]at m;have S:q=n:=by simpa using u
    subst S;simp only[F,Option.getD_some]at m;rw[F];exact m|false=>rw[u]at m;exact h q B m
  ·have U:(k==ac4)=false:=by simpa using D
   simp only[U,nX,qW]at m;exact h q B m
theorem uF{cells:List (Str×Addr)}:∀{names:List (Str×NameKind)}{acc:List (Str×Addr)}{x:Str},(∃c,acc.lookup x=O c)\/(x,ac4)∈names->∃c,(oA cells names acc).lookup x=O c
 |[],acc,x,h=>by
  rcases h with h|h;·exact h
  ·cases h|(n,k)::r,acc,x,h=>by
  unfold oA;refine uF ?_;by_cases m:k=.free;·subst m;simp only[eI,mI,fN];cases q:x==n with|true=>exact .inl ⟨_,rfl⟩|false=>
    rcases h with h|h;·exact .inl h
    ·rcases aJ.mp h with h|h;·cases h;simp at q
     ·exact .inr h
  ·have u:(k==ac4)=false:=by simpa using m
   simp only[u,nX,qW];rcases h with h|h;·exact .inl h
   ·rcases aJ.mp h with h|h;·cases h;exact absurd rfl m
    ·exact .inr h
theorem oR{env:Env}:∀{names:List (Str×NameKind)}{acc:List (Str×Addr)},(∀y∈names,y.2=.free->∃c,env.cells.lookup y.1=O c)->(forIn names acc λ(x:Str×NameKind)(r:List (Str×Addr))=>(if x.2==.free then(do let a<-cellOf env x.1;pure (ad6 ((x.1,a)::r)))else pure (ad6 r):Sem (ForInStep (List (Str×Addr)))))=(pure (oA env.cells names acc):Sem (List (Str×Addr)))
 |[],acc,_=>rfl|(n,k)::r,acc,q=>by
  rw[jm];have I:=λm=>oR (env:=env) (names:=r) (acc:=m) λy v=>q y (aq _ v);by_cases u:k=.free;·subst u;obtain⟨c,B⟩:=q (n,.free) aw rfl;have Z:env.cells.lookup n=O c:=B;simp only[eI,mI,cellOf,Z,pure_bind,oA,Option.getD_some];exact I _
  ·have D:(k==ac4)=false:=by simpa using u
   simp only[D,nX,qW,pure_bind,oA];exact I _
def uG(h:∀y∈scope.names,y.2=.free->∃c,env.cells.lookup y.1=O c):closureFor scope env=pure (oA env.cells scope.names []):=by have q:=oR (env:=env) (acc:=[]) h;unfold closureFor;exact(bU (λm:Sem (List (Str×Addr))=>m>>=λn=>pure n) q).trans (by simp)
def gC(X:Cx)(N':List Str)(scope:Scope)(fp:List Addr)(s₀:bv)(H₀:Hp):Cx:={X with N:=N',s₀:=s₀,H₀:=H₀,env:=compEnvC scope (oA X.env.cells scope.names []) s₀.heap.objs.size X.env,outer:=X.stack,ex:=fp,fn:=λ_=>a7,pn:=[],xe:=λ_ _=>False}
structure gG(X:Cx)(N':List Str)(scope:Scope):Prop where
 kind:scope.kind=.function
 nd:N'.Nodup
 D3:∀y∈scope.names,y.2≠.cell
 loc:∀y∈scope.names,y.2=.local->scope.names.lookup y.1=O .local
 fre:∀y∈scope.names,y.2=.free->X.env.kindOf y.1=O .cell
 own:∀x,(x,ac4)∈scope.names->(relabel scope X.env).names.lookup x≠O .local
def zB(v:∀y∈scope.names,y.2≠.cell)(h:(relabel scope env).names.lookup x=O .cell\/(relabel scope env).names.lookup x=O .free):(x,ac4)∈scope.names:=by
 have B:∀(l:List (Str×NameKind)),(∀y∈l,y.2≠.cell)->∀k,k=.cell\/k=.free->(l.map λ(n,k)=>if k==ac4&&env.scope.kind==.function&&env.kindOf n==O .cell then(n,ah6)else(n,k)).lookup x=O k->(x,ac4)∈l:=by intro l;induction l with|nil=>intro _ k _ e;cases e|cons y r I=>
   obtain⟨n,q⟩:=y;intro v k m e;have S:∀y∈r,y.2≠.cell:=λy W=>v y (aq _ W);have D:q≠.cell:=v (n,q) aw;rw[aY]at e;by_cases F:(q==ac4&&env.scope.kind==.function&&env.kindOf n==O .cell)=J
   ·simp only[F,mI,fN]at e;have Y:q=.free:=by have:=(aI _ _▸(aI _ _▸F).1).1;simpa using this
    cases u:x==n with|true=>
     have:x=n:=by simpa using u
     subst this;subst Y;exact aw|false=>rw[u]at e;exact aq _ (I S k m e)
   ·have Z:(q==ac4&&env.scope.kind==.function&&env.kindOf n==O .cell)=false:=by simpa using F
    simp only[Z,nX,qW]at e;rw[fN]at e;cases u:x==n with
    |true=>
     have G:x=n:=by simpa using u
     subst G;rw[u]at e;have U:q=k:=by simpa using e
     rcases m with m|m;·exact absurd (U.trans m) D
     ·rw[U,m];exact aw|false=>
     have e2:(r.map λ(n,k)=>if k==ac4&&env.scope.kind==.function&&env.kindOf n==O .cell then(n,ah6)else(n,k)).lookup x=O k:=by rw[u]at e;exact e
     exact aq _ (I S k m e2)
 rcases h with h|h;·exact B _ v _ (.inl rfl) h
 ·exact B _ v _ (.inr rfl) h
def qZ(X:Cx)(N':List Str)(scope:Scope)(σ m:tSt):Prop:=m.length=N'.length/\∀(i:Nat)(x:Str)(v:V),N'[i]?=O x->m[i]?=O (O v)->(x,ac4)∈scope.names/\∃(j:Nat),X.N[j]?=O x/\σ[j]?=O (O v)
def P8(S:gG X N' scope)(I:Inv X am σ H s)(q:∀b∈fp,mm X am H b)(B:∀b∈fp,b<s.heap.objs.size):(gC X N' scope fp s H).Ok:=by
 have D:∀y∈scope.names,y.2=.free->∃c,X.env.cells.lookup y.1=O c:=λy F G=>I.ok.has y.1 (.inl (S.fre y F G));have sub:=mP (cells:=X.env.cells) (names:=scope.names) (acc:=[]) D (λx c e=>by cases e);refine⟨I.ok.mod,S.kind,I.ok.glob,I.ok.blt,aB _,λx y c U W=>I.ok.inj x y c (sub x c U) (sub y c W),λx Y=>?_,λx c Z=>?_,I.ok.hd,I.ok.frames,.inl rfl,λb m=>?_,I.bs,aH I.ok.Cd I.sz,λb o e m=>?_,λb m hs=>?_,I.stack,I.qF⟩;·exact uF (.inr (zB S.D3 Y))
 ·exact absurd (show a7=J from Z) aK
 ·obtain⟨_,v,_,_,hc,_⟩:=q b m;refine⟨λe=>?_,λx c e=>hc x c (sub x c e)⟩;have e':b=s.heap.objs.size:=e;exact absurd (B b m) (by rw[e'];exact cS _)
 ·obtain⟨_,_,_,n,_⟩:=q b m;rcases n with n|n;·exact I.ok.vj b o e n
  ·exact absurd (bt (aN e) (aH I.ok.Cd n)) (cS _)
 ·obtain⟨_,v,u,_⟩:=q b m;rcases aJ.mp (I.zO b hs)with z|z;·exact v z
  ·exact u z
def AG(S:gG X N' scope)(I:Inv X am σ H s)(hf:∀b∈fp,mm X am H b)(mz:∀b∈fp,b<s.heap.objs.size){B:tSt}(Z:qZ X N' scope σ B){U:Heap}(hn:U.Ns s.heap.objs.size λ_=>af)(n:∀b o,s.heap.get? b=O o->U.get? b=O o):Inv (gC X N' scope fp s H) [] B H {s with heap:=U,toks:=tk}:=by
 have j9:∀y∈scope.names,y.2=.free->∃c,X.env.cells.lookup y.1=O c:=λy hy n=>I.ok.has y.1 (.inl (S.fre y hy n));have sub:=mP (cells:=X.env.cells) (names:=scope.names) (acc:=[]) j9 (λx c e=>by cases e);refine⟨P8 S I hf mz,rfl,I.bare,Un.kept n,⟨_,hn,λi x v e1 e2 e3=>?_⟩,λx c e=>?_,I.fresh,λx c e=>I.gT x c (sub x c e),λp hp=>absurd (show p∈([]:ce)from hp) (by simp),I.di.kept n,Z.1⟩
 ·obtain⟨W,j,j1,j2⟩:=Z.2 i x v e1 e2;obtain⟨m,_,hl⟩:=I.loc;have D:X.env.kindOf x=O .cell:=S.fre (x,.free) W rfl;obtain⟨u,r,l⟩:=hl j x v j1 j2 (.inr (.inl D));refine⟨u,r,.inr ?_⟩;rcases l with ⟨k,_⟩|⟨_,c,ec,z⟩;·rw[D]at k;cases k
  ·obtain⟨c',F⟩:=uF (cells:=X.env.cells) (names:=scope.names) (acc:=[]) (x:=x) (.inr W);have G:=sub x c' F;rw[ec]at G;cases G;refine⟨?_,c,F,z.keeps n⟩;have Y:v_ (relabel scope X.env) x:=e3;rcases Y with q|q|q;·exfalso;exact S.own x W q
   ·exact .inl q
   ·exact .inr q
 ·obtain⟨v,z⟩:=I.cell x c (sub x c e);exact⟨v,z.keeps n⟩
def pY(X:Cx)(ifs:List Expr)(t:TT):Prop:=∀(am:ce)(s:bv)(σ:tSt)(H:Hp)(Q:Bool->Hp->Prop),Inv X am σ H s->t σ H Q->bb (bn X.prog X.w) X.A (forIn ifs J λc r=>if r=J then(do let ok<-isTrue c X.env (eval c X.env);pure (ad6 ok))else pure (ad6 r)) (TP X am σ Q) X.xe s
def Nf:pY X [] λ_ H Q=>Q J H:=by intro am s σ H Q I h;rw[nZ];exact au ⟨H,I,h⟩
def Ng{c:Expr}{t:TT}(h:PT X c t):pY X [c] t:=by intro am s σ H Q I m;rw[jm];refine aa ?_;rw[bx rfl];refine aa (dh (h am s σ H Q I m) λb s1 q=>au ?_);dsimp only;rw[nZ];exact au q
def BW(wi:TI)(g:TG)(tc:TT)(te:TE)(σc:tSt->tSt):TE:=λσ H Q=>wi σ H λn D=>∀acc,D acc=af->∃W:Nat->Nat->tSt->List V->Hp->Prop,(∃m,W 0 m (σc σ) [] (cQ D acc (.lst [])))/\∀i m v ys u,W i m v ys u->u acc=O (.lst ys)/\(n.stop i u/\Q (.ref acc) u\/n.go i u/\ys.length<sizeLine/\∀x F,n.k_ i u x F->g x v F λq S=>tc q S λb G=>if b=J then te q G λy I=>I acc=O (.lst ys)/\∃B,B<m/\W (i+1) B q (ys++[y]) (cQ I acc (.lst (ys++[y])))else ∃B,B<m/\W (i+1) B q ys G)
def zV{iter:Expr}(I:Nat->bv->Prop)(Y:∀n s,I n s->bb (bn prog w) A (pyNext it) (λr S=>r=af/\R (.ok .next) S\/∃v,r=O v/\bb (bn prog w) A (ji target it v) (λ_ D=>bb (bn prog w) A (assign target env v) (λ_ F=>bb (bn prog w) A (forIn ifs J λc r=>if r=J then(do let ok<-isTrue c env (eval c env);pure (ad6 ok))else pure (ad6 r)) (λok B=>if ok=J then bb (bn prog w) A (eval elt env) (λx G=>bb (bn prog w) A (call (.builtin "list.append") [acc,x]) (λ_ U=>∃m,m<n/\I m U) (λ_ _=>False) G) (λ_ _=>False) B else ∃m,m<n/\I m B) (λ_ _=>False) F) (λ_ _=>False) D) (λ_ _=>False) S) (λ_ _=>False) s)(n:Nat)(h:I n s):eH (bn prog w) A (.compLoop (.ListComp elt [⟨target,iter,ifs,0⟩] scope pos) 0 it acc env) R s:=by
 have no:∀{α:Type}{t:Sem α}{Q:α->bv->Prop}{E:dC}{s:bv},bb (bn prog w) A t Q (λ_ _=>False) s->bb (bn prog w) A t Q E s:=λh=>dB h (λ_ _ q=>q) λ_ _ f=>f.elim;refine codeAny_loop rfl I (λn s hI=>?_) n h;show bb _ A ((compTurn (.ListComp elt [⟨target,iter,ifs,0⟩] scope pos) 0 it acc env).onRaise λx=>do eC x env;theTreesLotGoes x) _ _ s;refine wpAny_noted ?_;rw[compTurn_list];refine aa (Ad (aa (no (dh (Y n s hI) λr S u=>?_))));rcases u with ⟨rfl,u⟩|⟨v,rfl,u⟩;·exact au u
 ·refine aa (no (dh u λ_ D Z=>aa (no (dh Z λ_ F h₃=>aa (no (dh h₃ λok B W=>?_))))));cases ok with|false=>exact au ⟨rfl,W⟩|true=>exact aa (aa (no (dh W λx G h₅=>aa (no (dh h₅ λ_ U h₆=>au (au ⟨rfl,h₆⟩))))))
def tS(ok:kZ P w H h)(n:H C=af)(v:ad2 C h h'):kZ P w H h':=λb o e=>(ok b o e).zN (λc u m q=>(v.2 c (by
  rintro rfl;rcases m with rfl|m;·rw[n]at e;cases e
  ·rw[n]at m;cases m)).trans q) (λ_ q=>q) λ_ _ q=>q
def uQ{u:Value}{Q:dC}(hd:s.heap.IsTupleIter d t k)(B:s.heap.IsTuple t its)(hu:its[k]?=O u)(D:∀n,n.IsTupleIter d t (k+1)->ad2 d s.heap n->Q u {s with heap:=n}):bb (bn P w) A (q0' (.ref d)) Q E s:=by obtain⟨I,m,F,q⟩:=id hd;obtain⟨S,v,_,U,G⟩:=B;unfold q0';refine aa (cK (name:=ac5 "__next__") hd.typeIs dA (eJ dA hd.typeIs mD ?_ (mj _)));show bb _ _ (field (.ref d) 0>>=_) _ _ s;refine aa (bI m q (x:=.ref t) rfl ?_);show bb _ _ (if(ab0 t==ab1)=J then _ else _) _ _ s;rw[bE (by intro z;exact aK z)];show bb _ _ (field (.ref d) 1>>=_) _ _ s;refine aa (bI m q (x:=.int k 0) rfl ?_);show bb _ _ (seqItems? (.ref t)>>=_) _ _ s;refine aa (eQ v G ?_);simp only[dc,hu];refine aa (eR m q (by simp) (au ⟨u,rfl,au (D _ ⟨_,cI _ m (gM (dO q _)),(Obj.cls_mapFields ..).trans F,?_⟩ (fH ..))⟩));rw[dO q];simp[cx]
def qh{Q:dC}(v:A.handled=af)(hd:s.heap.IsTupleIter d t k)(B:s.heap.IsTuple t its)(hu:its[k]?=af)(D:∀n e,Heap.ExtBut d s.heap n->(∃o,n.get? e=O o/\o.cls=.type "StopIteration")->E (.ref e) {s with heap:=n}):bb (bn P w) A (q0' (.ref d)) Q E s:=by
 obtain⟨G,q,I,U⟩:=id hd;obtain⟨S,u,_,W,F⟩:=B;unfold q0';refine aa (cK (name:=ac5 "__next__") hd.typeIs dA (eJ dA hd.typeIs mD ?_ (mj _)));show bb _ _ (field (.ref d) 0>>=_) _ _ s;refine aa (bI q U (x:=.ref t) rfl ?_);show bb _ _ (if(ab0 t==ab1)=J then _ else _) _ _ s;rw[bE (by intro z;exact aK z)];show bb _ _ (field (.ref d) 1>>=_) _ _ s;refine aa (bI q U (x:=.int k 0) rfl ?_);show bb _ _ (seqItems? (.ref t)>>=_) _ _ s;refine aa (eQ u F ?_);simp only[dc,hu];refine aa (iq (aa (eR q U (by simp) ?_)));show bb _ _ (newExc (.type "StopIteration") []>>=_) _ _ _;refine aa ?_;simp only[newExc,newTuple];refine aa (bZ ?_ (by size_fits));refine aa (m:=firstArgMember _ _) (JA (a:=ab1) (by first|rfl|(simp only[firstArgMember];rfl)) ?_);refine bZ ?_ (by size_fits);simp only[raiseNew];refine aa (wpAny_handled ?_);first|rw[show A.in1.handled=af from v]|rw[v]
 refine aa (au (ut ?_));exact D _ _ (((fH ..).extBut.push _).push _) ⟨_,aU _ rfl,rfl⟩
structure Wy(z a b c d:Addr):Prop where
 az:a≠z
 bz:b≠z
 cz:c≠z
 dz:d≠z
 ab:a≠b
 ac:a≠c
 ad:a≠d
 bc:b≠c
 bd:b≠d
 cd:c≠d
structure UG(h:Heap)(z a b c d t1 t2:Addr)(k:Nat)(f0:Value):Prop where
 zip:IsZip h z a b f0
 its:IsPair h a (.ref c) (.ref d)own:∃x y,IsPair h b x y
 i1:h.IsTupleIter c t1 k
 i2:h.IsTupleIter d t2 k
def OS{x y:Value}{Q:dC}(D:Wy z a b c d)(Z:UG s.heap z a b c d t1 t2 k .none)(o1:t1≠z/\t1≠b/\t1≠c/\t1≠d)(o2:t2≠z/\t2≠b/\t2≠c/\t2≠d)(JJ:s.heap.IsTuple t1 xs)(QZ:s.heap.IsTuple t2 ys)(hx:xs[k]?=O x)(hy:ys[k]?=O y)(hQ:∀W,UG W z a b c d t1 t2 (k+1) (cx s.heap.objs.size)->IsPair W s.heap.objs.size x y->(∀e o,e≠z->e≠b->e≠c->e≠d->s.heap.get? e=O o->W.get? e=O o)->Q (.ref s.heap.objs.size) {s with heap:=W}):bb (bn P w) A (Builtin.«zip.__next__» ⟨[.ref z],[]⟩) (λfin s'=>∃v,fin=.done (.ret v)/\Q v s') E s:=by
 obtain⟨u,zi,⟨p,q,zo⟩,z1,z2⟩:=Z;show bb _ _ (field (.ref z) 2>>=_) _ _ _;refine aa (bI u rfl (x:=.bool a7) rfl ?_);show bb _ _ (field (.ref z) 3>>=_) _ _ _;refine aa (bI u rfl (x:=.ref a) rfl ?_);refine aa (eQ zi rfl ?_);show bb _ _ (q2' (.ref z)>>=_) _ _ _;refine aa ?_;unfold q2';refine aa (bI u rfl (x:=.none) rfl (au ?_));simp only[mI];refine aa (iq ?_);refine aa (bI u rfl (x:=.ref b) rfl ?_);refine aa (f7 u (by simp) λk1 y1 s1=>?_);replace y1:IsZip k1 z a b .ellipsis:=y1;refine aa ?_;simp only[List.zipIdx_cons,List.zipIdx_nil,jm,nZ];refine aa (aa (Ac ?_));show bb _ _ (q0' (.ref c)>>=_) _ _ _;refine aa (uQ (z1.extBut s1.extBut D.cz) (JJ.extBut s1.extBut o1.1) hx λk2 y2 s2=>au ?_);have w2:IsPair k2 b p q:=s2.extBut _ _ D.bc (s1.extBut _ _ D.bz zo);refine aa (eQ w2 rfl ?_);refine aa (wx w2 λk3 y3 S=>?_);replace y3:IsPair k3 b x q:=y3;refine aa (sB (au ?_));refine aa (aa (Ac ?_));show bb _ _ (q0' (.ref d)>>=_) _ _ _;refine aa (uQ (((z2.extBut s1.extBut D.dz).extBut s2.extBut D.cd.symm).extBut S.extBut D.bd.symm) (((QZ.extBut s1.extBut o2.1).extBut s2.extBut o2.2.2.1).extBut S.extBut o2.2.1) hy λk4 y4 B=>au ?_);have w4:IsPair k4 b x q:=B.extBut _ _ D.bd y3;refine aa (eQ w4 rfl ?_);refine aa (wx w4 λm Y F=>?_);replace Y:IsPair m b x y:=Y;refine aa (sB (au (au ?_)));refine aa (eQ Y rfl ?_);refine aa (wpAny_newTuple ?_);have sz:m.objs.size=s.heap.objs.size:=by rw[F.1,B.1,S.1,s2.1,s1.1]
 have G:IsZip m z a b .ellipsis:=F.extBut _ _ D.bz.symm (B.extBut _ _ D.dz.symm (S.extBut _ _ D.bz.symm (s2.extBut _ _ D.cz.symm y1)));have U:∀e o,e≠z->e≠b->e≠c->e≠d->s.heap.get? e=O o->m.get? e=O o:=λe o n e2 e3 e4 g=>F.extBut _ _ e2 (B.extBut _ _ e4 (S.extBut _ _ e2 (s2.extBut _ _ e3 (s1.extBut _ _ n g))));have c5:m.IsTupleIter c t1 (k+1):=((y2.extBut S.extBut D.bc.symm).extBut B.extBut D.cd).extBut F.extBut D.bc.symm;have d5:m.IsTupleIter d t2 (k+1):=y4.extBut F.extBut D.bd.symm;have I:z<m.objs.size:=aN G;show bb _ _ (q1' (.ref z) (.ref m.objs.size)>>=_) _ _ _;refine aa ?_;unfold q1';have zz6:IsZip (m.push {cls:=.type "tuple",data:=.seq #[x,y]}) z a b .ellipsis:=aj _ G;refine aa (f7 zz6 (by simp) λk7 y7 s7=>?_);replace y7:IsZip k7 z a b (cx m.objs.size):=y7;refine f7 y7 (by simp) λk8 y8 s8=>?_;replace y8:IsZip k8 z a b (cx m.objs.size):=y8;have up:∀e o,e≠z->m.get? e=O o->k8.get? e=O o:=λe o n g=>s8.extBut _ _ n (s7.extBut _ _ n (aj _ g));have t8:IsPair k8 m.objs.size x y:=s8.extBut _ _ (iD I) (s7.extBut _ _ (iD I) (aU _ rfl));rw[sz]at y8 t8;refine au ⟨_,rfl,?_⟩;show Q (.ref m.objs.size) _;rw[sz];exact hQ k8 ⟨y8,up _ _ D.az (U _ _ D.az D.ab D.ac D.ad zi),⟨x,y,up _ _ D.bz Y⟩,c5.at λo g=>up _ o D.cz g,d5.at λo g=>up _ o D.dz g⟩ t8 λe o n e2 e3 e4 g=>up e o n (U e o n e2 e3 e4 g)
def UA{Q:Fin->bv->Prop}(hh:A.handled=af)(D:Wy z a b c d)(Z:UG s.heap z a b c d t1 t2 k .none)(o1:t1≠z/\t1≠b/\t1≠c/\t1≠d)(B:t2≠z/\t2≠b/\t2≠c/\t2≠d)(JJ:s.heap.IsTuple t1 xs)(QZ:s.heap.IsTuple t2 ys)(Xw:xs[k]?=af\/ys[k]?=af)(hE:∀I e,(∀f o,f≠z->f≠b->f≠c->f≠d->s.heap.get? f=O o->I.get? f=O o)->(∃o,I.get? e=O o/\o.cls=.type "StopIteration")->E (.ref e) {s with heap:=I}):bb (bn P w) A (Builtin.«zip.__next__» ⟨[.ref z],[]⟩) Q E s:=by
 obtain⟨n,zi,⟨p,q,zo⟩,z1,z2⟩:=Z;show bb _ _ (field (.ref z) 2>>=_) _ _ _;refine aa (bI n rfl (x:=.bool a7) rfl ?_);show bb _ _ (field (.ref z) 3>>=_) _ _ _;refine aa (bI n rfl (x:=.ref a) rfl ?_);refine aa (eQ zi rfl ?_);show bb _ _ (q2' (.ref z)>>=_) _ _ _;refine aa ?_;unfold q2';refine aa (bI n rfl (x:=.none) rfl (au ?_));simp only[mI];refine aa (iq ?_);refine aa (bI n rfl (x:=.ref b) rfl ?_);refine aa (f7 n (by simp) λk1 Y s1=>?_);replace Y:IsZip k1 z a b .ellipsis:=Y;refine aa ?_;simp only[List.zipIdx_cons,List.zipIdx_nil,jm,nZ]
 refine aa (aa (Ac ?_));show bb _ _ (q0' (.ref c)>>=_) _ _ _;cases U:xs[k]? with|none=>
  refine aa (qh hh (z1.extBut s1.extBut D.cz) (JJ.extBut s1.extBut o1.1) U λW e s2 he=>?_);obtain⟨oe,G,m⟩:=he;have u:IsZip W z a b .ellipsis:=s2 _ _ D.cz.symm Y;have ez:e≠z:=λg=>by subst g;rw[u]at G;cases G;simp at m
  refine f7 u (by simp) λk3 _ S=>hE k3 e (λf o F _ f3 _ g=>S.extBut _ _ F (s2 _ _ f3 (s1.extBut _ _ F g))) ⟨oe,S.extBut _ _ ez G,m⟩|some x=>
  have hy:ys[k]?=none:=by
   rcases Xw with h|h;·rw[U]at h;cases h
   ·exact h
  refine aa (uQ (z1.extBut s1.extBut D.cz) (JJ.extBut s1.extBut o1.1) U λW y2 s2=>au ?_);have w2:IsPair W b p q:=s2.extBut _ _ D.bc (s1.extBut _ _ D.bz zo);refine aa (eQ w2 rfl ?_);refine aa (wx w2 λk3 y3 S=>?_);refine aa (sB (au ?_));refine aa (aa (Ac ?_));show bb _ _ (q0' (.ref d)>>=_) _ _ _;refine aa (qh hh (((z2.extBut s1.extBut D.dz).extBut s2.extBut D.cd.symm).extBut S.extBut D.bd.symm) (((QZ.extBut s1.extBut B.1).extBut s2.extBut B.2.2.1).extBut S.extBut B.2.1) hy λk4 e s4 he=>?_);obtain⟨oe,G,m⟩:=he;have v:IsZip k4 z a b .ellipsis:=s4 _ _ D.dz.symm (S.extBut _ _ D.bz.symm (s2.extBut _ _ D.cz.symm Y));have ez:e≠z:=λg=>by subst g;rw[v]at G;cases G;simp at m
  refine f7 v (by simp) λk5 _ s5=>hE k5 e (λf o F f2 f3 f4 g=>s5.extBut _ _ F (s4 _ _ f4 (S.extBut _ _ f2 (s2.extBut _ _ f3 (s1.extBut _ _ F g))))) ⟨oe,s5.extBut _ _ ez G,m⟩
def OU{x y:Value}(D:Wy z a b c d)(Z:UG s.heap z a b c d t1 t2 k .none)(o1:t1≠z/\t1≠b/\t1≠c/\t1≠d)(q:t2≠z/\t2≠b/\t2≠c/\t2≠d)(u:s.heap.IsTuple t1 xs)(v:s.heap.IsTuple t2 ys)(B:xs[k]?=O x)(G:ys[k]?=O y)(I:∀m,UG m z a b c d t1 t2 (k+1) (cx s.heap.objs.size)->IsPair m s.heap.objs.size x y->(∀e o,e≠z->e≠b->e≠c->e≠d->s.heap.get? e=O o->m.get? e=O o)->Q (O (.ref s.heap.objs.size)) {s with heap:=m}):bb (bn P w) A (pyNext (.ref z)) Q E s:=by have n:s.TypeIs (.ref z) "zip":=⟨_,Z.zip,rfl⟩;unfold pyNext;exact aa (pW (cK (name:=ac5 "__next__") n tG (eJ tG n F.entry_zip_next (OS D Z o1 q u v B G λm S U W=>au (I m S U W)) (F.args_zip_next_1 _))))
def OV(q:A.handled=af)(D:Wy z a b c d)(Z:UG s.heap z a b c d t1 t2 k .none)(o1:t1≠z/\t1≠b/\t1≠c/\t1≠d)(u:t2≠z/\t2≠b/\t2≠c/\t2≠d)(v:s.heap.IsTuple t1 xs)(B:s.heap.IsTuple t2 ys)(G:xs[k]?=af\/ys[k]?=af)(I:∀m,(∀f o,f≠z->f≠b->f≠c->f≠d->s.heap.get? f=O o->m.get? f=O o)->Q af {s with heap:=m}):bb (bn P w) A (pyNext (.ref z)) Q E s:=by have n:s.TypeIs (.ref z) "zip":=⟨_,Z.zip,rfl⟩;unfold pyNext;refine aa (pW (cK (name:=ac5 "__next__") n tG (eJ tG n F.entry_zip_next (UA q D Z o1 u v B G λm e S U=>?_) (F.args_zip_next_1 _))));obtain⟨o,W,Y⟩:=U;refine aa (wpAny_isInstance (T:="StopIteration") (b:=J) ⟨o,W,Y⟩ isSubtype_stop ?_);exact au (I _ S)
def Uy(n:Nat):Wy (n+4) (n+2) (n+3) n (n+1):=by have h:∀i j:Nat,i≠j->n+i≠n+j:=λi j h e=>h (Nat.add_left_cancel e);exact⟨h 2 4 (by ext),h 3 4 (by ext),h 0 4 (by ext),h 1 4 (by ext),h 2 3 (by ext),h 2 0 (by ext),h 2 1 (by ext),h 3 0 (by ext),h 3 1 (by ext),h 0 1 (by ext)⟩
def l_(n:Nat)(e:Addr)(m:e ∈[n+4,n+2,n+3,n,n+1]):n<=e:=by
 simp only[aJ,qT,or_false]at m;rcases m with rfl|rfl|rfl|rfl|rfl;·exact dq _ _
 ·exact dq _ _
 ·exact dq _ _
 ·exact aB _
 ·exact dq _ _
noncomputable def ul(K:Frag)(t1 t2:Addr):It:=⟨λi H=>∃xs ys x y,eL K H t1 xs/\eL K H t2 ys/\xs[i]?=O x/\ys[i]?=O y,λi H v H'=>∃T,H T=af/\v=.ref T/\∀xs ys x y,eL K H t1 xs->eL K H t2 ys->xs[i]?=O x->ys[i]?=O y->H'=cQ H T (.tup [x,y]),λi H=>∃xs ys,eL K H t1 xs/\eL K H t2 ys/\(xs.length<=i\/ys.length<=i)⟩
def nS{xs:List V}(I:Inv X am σ H s)(h:eL X.K H t xs)(f:mm X am H b):t≠b:=by
 rintro rfl;obtain⟨F,v,B,m,D,G⟩:=f;rcases h with(h|⟨o,h⟩)|⟨o,its,n,u,_⟩;·rw[F]at h;cases h
 ·rw[F]at h;cases h
 ·have e:=I.ok.mod.Pb t o u;rcases m with q|q;·exact I.ok.vj t o e q
  ·exact absurd (bt (aN e) (aH I.ok.Cd q)) (cS _)
def B1(D:Wy z a b c d):Hm P w K (.Tuple es k pos) (ul K t1 t2) [z,a,b,c,d] z λi h=>UG h z a b c d t1 t2 i .none where
 mem:=by simp
 obj:=λi h st e B=>by
  obtain⟨zz,Y,⟨p,q,zo⟩,⟨o1,e1,c1,d1⟩,⟨o2,e2,c2,d2⟩⟩:=st;simp at B;rcases B with rfl|rfl|rfl|rfl|rfl;·exact⟨_,zz,λv g=>by cases g⟩
  ·exact⟨_,Y,λv g=>by cases g⟩
  ·exact⟨_,zo,λv g=>by cases g⟩
  ·exact⟨_,e1,λv g=>by rw[d1]at g;cases g⟩
  ·exact⟨_,e2,λv g=>by rw[d2]at g;cases g⟩
 keep:=λi h h' st S=>by obtain⟨zz,Y,⟨p,q,zo⟩,z1,z2⟩:=st;exact⟨S z (by simp) _ zz,S a (by simp) _ Y,⟨p,q,S b (by simp) _ zo⟩,z1.at λo e=>S c (by simp) o e,z2.at λo e=>S d (by simp) o e⟩
 item:=by
  intro X hP hw hK hc i am s σ H E I G st hg;subst hP hw hK;obtain⟨xs,ys,x,y,h1,h2,hx,hy⟩:=hg;obtain⟨LH,r1,p1,l1⟩:=I.tuple h1;obtain⟨j3,r2,p2,l2⟩:=I.tuple h2;obtain⟨u1,hu1,ru1⟩:=r1.get hx;obtain⟨u2,hu2,ru2⟩:=r2.get hy;have U:=λ(e:Addr)(B:e ∈[z,a,b,c,d])=>nS I h1 (G e B);have CN:=λ(e:Addr)(B:e ∈[z,a,b,c,d])=>nS I h2 (G e B);refine OU D st ⟨U z (by simp),U b (by simp),U c (by simp),U d (by simp)⟩ ⟨CN z (by simp),CN b (by simp),CN c (by simp),CN d (by simp)⟩ (show s.heap.IsTuple t1 LH.toArray from p1) (show s.heap.IsTuple t2 j3.toArray from p2) (x:=u1) (y:=u2) (by simpa using hu1) (by simpa using hu2) λhp Z' pr S=>?_;refine⟨_,rfl,wpAny_letOwnedTupleGo_zip Z'.zip λhq zq sq=>?_⟩;have nT:H s.heap.objs.size=none:=I.fresh;have Z:∀e o,e ∉[z,b,c,d]->s.heap.get? e=O o->hq.get? e=O o:=λe o B g=>by simp at B;exact sq.extBut _ _ B.1 (S e o B.1 B.2.1 B.2.2.1 B.2.2.2 g)
  have Tz:s.heap.objs.size≠z:=iD (aN st.zip);have prq:IsPair hq s.heap.objs.size u1 u2:=sq.extBut _ _ Tz pr;have F:∀e u,H e=O u->e ∉[z,b,c,d]:=λe u B W=>by have:H e=none:=(G e (by simp at W⊢;rcases W with r|r|r|r<;>simp[r])).1;rw[this]at B;cases B
  have DH:kZ X.prog X.w (cQ H s.heap.objs.size (.tup [x,y])) hq:=λe u B=>by
   by_cases ee:e=s.heap.objs.size;·subst ee;rw[bF]at B;cases B;exact⟨by show 2<=sizeLine;decide,[u1,u2],.cons ru1 (.cons ru2 .nil),⟨_,prq,rfl,_,rfl⟩⟩
   ·rw[bC ee]at B;refine(I.di e u B).zN (λf o Xy g=>Z f o ?_ g) (λf g=>by rw[bC (bS g nT)];exact g) λf zs g=>by rw[bC (bS g nT)];exact g
    rcases Xy with rfl|Xy;·exact F f u B
    ·exact F f _ Xy
  have I1:Inv X am σ (cQ H s.heap.objs.size (.tup [x,y])) {s with heap:=hq}:=by
   refine I.step (g':=s.gens) (d':=s.drawn) (t':=s.toks) (ch:=[z,b,c,d]) (λe B=>?_) (λe o _ _ B g _=>Z e o B g) (λe o _ _ B g _=>⟨o.slots,Z e o B g⟩) (λe o _ g n=>by rw[bC (bu (aN g))];exact n) (λe o B g=>⟨o,Z e o B g⟩) (λe zs g=>by rw[bC (bS g nT)];exact g) (λe o u g=>by rw[bC (bS g nT)];exact g) (λe ps g=>⟨#[],by rw[bC (bS g nT),g];simp⟩) (λm W=>?_) DH I.bare;·obtain⟨f0,f1,f2,f3,f4,f5⟩:=G e (by simp at B⊢;rcases B with r|r|r|r<;>simp[r]);exact⟨f3,f1,f4,f5⟩
   ·obtain⟨o,UQ,ep,ho,r⟩:=W;refine⟨o,UQ,ep,Z _ o (λLb=>?_) ho,r⟩;exact(G X.env.locals (by simp at Lb⊢;rcases Lb with r|r|r|r<;>simp[r])).2.1 rfl
  refine⟨.ref s.heap.objs.size,_,I1,rfl,⟨_,nT,rfl,λV9 ys' x' y' g1 g2 gx gy=>?_⟩,?_,λe B=>?_⟩;·have e1:=I.kU g1 h1;have e2:=I.kU g2 h2;subst e1;subst e2;rw[hx]at gx;rw[hy]at gy;cases gx;cases gy;rfl
  ·obtain⟨_,Y,⟨p,q,zo⟩,z1,z2⟩:=Z';exact⟨zq,sq.extBut _ _ D.az Y,⟨p,q,sq.extBut _ _ D.bz zo⟩,z1.extBut sq.extBut D.cz,z2.extBut sq.extBut D.dz⟩
  ·rw[bC];·exact(G e B).1
   ·obtain⟨o,ho,_⟩:∃o,s.heap.get? e=O o/\True:=by
     obtain⟨zz,Y,⟨p,q,zo⟩,⟨o1,e1,c1,d1⟩,⟨o2,e2,c2,d2⟩⟩:=st;simp at B;rcases B with rfl|rfl|rfl|rfl|rfl;·exact⟨_,zz,trivial⟩
     ·exact⟨_,Y,trivial⟩
     ·exact⟨_,zo,trivial⟩
     ·exact⟨_,e1,trivial⟩
     ·exact⟨_,e2,trivial⟩
    exact bu (aN ho)
 done:=by
  intro X hP hw hK hc i am s σ H E I G st hg;subst hP hw hK;obtain⟨xs,ys,h1,h2,hx⟩:=hg;obtain⟨LH,r1,p1,l1⟩:=I.tuple h1;obtain⟨j3,r2,p2,l2⟩:=I.tuple h2;have e1:=r1.length;have e2:=r2.length;have U:=λ(e:Addr)(B:e ∈[z,a,b,c,d])=>nS I h1 (G e B);have CN:=λ(e:Addr)(B:e ∈[z,a,b,c,d])=>nS I h2 (G e B);refine OV (I.ok.hd hc) D st ⟨U z (by simp),U b (by simp),U c (by simp),U d (by simp)⟩ ⟨CN z (by simp),CN b (by simp),CN c (by simp),CN d (by simp)⟩ (show s.heap.IsTuple t1 LH.toArray from p1) (show s.heap.IsTuple t2 j3.toArray from p2) (by
    rcases hx with q|q;·exact .inl (by simp;lia)
    ·exact .inr (by simp;lia)) λhq S=>⟨rfl,?_⟩;have Z:∀e o,e ∉[z,b,c,d]->s.heap.get? e=O o->hq.get? e=O o:=λe o B g=>by simp at B;exact S e o B.1 B.2.1 B.2.2.1 B.2.2.2 g
  have F:∀e u,H e=O u->e ∉[z,b,c,d]:=λe u B W=>by have:H e=none:=(G e (by simp at W⊢;rcases W with r|r|r|r<;>simp[r])).1;rw[this]at B;cases B
  refine I.step (g':=s.gens) (d':=s.drawn) (t':=s.toks) (ch:=[z,b,c,d]) (λe B=>?_) (λe o _ _ B g _=>Z e o B g) (λe o _ _ B g _=>⟨o.slots,Z e o B g⟩) (λe o _ g n=>n) (λe o B g=>⟨o,Z e o B g⟩) (λe zs g=>g) (λe o u g=>g) (λe ps g=>⟨#[],by rw[g];simp⟩) (λm W=>?_) (λe u B=>?_) I.bare;·obtain⟨f0,f1,f2,f3,f4,f5⟩:=G e (by simp at B⊢;rcases B with r|r|r|r<;>simp[r]);exact⟨f3,f1,f4,f5⟩
  ·obtain⟨o,UQ,ep,ho,r⟩:=W;refine⟨o,UQ,ep,Z _ o (λLb=>?_) ho,r⟩;exact(G X.env.locals (by simp at Lb⊢;rcases Lb with r|r|r|r<;>simp[r])).2.1 rfl
  ·refine(I.di e u B).zN (λf o Xy g=>Z f o ?_ g) (λf g=>g) λf zs g=>g;rcases Xy with rfl|Xy;·exact F f u B
   ·exact F f _ Xy
 self:=λ_ _ _ _ _ st h=>wpAny_pyIter_zip st.zip h
noncomputable abbrev mu(h:Heap)(t1:Addr):Heap:=h.push {cls:=.type "tuple_iterator",data:=.fields #[.ref t1,.int 0 0]}
abbrev ov(h:Heap)(t1 t2:Addr):Heap:=(mu h t1).push {cls:=.type "tuple_iterator",data:=.fields #[.ref t2,.int 0 0]}
abbrev mX(h:Heap)(t1 t2:Addr):Heap:=(ov h t1 t2).push {cls:=.type "tuple",data:=.seq #[.ref h.objs.size,.ref (mu h t1).objs.size]}
abbrev mf(h:Heap)(t1 t2:Addr):Heap:=(mX h t1 t2).push {cls:=.type "tuple",data:=.seq #[.none,.none]}
abbrev Uz(h:Heap)(t1 t2:Addr):Heap:=(mf h t1 t2).push {cls:=.type "zip",data:=.fields #[.none,.bool a7,.bool a7,.ref (ov h t1 t2).objs.size,.ref (mX h t1 t2).objs.size]}
def B8(t1 t2:Addr)(xs ys:Array Value):Meets (Builtin.«zip.__new__» ⟨[.type "zip",.ref t1,.ref t2],[]⟩) λ_ R s=>s.heap.IsTuple t1 xs/\s.heap.IsTuple t2 ys/\R (.ok (.ret (.ref (mf s.heap t1 t2).objs.size))) {s with heap:=Uz s.heap t1 t2}:=.of_wp λprog w A R s h=>by obtain⟨q,g,d,tk,os⟩:=s;obtain⟨u,Z,h⟩:=h;have Y:=sub_zip;have m:Heap.IsTuple (Shared.heap ⟨q,g,d,tk,os⟩) t1 xs:=u;have n:Heap.IsTuple (Shared.heap ⟨q.push {cls:=.type "tuple_iterator",data:=.fields #[.ref t1,.int 0 0]},g,d,tk,os⟩) t2 ys:=Heap.IsTuple.push Z _;wp_walk using om m,om n;exact⟨_,rfl,h⟩
def af7(K:Frag)(n:TA):TI:=λσ H R=>n σ H λv m=>∃t1 t2,v=[.ref t1,.ref t2]/\(∃xs,eL K m t1 xs)/\(∃ys,eL K m t2 ys)/\R (ul K t1 t2) m
def Zo{W:Pos}{a b:Expr}{ta:TA}(hg:Gl X "zip")(hm:X.mg "zip"=af)(ha:PA X [a,b] ta)(hs:autoParam (ci [a,b] X.env=[(a7,eval a X.env),(a7,eval b X.env)]) o0)(XN:autoParam (ci [b] X.env=[(a7,eval b X.env)]) o0):PI X (.Tuple es k W) (.Call (.Name "zip" p) [a,b] [] pos) (af7 X.K ta):=by
 intro am s σ H R I h;refine Call_ (vb I hg hm (show c7 "zip"=O (.type "zip")from by ext) (mH (dh (ha pos am s σ H _ I h) λus s1 ⟨vs,H1,m,r1,q1⟩=>?_) (by rw[hs,XN]) (by rw[XN];rfl)));obtain⟨t1,t2,e,⟨xs,g1⟩,⟨ys,g2⟩,q⟩:=q1;subst e;obtain⟨u1,u2,rfl,u,v⟩:=r1.two;cases u;cases v;obtain⟨LH,r1,p1,l1⟩:=m.tuple g1;obtain⟨j3,r2,p2,l2⟩:=m.tuple g2;refine callType_new F.called_zip (by ext) (F.typeCall_zip_2 _ _) (F.newCall_zip_2 _ _) (λB=>F.args_object_init_3 B _ _) F.entry_zip_new (B8 t1 t2 LH.toArray j3.toArray) ⟨p1,p2,?_⟩;have G:(mu s1.heap t1).objs.size=s1.heap.objs.size+1:=fJ ..;have S:(ov s1.heap t1 t2).objs.size=s1.heap.objs.size+2:=by rw[fJ,G]
 have U:(mX s1.heap t1 t2).objs.size=s1.heap.objs.size+3:=by rw[fJ,S]
 have z4:(mf s1.heap t1 t2).objs.size=s1.heap.objs.size+4:=by rw[fJ,U]
 have Y:(Uz s1.heap t1 t2).get? (mf s1.heap t1 t2).objs.size=O _:=aU _ rfl;have y4:(Uz s1.heap t1 t2).get? (mX s1.heap t1 t2).objs.size=O _:=aj _ (aU _ rfl);have y3:(Uz s1.heap t1 t2).get? (ov s1.heap t1 t2).objs.size=O _:=aj _ (aj _ (aU _ rfl));have y2:(Uz s1.heap t1 t2).get? (mu s1.heap t1).objs.size=O _:=aj _ (aj _ (aj _ (aU _ rfl)));have y1:(Uz s1.heap t1 t2).get? s1.heap.objs.size=O _:=aj _ (aj _ (aj _ (aj _ (aU _ rfl))));have up:∀e o,s1.heap.get? e=O o->(Uz s1.heap t1 t2).get? e=O o:=λe o g=>aj _ (aj _ (aj _ (aj _ (aj _ g))));show _/\_;rw[S,U,z4]at Y;rw[G,S]at y3;rw[U]at y4;rw[G]at y2;rw[z4];refine⟨⟨_,Y,rfl⟩,?_⟩;have I2:Inv X am σ H1 {s1 with heap:=Uz s1.heap t1 t2}:=m.kept (t':=s1.toks) up;have D:Wy (s1.heap.objs.size+4) (s1.heap.objs.size+2) (s1.heap.objs.size+3) s1.heap.objs.size (s1.heap.objs.size+1):=Uy s1.heap.objs.size;have Z:UG (Uz s1.heap t1 t2) (s1.heap.objs.size+4) (s1.heap.objs.size+2) (s1.heap.objs.size+3) s1.heap.objs.size (s1.heap.objs.size+1) t1 t2 0 .none:=⟨Y,y3,⟨_,_,y4⟩,⟨_,y1,rfl,rfl⟩,⟨_,y2,rfl,rfl⟩⟩;refine(B1 (P:=X.prog) (w:=X.w) (K:=X.K) (es:=es) (k:=k) (pos:=W) D).self X.A 0 _ _ _ Z ?_;refine⟨s1.heap.objs.size+4,_,_,_,H1,rfl,I2,B1 D,Z,λe he=>?_,q⟩;have n:s1.heap.objs.size<=e:=l_ s1.heap.objs.size e he;exact m.HU n (m.di.fresh n)
noncomputable def tt(x:Str):It:=⟨λi _=>i<x.cps.size,λi H v H'=>H'=H/\∃c,x.cps[i]?=O c/\v=.str ⟨#[c]⟩,λi _=>i=x.cps.size⟩
def vW{it:Addr}{T:String}{t:Tok}(W:∀A':cr,A'.handled=af->Walks P w A' it [it] [it] x.cps.size (SignAt x) λi h=>h.IsStrIter it T x t i)(hs:∀(A:cr)(i:Nat)(s:bv)(Q:dC)(E:dC),s.heap.IsStrIter it T x t i->Q (.ref it) s->bb (bn P w) A (pyIter (.ref it)) Q E s):Hm P w K (.Name y py) (tt x) [it] it λi h=>h.IsStrIter it T x t i where
 mem:=by simp
 obj:=λi h st b m=>by
  have e:b=it:=by simpa using m
  subst e;obtain⟨o,e,c,d⟩:=st;exact⟨o,e,λv z=>by rw[d]at z;cases z⟩
 keep:=λi h h' st k=>by obtain⟨o,e,r⟩:=st;exact⟨o,k it (by simp) o e,r⟩
 item:=by intro X q B D F i am s σ H E I n st G;subst q B D;obtain⟨S,U,f2,Y,Z,f5⟩:=n it (by simp);refine(W X.A (I.ok.hd F)).item i s _ E G st λv h' tk hv EF kp=>?_;obtain⟨c,u,HZ,rfl⟩:=hv;have I1:Inv X am σ H {s with heap:=h',toks:=tk}:=I.turned (t':=tk) (λb o m e=>kp b o (by simpa using m) e) S U Y Z f5;exact⟨_,rfl,au ⟨.str ⟨#[c]⟩,H,I1,⟨u,rfl⟩,⟨rfl,c,HZ,rfl⟩,EF,λb m=>(n b m).1⟩⟩
 done:=by intro X q B D F i am s σ H E I n st G;subst q B D;obtain⟨S,U,f2,Y,Z,f5⟩:=n it (by simp);have e:i=x.cps.size:=G;subst e;exact(W X.A (I.ok.hd F)).done s _ E st λh' tk kp=>⟨rfl,I.turned (t':=tk) (λb o m e=>kp b o (by simpa using m) e) S U Y Z f5⟩
 self:=hs
def af5(m:TE):TI:=λσ H R=>m σ H λx n=>∃z,x=.str z/\R (tt z) n
def Zn{l:Expr}{D:TE}(G:PE X l D):PI X (.Name y py) l (af5 D):=by
 intro am s σ H R I h;refine dh (G am s σ H _ I h) λv s1 x=>?_;obtain⟨x,n,m,S,U⟩:=x;obtain⟨z,rfl,q⟩:=U;obtain⟨t,rfl⟩:=S;have fp:∀b ∈[s1.heap.objs.size],mm X am n b:=λb W=>by
  have e:b=s1.heap.objs.size:=by simpa using W
  subst e;exact m.HU (aB _) m.fresh
 cases F:z.cps.all (·<128);·refine wpAny_pyIter_wide F ?_;exact⟨_,_,_,_,n,rfl,m.kept (t':=s1.toks) λb o e=>aj _ e,vW (t:=t) (λY u=>Walks.strWide u _ z t) λA i s Q E st B=>wpAny_pyIter_striter_wide st B,⟨_,aU _ rfl,rfl,rfl⟩,fp,q⟩
 ·refine wpAny_pyIter_ascii F ?_;exact⟨_,_,_,_,n,rfl,m.kept (t':=s1.toks) λb o e=>aj _ e,vW (t:=t) (λY u=>Walks.strAscii u _ z t) λA i s Q E st B=>wpAny_pyIter_striter_ascii st B,⟨_,aU _ rfl,rfl,rfl⟩,fp,q⟩
noncomputable def Pg(H:Hp):V->Option String
 |.non=>O "NoneType"|.bl _=>O "bool"|.int _=>O "int"|.str _=>O "str"|.ref a=>match H a with|some (.lst _)=>O "list"|some (.tup _)=>O "tuple"|some (.dK _)=>O "dict"|_=>af
 |_=>af
noncomputable def Rj(t c:String):Bool:=t==c||t=="bool"&&c=="int"
def Ue{x:V}{t:String}(h:Pg H x=O t):rm K H x (.type t):=by cases x with
 |non=>cases h;exact .non|bl b=>cases h;exact .bl b|int i=>cases h;exact .int i|str z=>cases h;exact .str z|ref a=>
  unfold Pg at h;dsimp only at h;split at h;·rename_i e;cases h;exact .lst e
  ·rename_i e;cases h;exact .tup e
  ·rename_i e;cases h;exact .dK e
  ·cases h|JE _=>cases h|QF _=>cases h|ty _=>cases h
def Ud{x:V}{t:String}(h:Pg H x=O t):t ∈["NoneType","bool","int","str","list","tuple","dict"]:=by cases x with
 |ref a=>unfold Pg at h;dsimp only at h;split at h<;>first|(cases h;simp)|cases h
 |_=>first|(cases h;simp)|cases h
def LL{t c:String}(m:t ∈["NoneType","bool","int","str","list","tuple","dict"])(n:c ∈["str","int","bool","tuple","list"]):kitOne K (.type t) (.type c)=O (Rj t c):=by simp only[aJ,qT,or_false]at m n;rcases n with rfl|rfl|rfl|rfl|rfl<;>rcases m with rfl|rfl|rfl|rfl|rfl|rfl|rfl<;>rfl
def Kr:dJ X (.builtin "isinstance") λxs H Q=>∃x c t,xs=[x,.ty c]/\Pg H x=O t/\c ∈["str","int","bool","tuple","list"]/\Q (.bl (Rj t c)) H:=by intro am s σ H xs U Q I r h;obtain⟨x,c,t,rfl,m,n,q⟩:=h;obtain⟨u,v,rfl,B,D⟩:=r.two;obtain rfl:v=af3 c:=D;exact Il I B (Ue m) (LL (Ud m) n) λtk=>⟨.bl _,H,I.tok tk,rfl,q⟩
def AD(Z:X.calm):dJ X (.builtin "all") λxs H Q=>∃(l:Addr)(bs:List Bool),xs=[.ref l]/\gN X.K H l (bs.map V.bl)/\Q (.bl (bs.all id)) H:=by
 intro am s σ H xs us Q I r h;obtain⟨l,bs,rfl,hl,q⟩:=h;obtain⟨u,rfl,ru⟩:=r.one;cases ru;obtain⟨its,G,⟨o,n,S,XF,QT,FI⟩,hz⟩:=I.list hl;have U:s.heap.IsList l its.toArray:=⟨o,S,XF,n,FI⟩;have mz:l<s.heap.objs.size:=aN S;have len:bs.length=its.length:=by have:=G.length;rw[ak]at this;exact this
 refine call_all_walk (pN U ?_);refine⟨s.heap.objs.size,[s.heap.objs.size,l],[s.heap.objs.size],its.toArray.size,_,_,λi=>bs[i]?.getD J,rfl,Walks.list (A:=X.A.in1) (I.ok.hd Z) _ l (bu mz) its.toArray,⟨⟨_,aU _ rfl,rfl,rfl⟩,U.push _⟩,λi v s' Q' E' hP D=>?_,λh' tk kp=>?_⟩
 ·have W:its[i]?=O v:=by simpa using hP
  have hi:i<its.length:=(ai.mp W).1;have B:bs[i]?=O bs[i]:=aE (by lia);obtain⟨u',Y,F⟩:=G.get (i:=i) (x:=.bl bs[i]) (by rw[bM,B];rfl);rw[W]at Y;cases Y;obtain rfl:v=ad0 bs[i]:=F;dsimp only at D;rw[B]at D;exact d8 D
 ·have e:((ab6 its.toArray.size).all λi=>bs[i]?.getD J)=bs.all id:=by
   rw[aD,<-len];rw[dG,aS,aS];constructor;·intro g b B;obtain⟨i,hi,e⟩:=QU.mp B;have:=g i (jU.mpr hi);rw[aE hi,e]at this;exact this
   ·intro g i hi;have m:=jU.mp hi;rw[aE m];exact g _ (iB m)
  rw[e];refine⟨.bl (bs.all id),H,I.kept (t':=tk) λb o e=>?_,rfl,q⟩;exact kp b o (λz=>by rw[aQ.mp z]at e;exact cS _ (aN e)) (aj _ e)
def IG:jQ X (compareOp .LtE) λx y H Q=>∃i j,x=.str i/\y=.str j/\Q (.bl !decide (j.cps.toList<i.cps.toList)) H:=by intro am s σ H x y v u Q I m n h;obtain⟨i,j,rfl,rfl,q⟩:=h;obtain⟨t,rfl⟩:=m;obtain⟨B,rfl⟩:=n;exact PySem.P.le_str ⟨.bl _,H,I,rfl,q⟩
def gK{p:Addr}(h:H p=af)(o:HO):jh H (cQ H p o):=λb u q=>by rw[bC (bS q h)];exact q
def Dh{xs:List V}{lo:Option Int}(h:HT.fT xs.length 0 lo=0/\HT.fT xs.length xs.length hi=xs.length):mR xs lo hi=xs:=by unfold mR;rw[h.1,h.2,ic,Nat.sub_zero,dN]
def tj{a8:Array Value}{v u:Value}{lo:Option Int}{Q:dC}(n:IsTup s.heap t a8)(B:s.heap.IsSliceOf sl v u .none)(pl:IsPart v lo)(F:IsPart u hi)(D:HT.fT a8.size 0 lo=0/\HT.fT a8.size a8.size hi=a8.size)(h:Q (.ref t) s):bb (bn P w) A (getItem (.ref t) (.ref sl)) Q E s:=by
 obtain⟨os,I,G,S⟩:=id B;have q:s.TypeIs (.ref sl) "slice":=⟨os,I,G⟩;unfold getItem;try with_reducible refine cG ?_
 first|refine aa (au ?_)|skip
 refine aa (CA n.typeIs (by ext) ?_);refine aa (cK (name:=ac5 "__getitem__") n.typeIs bP (eJ bP n.typeIs yb ?_ (Ak _ _)));show bb _ _ (ae9 (.ref t)>>=_) _ _ s;refine aa (Wi n ?_);refine aa (mJ q ?_);rw[bx (by ext)];refine aa (HT.kS B pl F ?_);show bb _ _ (if(((HT.fT a8.size 0 lo:Nat):Int)==0&&(1:Int)==1&&HT.fT a8.size a8.size hi-HT.fT a8.size 0 lo==a8.size)=J then _ else _) _ _ s;rw[bx (by rw[D.1,D.2];simp)];refine aa (m:=ag1 (.ref t)) ?_;unfold ag1;refine aa (mJ n.typeIs (au ?_));rw[bx (by ext)];first|exact aa (iq (au ⟨_,rfl,au h⟩))|exact aa (aa (iq (au (au ⟨_,rfl,au h⟩))))|exact aa (iq (aa (au (au ⟨_,rfl,au h⟩))))
theorem uX{α β:Type}{f g:α->Option β}:∀{l:List α},(∀x∈l,f x=g x)->l.filterMap f=l.filterMap g|[],_=>rfl|x::r,h=>by rw[eo,eo,h x aw,uX λy m=>h y (aq _ m)]
def NH(xs:List Value):((ab6 xs.length).filterMap λ(k:Nat)=>xs.toArray[(((xs.length:Nat):Int)-1+(k:Int)*-1).toNat]?).toArray=xs.reverse.toArray:=by
 congr 1;have e:∀k∈ab6 xs.length,xs.toArray[(((xs.length:Nat):Int)-1+(k:Int)*-1).toNat]?=xs.reverse[k]?:=λk n=>by
  have m:=jU.mp n;have:(((xs.length:Nat):Int)-1+(k:Int)*-1).toNat=xs.length-1-k:=by lia
  rw[this,kB,List.getElem?_reverse m]
 rw[uX e];apply List.ext_getElem?;intro i;have q:∀(l:List Value),(ab6 l.length).filterMap (λk=>l[k]?)=l:=λl=>by
  have:(ab6 l.length).filterMap (λk=>l[k]?)=(ab6 l.length).map λk=>l.getD k .none:=by rw[<-List.filterMap_eq_map];refine uX λk n=>?_;have m:=jU.mp n;rw[aE m,Function.comp,Pk,aE m];rfl
  rw[this];apply List.ext_getElem;·simp
  ·intro j B v;rw[List.getElem_map,List.getElem_range,Pk,aE v];rfl
 have u:=q xs.reverse;rw[cg]at u;rw[u]
def tm{its:List Value}{tk:Tok}{Q:dC}(n:IsTup s.heap t its.toArray)(G:s.heap.IsSliceOf sl .none .none (.int (-1) tk))(I:its.length<=sizeLine)(h:Q (.ref s.heap.objs.size) {s with heap:=s.heap.push {cls:=.type "tuple",data:=.seq its.reverse.toArray}}):bb (bn P w) A (getItem (.ref t) (.ref sl)) Q E s:=by
 obtain⟨os,F,S,q⟩:=id G;have u:s.TypeIs (.ref sl) "slice":=⟨os,F,S⟩;have v:sizeOk (.seq its.reverse.toArray):=by show its.reverse.toArray.size<=sizeLine;rw[aD,cg];exact I
 unfold getItem;try with_reducible refine cG ?_
 first|refine aa (au ?_)|skip
 refine aa (CA n.typeIs (by ext) ?_);refine aa (cK (name:=ac5 "__getitem__") n.typeIs bP (eJ bP n.typeIs yb ?_ (Ak _ _)));show bb _ _ (ae9 (.ref t)>>=_) _ _ s;refine aa (Wi n ?_);refine aa (mJ u ?_);rw[bx (by ext)];refine aa ?_;unfold ae3 ag2;refine aa (aa (bI F q (x:=.none) rfl (aa (bI F q (x:=.none) rfl (aa (bI F q (x:=.int (-1) tk) rfl (au ?_)))))));refine aa (slicePart_int ?_);show bb _ _ (if((-1:Int)==0)=J then _ else _) _ _ s;rw[bE (by ext)];refine aa (wu (aa (wu (aa (au ?_)))));have B:ac6 af af (-1) ((its.toArray.size:Nat):Int)=(((its.length:Nat):Int)-1,-1):=by unfold ac6;simp
 have D:ab4 (((its.length:Nat):Int)-1) (-1) (-1)=its.length:=by
  unfold ab4;have U:¬(-1:Int)>0:=by lia
  have W:-(-1:Int)=1:=by ext
  simp only[U,qW,W,Int.ediv_one];split<;>lia
 show bb _ _ (match ac6 af af (-1) ((its.toArray.size:Nat):Int)with|(lo,hi)=>pure (lo,(-1:Int),ab4 lo hi (-1))) _ _ s;rw[B];show bb _ _ (pure (((its.length:Nat):Int)-1,(-1:Int),ab4 (((its.length:Nat):Int)-1) (-1) (-1))) _ _ s;rw[D];refine au ?_;show bb _ _ (if(((its.length:Nat):Int)-1==0&&(-1:Int)==1&&its.length==its.toArray.size)=J then _ else _) _ _ s;rw[bE (by intro z;rw[aI,aI]at z;exact absurd z.1.2 (by ext)),NH];first|exact aa (m:=ab7 _) (bZ (au ⟨_,rfl,au h⟩) v)|exact aa (aa (m:=ab7 _) (bZ (au (au ⟨_,rfl,au h⟩)) v))|exact aa (aa (m:=ab7 _) (bZ (au ⟨_,rfl,au h⟩) v))
structure CI(w:b7)(K:Frag)(a:Addr)(tab:Str->Option (List Str)):Prop where
 ex:∃(es:Array fy)(n:Nat),K.lookup a=O ⟨.type "dict",af,.dict es n,#[]⟩/\KeysLit w.params es.toList/\∀x,match tab x with|some ks=>∃b,findBy ab5 es x=O (.ref b)/\∃(o:Obj)(its:Array Value)(m:Nat),K.lookup b=O o/\o.cls=.type "tuple"/\o.data=.seq its m/\its.size<=sizeLine/\Vals (ks.map V.str) its.toList|none=>findBy ab5 es x=af
 lo:(a==gt)=a7
def ahh(K:Frag)(m:Str->Option (List Str))(te:TE):TE:=λσ H Q=>te σ H λy n=>∃x,y=.str x/\match m x with|some q=>∀b,eL K n b (q.map V.str)->Q (.ref b) n|none=>Q .non n
def IQ{n:Str}{v:Str->Option (List Str)}(T:CI X.w X.K a v)(hg:Gl X n)(hm:X.mg n=O (.ref a))(he:PE X e te)(hd:autoParam ((n==("__debug__":Str))=a7) P3)(qo:autoParam (ge (.Name n p) "get" X.env (eval (.Name n p) X.env)=eval (.Name n p) X.env) o0)(Xx:autoParam (((db dP (ci [e] X.env)).all (λx=>!x.1)&&(backToKw dP (hB [] X.env)).all (λx=>x.1.isSome)&&decide ([e].length+([]:List Keyword).length+(if([]:List Keyword).isEmpty then 0 else 1)<30))=J) o0)(mW:autoParam ((b5.endLine==dP.line)=J) o0)(hs:autoParam (ci [e] X.env=[(a7,eval e X.env)]) o0):PE X (.Call (.Attribute (.Name n p) "get" b5) [e] [] dP) (ahh X.K v te):=by intro am s σ H Q I h;obtain⟨es,k,lk,B,look⟩:=T.ex;have D:=jq (prog:=X.prog) (w:=X.w) I.l9 lk B;refine sR qo Xx mW rfl (kg I hg hm ?_ hd);refine⟨"dict","dict.get",PySem.F.plainAttrs_dict,WP,PySem.F.type_dict_get,D.typeIs,D.noDict,?_⟩;have U:PA X [e] (GS te BX):=Ge he dF (by rw[hs];rfl);have hA:=U dP am s σ H (λW Y=>match W with|[y]=>∃x,y=.str x/\(match v x with|some ks=>∀b,eL X.K Y b (ks.map V.str)->Q (.ref b) Y|none=>Q .non Y)|_=>False) I h;rw[hs]at hA⊢;refine jS (by rfl) (lg ?_);refine dh hA λus s2 W=>?_;obtain⟨W,H2,Z,r2,q2⟩:=W;have G:=jq (prog:=X.prog) (w:=X.w) Z.l9 lk B;match W,r2,q2 with|[y],r2,⟨x,ey,q⟩=>subst ey;obtain⟨u,rfl,t,rfl⟩:=r2.one;refine call_meetsIn WP G.typeIs PySem.F.entry_dict_get (PySem.F.args_dict_get_2 _ _) (meets_dict_get (strKind X.prog X.w) a (kE X.prog X.w x t) T.lo) ⟨_,G,?_⟩;have S:=look x;cases ht:v x with|some ks=>rw[ht]at S q;obtain⟨b,fb,o,its,m,l1,l2,l3,l4,l5⟩:=S;rw[fb];exact⟨.ref b,H2,Z.tok _,rfl,q b (.inr ⟨o,its,m,l1,l2,l3,l4,l5⟩)⟩|none=>rw[ht]at S q;rw[S];exact⟨.non,H2,Z.tok _,rfl,q⟩
structure Src(K:Frag)(mg:b')(x:Str)(st:Stmt)(ps:List Str):Prop where ex:∃(f:Addr)(fd:dL),JX K x x st f fd/\mg x=O (.ref f)/\Binds K fd ps []
section
variable{st:Stmt}
end
noncomputable def cm:Expr->Bool|.Starred _ _=>a7|_=>J
def c8(h:cm e):ci (e::es) env=(a7,eval e env)::ci es env:=by cases e<;>first|rfl|cases h
theorem fF{env:Env}{pos:Pos}:∀{es:List Expr},es.all cm=J->(db pos (ci es env)).any (·.1)=a7|[],_=>rfl|e::es,h=>by rw[bh,aI]at h;rw[c8 h.1];have I:=fF (env:=env) (pos:=pos) h.2;show(a7||(db pos (ci es env)).any (·.1))=a7;rw[I];rfl
def lP{t:TA}(m:PE X e te)(n:PA X es t)(h:autoParam (cm e=J) o0):PA X (e::es) (GS te t):=Ge m n (c8 h)
noncomputable def Df:Expr->Option V|.Constant (.str x) _ _=>O (.str x)|.Constant (.int i) _ _=>O (.int i)|.Constant (.bool b) _ _=>O (.bl b)|.Constant .none _ _=>O .non|_=>af
def MP{v:V}(h:Df e=O v):PE X e (tC v)/\cm e=true:=by
 unfold Df at h;split at h;·cases h;exact⟨vq,rfl⟩
 ·cases h;exact⟨vp,rfl⟩
 ·cases h;exact⟨Vu,rfl⟩
 ·cases h;exact⟨MU,rfl⟩
 ·cases h
theorem qy{X:Cx}:∀{es:List Expr}(vs:List V),es.map Df=vs.map O->PA X es λ_ H Q=>Q vs H|[],[],_=>dF|[],_::_,h=>by cases h|_::_,[],h=>by cases h|e::es,v::vs,h=>by rw[aY,aY]at h;injection h with m n;obtain⟨a,b⟩:=MP (X:=X) m;exact lP a (qy vs n) b
def acG(t:TT):TT:=λσ H Q=>∃M:Bool->Hp->Prop,t σ H M/\∀v H',M v H'->Q v H'
def Zt{t:TT}(h:PT X e t):PT X e (acG t):=by intro am s σ H Q I m;obtain⟨M,a,b⟩:=m;exact dh (h am s σ H M I a) λu s1 ⟨H',n,q⟩=>⟨H',n,b u H' q⟩
def ahe(sp:Sp)(t:TA):TE:=λσ H Q=>t σ H λv m=>sp v m Q E0
def md{t:TA}{id:String}(m:dJ X (.builtin id) r)(n:Gl X x)(q:X.mg x=af)(v:c7 x=O (.builtin id))(u:PA X (e::es) t)(hn:autoParam (x≠"__name__") P3)(I:autoParam ((x==("__debug__":Str))=a7) P3)(D:autoParam ((e::es).all cm=J) o0):PE X (.Call (.Name x p) (e::es) [] pos) (lz r t):=MM m n q v u hn I (c8 (by rw[bh,aI]at D;exact D.1)) (fF (by rw[bh,aI]at D;exact D.2))
def Vv{t:TA}{id:String}(m:dJ X (.type id) r)(n:Gl X x)(q:X.mg x=af)(v:c7 x=O (.type id))(u:PA X (e::es) t)(hn:autoParam (x≠"__name__") P3)(I:autoParam ((x==("__debug__":Str))=a7) P3)(D:autoParam ((e::es).all cm=J) o0):PE X (.Call (.Name x p) (e::es) [] pos) (lz r t):=IK m n q v u hn I (c8 (by rw[bh,aI]at D;exact D.1)) (fF (by rw[bh,aI]at D;exact D.2))
noncomputable def p9(k:Nat)(m:List Nat)(σ:tSt):tSt:=aa4 k af++m.map λj=>σ[j]?.join
def aeW(k:Nat)(n:List Nat)(F:k+n.length=N'.length)(hn:n.map (λj=>X.N[j]?)=(N'.drop k).map O)(G:∀x∈N'.drop k,(x,ac4)∈scope.names):∀σ:tSt,σ.length=X.N.length->qZ X N' scope σ (p9 k n σ):=by
 intro σ _;refine⟨by unfold p9;rw[ae,bV,ak];exact F,λi x v I m=>?_⟩;unfold p9 at m;by_cases hi:i<k;·rw[aW (by simpa using hi),fM,bx hi]at m;cases m
 ·rw[aP (by simpa using hi),bV,bM]at m;cases u:n[i-k]? with|none=>rw[u]at m;cases m|some j=>
   rw[u]at m;have q:σ[j]?.join=O v:=by simpa using m
   have B:(N'.drop k)[i-k]?=O x:=by rw[List.getElem?_drop];rw[show k+(i-k)=i by lia];exact I
   have e2:=bU (λl=>l[i-k]?) hn;simp only[bM,u,B,tJ]at e2;refine⟨G x (aZ B),j,cU e2,?_⟩;cases D:σ[j]? with|none=>rw[D]at q;cases q|some o=>rw[D]at q;have:o=O v:=q;rw[this]
def De(sc:Scope)(m:autoParam (X.env.scope=sc) o0)(a:autoParam (scope.kind=.function) h9)(b:autoParam N'.Nodup h9)(c:autoParam (∀y∈scope.names,y.2≠.cell) h9)(d:autoParam (∀y∈scope.names,y.2=.local->scope.names.lookup y.1=O .local) h9)(e:autoParam (∀y∈scope.names,y.2=.free->sc.names.lookup y.1=O .cell) h9)(f:autoParam (∀y∈scope.names,y.2=.free->(scope.names.map λ(n,k)=>if k==.free&&sc.kind==.function&&sc.names.lookup n==O .cell then(n,ah6)else(n,k)).lookup y.1≠O .local) h9):gG X N' scope:=by subst m;exact⟨a,b,c,d,e,λx q=>f (x,.free) q rfl⟩
def Kf:c7 "len"=O (.builtin "len"):=PySem.boot_len
def cL:c7 "isinstance"=O (.builtin "isinstance"):=by ext
def WK:c7 "all"=O (.builtin "all"):=by ext
def E8:c7 "list"=O (.type "list"):=by ext
def Az:c7 "tuple"=O (.type "tuple"):=by ext
def Kg:c7 "str"=O (.type "str"):=by ext
def CQ:c7 "int"=O (.type "int"):=by ext
def PK:c7 "bool"=O (.type "bool"):=by ext
def Vx{n:String}(m:X.mg x=af)(v:c7 x=O (.type n))(q:Gl X x)(hn:autoParam (x≠"__name__") P3)(u:autoParam ((x==("__debug__":Str))=a7) P3):PE X (.Name x pos) (tC (.ty n)):=Sd q m v rfl hn u
noncomputable def qN(C t:Addr)(tb:Value):Obj:={cls:=.ref C,data:=.fields #[.ref t,tb,.none,.none,.bool a7,.none]}
def Ex(h:Heap)(a C T:Addr)(fl:Value):Prop:=(∃t,h.get? a=O (qN C t (.ref T)))/\T≠a/\∃m n,h.get? T=O m/\m.data=.fields n/\n[3]?=O fl
structure Mv(fs:List Addr)(a T:Addr)(h h':Heap):Prop where
 keep:∀b o,h.get? b=O o->b∉fs->b≠a->b≠T->h'.get? b=O o
 slot:∀b o,h.get? b=O o->b∈fs->b≠a->b≠T->∃sl,h'.get? b=O {o with slots:=sl}
def Mv.any{fs:List Addr}(m:Mv fs a T h h')(e:h.get? b=O o)(n:b≠a)(q:b≠T):∃sl,h'.get? b=O {o with slots:=sl}:=by
 by_cases u:b∈fs;·exact m.slot b o e u n q
 ·exact⟨o.slots,m.keep b o e u n q⟩
section
variable{Q:Unit->bv->Prop}
def QA(C t:Addr)(tb x:Value):(qN C t tb).mapFields (·.setIfInBounds 1 x)=qN C t x:=rfl
def uT{head:Value}{Z:Bool}(pj:A.frames=O (env::outer))(G:s.heap.FunFrames base (env::outer))(hf:env.frame=O L)(I:s.heap.get? a=O (qN C t tb))(h:∀h' T',s.heap.get? T'=af->s.heap.objs.size<=T'->Ex h' a C T' (cx L)->Mv ((env::outer).filterMap (·.frame)) a a s.heap h'->Q () {s with heap:=h'}):bb M A (do let x<-frameOf env;let pl<-entryPlaceOf L Z;let b<-EntryCells.newEntry head x .none (cx L) .none pl;setField (.ref a) 1 b) Q E s:=by
 have QS:a∉(env::outer).filterMap (·.frame):=λhm=>by obtain⟨_,o,S,hn⟩:=G.mem hm;rw[I]at S;cases S;exact hn _ rfl
 refine aa (wpAny_frameOf_fun pj G hf λm n=>?_);refine aa (wpAny_entryPlaceOf λpl U=>?_);unfold EntryCells.newEntry newFields;refine aa (bZ ?_ (U.sizeOk5 _ _ _ _ _));have u:m.get? a=O (qN C t tb):=(n.2.1 a QS).trans I;have v:=aj (h:=m) {cls:=.type "traceback",dict:=af,data:=.fields ([head,.ref L,.none,cx L,.none]++if pl.isEmpty then aa4 6 ab1 else pl).toArray} u;refine eR v rfl (Nat.lt_of_sub_pos (Nat.succ_pos 4)) ?_;have Y:m.objs.size≠a:=iD (aN u);have B:∀b o,s.heap.get? b=O o->b≠m.objs.size:=λb o e=>by obtain⟨sl,D⟩:=n.2.2 b o e;exact bu (aN D)
 have j9:s.heap.get? m.objs.size=none:=by cases q:s.heap.get? m.objs.size with|none=>rfl|some o=>exact absurd rfl (B _ o q)
 refine h _ m.objs.size j9 (mG n.1.symm) ⟨⟨t,?_⟩,Y,{cls:=.type "traceback",dict:=af,data:=.fields ([head,.ref L,.none,cx L,.none]++if pl.isEmpty then aa4 6 ab1 else pl).toArray},_,?_,rfl,?_⟩ ⟨λb o e W F _=>?_,λb o e W F _=>?_⟩;·rw[<-QA C t tb];exact cI _ v rfl
 ·rw[bT _ _ (bY Y)];exact aU m rfl
 ·first|(simp;done)|(rcases U with rfl|⟨_,_,_,_,_,_,_,rfl⟩<;>simp)
 ·rw[bT _ _ (bY F)];exact aj _ ((n.2.1 b W).trans e)
 ·obtain⟨sl,D⟩:=n.2.2 b o e;refine⟨sl,?_⟩;rw[bT _ _ (bY F)];exact aj _ D
def abz(q:A.frames=O (env::outer))(u:s.heap.FunFrames base (env::outer))(m:env.frame=O L)(n:s.heap.get? a=O (qN C t .none))(h:∀h' T',s.heap.get? T'=af->s.heap.objs.size<=T'->Ex h' a C T' (cx L)->Mv ((env::outer).filterMap (·.frame)) a a s.heap h'->Q () {s with heap:=h'}):bb M A (eC (.ref a) env) Q E s:=by unfold eC;simp only[m];refine aa (bI n rfl (x:=.none) rfl ?_);rw[bE (by ext)];exact uT q u m n h
def Vk(Z:A.frames=O (env::outer))(hl:s.heap.FunFrames base (env::outer))(I:env.frame=O L)(he:Ex s.heap a C T .none)(h:∀h' T',s.heap.get? T'=af->s.heap.objs.size<=T'->Ex h' a C T' (cx L)->Mv ((env::outer).filterMap (·.frame)) a T s.heap h'->Q () {s with heap:=h'}):bb M A (eC (.ref a) env) Q E s:=by
 obtain⟨⟨t,U⟩,yY,oT,ts,v,B,W⟩:=he;unfold eC;simp only[I];refine aa (bI U rfl (x:=.ref T) rfl ?_);rw[bx (show(ab0 T !=ab1)=J from by simp)];refine aa (bI v B W ?_);rw[bE (show ¬(ab1==cx L)=J from by simp[cx])];refine aa (eR v B (eM.mp W).1 ?_);have n:∀b,b≠T->(s.heap.update T (ad1 (·.setIfInBounds 3 ab1))).get? b=s.heap.get? b:=λb m=>bT _ _ (bY m);have nr:∀b o,s.heap.get? b=O o->(∀vs,o.data≠.fields vs)->b≠T:=λb o m S q=>by rw[q,v]at m;cases m;exact S ts B
 refine uT (s:={s with heap:=s.heap.update T (ad1 (·.setIfInBounds 3 ab1))}) Z (hl.of_keeps λb o m S=>⟨o,(n b (nr b o m S)).trans m,rfl⟩) I ((n a (bY yY)).trans U) λh' T' F D f2 Y=>?_;refine h h' T' ?_ ?_ f2 ⟨λb o e m u G=>Y.keep b o ((n b G).trans e) m u u,λb o e m u G=>Y.slot b o ((n b G).trans e) m u u⟩
 ·by_cases q:T'=T;·rw[q]at F;have z:=cI (ad1 (·.setIfInBounds 3 ab1)) v (gM (dO B _));rw[z]at F;cases F
  ·exact(n T' q).symm.trans F
 ·have z:=S_ s.heap T (ad1 (·.setIfInBounds 3 ab1));exact aH (mG z.symm) D
def abA(m:env.frame=O L)(n:Ex s.heap a C T (cx L))(h:Q () s):bb M A (eC (.ref a) env) Q E s:=by obtain⟨⟨t,q⟩,Y,D,F,u,v,B⟩:=n;unfold eC;simp only[m];refine aa (bI q rfl (x:=.ref T) rfl ?_);rw[bx (show(ab0 T !=ab1)=J from by simp)];refine aa (bI u v B ?_);rw[bx (show(cx L==cx L)=J from by simp)];exact au h
def QD(v:Ex s.heap a C T fl)(h:∀h',Ex h' a C T .none->ad2 T s.heap h'->Q () {s with heap:=h'}):bb M A (setFlight (.ref a) af) Q E s:=by obtain⟨⟨t,n⟩,Y,F,B,q,m,D⟩:=v;have u:3<B.size:=(eM.mp D).1;unfold setFlight;refine aa (bI n rfl (x:=.ref T) rfl ?_);rw[bx (show(ab0 T !=ab1)=J from by simp)];refine eR q m u (h _ ⟨⟨t,(bT _ _ Y).trans n⟩,Y,_,_,cI _ q (gM (dO m _)),dO m _,by simp[u]⟩ (fH ..))
end
def wI:entryFor table "proto.unchain"=O Builtin.«proto.unchain»:=entryFor_of_tree (by kernel_rfl)
section
variable{e:Addr}
def EN{x:Value}{Q:dC}(m:s.heap.get? e=O (qN C t tb))(h:Q .none s):bb (bn prog w) A (runValue (.builtin "proto.unchain" ⟨[x,.ref e,.ref e,.bool a7],[]⟩)) Q E s:=by refine wpAny_runValue (gv wI ?_);unfold Builtin.«proto.unchain»;refine aa (bI m rfl (x:=.none) rfl ?_);show bb (bn prog w) _ (if(ab1==ab1)=J then(ret .none:Sem Fin)else _) _ _ _;rw[bx (by ext)];exact au h
def Nz{x:Addr}{ox:Obj}{vs:Array Value}{Q:α->bv->Prop}(m:A.handled=O (.ref e))(n:s.heap.get? e=O (qN C t tb))(q:s.heap.get? x=O ox)(u:ox.data=.fields vs)(hz:2<vs.size)(Y:e≠x)(h:E (.ref x) {s with heap:=s.heap.update x (ad1 (·.setIfInBounds 2 (.ref e)))}):bb (bn prog w) A (raiseNew (.ref x):Sem α) Q E s:=by unfold raiseNew;refine aa (wpAny_handled ?_);rw[m];show bb _ _ (if(ab0 e !=ab0 x)=J then _ else _) _ _ _;rw[bx (by simp[Y])];refine aa (cG (EN n ?_));exact aa (eR (M:=bn prog w) (A:=A) (E:=E) (x:=.ref e) q u hz (ut h))
def EK{it n:Addr}{I}(W:A.handled=O (.ref e))(Y:s.heap.get? e=O (qN C t tb))(Z:e≠it)(hit:s.heap.IsTupleIter it n i)(ht:s.heap.IsTuple n I)(hx:I[i]?=af)(hQ:∀h',Heap.ExtBut it s.heap h'->Q af {s with heap:=h'}):bb (bn prog w) A (pyNext (.ref it)) Q E s:=by obtain⟨o,u,hc,v⟩:=id hit;obtain⟨ol,B,_,nl,D⟩:=ht;unfold pyNext;refine aa (pW (cK (name:=ac5 "__next__") hit.typeIs dA (eJ dA hit.typeIs mD ?_ (mj _))));show bb _ _ (field (.ref it) 0>>=_) _ _ s;refine aa (bI u v (x:=.ref n) rfl ?_);show bb _ _ (if(ab0 n==ab1)=J then _ else _) _ _ s;rw[bE (show ¬(ab0 n==ab1)=J from aK)];show bb _ _ (field (.ref it) 1>>=_) _ _ s;refine aa (bI u v (x:=.int i 0) rfl ?_);show bb _ _ (seqItems? (.ref n)>>=_) _ _ s;refine aa (eQ B D ?_);simp only[dc,hx];refine aa (iq (aa (eR u v (by simp) ?_)));show bb _ _ (newExc (.type "StopIteration") []>>=_) _ _ _;refine aa ?_;simp only[newExc,newTuple];refine aa (bZ ?_ (by size_fits));refine aa (m:=firstArgMember _ _) (JA (a:=ab1) (by first|rfl|(simp only[firstArgMember];rfl)) ?_);refine bZ ?_ (by size_fits);have F:∀{G:Heap}{ob:Obj},G.get? e=O (qN C t tb)->(G.push ob).get? e=O (qN C t tb):=λq=>aj _ q;have S:(s.heap.update it (ad1 (·.setIfInBounds 0 ab1))).get? e=O (qN C t tb):=(bT _ _ (bY Z)).trans Y;refine Nz (C:=C) (t:=t) (tb:=tb) (e:=e) W (F (F S)) (aU _ rfl) rfl (by simp[ownMembersOf]) (bu (aN (F S))) ?_;refine aa (wpAny_isInstance (T:="StopIteration") (b:=J) ⟨_,cI _ (aU _ rfl) rfl,rfl⟩ isSubtype_stop ?_);refine au (hQ _ ?_);intro b o hb q;have q1:(s.heap.update it (ad1 (·.setIfInBounds 0 ab1))).get? b=O o:=(bT _ _ (bY hb)).trans q;have U:=aj ({cls:=.type "tuple",data:=.seq #[]}:Obj) q1;exact(bT _ _ (bY (bu (aN U)))).trans (aj _ U)
end
def eB.there{o:HO}(x:eB P w H h a o):∃ob,h.get? a=O ob:=by cases o with|lst xs=>obtain⟨_,_,_,_,e⟩:=x;exact⟨_,e⟩|tup xs=>obtain⟨_,_,_,o,e,_⟩:=x;exact⟨_,e⟩|dK B=>obtain⟨_,_,_,_,o,_,_,e,_⟩:=x;exact⟨_,e⟩|dT B=>obtain⟨_,_,_,_,o,_,_,e,_⟩:=x;exact⟨_,e⟩|set S n=>obtain⟨o,_,_,_,e,_⟩:=x;exact⟨_,e⟩|ins C D fs=>obtain⟨_,_,_,e,_⟩:=x;exact⟨_,e⟩|own y=>exact x|xd fs=>obtain⟨_,⟨o,_,_,e,_⟩,_⟩:=x;exact⟨_,e⟩|rng lo hi=>obtain⟨_,_,_,e⟩:=x;exact⟨_,e⟩|DE ob u=>obtain⟨e,_⟩:=x;exact⟨_,e⟩|V6 ps=>exact⟨_,show h.get? a=O _ from x⟩|met f y=>exact⟨_,show h.get? a=O _ from x⟩|ext φ=>exact x.2.1
def kZ.none_of(x:kZ P w H h)(e:h.get? a=af):H a=none:=by cases q:H a with|none=>rfl|some o=>obtain⟨m,z⟩:=(x a o q).there;rw[e]at z;cases z
def kZ.keep(x:kZ P w H h)(k:∀b u o,H b=O u->h.get? b=O o->h'.get? b=O o):kZ P w H h':=λa o e=>(x a o e).zN (λb u m q=>by
  rcases m with rfl|m;·exact k _ _ _ e q
  ·exact k _ _ _ m q) (λ_ q=>q) λ_ _ q=>q
structure Fl(P:cf)(w:b7)(l:List Env)(H:Hp)(s:bv)(H':Hp)(a C:Addr)(fl:Value)(s':bv):Prop where
 os:s'.os=s.os
 bare:AllBare s'.gens
 un:Un (oF l) [] H H' s.heap s'.heap
 di:kZ P w H' s'.heap
 na:H' a=af
 new:s.heap.get? a=af
 ex:∃T,Ex s'.heap a C T fl/\H' T=af/\s.heap.get? T=af
def oP(P:cf)(w:b7):xg:=λl H s E e s'=>∃a C H',e=.ref a/\Fl P w l H s H' a C .none s'/\E (.ref C) af H'
section
def Fl.inv(I:Inv X am σ H s)(f:Fl X.prog X.w X.stack H s H' a C fl s'):Inv X am σ H' s':=I.Fe (ch:=[]) f.os f.un f.di f.bare λb m=>absurd m (by simp)
def Fl.frF(I:Inv X am σ H s)(f:Fl X.prog X.w X.stack H s H' a C fl s'):∀b∈oF X.stack,H' b=none:=λb m=>by obtain⟨_,o,n,_⟩:=I.stack.mem m;exact f.un.free b o n (I.qF b m) (by simp)
def Fl.move{U:Value}(f:Fl X.prog X.w l H s H' a C fl s')(W:∀b∈oF l,H' b=af)(Y:H' T=af)(Z:s.heap.get? T=af)(m:Mv (oF l) a T s'.heap h')(e:Ex h' a C T' U)(B_:H' T'=af)(D:s.heap.get? T'=af):Fl X.prog X.w l H s H' a C U {s' with heap:=h'}where
 os:=f.os;bare:=f.bare;un:=by
  have na:∀b o,s.heap.get? b=O o->b≠a:=λb o q z=>by rw[z,f.new]at q;cases q
  have F:∀b o,s.heap.get? b=O o->b≠T:=λb o q z=>by rw[z,Z]at q;cases q
  refine⟨λb o q n v B=>m.keep b o (f.un.keep b o q n v B) v (na b o q) (F b o q),λb o q n v B=>?_,f.un.free,λb o q B=>?_,f.un.qK,f.un.pd,f.un.qI⟩;·obtain⟨sl,G⟩:=f.un.slot b o q n v B;obtain⟨S,I⟩:=m.slot b _ G v (na b o q) (F b o q);exact⟨S,I⟩
  ·obtain⟨o',G⟩:=f.un.there b o q B;obtain⟨sl,I⟩:=m.any G (na b o q) (F b o q);exact⟨_,I⟩
 di:=f.di.keep λb u o e q=>m.keep b o q (λz=>by rw[W b z]at e;cases e) (λz=>by rw[z,f.na]at e;cases e) (λz=>by rw[z,Y]at e;cases e);na:=f.na;new:=f.new;ex:=⟨T',e,B_,D⟩
theorem Fl.fresh(f:Fl X.prog X.w l H s H' a C fl s')(hn:s'.heap.get? T'=af)(m:s'.heap.objs.size<=T'):H' T'=af/\s.heap.get? T'=none:=by refine⟨f.di.fresh m,?_⟩;cases q:s.heap.get? T' with|none=>rfl|some o=>obtain⟨n,z⟩:=f.un.there T' o q (by simp);rw[hn]at z;cases z
def Fl.kq(I:Inv X am σ H s)(f:Fl X.prog X.w X.stack H s H' a C fl s'):s'.heap.FunFrames X.base X.stack:=(f.inv I).stack
variable{Q:Unit->bv->Prop}
def Fl.note(I:Inv X am σ H s)(n:X.stack=X.env::outer)(v:X.env.frame=O X.env.locals)(q:A.frames=O X.stack)(f:Fl X.prog X.w X.stack H s H' a C .none s')(h:∀u,Fl X.prog X.w X.stack H s H' a C (cx X.env.locals) u->Q () u):bb M A (eC (.ref a) X.env) Q E s':=by obtain⟨T,e,B,D⟩:=f.ex;have hl:=f.kq I;have F:∀b∈oF X.stack,H' b=none:=f.frF I;rw[n]at q hl;refine Vk q hl v e λh' T' G S U m=>h _ ?_;obtain⟨W,Y⟩:=f.fresh G S;exact f.move F B D (by rw[n];exact m) U W Y
def Fl.land(f:Fl X.prog X.w l H s H' a C fl s')(B:∀b∈oF l,H' b=af)(h:∀n,Fl X.prog X.w l H s H' a C .none n->Q () n):bb M A (setFlight (.ref a) af) Q E s':=by obtain⟨T,e,u,v⟩:=f.ex;exact QD e λh' D S=>h _ (f.move B u v ⟨λb o q _ _ m=>(S.2 b m).trans q,λb o q _ _ m=>⟨o.slots,(S.2 b m).trans q⟩⟩ D u v)
def Fl.out(I:Inv X am σ H s)(u:X.ex=[])(f:Fl X.prog X.w X.stack H s H' a C fl s'):Fl X.prog X.w X.outer X.H₀ X.s₀ H' a C fl s':=by
 have m:=f.inv I;have n:∀b,s.heap.get? b=af->X.s₀.heap.get? b=none:=λb q=>by cases z:X.s₀.heap.get? b with|none=>rfl|some o=>obtain⟨D,y⟩:=I.base.there b o z (by rw[u];simp);rw[q]at y;cases y
 obtain⟨T,e,v,B⟩:=f.ex;have un:=m.base;rw[u]at un;exact⟨m.os,m.bare,un,m.di,f.na,n _ f.new,T,e,v,n _ B⟩
end
structure OX(X:Cx):Prop where
 st:X.stack=X.env::X.outer
 fr:X.env.frame=O X.env.locals
 ex:X.ex=[]
def jH(X:Cx)(E:XK):Prop:=∀e s',bb (bn X.prog X.w) X.A (leaving X.env e) (λ_ m=>oP X.prog X.w X.outer X.H₀ X.s₀ E e m) (λn m=>oP X.prog X.w X.outer X.H₀ X.s₀ E n m) s'->X.xe e s'
def jH.pass{E:XK}(fr:OX X)(o:jH X E):eu (oP X.prog X.w) X E:=by intro am σ H s e s' I h;obtain⟨a,C,H',rfl,f,q⟩:=h;refine o _ _ ?_;unfold leaving;refine aa (f.note I fr.st fr.fr I.ok.frames λs2 f2=>?_);refine f2.land (f2.frF I) λS F=>?_;exact⟨a,C,H',rfl,F.out I fr.ex,q⟩
def jH.made{E:XK}{vs:List Value}(fr:OX X)(o:jH X E)(I:Inv X am σ H s)(m:Heap.MadeExcOf s.heap h' a (.ref C) vs)(q:E (.ref C) af H):X.xe (.ref a) {s with heap:=h'}:=by
 refine o _ _ ?_;obtain⟨t,W,Y,ht⟩:=m.there;have v:Inv X am σ H {s with heap:=h'}:=I.kept (t':=s.toks) m.keeps;have S:∀b∈oF X.stack,H b=none:=v.qF;unfold leaving;have hl:=v.stack;have U:=v.ok.frames;rw[fr.st]at hl U;have hn:H a=none:=I.di.none_of m.new;have G:∀b,h'.get? b=af->s.heap.get? b=none:=λb q=>by cases z:s.heap.get? b with|none=>rfl|some o=>rw[m.keeps b o z]at q;cases q
 refine aa (abz (s:={s with heap:=h'}) U hl fr.fr W λh2 T Z n2 e mv=>?_);have hT:H T=none:=v.di.fresh n2;have f:Fl X.prog X.w X.stack H s H a C (cx X.env.locals) {s with heap:=h2}:=by
  have D:∀b o,s.heap.get? b=O o->b≠a:=λb o q z=>by rw[z,m.new]at q;cases q
  have B:Mv (oF X.stack) a a h' h2:=by rw[fr.st];exact mv
  refine⟨rfl,v.bare,⟨λb o q n F hx=>B.keep b o (m.keeps b o q) F (D b o q) (D b o q),λb o q n F hx=>B.slot b o (m.keeps b o q) F (D b o q) (D b o q),λb o _ n _=>n,λb o q _=>?_,λ_ _ q=>q,λ_ _ _ q=>q,λ_ ps q=>⟨#[],by rw[q];simp⟩⟩,?_,hn,m.new,T,e,hT,G T Z⟩;·obtain⟨sl,q2⟩:=B.any (m.keeps b o q) (D b o q) (D b o q);exact⟨_,q2⟩
  ·exact v.di.keep λb u o e q=>B.keep b o q (λz=>by rw[S b z]at e;cases e) (λz=>by rw[z,hn]at e;cases e) λz=>by rw[z,hn]at e;cases e
 refine f.land S λs3 f3=>?_;exact⟨a,C,H,rfl,f3.out I fr.ex,q⟩
abbrev F2:List Value:=[.type "ValueError",.type "Exception",.type "BaseException",.type "object"]
def sU(K:Frag)(C:Addr):Prop:=excIn K C F2 "ValueError.__new__"=J
def Qy(X:K.In h)(q:sU K C):∃bm N nm u bs hdct sn sub ab col dd k0 k1 k2 k3 k5 mN,h.get? C=O (excClassObj nm u C N bs bm hdct sn sub ab col dd k0 k1 k2 k3 k5 "ValueError.__new__")/\h.Ns N mN/\mN "__init__"=af/\OwnTail h F2 bm:=by
 unfold sU excIn at q;split at q
 ·rename_i dd G sl I;split at q;·rename_i C' bm k0 k1 k2 k3 n k5 v B;simp only[aI,kD,Cp]at q;obtain⟨⟨⟨⟨⟨rfl,rfl⟩,m⟩,S⟩,D⟩,F⟩:=q;obtain⟨nm,bs,mro,U,u,Y,sn,sub,ab,col,Z⟩:=G;dsimp only at v m D F;subst v m;obtain⟨l⟩:=sl;dsimp only at B;subst B;exact⟨bm,U,nm,u,bs,Y,sn,sub,ab,col,dd,k0,k1,k2,k3,k5,_,X _ _ I,.of_isNs (PySem.W.isNs_of_in X D),PySem.W.nsMap_none_of_in X D F,PySem.W.tail_of_in X S⟩
  ·cases q
 ·cases q
def Og(E:XK)(C:Addr)(te:TE):TS:=λ_ σ H=>te σ H λ_ m=>E (.ref C) af m
def Nm{E:XK}{u:Expr}{B:Pos}(fr:OX X)(o:jH X E)(G:X.calm)(S:Gl X x)(U:X.mg x=O (.ref C))(W:sU X.K C)(Y:PE X u te)(Z:autoParam (cm u=J) o0)(hd:autoParam ((x==("__debug__":Str))=a7) P3):PS X (.Raise (O (.Call (.Name x B) [u] [] dP)) af pos) (Og E C te):=by intro am s σ H D I h;obtain⟨bm,N,nm,qn,bs,hdct,sn,sub,ab,col,dd,k0,k1,k2,k3,k5,mN,hC,hN,F_,T⟩:=Qy I.mod.Pb W;have hs:=c8 (es:=[]) (env:=X.env) Z;refine wpAny_Raise_call_subT (C:=C) (nm:=nm) (q:=qn) (N:=N) (bs:=bs) (bm:=bm) (hdct:=hdct) (sn:=sn) (sub:=sub) (ab:=ab) (col:=col) (dd:=dd) (k0:=k0) (k1:=k1) (k2:=k2) (k3:=k3) (k5:=k5) PySem.F.excBase_ValueError (mN:=mN) (T.hasType (by ext)) (I.ok.hd G) (by rw[hs];rfl) F_ (kg I S U ⟨rfl,?_⟩ hd);rw[hs];refine lg (Ai (dh (Y am s σ H _ I h) λv s2 y=>?_));obtain⟨y,H1,n,r,q⟩:=y;exact Cq ⟨rfl,by show 1<=sizeLine;decide,n.bk _ _ hC,hN.keeps n.bk,T.keeps n.bk,λh' e m=>o.made fr n m q⟩
structure mK(P:cf)(w:b7)(K:Frag)(mg:b')(base:Heap)(k:Nat)(x:Str)(ps:List Str)(sp:Sp):Prop where ex:∃(f:Addr)(fd:dL),je P w K mg base (oP P w) k f fd ps sp/\mg x=O (.ref f)/\keepIn K (.ref f)/\Binds K fd ps []
section
variable{st:Stmt}
def Src.YJ(S:Src K mg x st ps)(F:dD N ps (aL st))(len:∀vs H Q E,sp vs H Q E->vs.length=ps.length)(n:∀(f:Addr)(dW:Value)(A:cr)(outer:List Env)(s:bv)(H:Hp)(vs:List V)(Q:VK)(E:XK),dQ k (A.deeper (envOfC x (aL st) s.heap.objs.size f dW))->sp vs H Q E->∃t,kH (oE (oP P w) P w K mg base N x (aL st) f dW A outer s H E) (cb st) t/\t {nx:=λ_ H'=>Q .non H',rt:=Q} (start N vs) H):mK P w K mg base (k+1) x ps sp:=by obtain⟨f,B,m,q,u⟩:=S.ex;obtain⟨oc,D,kV,doc,G,I,dW,U,Z,rfl,lk,Y⟩:=m.ex;exact⟨f,_,FA lk Y F len λA outer s H vs Q E v W=>n f dW A outer s H vs Q E v W,q,m.kp,u⟩
theorem mK.mono(D:mK P w K mg base j x ps sp)(h:j<=k):mK P w K mg base k x ps sp:=by obtain⟨f,m,F,r⟩:=D.ex;exact⟨f,m,F.mono h,r⟩
theorem mK.imp(D:mK P w K mg base k x ps sp)(h:∀vs H Q E,ZR vs H Q E->sp vs H Q E):mK P w K mg base k x ps ZR:=by obtain⟨f,m,F,r⟩:=D.ex;exact⟨f,m,F.imp h,r⟩
def pb{E:XK}:OX (oE CX P w K mg base N x sc f dW A outer s H E):=⟨rfl,rfl,rfl⟩
def rQ{E:XK}:jH (oE (oP P w) P w K mg base N x sc f dW A outer s H E) E:=λ_ _ h=>h
end
def Oc(sp:Sp)(E:XK)(t:TA):TE:=λσ H Q=>t σ H λv m=>sp v m Q E
def zt{E:XK}{t:TA}(D:mK X.prog X.w X.K X.mg X.base k x ps sp)(m:dQ k X.A)(n:eu (oP X.prog X.w) X E)(u:Gl X x)(v:PA X (e::es) t)(B:autoParam ((x==("__debug__":Str))=a7) P3)(U:autoParam ((e::es).all cm=J) o0):PE X (.Call (.Name x p) (e::es) [] pos) (Oc sp E t):=by
 obtain⟨f,Z,F,G,S,W⟩:=D.ex;intro am s σ H Q I h;rw[bh,aI]at U;have q:=Se (p:=p) (pos:=pos) F m u G S W .nil n v B (c8 U.1) (fF U.2) am s σ H Q I;refine q ?_;have Y:N8 sp [] E t=Oc sp E t:=by funext σ H Q;unfold N8 Oc;simp only[aM]
 rw[Y];exact h
def D6{e:Value}{env':Env}(h:env.frame=env'.frame):eC e env=eC e env':=by unfold eC PySem.frameOf;rw[h]
section
variable{Q:Unit->bv->Prop}
def abB(pj:A.frames=O (env::outer))(hl:s.heap.FunFrames base (env::outer))(G:env.frame=O L)(U:Ex s.heap a C T fl)(n:fl=cx L->Q () s)(h:∀h' T',s.heap.get? T'=af->s.heap.objs.size<=T'->Ex h' a C T' (cx L)->Mv ((env::outer).filterMap (·.frame)) a T s.heap h'->Q () {s with heap:=h'}):bb M A (eC (.ref a) env) Q E s:=by
 by_cases W:fl=cx L;·subst W;exact abA G U (n rfl)
 obtain⟨⟨t,Y⟩,yY,oT,ts,B,D,Z⟩:=U;unfold eC;simp only[G];refine aa (bI Y rfl (x:=.ref T) rfl ?_);rw[bx (show(ab0 T !=ab1)=J from by simp)];refine aa (bI B D Z ?_);rw[bE (show ¬(fl==cx L)=J from λz=>W (nE z))];refine aa (eR B D (eM.mp Z).1 ?_);have u:∀b,b≠T->(s.heap.update T (ad1 (·.setIfInBounds 3 ab1))).get? b=s.heap.get? b:=λb m=>bT _ _ (bY m);have nr:∀b o,s.heap.get? b=O o->(∀vs,o.data≠.fields vs)->b≠T:=λb o m S q=>by rw[q,B]at m;cases m;exact S ts D
 refine uT (s:={s with heap:=s.heap.update T (ad1 (·.setIfInBounds 3 ab1))}) pj (hl.of_keeps λb o m S=>⟨o,(u b (nr b o m S)).trans m,rfl⟩) G ((u a (bY yY)).trans Y) λh' T' F I f2 f3=>?_;refine h h' T' ?_ ?_ f2 ⟨λb o e m v n=>f3.keep b o ((u b n).trans e) m v v,λb o e m v n=>f3.slot b o ((u b n).trans e) m v v⟩
 ·by_cases q:T'=T;·rw[q]at F;have z:=cI (ad1 (·.setIfInBounds 3 ab1)) B (gM (dO D _));rw[z]at F;cases F
  ·exact(u T' q).symm.trans F
 ·have z:=S_ s.heap T (ad1 (·.setIfInBounds 3 ab1));exact aH (mG z.symm) I
def QE{fr:Option Addr}(v:Ex s.heap a C T fl)(h:∀h' U,Ex h' a C T U->ad2 T s.heap h'->Q () {s with heap:=h'}):bb M A (setFlight (.ref a) fr) Q E s:=by obtain⟨⟨t,n⟩,Y,F,B,q,m,D⟩:=v;have u:3<B.size:=(eM.mp D).1;unfold setFlight;refine aa (bI n rfl (x:=.ref T) rfl ?_);rw[bx (show(ab0 T !=ab1)=J from by simp)];refine eR q m u (h _ (fr.elim .none λf=>cx f) ⟨⟨t,(bT _ _ Y).trans n⟩,Y,_,_,cI _ q (gM (dO m _)),dO m _,by simp[u]⟩ (fH ..))
def R8{ψ:Env}{u:String}{q:α->bv->Prop}(n:Ex s.heap a C T fl)(h:∀h' U,Ex h' a C T U->ad2 T s.heap h'->E (.ref a) {s with heap:=h'}):bb M A (PySem.passOn u (.ref a) ψ:Sem α) q E s:=by unfold PySem.passOn;have m:=n;obtain⟨⟨t,v⟩,_⟩:=m;refine aa (bI v rfl (x:=.ref T) rfl ?_);rw[bE (show ¬(ab0 T==ab1)=J from by simp)];exact aa (QE n λh' U e S=>ut (h h' U e S))
end
def Inv.toX(I:Inv X am σ H s):Inv {X with xe:=E} am σ H s:=⟨⟨I.ok.mod,I.ok.kind,I.ok.glob,I.ok.blt,I.ok.above,I.ok.inj,I.ok.has,I.ok.O4,I.ok.hd,I.ok.frames,I.ok.TF,I.ok.KU,I.ok.bs,I.ok.Cd,I.ok.vj,I.ok.uU,I.ok.kq,I.ok.HV⟩,I.os,I.bare,I.base,I.loc,I.cell,I.free,I.gT,I.pin,I.di,I.len⟩
def Inv.ofX(I:Inv {X with xe:=E} am σ H s):Inv X am σ H s:=⟨⟨I.ok.mod,I.ok.kind,I.ok.glob,I.ok.blt,I.ok.above,I.ok.inj,I.ok.has,I.ok.O4,I.ok.hd,I.ok.frames,I.ok.TF,I.ok.KU,I.ok.bs,I.ok.Cd,I.ok.vj,I.ok.uU,I.ok.kq,I.ok.HV⟩,I.os,I.bare,I.base,I.loc,I.cell,I.free,I.gT,I.pin,I.di,I.len⟩
def iL(X:Cx)(N':List Str)(scope:Scope)(fp:List Addr)(S:bv)(m:Hp)(E1:XK):Cx:={gC X N' scope fp S m with xe:=λe s'=>∃am σ H s,Inv (gC X N' scope fp S m) am σ H s/\oP X.prog X.w X.stack H s E1 e s'}
def Dd{S:bv}{m:Hp}{E1:XK}:eu (oP X.prog X.w) (iL X N' scope fp S m E1) E1:=λam σ H s e s' I h=>⟨am,σ,H,s,I.ofX,h⟩
def xa{Ee:dC}{iter:Expr}(I:Nat->bv->Prop)(hE:∀e s',Ee e s'->notedBy (bn prog w) A env (λe s'=>R (.error e) s') e s')(Y:∀n s,I n s->bb (bn prog w) A (pyNext it) (λr S=>r=af/\R (.ok .next) S\/∃v,r=O v/\bb (bn prog w) A (ji target it v) (λ_ D=>bb (bn prog w) A (assign target env v) (λ_ F=>bb (bn prog w) A (forIn ifs J λc r=>if r=J then(do let ok<-isTrue c env (eval c env);pure (ad6 ok))else pure (ad6 r)) (λok B=>if ok=J then bb (bn prog w) A (eval elt env) (λx G=>bb (bn prog w) A (call (.builtin "list.append") [acc,x]) (λ_ U=>∃m,m<n/\I m U) Ee G) Ee B else ∃m,m<n/\I m B) Ee F) Ee D) Ee S) Ee s)(n:Nat)(h:I n s):eH (bn prog w) A (.compLoop (.ListComp elt [⟨target,iter,ifs,0⟩] scope pos) 0 it acc env) R s:=by
 have no:∀{α:Type}{t:Sem α}{Q:α->bv->Prop}{s:bv},bb (bn prog w) A t Q Ee s->bb (bn prog w) A t Q (notedBy (bn prog w) A env λe s'=>R (.error e) s') s:=λh=>dB h (λ_ _ q=>q) hE;refine codeAny_loop rfl I (λn s hI=>?_) n h;show bb _ A ((compTurn (.ListComp elt [⟨target,iter,ifs,0⟩] scope pos) 0 it acc env).onRaise λx=>do eC x env;theTreesLotGoes x) _ _ s;refine wpAny_noted ?_;rw[compTurn_list];refine aa (Ad (aa (no (dh (Y n s hI) λr S u=>?_))));rcases u with ⟨rfl,u⟩|⟨v,rfl,u⟩;·exact au u
 ·refine aa (no (dh u λ_ D Z=>aa (no (dh Z λ_ F h₃=>aa (no (dh h₃ λok B W=>?_))))));cases ok with|false=>exact au ⟨rfl,W⟩|true=>exact aa (aa (no (dh W λx G h₅=>aa (no (dh h₅ λ_ U h₆=>au (au ⟨rfl,h₆⟩))))))
def B2(I:X.stack=X.env::X.outer)(B:X.env.frame=O X.env.locals)(ab:X.s₀.heap.objs.size<=X.env.locals):Un (oF X.outer) [] X.H₀ H' X.s₀.heap h↔Un (oF X.stack) [] X.H₀ H' X.s₀.heap h:=by
 have v:∀b o,X.s₀.heap.get? b=O o->(b∈oF X.stack↔b∈oF X.outer):=λb o e=>by
  have D:b≠X.env.locals:=λz=>by have:=aN e;rw[z]at this;exact absurd this (Nat.not_lt.mpr ab)
  rw[I];unfold oF;rw[eo,B];simp only[aJ];exact⟨λh=>h.resolve_left D,.inr⟩
 constructor;·intro u;exact⟨λb o e n m q=>u.keep b o e n (λz=>m ((v b o e).mpr z)) q,λb o e n m q=>u.slot b o e n ((v b o e).mp m) q,u.free,u.there,u.qK,u.pd,u.qI⟩
 ·intro u;exact⟨λb o e n m q=>u.keep b o e n (λz=>m ((v b o e).mp z)) q,λb o e n m q=>u.slot b o e n ((v b o e).mpr m) q,u.free,u.there,u.qK,u.pd,u.qI⟩
def jH.marked{E:XK}(fr:OX X)(o:jH X E)(I:Inv X am σ H s)(n:Ex s.heap a C T fl)(S:H a=af)(u:H T=af)(W:X.s₀.heap.get? a=af)(v:X.s₀.heap.get? T=af)(q:E (.ref C) af H):X.xe (.ref a) s:=by
 refine o _ _ ?_;have F:∀b∈oF X.stack,H b=none:=I.qF;have hl:=I.stack;have B:=I.ok.frames;rw[fr.st]at hl B;have U:=I.base;rw[fr.ex]at U;have D:Fl X.prog X.w X.stack X.H₀ X.s₀ H a C fl s:=⟨I.os,I.bare,(B2 fr.st fr.fr I.ok.above).mp U,I.di,S,W,T,n,u,v⟩;have out:∀s',Fl X.prog X.w X.stack X.H₀ X.s₀ H a C .none s'->oP X.prog X.w X.outer X.H₀ X.s₀ E (.ref a) s':=λs' f=>by refine⟨a,C,H,rfl,⟨f.os,f.bare,(B2 fr.st fr.fr I.ok.above).mpr f.un,f.di,f.na,f.new,f.ex⟩,q⟩
 unfold leaving;refine aa (abB B hl fr.fr n (λ_=>D.land F λs' f=>out s' f) λh' T' n1 G e m=>?_);have Y:H T'=none:=I.di.fresh G;have Z:X.s₀.heap.get? T'=none:=by cases z:X.s₀.heap.get? T' with|none=>rfl|some ob=>exact absurd (bt (aN z) (aH I.sz G)) (cS _)
 have F1:Fl X.prog X.w X.stack X.H₀ X.s₀ H a C (cx X.env.locals) {s with heap:=h'}:=D.move F u v (by rw[fr.st];exact m) e Y Z;exact F1.land F λs' f=>out s' f
def Y'(n:Nat)(X:Cx)(e:Expr)(t:TE):Prop:=∀(am:ce)(s:bv)(σ:tSt)(H:Hp)(Q:VK),Inv X am σ H s->n<=s.toks->t σ H Q->bb (bn X.prog X.w) X.A (eval e X.env) (EP X am σ Q) X.xe s
def zS{n:Nat}{t:Sem α}{Q R:α->bv->Prop}(m:n<=s.toks)(h:bb M A t Q E s)(k:∀v s',n<=s'.toks->Q v s'->R v s'):bb M A t R E s:=wpAny_with_toks m (dB h (λv s' q t=>k v s' t q) λ_ _ e _=>e)
theorem PE.n{X:Cx}{e:Expr}{t:TE}(h:PE X e t)(n:Nat):Y' n X e t:=λam s σ H Q I _ q=>h am s σ H Q I q
def xN{nt:Nat}{E1:XK}{iter:Expr}(fr:OX X)(o:jH X E1)(S:gG X N' scope)(A5:X.calm)(hσ:∀σ:tSt,σ.length=X.N.length->qZ X N' scope σ (σc σ))(hi:PI X tg iter wi)(hg:∀fp G U,PG (iL X N' scope fp G U E1) tg g)(hc:∀fp G U,pY (iL X N' scope fp G U E1) ifs tc)(he:∀fp G U,Y' nt (iL X N' scope fp G U E1) elt te)(hs:∀x,hG iter X.env x=pure x):Y' nt X (.ListComp elt [⟨tg,iter,ifs,0⟩] scope pos) (BW wi g tc te σc):=by
 intro am s σ H Q I ht h;have j9:∀y∈scope.names,y.2=.free->∃c,X.env.cells.lookup y.1=O c:=λy hy hk=>I.ok.has y.1 (.inl (S.fre y hy hk));have sub:=mP (cells:=X.env.cells) (names:=scope.names) (acc:=[]) j9 (λx c e=>by cases e);rw[eval_ListComp];refine Wj (use:=af) rfl hs (uG j9) S.kind S.loc (zS ht (hi am s σ H _ I h) λv s1 t1 h1=>zS t1 h1 λitv s2 t2 h2=>?_);obtain⟨it,fp,tn,B,H2,rfl,I2,T,JN,f2,h2⟩:=h2;obtain⟨W,⟨m0,w0⟩,turn⟩:=h2 s2.heap.objs.size I2.fresh;have lt2:∀b∈fp,b<s2.heap.objs.size:=λb D=>by obtain⟨o,ho,_⟩:=T.obj _ _ JN b D;exact aN ho
 refine bZ (Xz S.D3 (by intro y hy;simp at hy) (λh₁ pq px=>?_) S.kind);dsimp only at pq px⊢;have I3:Inv X am σ (cQ H2 s2.heap.objs.size (.lst [])) {s2 with heap:=s2.heap.push {cls:=.type "list",data:=.seq ([]:List Value).toArray}}:=I2.Rz (t':=s2.toks) (ys:=[]) .nil (bG _);generalize hs3:({s2 with heap:=s2.heap.push {cls:=.type "list",data:=.seq ([]:List Value).toArray}}:bv)=s3 at I3;have e3:s2.heap.push {cls:=.type "list",data:=.seq ([]:List Value).toArray}=s3.heap:=by rw[<-hs3]
 have mi:s3.heap.objs.size=s2.heap.objs.size+1:=by rw[<-e3,fJ]
 have Z6:∀b o,s2.heap.get? b=O o->s3.heap.get? b=O o:=λb o e=>by rw[<-e3];exact aj _ e
 have f3:∀b∈fp,mm X am (cQ H2 s2.heap.objs.size (.lst [])) b:=λb D=>by obtain⟨q1,q2⟩:=f2 b D;exact⟨by rw[bC (bu (lt2 b D))];exact q1,q2⟩
 have lt3:∀b∈fp,b<s3.heap.objs.size:=λb D=>by rw[mi];exact pL (lt2 b D)
 rw[e3]at pq px⊢;have up1:∀b o,s3.heap.get? b=O o->h₁.get? b=O o:=λb o e=>px.extBut b o (bu (aN e)) (aj _ e);have XC:h₁.Ns s3.heap.objs.size λ_=>af:=by have q:=pq;simpa using q
 have I4:Inv (iL X N' scope fp s3 (cQ H2 s2.heap.objs.size (.lst [])) E1) [] (σc σ) (cQ H2 s2.heap.objs.size (.lst [])) {s3 with heap:=h₁,toks:=s2.toks}:=(AG S I3 f3 lt3 (hσ σ I.len) XC up1).toX;have st4:tn 0 h₁:=T.keep _ _ _ JN λb D o e=>up1 b o (Z6 b o e);generalize Z:iL X N' scope fp s3 (cQ H2 s2.heap.objs.size (.lst [])) E1=F at I4;have xP:F.prog=X.prog:=by rw[<-Z];rfl
 have xw:F.w=X.w:=by rw[<-Z];rfl
 have xK:F.K=X.K:=by rw[<-Z];rfl
 have xA:F.A=X.A:=by rw[<-Z];rfl
 have xc:F.calm=true:=by rw[<-Z];exact A5
 have xx:F.xe=λe s'=>∃am σ H s,Inv (gC X N' scope fp s3 (cQ H2 s2.heap.objs.size (.lst []))) am σ H s/\oP X.prog X.w X.stack H s E1 e s':=by rw[<-Z];rfl
 have xe:F.env=compEnvC scope (oA X.env.cells scope.names []) s3.heap.objs.size X.env:=by rw[<-Z];rfl
 have hg':PG F tg g:=by rw[<-Z];exact hg _ _ _
 have HZ:pY F ifs tc:=by rw[<-Z];exact hc _ _ _
 have he':Y' nt F elt te:=by rw[<-Z];exact he _ _ _
 have KS:F.ex=fp:=by rw[<-Z];rfl
 have fs0:F.fs=oF X.stack:=by rw[<-Z];rfl
 have pn0:F.pn=[]:=by rw[<-Z];rfl
 have s00:F.s₀=s3:=by rw[<-Z];rfl
 have H00:F.H₀=cQ H2 s2.heap.objs.size (.lst []):=by rw[<-Z];rfl
 have R0:=I4.ok;have vQ:∀{H':Hp},(∀b∈fp,H' b=af)->∀b∈fp,mm F [] H' b:=λ{H'}hn b D=>by obtain⟨_,q1,q2,q3,q4,q5⟩:=f3 b D;refine⟨hn b D,(R0.KU b (by rw[KS];exact D)).1,R0.uU b (by rw[KS];exact D),.inl (by rw[KS];exact D),(R0.KU b (by rw[KS];exact D)).2,λp hp=>?_⟩;rw[pn0]at hp;exact absurd (show p∈([]:ce)from hp) (by simp)
 have fin:∀(s':bv)(Y:tSt)(H':Hp),Inv F [] Y H' s'->Q (.ref s2.heap.objs.size) H'->compPost (bn X.prog X.w) X.A X.xe af (EP X am σ Q) (.ref s2.heap.objs.size) s3.heap.objs.size (.ok .next) s':=λs' Y H' I' q=>by
  have hC:F.env.locals=s3.heap.objs.size:=by rw[xe];rfl
  obtain⟨m,hm,_⟩:=id I'.loc;rw[hC]at hm;refine⟨m,hm,λh' QX=>⟨.ref s2.heap.objs.size,H',?_,rfl,q⟩⟩;have un:=I'.base;rw[fs0,KS,s00,H00]at un;have Pe:∀b o,s3.heap.get? b=O o->b≠s3.heap.objs.size:=λb o e=>bu (aN e);have un':Un (oF X.stack) fp (cQ H2 s2.heap.objs.size (.lst [])) H' s3.heap h':=⟨λb o e n D hx=>(QX.2 b (Pe b o e)).trans (un.keep b o e n D hx),λb o e n D hx=>let ⟨sl,z⟩:=un.slot b o e n D hx;⟨sl,(QX.2 b (Pe b o e)).trans z⟩,un.free,λb o e hx=>let ⟨o',z⟩:=un.there b o e hx;⟨o',(QX.2 b (Pe b o e)).trans z⟩,un.qK,un.pd,un.qI⟩;have pj:H' s3.heap.objs.size=none:=by rw[<-hC];exact I'.free
  have DH:kZ X.prog X.w H' s'.heap:=by rw[<-xP,<-xw];exact I'.di
  refine I3.Fe (s':={s' with heap:=h'}) (ch:=fp) ?_ un' (tS DH pj QX) I'.bare λb D=>?_;·have z:=I'.os;rw[s00]at z;exact z
  ·obtain⟨_,q1,q2,q3,q4,q5⟩:=f3 b D;exact⟨q3,q1,q4,q5⟩
 have hE:∀e s',F.xe e s'->notedBy (bn X.prog X.w) X.A (compEnvC scope (oA X.env.cells scope.names []) s3.heap.objs.size X.env) (λe s'=>compPost (bn X.prog X.w) X.A X.xe af (EP X am σ Q) (.ref s2.heap.objs.size) s3.heap.objs.size (.error e) s') e s':=by
  intro e s5 h5;rw[xx]at h5;obtain⟨BA,Y,H5,s4,I5,a,C,H',rfl,f,q⟩:=h5;have J5:Inv (gC X N' scope fp s3 (cQ H2 s2.heap.objs.size (.lst []))) BA Y H' s5:=Fl.inv I5 f;obtain⟨T,e1,hT,O9⟩:=f.ex;have hl:s5.heap.FunFrames X.base X.stack:=J5.stack;have fm:∀b∈oF X.stack,H' b=none:=λb D=>Fl.frF (X:=gC X N' scope fp s3 (cQ H2 s2.heap.objs.size (.lst []))) I5 f b D;have pj:=I.ok.frames;have Ii:=fr.st;rw[Ii]at hl pj;show bb _ _ (eC (.ref a) _) _ _ s5;rw[D6 (env:=compEnvC scope (oA X.env.cells scope.names []) s3.heap.objs.size X.env) (env':=X.env) rfl];refine Vk pj hl fr.fr e1 λh6 T' n1 n2 e6 m6=>?_;obtain⟨g1,g2⟩:=f.fresh n1 n2;have f6:Fl X.prog X.w X.stack H5 s4 H' a C (cx X.env.locals) {s5 with heap:=h6}:=f.move fm hT O9 (by rw[Ii];exact m6) e6 g1 g2;have J6:Inv (gC X N' scope fp s3 (cQ H2 s2.heap.objs.size (.lst []))) BA Y H' {s5 with heap:=h6}:=Fl.inv I5 f6;have hC0:(gC X N' scope fp s3 (cQ H2 s2.heap.objs.size (.lst []))).env.locals=s3.heap.objs.size:=rfl;obtain⟨m,hm,_⟩:=id J6.loc;rw[hC0]at hm;refine⟨m,hm,λh7 hs7 ψ aid=>?_⟩;have aC:a≠s3.heap.objs.size:=λz=>by obtain⟨m4,⟨o4,es4,ep4,ho4,_⟩,_⟩:=id I5.loc;rw[hC0]at ho4;have nw:=f.new;rw[z,ho4]at nw;cases nw
  have acC:s3.heap.objs.size<=s5.heap.objs.size:=J5.sz;have tC:T'≠s3.heap.objs.size:=λz=>by have h1:=J5.lt;rw[hC0]at h1;rw[z]at n2;exact absurd h1 (Nat.not_lt.mpr n2)
  have e7:Ex h7 a C T' (cx X.env.locals):=by obtain⟨⟨t,ha⟩,yY,oT,ts,B_,hd,h3⟩:=e6;exact⟨⟨t,(hs7.2 a aC).trans ha⟩,yY,oT,ts,(hs7.2 T' tC).trans B_,hd,h3⟩
  refine R8 (s:={s5 with heap:=h7}) e7 λh8 fl8 e8 sb8=>?_;have Pe:∀b o,s3.heap.get? b=O o->b≠s3.heap.objs.size:=λb o e=>bu (aN e);have neT:∀b o,s3.heap.get? b=O o->b≠T':=λb o e=>bu (bt (aN e) (aH acC n2));have NU:∀b o,s3.heap.get? b=O o->h8.get? b=h6.get? b:=λb o e=>(sb8.2 b (neT b o e)).trans (hs7.2 b (Pe b o e));have un:Un (oF X.stack) fp (cQ H2 s2.heap.objs.size (.lst [])) H' s3.heap h6:=J6.base;have un8:Un (oF X.stack) fp (cQ H2 s2.heap.objs.size (.lst [])) H' s3.heap h8:=⟨λb o e n D hx=>(NU b o e).trans (un.keep b o e n D hx),λb o e n D hx=>let ⟨sl,z⟩:=un.slot b o e n D hx;⟨sl,(NU b o e).trans z⟩,un.free,λb o e hx=>let ⟨o',z⟩:=un.there b o e hx;⟨o',(NU b o e).trans z⟩,un.qK,un.pd,un.qI⟩;have hC':H' s3.heap.objs.size=none:=by have z:=J6.free;rw[hC0]at z;exact z
  have afT:kZ X.prog X.w H' h6:=J6.di;have J8:Inv X am σ H' {s5 with heap:=h8}:=by refine I3.Fe (s':={s5 with heap:=h8}) (ch:=fp) J5.os un8 (tS (tS afT hC' hs7) g1 sb8) J5.bare λb D=>?_;obtain⟨_,q1,q2,q3,q4,q5⟩:=f3 b D;exact⟨q3,q1,q4,q5⟩
  refine o.marked fr J8 e8 f.na g1 ?_ ?_ q;·cases z:X.s₀.heap.get? a with
   |none=>rfl|some ob=>obtain⟨o',z'⟩:=I3.base.there a ob z (by rw[fr.ex];simp);obtain⟨o'',z''⟩:=I5.base.there a o' z' (λD=>by
     obtain⟨_,q1,q2,q3,q4,q5⟩:=f3 a D;rcases q3 with q3|q3;·rw[fr.ex]at q3;simp at q3
     ·exact absurd (aN z) (Nat.not_lt.mpr q3));have nw:=f.new;rw[z'']at nw;cases nw
  ·cases z:X.s₀.heap.get? T' with|none=>rfl|some ob=>exact absurd (bt (aN z) (aH I3.sz (aH acC n2))) (cS _)
 have loop:eH (bn X.prog X.w) X.A (.compLoop (.ListComp elt [⟨tg,iter,ifs,0⟩] scope pos) 0 (.ref it) (.ref s2.heap.objs.size) (compEnvC scope (oA X.env.cells scope.names []) s3.heap.objs.size X.env)) (compPost (bn X.prog X.w) X.A X.xe af (EP X am σ Q) (.ref s2.heap.objs.size) s3.heap.objs.size) {s3 with heap:=h₁,toks:=s2.toks}:=by
  refine xa (Ee:=F.xe) (λn s'=>nt<=s'.toks/\∃i Y ys H',Inv F [] Y H' s'/\tn i s'.heap/\(∀b∈fp,H' b=af)/\W i n Y ys H') hE ?_ m0 ⟨t2,0,_,[],_,I4,st4,λb D=>(f3 b D).1,w0⟩;rintro n s5 ⟨t5,i,σ5,ys,H5,I5,TC,Xk,w5⟩;obtain⟨oG,hh⟩:=turn i n σ5 ys H5 w5;rcases hh with ⟨stop,q⟩|⟨go,Ae,step⟩;·have d:=T.done F xP xw xK xc i [] s5 σ5 H5 F.xe I5 (vQ Xk) TC stop;rw[xA]at d;exact dh d λr s6 ⟨hr,I6⟩=>.inl ⟨hr,fin s6 σ5 H5 I6 q⟩
  ·have d:=T.item F xP xw xK xc i [] s5 σ5 H5 F.xe I5 (vQ Xk) TC go;rw[xA]at d;refine zS t5 d λr s6 t6 ⟨u,hr,h6⟩=>.inr ⟨u,hr,zS t6 h6 λ_ s7 t7 x=>?_⟩;obtain⟨x,H7,I7,r7,y7,ZT,fr7⟩:=x;have I7':=I7.pinned (vQ fr7) (T.obj _ _ ZT);have a1:=hg' _ s7 σ5 H7 x u _ I7' r7 (step x H7 y7);rw[xP,xw,xA,xe]at a1;refine zS t7 a1 λ_ s8 t8 H8=>?_;obtain⟨σ8,H8,I8,q8⟩:=H8;have a2:=HZ _ s8 σ8 H8 _ I8 q8;rw[xP,xw,xA,xe]at a2;refine zS t8 a2 λok s9 t9 H9=>?_;obtain⟨H9,I9,q9⟩:=H9;have back:∀{σz:tSt}{Hz:Hp}{sz:bv},Inv F ([]++nq fp s7.heap) σz Hz sz->tn (i+1) sz.heap/\∀b∈fp,Hz b=none:=λ{σz Hz sz}Iz=>by refine⟨T.keep _ _ _ ZT λb D o e=>(Iz.pin (b,o) (aR _ (aR _ (fE D e)))).1,λb D=>?_⟩;obtain⟨o,e,_⟩:=T.obj _ _ ZT b D;exact(Iz.pin (b,o) (aR _ (aR _ (fE D e)))).2.1
   cases ok with|false=>obtain⟨m',hm,w'⟩:=q9;rw[bE aK];exact⟨m',hm,t9,i+1,σ8,ys,H9,I9.fG,(back I9).1,(back I9).2,w'⟩|true=>rw[bx rfl]at q9⊢;have a3:=he' _ s9 σ8 H9 _ I9 t9 q9;rw[xP,xw,xA,xe]at a3;refine zS t9 a3 λy sa ta yv=>?_;obtain⟨yv,Ha,Ia,ra,K5,m',hm,w'⟩:=yv;have a4:=jG (X:=F) _ sa σ8 Ha (.ref s2.heap.objs.size) [yv] (.ref s2.heap.objs.size) [y] (λv H'=>H'=cQ Ha s2.heap.objs.size (.lst (ys++[yv]))) Ia rfl (.cons ra .nil) ⟨_,ys,yv,rfl,rfl,K5,Ae,rfl⟩;rw[xP,xw,xA]at a4;refine zS ta a4 λ_ sb tb Hb=>?_;obtain⟨_,Hb,Ib,_,eb⟩:=Hb;subst eb;exact⟨m',hm,tb,i+1,σ8,ys++[yv],_,Ib.fG,(back Ib).1,(back Ib).2,w'⟩
 have es:({s2 with heap:=h₁,toks:=s2.toks+([]:List (Str×Value)).length}:bv)={s3 with heap:=h₁,toks:=s2.toks}:=by rw[<-hs3];rfl
 refine D' ?_ ?_;·exact es▸loop
 ·exact T.self _ 0 _ _ _ st4 (es▸loop)
def vo{E1:XK}{iter:Expr}(fr:OX X)(o:jH X E1)(S:gG X N' scope)(v:X.calm)(u:∀σ:tSt,σ.length=X.N.length->qZ X N' scope σ (σc σ))(hi:PI X tg iter wi)(B:∀fp m q,PG (iL X N' scope fp m q E1) tg g)(D:∀fp m q,pY (iL X N' scope fp m q E1) ifs tc)(F:∀fp m q,PE (iL X N' scope fp m q E1) elt te)(G:autoParam (∀x,hG iter X.env x=pure x) hY):PE X (.ListComp elt [⟨tg,iter,ifs,0⟩] scope pos) (BW wi g tc te σc):=λam s σ H Q I h=>xN fr o S v u hi B D (λfp m q=>(F fp m q).n 0) G am s σ H Q I (bG _) h
def Cx.Ok.pnx(ok:X.Ok)(pl:ce)(E:dC):Cx.Ok {X with pn:=pl,xe:=E}:=⟨ok.mod,ok.kind,ok.glob,ok.blt,ok.above,ok.inj,ok.has,ok.O4,ok.hd,ok.frames,ok.TF,ok.KU,ok.bs,ok.Cd,ok.vj,ok.uU,ok.kq,ok.HV⟩
noncomputable abbrev Cx.tr(X:Cx)(pn:ce)(E1:XK):Cx:={X with pn:=pn,xe:=λe s'=>∃σ H s,Inv {X with pn:=pn} [] σ H s/\oP X.prog X.w X.stack H s E1 e s'}
def Ua{E1:XK}:eu (oP X.prog X.w) (X.tr pn E1) E1:=by intro am σ H s e s' I h;refine⟨σ,H,s,?_,h⟩;have m:Inv (X.tr pn E1) [] σ H s:=I.zv λp n=>absurd n (by simp);exact⟨m.ok.pnx pn X.xe,m.os,m.bare,m.base,m.loc,m.cell,m.free,m.gT,m.pin,m.di,m.len⟩
noncomputable abbrev Cx.hn(X:Cx)(pn:ce)(a:Addr):Cx:={X with A:=X.A.mark (O (.ref a)),calm:=a7,pn:=pn,xe:=λ_ _=>False}
structure Hd(X:Cx)(a C:Addr):Prop where hd:X.A.handled=O (.ref a)pn:∃t tb,(a,qN C t tb)∈X.pn
def Inv.ahn(I:Inv X am σ H s)(E:dC):Inv {X with pn:=X.pn++am,xe:=E} [] σ H s:=⟨I.ok.pnx _ _,I.os,I.bare,I.base,I.loc,I.cell,I.free,I.gT,λp m=>I.pin p (by simpa using m),I.di,I.len⟩
def Inv.D7(ok:X.Ok)(I:Inv {X with pn:=X.pn++am,xe:=E} [] σ H s):Inv X am σ H s:=⟨ok,I.os,I.bare,I.base,I.loc,I.cell,I.free,I.gT,λp m=>I.pin p (by simpa using m),I.di,I.len⟩
def Inv.ahm(I:Inv {X with pn:=pn} [] σ H s)(n:s.heap.get? a=O oe)(hn:H a=af)(q:a≠X.env.locals)(u:a∉X.fs)(B:∀v,oe.data≠.cell v):Inv (X.hn ((a,oe)::pn) a) [] σ H s:=by
 refine⟨⟨I.ok.mod,I.ok.kind,I.ok.glob,I.ok.blt,I.ok.above,I.ok.inj,I.ok.has,I.ok.O4,λz=>(aK z).elim,I.ok.frames,I.ok.TF,I.ok.KU,I.ok.bs,I.ok.Cd,I.ok.vj,I.ok.uU,I.ok.kq,I.ok.HV⟩,I.os,I.bare,I.base,I.loc,I.cell,I.free,I.gT,λp D=>?_,I.di,I.len⟩;have m:p∈(a,oe)::pn:=by simpa using D
 rcases aJ.mp m with rfl|m;·exact⟨n,hn,q,u,B⟩
 ·exact I.pin p (by simpa using m)
def Inv.agK(ok:Cx.Ok {X with pn:=pn})(I:Inv (X.hn ((a,oe)::pn) a) [] σ H s):Inv {X with pn:=pn} [] σ H s:=⟨ok,I.os,I.bare,I.base,I.loc,I.cell,I.free,I.gT,λp m=>I.pin p (by
  have n:p∈pn:=by simpa using m
  simpa using Or.inr n),I.di,I.len⟩
def Inv.afq{n:Str}{v:Option Value}{m:b'}(I:Inv X am σ H s)(hN:X.N.Nodup)(hi:X.N[i]?=O n)(hl:X.env.kindOf n=O .local)(hn:s.heap.Ns X.env.locals m)(G:h'.Ns X.env.locals λx=>if x=n then v else m x)(B:ad2 X.env.locals s.heap h'):Inv X am (σ.set i af) H {s with heap:=h',toks:=tk}:=by
 obtain⟨m1,S,FH⟩:=id I.loc;have e1:m1=m:=by funext x;obtain⟨o,es,ep,ho,hd,_,hf⟩:=S;obtain⟨o',UQ,ep',JH,Cg,_,U⟩:=hn;rw[ho]at JH;cases JH;rw[hd]at Cg;cases Cg;rw[<-hf,<-U]
 subst e1;have W:∀{b:Addr}{o:Obj},X.s₀.heap.get? b=O o->b≠X.env.locals:=λq=>bu (bt (aN q) I.ok.above);refine⟨I.ok,I.os,I.bare,⟨λb o q n Y F=>(B.2 b (W q)).trans (I.base.keep b o q n Y F),λb o q n Y F=>?_,I.base.free,λb o q F=>?_,I.base.qK,I.base.pd,I.base.qI⟩,⟨_,G,λj y v' q1 D q3=>?_⟩,λy c q=>?_,I.free,I.gT,λp hp=>?_,I.di.keep λb u o q z=>?_,by simpa using I.len⟩;·obtain⟨sl,z⟩:=I.base.slot b o q n Y F;exact⟨sl,(B.2 b (W q)).trans z⟩
 ·obtain⟨o',z⟩:=I.base.there b o q F;exact⟨o',(B.2 b (W q)).trans z⟩
 ·by_cases hj:j=i
  ·subst hj;rw[List.getElem?_set]at D;split at D;·split at D<;>cases D
   ·exact absurd rfl (by assumption)
  ·rw[aG (bY hj)]at D;obtain⟨u,r,z⟩:=FH j y v' q1 D q3;refine⟨u,r,?_⟩;rcases z with ⟨k,z⟩|⟨k,c,Z,z2⟩;·have:y≠n:=λz=>hj (vi hN q1 (z▸hi));exact .inl ⟨k,by simp[this,z]⟩
   ·exact .inr ⟨k,c,Z,z2.sameBut B (I.P7 y c Z)⟩
 ·obtain⟨v',z⟩:=I.cell y c q;exact⟨v',z.sameBut B (I.P7 y c q)⟩
 ·obtain⟨Z,z2,z3,z4,z5⟩:=I.pin p hp;exact⟨(B.2 p.1 z3).trans Z,z2,z3,z4,z5⟩
 ·exact(B.2 b λy=>by rw[y,I.free]at q;cases q).trans z
structure Ws(K:Frag)(R:Addr):Prop where
 ty:typeIn K (.ref R)=O (.type "type")cl:(clsIn K R).isSome=J
 ba:subIn K (.ref R) (.type "BaseException")=O J
def xD{R:Addr}(X:K.In h)(q:(clsIn K R).isSome):Looks M h (isType (.ref R)) true:=by
 unfold clsIn at q;split at q;·rename_i u D m S n;intro v B F s' k z;unfold isType loadHead;exact aa (wpAny_loadPart (k _ _ (X _ _ n)) (au z))
 ·cases q
def Qx{Q:Bool->bv->Prop}{R:Addr}(X:K.In s.heap)(hR:Ws K R)(m:s.heap.get? a=O oe)(n:oe.cls=.ref C)(u:subIn K (.ref C) (.ref R)=O J)(q:Q J s):bb M A (excMatches (.ref a) (.ref R)) Q E s:=by obtain⟨h,g,d,tk,os⟩:=s;have v:Looks M h (typeOf (.ref R)) (.type "type"):=PySem.W.looks_typeIn X hR.ty;have L2:Looks M h (isSubtype (.ref R) (.type "BaseException")) true:=Jf X hR.ba;have B:Looks M h (isType (.ref R)) true:=xD X hR.cl;have D:Looks M h (isSubtype (.ref C) (.ref R)) true:=Jf X u;have F:Looks M h (typeOf (.ref a)) (.ref C):=n▸(Looks.ld m).andThen .now;have G:Looks M h (isInstance (.ref R) (.type "tuple")) false:=v.andThen (Looks.of_pure tc_notTuple);have I:Looks M h (isExcClass (.ref R)) true:=B.andThen L2;unfold excMatches;refine aa (G.at ?_);dsimp only;rw[bE (by ext)];refine aa (au ?_);refine aa ?_;rw[jm];refine aa (aa (I.at ?_));rw[bE (by ext)];refine au ?_;dsimp only;rw[nZ];refine au ?_;refine aa (F.at ?_);refine aa ?_;rw[jm];refine aa (aa (D.at ?_));rw[bx rfl];refine au ?_;dsimp only;exact au (au q)
structure sY(K:Frag)(C:Addr)(x b1:Str)(st:Stmt)(ps:List Str):Prop where ex:∃(f:Addr)(fd:dL),JX K x b1 st f fd/\Pu K C x f/\Binds K fd ps []
structure sX(K:Frag)(C:Addr)(b1:Str)(st:Stmt)(ps:List Str):Prop where ex:∃(f:Addr)(fd:dL),JX K "__init__" b1 st f fd/\Mk K C f/\Binds K fd ps []
structure wy(P:cf)(w:b7)(K:Frag)(mg:b')(base:Heap)(CX:xg)(k:Nat)(C:Addr)(x:Str)(ps:List Str)(sp:Sp):Prop where ex:∃(f:Addr)(fd:dL),je P w K mg base CX k f fd ps sp/\Pu K C x f/\Binds K fd ps []
structure sT(P:cf)(w:b7)(K:Frag)(mg:b')(base:Heap)(k:Nat)(x:Str)(C:Addr)(ps:List Str)(sp:Sp):Prop where ex:∃(f:Addr)(fd:dL),je P w K mg base CB k f fd ps sp/\Mk K C f/\Binds K fd ps []/\mg x=O (.ref C)
section
variable{b1:Str}{st:Stmt}
def sY.YJ(S:sY K C x b1 st ps)(F:dD N ps (aL st))(len:∀vs H Q E,sp vs H Q E->vs.length=ps.length)(m:∀(f:Addr)(dW:Value)(A:cr)(outer:List Env)(s:bv)(H:Hp)(vs:List V)(Q:VK)(E:XK),dQ k (A.deeper (envOfC b1 (aL st) s.heap.objs.size f dW))->sp vs H Q E->∃t,kH (oE (oP P w) P w K mg base N b1 (aL st) f dW A outer s H E) (cb st) t/\t {nx:=λ_ H'=>Q .non H',rt:=Q} (start N vs) H):wy P w K mg base (oP P w) (k+1) C x ps sp:=by obtain⟨f,B,n,q,u⟩:=S.ex;obtain⟨oc,D,kV,doc,G,I,dW,U,Z,rfl,lk,Y⟩:=n.ex;exact⟨f,_,FA lk Y F len λA outer s H vs Q E v W=>m f dW A outer s H vs Q E v W,q,u⟩
theorem sX.ok(S:sX K C b1 st ps)(m:mg x=O (.ref C))(F:dD N ps (aL st))(len:∀vs H Q E,sp vs H Q E->vs.length=ps.length)(n:∀(f:Addr)(dW:Value)(A:cr)(outer:List Env)(s:bv)(H:Hp)(vs:List V)(Q:VK)(E:XK),dQ k (A.deeper (envOfC b1 (aL st) s.heap.objs.size f dW))->sp vs H Q E->∃t,kH (oE CB P w K mg base N b1 (aL st) f dW A outer s H E).Vl (cb st) t/\t {nx:=λ_ H'=>Q .non H',rt:=Q} (start N vs) H):sT P w K mg base (k+1) x C ps sp:=by obtain⟨f,q,u,v,B⟩:=S.ex;exact⟨f,q,u.ok F len (n f),v,B,m⟩
theorem wy.mono(D:wy P w K mg base CX j C x ps sp)(h:j<=k):wy P w K mg base CX k C x ps sp:=by obtain⟨f,m,F,r⟩:=D.ex;exact⟨f,m,F.mono h,r⟩
theorem sT.mono(D:sT P w K mg base j x C ps sp)(h:j<=k):sT P w K mg base k x C ps sp:=by obtain⟨f,m,F,r⟩:=D.ex;exact⟨f,m,F.mono h,r⟩
end
section
variable{E:XK}{m:Str}{o:Expr}{ta:TE}{t:TA}
def IM{pl:Sem Bool}(D:wy X.prog X.w X.K X.mg X.base CX k C m ps sp)(n:PE X o ta)(c:ET X.K C)(q:dQ k X.A)(u:eu CX X E)(B:autoParam (eval (.Call (.Attribute o m b5) [] [] pos) X.env=do
   let v<-eval o X.env
   standAt b5.atName let(f,first)<-ft [v] (getMethod v m pl)callWith pos f first (db pos (ci [] X.env)) (backToKw pos (hB [] X.env))) o0):PE X (.Call (.Attribute o m b5) [] [] pos) (Od C m sp [] E ta BX):=by obtain⟨f,S,F,G,I⟩:=D.ex;exact MS (pl:=pl) n c G F q I .nil u B
def By(D:sT X.prog X.w X.K X.mg X.base k x C ps sp)(n:dQ (k+1) X.A)(q:Gl X x)(u:PA X (e::es) t)(I:autoParam ((x==("__debug__":Str))=a7) P3)(U:autoParam ((e::es).all cm=J) o0):PE X (.Call (.Name x p) (e::es) [] pos) (GU C sp [] E0 t):=by obtain⟨f,G,F,M,v,B⟩:=D.ex;rw[bh,aI]at U;exact Sj M F n q B v .nil Vt u I (c8 U.1) (fF U.2)
end
noncomputable def wO(e:Int×Value):Str:=strOf e.2
def oy(P:cf)(w:b7)(h:Heap)(a:Addr)(ws:List Str):Prop:=∃(o:Obj)(es:Array (Int×Value))(m:Nat)(t:SetTable),h.get? a=O o/\o.ExactSet/\o.data=.set es m t/\ElemsOf (ac7 P w) es.toList/\(es.toList.map wO).Perm ws/\ws.Nodup/\es.size<scanBound/\t.fits es.size=J/\(w.params.followText "set-order"=a7->t.led=J/\(es.size≠0->t.plain=a7))
noncomputable def lH(ws:List Str)(x:Str):List Str:=if x∈ws then ws else ws++[x]
def Jl(t:SetTable)(n:Nat):(t.orStandIn n).led=t.led:=by unfold SetTable.orStandIn;split<;>rfl
def DT(t:SetTable)(es:Array (Int×Value))(h:Int)(x:Value):(layNew t es h x).2.1.led=t.led:=by
 unfold layNew;split;·dsimp only;rw[Jl];rfl
 ·rfl
def EB{t t':SetTable}{m:Array Int}{n:Nat}{os:Array Nat}(h:t.relaid m n=O (t',os)):t'.led=t.led/\t'.plain=t.plain:=by unfold SetTable.relaid SetTable.laid at h;cases q:SetTable.layClean (SetTable.sizeAbove n-1) m with|none=>rw[q]at h;cases h|some u=>rw[q]at h;cases h;exact⟨rfl,rfl⟩
def Jd(t:SetTable)(es:Array (Int×Value))(n:Nat):(relayAll t es n).2.1.led=t.led/\(t.plain=a7->(relayAll t es n).2.1.plain=a7):=by
 unfold relayAll;split
 ·rename_i m os e;have:=EB e;dsimp only;split;·exact⟨this.1,λh=>this.2.trans h⟩
  ·exact⟨rfl,λ_=>rfl⟩
 ·exact⟨rfl,λ_=>rfl⟩
def Ye{es:List (Int×Value)}(F:ElemsOf (ac7 P w) es){e:Int×Value}(m:e∈es):∃t,e.2=.str (wO e) t:=by obtain⟨⟨k,n,_⟩,_⟩:=F e m;obtain⟨t,q⟩:=ya n;exact⟨t,by unfold wO;rw[q];rfl⟩
def xy{es:List (Int×Value)}(F:ElemsOf (ac7 P w) es)(x:Str):(∃e∈es,(ac7 P w).is x e.2=J)↔x∈es.map wO:=by
 constructor;·rintro⟨e,m,q⟩;obtain⟨t,n⟩:=ya q;refine bL.mpr ⟨e,m,?_⟩;unfold wO;rw[n];rfl
 ·intro h;obtain⟨e,m,rfl⟩:=bL.mp h;obtain⟨t,n⟩:=Ye F m;exact⟨e,m,by rw[n];exact kE P w _ t⟩
def stored{es m:Array (Int×Value)}{n:Nat}{t t1:SetTable}(B:s.heap.get? a=O o)(hex:o.ExactSet)(u:o.data=.set es n t)(F:ElemsOf (ac7 P w) m.toList)(D:(m.toList.map wO).Perm ws)(G:ws.Nodup)(I:m.size<scanBound)(S:t1.fits m.size)(U:w.params.followText "set-order"=a7->t1.led/\(m.size≠0->t1.plain=a7)):(s.heap.update a (ag4 m t1)).get? a=O {o with data:=.set m (n+1) t1}/\oy P w (s.heap.update a (ag4 m t1)) a ws:=by
 have v:(s.heap.update a (ag4 m t1)).get? a=O {o with data:=.set m (n+1) t1}:=by have q:=cI (ag4 m t1) B (by rw[putSet_of m t1 u];rfl);rw[putSet_of m t1 u]at q;exact q
 exact⟨v,_,m,n+1,t1,v,hex,rfl,F,D,G,I,S,U⟩
def J2{tk:Tok}{Q:Bool->bv->Prop}(hS:oy P w s.heap a ws)(ait:ws.length+1<scanBound)(h:∀(b:Bool)(h':Heap),ad2 a s.heap h'->oy P w h' a (lH ws x)->Q b {s with heap:=h'}):bb (bn P w) A (setAddHashed a (.str x tk) ((ac7 P w).hash x)) Q E s:=by
 obtain⟨o,es,ep,t,D,hex,G,F,I,nd,hb,hf,XA⟩:=hS;have Ih:=kE P w x tk;have hlen:es.size=ws.length:=by rw[<-I.length_eq,ak,bJ]
 unfold setAddHashed setAddHashedIn;refine cG (aa (wpAny_setState_of D G hf ?_));dsimp only;rw[byScan_of (x:=.str x tk) rfl hb F];simp only[↓reduceIte];unfold setAddByScan;refine aa (aa (iq (aa (wpAny_setScan_of Ih D G hf F ?_))));cases hr:List.findIdx? (λe=>(ac7 P w).is x e.2) es.toList with|some j=>dsimp only;obtain⟨hj,hpj,_⟩:=List.findIdx?_eq_some_iff_getElem.mp hr;have B:x∈ws:=I.mem_iff.mp ((xy F x).mp ⟨_,iB hj,hpj⟩);refine au (au ?_);have q:=h a7 s.heap (Heap.SameBut.refl a s.heap) ⟨o,es,ep,t,D,hex,G,F,by unfold lH;rw[bx B];exact I,by unfold lH;rw[bx B];exact nd,hb,hf,XA⟩;exact q|none=>
  dsimp only;have B:x∉ws:=λB=>by obtain⟨e,he,hp⟩:=(xy F x).mpr (I.mem_iff.mpr B);have:=List.findIdx?_eq_none_iff.mp hr e he;rw[hp]at this;cases this
  have ei:lH ws x=ws++[x]:=by unfold lH;rw[bE B]
  rw[ei]at h;have S:(ws++[x]).Nodup:=fk.mpr ⟨nd,by simp,λy hy z hz=>by rw[aQ]at hz;subst hz;exact λe=>B (e▸hy)⟩;have n:=layNew_perm t es ((ac7 P w).hash x) (.str x tk);have Ic:=layNew_fits t es ((ac7 P w).hash x) (.str x tk);have FH:=DT t es ((ac7 P w).hash x) (.str x tk);generalize layNew t es ((ac7 P w).hash x) (.str x tk)=L at n Ic FH⊢;obtain⟨m,t1,OL,akq⟩:=L;dsimp only at n Ic FH⊢;rw[Array.toList_push]at n;have U:ElemsOf (ac7 P w) m.toList:=(F.push Ih rfl).perm n;have DI:(m.toList.map wO).Perm (ws++[x]):=(n.map wO).trans (by rw[aV];exact I.append (List.Perm.refl _));have ald:m.size=ws.length+1:=by rw[<-bJ,<-ak (f:=wO),DI.length_eq,ae];rfl
  have Xr:m.size<scanBound:=by lia
  have gw:∀(b:Bool){s₁:bv}{Q':Unit->bv->Prop},Q' () s₁->bb (bn P w) A (match b with|true=>rule "set.scan.the-table-gave-way"|false=>pure ()) Q' E s₁:=λb s₁ Q' hq=>by
   cases b;·exact au hq
   ·exact iq hq
  refine aa (gw _ ?_);have tail:∀t2:SetTable,t2.fits m.size=J->t2.led=t.led->t2.plain=a7->bb (bn P w) A (do storeSet a m t2 if(!OL&&t2.tooFull)=J then do(match(relayAll t2 m (ad9 m.size)).2.2 with|true=>rule "set.scan.the-table-gave-way"|false=>pure ())storeSet a (relayAll t2 m (ad9 m.size)).1 (relayAll t2 m (ad9 m.size)).2.1pure (O J)else pure (O J)) (λr s'=>∃h',r=O J/\s'={s with heap:=h'}/\ad2 a s.heap h'/\oy P w h' a (ws++[x])) E s:=by
   intro t2 hf2 W Y;refine aa (wpAny_storeSet_of D G ?_ (fits_of_scanBound Xr));obtain⟨Z,hS1⟩:=stored (P:=P) (w:=w) D hex G U DI S Xr hf2 λz=>⟨W.trans (XA z).1,λ_=>Y⟩;have ZO:=fH s.heap a (ag4 m t2);split
   ·have u:=relayAll_perm t2 m (ad9 m.size);have pj:=relayAll_fits t2 m (ad9 m.size);have v:=Jd t2 m (ad9 m.size);generalize relayAll t2 m (ad9 m.size)=R at u pj v⊢;obtain⟨es2,t3,ah1⟩:=R;dsimp only at u pj v⊢;have Ae:es2.size=m.size:=by rw[<-bJ,u.length_eq,bJ]
    have hb2:es2.size<scanBound:=by lia
    refine aa (gw _ ?_);refine aa (wpAny_storeSet_of Z rfl ?_ (fits_of_scanBound hb2));obtain⟨_,hS2⟩:=stored (P:=P) (w:=w) (s:={s with heap:=s.heap.update a (ag4 m t2)}) Z hex rfl (U.perm u) ((u.map wO).trans DI) S hb2 pj λz=>⟨v.1.trans (W.trans (XA z).1),λ_=>v.2 Y⟩;exact au ⟨_,rfl,rfl,ZO.trans (fH _ a _),hS2⟩
   ·exact au ⟨_,rfl,rfl,ZO,hS1⟩
  have fin:∀(r:Option Bool)(s':bv),(∃h',r=O J/\s'={s with heap:=h'}/\ad2 a s.heap h'/\oy P w h' a (ws++[x]))->∃h',r=O J/\s'={s with heap:=h'}/\Q J {s with heap:=h'}:=λr s' ⟨h',e1,e2,e3,e4⟩=>⟨h',e1,e2,h J h' e3 e4⟩;split;·refine aa ?_;rw[hashByValue_scannable 8 (x:=.str x tk) rfl];refine au (dB (tail {t1 with plain:=a7} (SetTable.fits_plain_off Ic) FH rfl) (λr s' z=>?_) λ_ _ e=>e);obtain⟨h',rfl,rfl,q⟩:=fin r s' z;exact au q
  ·rename_i dU;refine aa (au ?_);refine dB (tail t1 Ic FH (bw.mpr dU)) (λr s' z=>?_) λ_ _ e=>e;obtain⟨h',rfl,rfl,q⟩:=fin r s' z;exact au q
def dR(l:List Str):List Str:=l.foldl lH []
def DC(l:List Str)(x:Str):dR (l++[x])=lH (dR l) x:=by unfold dR;rw[List.foldl_append];rfl
def DL(h:ws.Nodup)(x:Str):(lH ws x).Nodup:=by
 unfold lH;split;·exact h
 ·rename_i n;exact fk.mpr ⟨h,by simp,λy q z m=>by rw[aQ]at m;subst m;exact λe=>n (e▸q)⟩
def Le:y∈lH ws x↔y∈ws\/y=x:=by
 unfold lH;split;·rename_i m;exact⟨.inl,λh=>h.elim id λe=>e▸m⟩
 ·rw[bf,aQ]
def sr(l:List Str):(dR l).Nodup/\∀y,y∈dR l↔y∈l:=by
 suffices h:∀(l:List Str)(ws:List Str),ws.Nodup->(l.foldl lH ws).Nodup/\∀y,y∈l.foldl lH ws↔y∈ws\/y∈l by obtain⟨a,b⟩:=h l [] ig;exact⟨a,λy=>(b y).trans (by simp)⟩
 intro l;induction l with|nil=>intro ws h;exact⟨h,λy=>by simp⟩|cons x r I=>intro ws h;obtain⟨a,b⟩:=I (lH ws x) (DL h x);exact⟨a,λy=>(b y).trans (by rw[Le,aJ,or_assoc])⟩
def oy.at(H:oy P w h a ws)(k:∀o,h.get? a=O o->h'.get? a=O o):oy P w h' a ws:=by obtain⟨o,es,m,t,n,r⟩:=H;exact⟨o,es,m,t,k o n,r⟩
def HQ{I S l:Addr}{xs:List Str}(W:Walks P w A.in1 I [I,l] [I] its.size (λi v=>its[i]?=O v) λi h=>h.IsListIter I l i/\h.IsList l its)(m:S≠I)(D:S≠l)(hx:∀(i:Nat)(v:Value),its[i]?=O v->∃x t,xs[i]?=O x/\v=.str x t)(hn:xs.length=its.size)(hb:∀i,(dR (xs.take i)).length+1<scanBound):∀(k i:Nat)(s:bv),its.size-i=k->i<=its.size->s.heap.IsListIter I l i/\s.heap.IsList l its->oy P w s.heap S (dR (xs.take i))->(∀(h':Heap)(tk:Nat),(∀b o,b≠S->b≠I->s.heap.get? b=O o->h'.get? b=O o)->oy P w h' S (dR xs)->R (.ok (.ret .none)) {s with heap:=h',toks:=tk})->eH (bn P w) A (.builtin "set.update.loop" ⟨[.ref S,.ref I],[]⟩) R s:=by
 intro k;induction k with|zero=>
  intro i s hk hi st F q;obtain rfl:i=its.size:=by lia
  refine gv n_ ?_;rw[hW qP _];show bb _ A.in1 (pyNext (.ref I)>>=_) _ _ s;refine aa (W.done s _ _ st λh' tk n=>?_);show bb _ A.in1 (ret ab1) _ _ _;have e:dR (xs.take its.size)=dR xs:=by rw[<-hn,dN]
  exact au (q h' tk (λb o _ G g=>n b o (by simp[G]) g) (e▸F.at λo g=>n S o (by simp[m]) g))|succ k ih=>
  intro i s hk hi st F q;have mz:i<its.size:=by lia
  refine gv n_ ?_;rw[hW qP _];show bb _ A.in1 (pyNext (.ref I)>>=_) _ _ s;refine aa (W.item i s _ _ mz st λv h' tk hv EF n=>?_);obtain⟨x,t,U,rfl⟩:=hx i v hv;have Y:oy P w h' S (dR (xs.take i)):=F.at λo g=>n S o (by simp[m]) g;show bb _ A.in1 (ft [ah2 x t] (setAdd S (.str x t))>>=_) _ _ _;refine aa (cG ?_);unfold setAdd;refine cG (aa ((ac7 P w).pyHash (k:=x) (kE _ _ _ _) ?_));refine J2 (s:={s with heap:=h',toks:=tk+1}) Y (hb i) λb h2 sb Z=>?_;have e:dR (xs.take (i+1))=lH (dR (xs.take i)) x:=by rw[List.take_add_one,U];exact DC _ _
  refine au ⟨Ab qP _,ih (i+1) _ (by lia) mz (W.frame _ _ _ EF λc hc o g=>?_) (e▸Z) λh3 tk3 kp3 hS3=>?_⟩
  ·rw[sb.2 c (by
    simp only[aJ,qT,or_false]at hc;rcases hc with rfl|rfl;·exact bY m
    ·exact bY D)];exact g
  ·refine q h3 tk3 (λc o u B g=>kp3 c o u B ?_) hS3;show h2.get? c=O o;rw[sb.2 c u];exact n c o (by simp[B]) g
def RO(a:Value){Q₁:dC}(h:Q₁ (.ref s.heap.objs.size) {s with heap:=s.heap.push {cls:=.type "set",dict:=af,data:=.set #[] 0 (.fresh 0 0 !w.params.followText "set-order")}}):eH (bn P w) A (.call (.builtin "set.__new__") ⟨[.type "set",a],[]⟩) (wants Q₁ E) s:=by refine codeAny_of_tree ?_;show bb _ A.in1 (do checkBuiltinCall "set.__new__" ⟨[.type "set",a],[]⟩;again (.builtin "set.__new__" ⟨[.type "set",a],[]⟩)) _ _ s;refine aa (JA (F.newCall_set_1 a) (au ⟨Ab F.plain_set_new _,gv F.entry_set_new ?_⟩));rw[hW F.plain_set_new _];unfold Builtin.«set.__new__» Builtin.Frozenset.newClass;have q:=sub_set_self;obtain⟨m,g,d,tk,os⟩:=s;dsimp only;wp_walk;refine wpAny_askSetting (au ?_);dsimp only;simp only[newObj];refine aa (wpAny_alloc (au ?_));exact au h
def NY{x:Value}{Q:dC}(G:bb (bn P w) A.in1.in1 (Builtin.«set.__init__» ⟨[.ref s.heap.objs.size,x],[]⟩) (λfin s'=>match fin with|.done f=>wants (λr S=>r=.none/\Q (.ref s.heap.objs.size) S) E (.ok f) s'|.again I=>I.quiet=J/\eH (bn P w) A.in1 I (wants (λr S=>r=.none/\Q (.ref s.heap.objs.size) S) E) s') (λe s'=>wants (λr S=>r=.none/\Q (.ref s.heap.objs.size) S) E (.error e) s') {s with heap:=s.heap.push {cls:=.type "set",dict:=af,data:=.set #[] 0 (.fresh 0 0 !w.params.followText "set-order")}}):bb (bn P w) A (call (.type "set") [x]) Q E s:=by
 have q:=F.called_set;obtain⟨c,tl,U⟩:=q.mro;have W:=q.made;have QY:=q.sub;have h1:=q.notType;have h2:=q.canCreate;have Y:=F.typeCall_set_1 x;refine sS (codeAny_of_tree (show bb _ _ (callAny (.type "set") _) _ _ _ from au ⟨Code.quiet_builtin _ (by ext),gv F.entry_type_call ?_⟩));rw[Around.under_plain (weight_type_call_type "set" [x] []) rfl];repeat(any_goals(first|assumption|wp_step))
 refine jY (RO (P:=P) (w:=w) x (E:=E) (Q₁:=λB v=>B=.ref s.heap.objs.size/\v={s with heap:=s.heap.push {cls:=.type "set",dict:=af,data:=.set #[] 0 (.fresh 0 0 !w.params.followText "set-order")}}) ⟨rfl,rfl⟩) λr v m=>?_;match r,m with
 |.error e,m=>exact m|.ok (.ret B),m=>
  obtain⟨rfl,rfl⟩:=m;have Z:Shared.TypeIs {s with heap:=s.heap.push {cls:=.type "set",dict:=af,data:=.set #[] 0 (.fresh 0 0 !w.params.followText "set-order")}} (.ref s.heap.objs.size) "set":=⟨_,aU _ rfl,rfl⟩;have hli:=q.init.lookup;have hbi:=q.init.bind (.ref s.heap.objs.size);repeat(any_goals(first|assumption|wp_step))
  refine jY (Qa q.init.plain F.entry_set_init (check_set_init_1 Z G)) λD S n=>?_;match D,n with|.error e,n=>exact n|.ok (.ret u),n=>obtain⟨rfl,hq⟩:=n;repeat(any_goals(first|assumption|wp_step))|.ok .next,n=>exact n.elim|.ok .brk,n=>exact n.elim|.ok .cont,n=>exact n.elim
 |.ok .next,m=>exact m.elim|.ok .brk,m=>exact m.elim|.ok .cont,m=>exact m.elim
def zI{l:Addr}{xs:List Str}{Q:dC}(hh:A.handled=af)(hl:s.heap.IsList l its)(hx:∀(i:Nat)(v:Value),its[i]?=O v->∃x t,xs[i]?=O x/\v=.str x t)(hn:xs.length=its.size)(hb:∀i,(dR (xs.take i)).length+1<scanBound)(h:∀(h':Heap)(tk:Nat),oy P w h' s.heap.objs.size (dR xs)->(∀b o,s.heap.get? b=O o->h'.get? b=O o)->Q (.ref s.heap.objs.size) {s with heap:=h',toks:=tk}):bb (bn P w) A (call (.type "set") [.ref l]) Q E s:=by
 refine NY ?_;generalize u:({cls:=.type "set",dict:=af,data:=.set #[] 0 (.fresh 0 0 !w.params.followText "set-order")}:Obj)=o;have hS:(s.heap.push o).get? s.heap.objs.size=O o:=aU _ (by rw[<-u];rfl);have B:oy P w (s.heap.push o) s.heap.objs.size (dR (xs.take 0)):=by
  refine⟨o,#[],0,.fresh 0 0 !w.params.followText "set-order",hS,by rw[<-u];exact⟨rfl,rfl,rfl⟩,by rw[<-u],λe he=>by simp at he,?_,?_,by ext,by rfl,λz=>⟨?_,λy=>absurd rfl y⟩⟩;·exact List.Perm.refl _
  ·exact ig
  ·show(!w.params.followText "set-order")=J;rw[z];rfl
 obtain⟨ol,q,m,nl,n⟩:=hl;have U:=aj o q;have Y:(s.heap.push o).IsList l its:=⟨_,U,m,nl,n⟩;have S:l<s.heap.objs.size:=aN q;have D:(s.heap.push o).objs.size=s.heap.objs.size+1:=size_push' _ _;obtain⟨oc,od,odt,tD⟩:=ol;simp only at m n;subst m;subst n;have e1:=F.sub_list_set;have e2:=F.sub_list_frozenset;have e3:(af3 "list"==af3 "dict")=false:=by ext
 have n1:l≠(s.heap.push o).objs.size:=by rw[D];exact bu (pL S)
 have n2:s.heap.objs.size≠(s.heap.push o).objs.size:=by rw[D];exact bu (eG _)
 subst u;unfold Builtin.«set.__init__» noKeywords Builtin.Frozenset.updateFrom;generalize I:pyIter=PI;wp_walk;subst I;refine pN Y ?_;refine aa (wpAny_runValue ?_);have G:A.in1.in1.in1.handled=none:=by simp[hh]
 refine HQ (P:=P) (w:=w) (A:=A.in1.in1) (xs:=xs) (Walks.list G _ l n1 its) n2 (iD S) hx hn hb (its.size-0) 0 _ (by lia) (bG _) ⟨⟨_,aU _ rfl,rfl,rfl⟩,Y.push _⟩ (B.at λZ g=>aj _ g) λh' tk kp W=>?_;show bb _ _ _ _ _ _;refine au ?_;show bb _ _ (ret ab1) _ _ _;refine au ⟨rfl,h h' tk W λc Z g=>?_⟩;have gc:=aN g;exact kp c Z (bu gc) (by rw[D];exact bu (pL gc)) (aj _ (aj _ g))
theorem xY:∀{ws:List Str}{us:List Value},Vals (ws.map V.str) us->StrsAre us ws|[],us,h=>by cases h;exact .nil|x::r,us,h=>by cases h with|cons a b=>obtain⟨t,rfl⟩:=a;exact .cons x t (xY b)
theorem uY:∀(l ws:List Str),ws.length<=(l.foldl lH ws).length
 |[],ws=>aB _|x::r,ws=>by
  refine aH ?_ (uY r (lH ws x));unfold lH;split;·exact aB _
  ·rw[ae];exact dq _ _
def DD(ws:List Str)(i:Nat):(dR (ws.take i)).length<=(dR ws).length:=by
 have e:dR ws=(ws.drop i).foldl lH (dR (ws.take i)):=by unfold dR;rw[<-List.foldl_append,uq]
 rw[e];exact uY _ _
def uC(F:X.calm):dJ X (.type "set") λxs H Q=>∃(l:Addr)(ws:List Str),xs=[.ref l]/\gN X.K H l (ws.map V.str)/\(dR ws).length<64/\∀a,H a=af->Q (.ref a) (cQ H a (.ext λh=>oy X.prog X.w h a (dR ws))):=by
 intro am s σ H xs us Q I r h;obtain⟨l,ws,rfl,G,S,q⟩:=h;obtain⟨u,rfl,U⟩:=r.one;cases U;obtain⟨its,D,W,hz⟩:=I.list G;have Y:=xY D;have Z:(64:Nat)<scanBound:=by ext
 have n:ws.length=its.toArray.size:=by rw[aD,<-D.length,ak]
 refine zI (xs:=ws) (I.ok.hd F) W.isList (λi v m=>?_) n λi=>by have:=DD ws i;lia λh' tk B kp=>?_
 ·rw[kB]at m;have hi:i<ws.length:=by rw[n,aD];exact(ai.mp m).1
  obtain⟨t,ht⟩:=Y.at (aE hi);rw[ht]at m;exact⟨_,t,aE hi,by injection m with m;exact m.symm⟩
 ·refine⟨.ref s.heap.objs.size,_,I.laid (t':=tk) kp (aB _) (show eB X.prog X.w _ h' _ (.ext λh=>oy X.prog X.w h s.heap.objs.size (dR ws))from⟨B,let ⟨o,_,_,_,ho,_⟩:=B;⟨o,ho⟩,λh1 h2 z k=>z.at k⟩),rfl,q _ I.fresh⟩
end L2
namespace L2
open PySem.SeqAt
section
variable{X:Cx}{am:ce}{σ:tSt}{H:Hp}{s:bv}
end
end L2
namespace L2
def agY(K:Frag)(a:Addr)(t:Str->Option (List Str)):R2:=λx y H Q=>x=.ref a/\∃k s,y=.str k/\t k=O s/\∀b,eL K H b (s.map V.str)->Q (.ref b) H
def X9{X:Cx}{a:Addr}{c:Str->Option (List Str)}(T:CI X.w X.K a c):CF X (agY X.K a c):=by intro e slice p s σ H x y v u Q I r R h f;obtain⟨rfl,k,n,rfl,g,q⟩:=h;cases r;obtain⟨t,rfl⟩:=R;obtain⟨E,m,lk,d,look⟩:=T.ex;have hm:=jq (prog:=X.prog) (w:=X.w) I.l9 lk d;have l:=look k;rw[g]at l;obtain⟨b,F,o,i,M,l1,l2,L,l4,j⟩:=l;exact fZ hm.typeIs iJ.lookup (qY (knd:=strKind X.prog X.w) (kE X.prog X.w k t) hm F ⟨rfl,⟨.ref b,H,I.tok _,rfl,q b (.inr ⟨o,i,M,l1,l2,L,l4,j⟩)⟩⟩) f
open PySem.AutoSeq1 in def AY(l:Addr)(a8:Array Value)(n:Nat)(b:Addr)(u:Array Value)(N:Nat)(od:Option Addr)(t:Array (Option Value))(e:¬(!a8.isEmpty&&ad3 (a8.size+u.size))=J)(H:a8.size<=sizeLine)(X:a8.size+u.size<=sizeLine+1):Meets (Builtin.«list.extend» ⟨[.ref l,.ref b],[]⟩) λ_ R s=>s.heap.get? l=O {cls:=.type "list",data:=.seq a8 n}/\s.heap.get? b=O ⟨.type "tuple",od,.seq u N,t⟩/\R (.ok (.ret ab1)) {s with heap:=s.heap.update l (ah3 λx=>x++u),toks:=s.toks}:=.of_wp λp w A R s h=>by
  obtain⟨i,g,d,T,os⟩:=s;obtain⟨c,f,h⟩:=h;have F:=idx_int;have j:=PySem.AutoSeq1.sub_tuple_tuple;have k:=PySem.AutoSeq1.sub_list_list;have m:=PySem.AutoSeq1.sub_tuple_list;have o:=PySem.AutoSeq1.sub_list_tuple;have a:(a8++u).size<=sizeLine+1:=by rw[Array.size_append];exact X
  wp_walk using wpAny_updateSeq c rfl (hz:=H) (_hz':=a),wpAny_loadPart' c,wpAny_loadPart' f;exact⟨_,rfl,h⟩
end L2
namespace L2
open PySem.SeqAt PySem.MeetsSeq PySem.Builtin PySem.Builtin.Tuple
variable{X:Cx}
theorem vR:∀{ys:List Str}{us:List Value},Vals (ys.map V.str) us->PyProof.Rows.StrsAre us ys|[],_,.nil=>.nil|y::ys,_,.cons r R=>by obtain⟨t,rfl⟩:=r;exact .cons y t (vR R)
def RI:Ca X "str.join" (λx xs H Q=>∃(z:Str)(l:Addr)(ys:List Str),x=.str z/\xs=[.ref l]/\H l=O (.lst (ys.map V.str))/\(ys.map (·.length)).sum+ys.length*z.length<=16777216/\Q (.str (ah5 z ys)) H):=by intro p s σ H x xs v U Q I R r h;obtain⟨z,l,ys,rfl,rfl,a,d,q⟩:=h;obtain⟨t,rfl⟩:=R;obtain⟨u,rfl,b⟩:=r.one;cases b;obtain⟨i,c,P,_⟩:=I.list (gN.of (K:=X.K) a);exact PyProof.Rows.join_list P.isList (vR c) d λT k=>⟨.str _,H,I.tok k,⟨_,rfl⟩,q⟩
def yy:dJ X (.type "str") λxs H Q=>∃z,xs=[.str z]/\Q (.str z) H:=by intro p s σ H xs U Q I r h;obtain⟨z,rfl,q⟩:=h;obtain⟨u,rfl,t,rfl⟩:=pM r;exact PySem.P.str_of_str ⟨.str _,H,I,⟨_,rfl⟩,q⟩
def yu:dJ X (.type "str") λxs H Q=>(∃z,xs=[.str z]/\Q (.str z) H)\/∃i,xs=[.int i]/\i.natAbs.log2<1920/\Q (.str (toString i)) H:=by
 intro p s σ H xs u Q I r h;rcases h with h|h;·exact yy p s σ H xs u Q I r h
 ·exact yw p s σ H xs u Q I r h
def vV(l:Addr)(x:Value):Builtin.«tuple.index» ⟨[.ref l,x],[]⟩=(do
  let xs<-tupleItemsOf (.ref l)for i in[0:min xs.size xs.size]do if let O y:=xs[i]? then if<-eqBool y x then return<-retInt i
  rule "tuple.index.not-found"raiseError"ValueError""tuple.index(x): x not in tuple"):=by unfold Builtin.«tuple.index»;rfl
def B0(l:Addr)(a8:Array Value)(n:Nat)(dd:Option Addr)(sl:Array (Option Value))(x:Value)(e:Value->Bool)(f:∀y,y∈a8->MeetsSeq.EqGives y x (e y))(j:Nat)(u:j<a8.size)(t:e a8[j])(B:∀m(v:m<a8.size),m<j->e a8[m]=a7):Meets (Builtin.«tuple.index» ⟨[.ref l,x],[]⟩) λ_ R s=>s.heap.get? l=O {cls:=.type "tuple",dict:=dd,data:=.seq a8 n,slots:=sl}/\R (.ok (.ret (.int j s.toks))) {s with toks:=s.toks+1}:=by
 intro p w A R s h;obtain⟨g,h⟩:=h;rw[vV];refine aa (wpAny_tupleItemsOf g rfl ?_);refine aa ?_;rw[Std.Legacy.Range.forIn_eq_forIn_range'];refine wpAny_forIn_list _ (λr b S=>S=s/\b.1=af/\∃i,r=List.range' i (a8.size-i)/\i<=j) _ ?_ ?_ _ _ ⟨rfl,rfl,0,by simp[Std.Legacy.Range.size],bG _⟩
 ·rintro a r b S ⟨rfl,k,i,H,d⟩;have M:i<a8.size:=by lia
  rw[show a8.size-i=a8.size-(i+1)+1 by lia,List.range'_succ]at H;injection H with o q;subst o;rw[Array.getElem?_eq_getElem M];refine aa (f _ (Array.getElem_mem M) p w _ _ _ _ ?_);by_cases c:a=j;·subst c;rw[t];refine aa ?_;unfold retInt;wp_walk;exact h
  ·rw[B a M (by lia)];exact au ⟨rfl,rfl,a+1,q,by lia⟩
 ·rintro b S ⟨rfl,k,i,H,d⟩;exfalso;have:=bU ag0 H;simp at this;lia
noncomputable def pu(z:Str):Value->Bool|.str y _=>y==z|_=>a7
def IB:Ca X "tuple.index" λx xs H Q=>∃(l:Addr)(ys:List Str)(z:Str)(j:Nat),x=.ref l/\xs=[.str z]/\eL X.K H l (ys.map V.str)/\ys[j]?=O z/\(∀m,m<j->ys[m]?≠O z)/\Q (.int (j:Nat)) H:=by
 intro p s σ H x xs v Z Q I G r h;obtain⟨l,ys,z,j,rfl,rfl,L,w,M,q⟩:=h;cases G;obtain⟨u,rfl,t,rfl⟩:=pM r;obtain⟨i,R,P,_⟩:=I.tuple L;obtain⟨⟨cls,N,data,sl⟩,B,C,n,D⟩:=P;simp only at C D;subst C D;have A:∀(ys:List Str)(i:List Value),Vals (ys.map V.str) i->∀(m:Nat)(y:Value),i[m]?=O y->∃Y t',ys[m]?=O Y/\y=.str Y t':=by intro ys;induction ys with|nil=>intro i r m y d;cases r;simp at d|cons a as S=>intro i r m y d;cases r with|cons T W=>cases m with|zero=>obtain⟨t',e⟩:=T;simp at d;exact⟨a,t',rfl,by rw[<-d];exact e⟩|succ m=>exact S _ W m y (by simpa using d)
 obtain⟨U,_⟩:=ai.mp w;have b:i.length=ys.length:=by have:=R.length;simpa using this.symm
 refine eO We ⟨_,B,rfl⟩ PySem.F.entry_tuple_index (PySem.F.args_tuple_index_2 _ _) (B0 l i.toArray n N sl (.str z t) (pu z) (λy d=>?_) j (by simpa[b]using U) ?_ λm f g=>?_) ⟨B,⟨.int _,H,I.tok _,⟨_,rfl⟩,q⟩⟩;·obtain⟨m,f,rfl⟩:=QU.mp (by simpa using d:y∈i);obtain⟨Y,t',_,e⟩:=A ys i R m _ (aE f);rw[e];exact PyProof.Rows.eqGives_str Y z t' t
 ·obtain⟨Y,t',E,k⟩:=A ys i R j _ (aE (by rw[b];exact U));rw[w]at E;injection E with E;subst E;show pu z i[j]=J;rw[k];show(z==z)=J;exact eI z
 ·have o:m<i.length:=by simpa using f
  obtain⟨Y,t',E,k⟩:=A ys i R m _ (aE o);show pu z i[m]=a7;rw[k];show(Y==z)=a7;exact cu.mpr λc=>M m g (by rw[E,c])
end L2
namespace L2
variable{P:cf}{w:b7}{κ:Type}{A:cr}{X:Cx}{E:dC}{s:bv}{l:Addr}{its:Array Value}
def VI(K:Frag):V->Option Int->Option Int->Hp->VK->Prop:=λx lo i H Q=>∃a b,x=.ref a/\eL K H a b/\∀p h,jh H h->eL K h p (mR b lo i)->Q (.ref p) h
def GJ:Hj X (VI X.K):=by
 intro c s σ H x v j k lo i sl Q I R f g u h;obtain⟨a,b,rfl,d,q⟩:=h;by_cases e:HT.fT b.length 0 lo=0/\HT.fT b.length b.length i=b.length
 ·cases R;obtain⟨its,r,t,z⟩:=I.tuple d;have n:its.toArray.size=b.length:=by rw[aD];exact r.length.symm
  refine⟨"tuple",_,bP.lookup,t.typeIs,?_⟩;exact tj t f g u (by rw[n];exact e) ⟨.ref a,H,I,rfl,q a H (jh.refl H) (by rw[Dh e];exact d)⟩
 ·exact ZQ c s σ H (.ref a) v j k lo i sl Q I R f g u ⟨a,b,rfl,d,e,λp m=>q p _ (gK m _) (eL.of bF)⟩
def Nx(K:Frag):R2:=λx y H Q=>∃a b c Y,x=.ref a/\y=.ref b/\eL K H a c/\eL K H b Y/\c.length+Y.length<=sizeLine/\∀p h,jh H h->eL K h p (c++Y)->Q (.ref p) h
def MI:jQ X (binaryOp .Add) (Nx X.K):=by
 intro c s σ H x y v u Q I r R h;obtain⟨a,b,g,Y,rfl,rfl,d,f,z,q⟩:=h;by_cases i:g=[];·cases r;cases R;subst i;obtain⟨its,B,C,_⟩:=I.tuple d;obtain⟨F,U,G,_⟩:=I.tuple f;obtain⟨⟨cls,L,data,sl⟩,o,j,n,k⟩:=id C;obtain⟨⟨M,D,data2,S⟩,m,t,N,cp⟩:=id G;simp only at j k t cp;subst j k t cp;obtain rfl:=B.zero;exact F' ⟨_,o,rfl⟩ ⟨_,m,rfl⟩ Hf Wh sO qV (pU _ _) (tuple_addW0 a b #[] F.toArray n N L D sl S rfl) ⟨o,m,⟨.ref b,H,I.tok _,rfl,q b H (jh.refl H) f⟩⟩
 ·exact R5 c s σ H (.ref a) (.ref b) v u Q I r R ⟨a,b,g,Y,rfl,rfl,d,f,i,z,λe=>q a H (jh.refl H) (by rw[e,aM];exact d),λ_ p T=>q p _ (gK T _) (eL.of bF)⟩
def Ts:Hj X λx lo c H Q=>∃z:Str,x=.str z/\z.length<=sizeLine/\Q (.str (Txt.slice z lo c)) H:=by intro p s σ H x v g m lo c sl Q I r a f d h;obtain⟨z,rfl,b,q⟩:=h;obtain⟨t,rfl⟩:=r;refine⟨"str",_,F.slot_str_getitem.lookup,oj _ _ _,?_⟩;cases f with
 |none=>cases d with|none=>exact jE (l:=af) (u:=af) (st:=af) a rfl (tL ⟨aH (Cy z af af) b,λT k=>⟨.str _,H,I.tok k,⟨T,rfl⟩,q⟩⟩)|int j u=>exact jE (l:=af) (u:=O (j,u)) (st:=af) a rfl (tL ⟨aH (Cy z af (O j)) b,λT k=>⟨.str _,H,I.tok k,⟨T,rfl⟩,q⟩⟩)
 |int i e=>cases d with|none=>exact jE (l:=O (i,e)) (u:=af) (st:=af) a rfl (tL ⟨aH (Cy z (O i) af) b,λT k=>⟨.str _,H,I.tok k,⟨T,rfl⟩,q⟩⟩)|int j u=>exact jE (l:=O (i,e)) (u:=O (j,u)) (st:=af) a rfl (tL ⟨aH (Cy z (O i) (O j)) b,λT k=>⟨.str _,H,I.tok k,⟨T,rfl⟩,q⟩⟩)
def acO(K:Frag)(t:TE):TE:=λσ H Q=>t σ H λx h=>∃a b,x=.ref a/\eL K h a b/\∀p,h p=af->Q (.ref p) (cQ h p (.tup b.reverse))
theorem Sk{e st:Expr}{t:TE}{d pos:Pos}(k:PE X e t)(m:PE X st (tC (.int (-1)))):PE X (.Subscript e (.Slice af af (O st) d) pos) (acO X.K t):=by intro p s σ H Q I h;refine Pn (dh (k p s σ H _ I h) λv s1 x=>?_);obtain⟨x,f,q,R,u⟩:=x;refine wpAny_Slice ?_;rw[Wg];refine au (au ?_);rw[evalPart_some];refine dh (m p s1 σ f (λy c=>y=.int (-1)/\c=f) q ⟨rfl,rfl⟩) λS s2 y=>?_;obtain⟨y,c,z,B,C,D⟩:=y;subst D;obtain⟨a,F,ex,G,L⟩:=u;subst C;subst ex;obtain⟨T,rfl⟩:=B;cases R;have i:Inv X p σ c {s2 with heap:=s2.heap.push {cls:=.type "slice",data:=.fields #[.none,.none,.int (-1) T]}}:=z.kept (t':=s2.toks) λb M g=>aj _ g;obtain⟨its,r,j,N⟩:=i.tuple G;have n:=r.length;show bb (bn X.prog X.w) X.A (subscriptTail e (.Slice af af (O st) d) (.ref a) (.ref s2.heap.objs.size)) (EP X p σ Q) X.xe {s2 with heap:=s2.heap.push {cls:=.type "slice",data:=.fields #[.none,.none,.int (-1) T]}};refine tail_any (ops:=[.ref a,.ref s2.heap.objs.size]) j.typeIs bP.lookup (tm j (Heap.IsSliceOf.new ..) (by lia) ?_) (by with_unfolding_all rfl);refine⟨.ref _,_,i.laid (t':=s2.toks) (o:=.tup F.reverse) (λb M g=>aj _ g) (aB _) ⟨by rw[cg];exact N,_,r.reverse,o_ _ _⟩,rfl,?_⟩;exact L _ i.fresh
def Iq:typeLookup (.type "list") "keys"=pure none:=by rw[typeLookup_type,builtinLookup_eq_fast];kernel_rfl
def uS:entryFor table "dict.update.loop"=O Builtin.«dict.update.loop»:=entryFor_of_tree (by kernel_rfl)
def Br{prog:cf}{a:Addr}{o:Obj}{xs:Array Value}{k:Nat}{Q:Option Value->bv->Prop}(x:s.heap.get? a=O o)(i:o.cls=.type "list")(f:o.data=.seq xs k)(j:o.dict=af)(p:A.handled=af)(h:∀h' T,(∀b m,s.heap.get? b=O m->h'.get? b=O m)->Q af {s with heap:=h',toks:=T}):bb (bn prog w) A (getAttr? (.ref a) "keys") Q E s:=by
 obtain⟨c,D,kL,sl⟩:=o;simp only at i f j;subst i f j;obtain⟨q,g,d,T,os⟩:=s;have n:∀t,(⟨q,g,d,t,os⟩:bv).TypeIs (.ref a) "list":=λ_=>⟨_,x,rfl⟩;have r:=sub_AttributeError;have u:=pS.lookup;have v:=pS.bind (.ref a);have y:=am_list_getattr_none;unfold getAttr? getAttrBy? getAttrBy;repeat(any_goals(first|assumption|exact n _|((with_reducible show bb _ _ (call (Value.builtin "list.__getattribute__") _ _) _ _ _);refine eO pS (n _) am_entry_list_getattribute (F.args_list_getattribute_2 _ _) (meets_getattribute_miss_list a xs k sl "keys" _ Iq (by ext) (by size_fits)) ⟨x,p,λh' t e H=>?_⟩)|wp_step))
 obtain⟨z,U,B⟩:=H.there;show bb _ _ (getattributeRaised _ _ _ _ _ _ _) _ _ _;unfold getattributeRaised;repeat(any_goals(first|assumption|wp_step))
 exact h _ _ H.keeps
def lQ:plainId "dict.update.loop"=true:=by ext
def yd[DecidableEq κ](knd:KeyKind P w κ)(h:Heap)(u:Value)(p:κ×Value):Prop:=∃t k,u=ab0 t/\h.IsTuple t #[k,p.2]/\knd.is p.1 k=J
section
variable[DecidableEq κ]{knd:KeyKind P w κ}
theorem DV{d it:Addr}{ps:List (κ×Value)}{R:Result->bv->Prop}(hh:A.handled=af)(hp:∀i:Nat,its[i]?=af↔ps[i]?=af)(hz:ps.length<=1000):∀(m i:Nat)(bK:List (κ×Value))(s:bv),ps.length-i=m->s.heap.IsListIter it l i->s.heap.IsList l its->s.heap.DictOf knd d bK->bK.length<=i->(∀(j:Nat)(u:Value)(p:κ×Value),its[j]?=O u->ps[j]?=O p->yd knd s.heap u p)->(∀h' T,h'.DictOf knd d (merged bK (ps.drop i))->(∀b o,b≠d->b≠it->s.heap.get? b=O o->h'.get? b=O o)->R (.ok (.ret .none)) {s with heap:=h',toks:=T})->
   eH (bn P w) A (.builtin "dict.update.loop" ⟨[.ref d,.ref it,cx i,.none],[]⟩) R s:=by intro m;induction m with|zero=>
  intro i bK s hm h k hd hk F hR;refine gv uS ?_;rw[hW lQ];unfold Builtin.«dict.update.loop»;have hn:ps[i]?=none:=by rw[o7];lia
  have x:=(hp i).mpr hn;have f:d≠it:=λz=>by subst z;obtain⟨o,e,c,kL⟩:=h;obtain⟨g,G,I,a,C,D,_⟩:=hd;rw[e]at a;cases a;rw[kL]at D;cases D
  refine aa (wS hh h k x λh' y=>?_);show bb _ _ (Builtin.Dict.addKeywords d []>>=_) _ _ _;refine aa (au (au ?_));refine hR h' s.toks ?_ λb o B K e=>y b o K e;rw[List.drop_eq_nil_of_le (by lia)];exact hd.extBut y f|succ m ih=>
  intro i bK s hm h k hd hk F hR;refine gv uS ?_;rw[hW lQ];unfold Builtin.«dict.update.loop»;have M:i<ps.length:=by lia
  obtain⟨p,H⟩:∃p,ps[i]?=O p:=⟨_,aE M⟩;have F_:its[i]?≠none:=λz=>by rw[hp i,H]at z;cases z
  obtain⟨u,q⟩:=Option.ne_none_iff_exists'.mp F_;obtain⟨t,key,rfl,hT,Ih⟩:=F i u p q H;have f:d≠it:=λz=>by subst z;obtain⟨o,e,c,kL⟩:=h;obtain⟨g,G,I,a,C,D,_⟩:=hd;rw[e]at a;cases a;rw[kL]at D;cases D
  have dl:d≠l:=λz=>by subst z;obtain⟨o,e,c,n,kL⟩:=k;obtain⟨g,G,I,a,C,D,_⟩:=hd;rw[e]at a;cases a;rw[kL]at D;cases D
  have L:l≠it:=λz=>by subst z;obtain⟨o,e,c,n,kL⟩:=k;obtain⟨g,a,C,D⟩:=h;rw[e]at a;cases a;rw[kL]at D;cases D
  have N:∀{t:Addr}{xs:Array Value},s.heap.IsTuple t xs->t≠it:=λx z=>by subst z;obtain⟨o,e,c,n,kL⟩:=x;obtain⟨g,a,C,D⟩:=h;rw[e]at a;cases a;rw[kL]at D;cases D
  have Q:∀{t:Addr}{xs:Array Value},s.heap.IsTuple t xs->t≠d:=λx z=>by subst z;obtain⟨o,e,c,n,kL⟩:=x;obtain⟨g,G,I,a,C,D,_⟩:=hd;rw[e]at a;cases a;rw[kL]at D;cases D
  have j':ps.drop i=p::ps.drop (i+1):=by rw[List.drop_eq_getElem_cons M];congr 1;rw[aE M]at H;injection H
  refine aa (L' h k q λB U Z=>?_);have kT:∀{t:Addr}{xs:Array Value},s.heap.IsTuple t xs->B.IsTuple t xs:=λx=>by have ne:=N x;obtain⟨o,e,r⟩:=x;exact⟨o,(Z.2 _ ne).trans e,r⟩
  have Xu:B.DictOf knd d bK:=hd.extBut Z.extBut f;have v:=kT hT;have W:Shared.TypeIs {s with heap:=B} (.ref t) "tuple":=by obtain⟨o,e,c,_⟩:=v;exact⟨o,e,c⟩
  refine aa (cG (aa (wpAny_tryCatch ?_)));unfold Builtin.Dict.pairItems;refine aa (mJ W ?_);rw[bx (by ext)];obtain⟨o,e,c,n,kL⟩:=id v;refine aa ?_;unfold seqItems?;refine aa (wpAny_load e ?_);rw[kL];refine au (au ?_);have l3:(1000:Nat)<=sizeLine:=by ext
  refine cG (wpAny_dictSet_pairs Ih Xu (λK cp S=>?_) (by lia));refine au ⟨Ab lQ _,?_⟩;have e1:cx ((i:Int)+1)=cx ((i+1:Nat):Int):=rfl;refine ih (i+1) (PySem.stored bK p.1 p.2) {s with heap:=K,toks:=s.toks+1} (by lia) ?_ ?_ cp ?_ ?_ λh' T Cg k'=>?_;·obtain⟨o,e,r⟩:=U;exact⟨o,(S.2 _ (bY f)).trans e,r⟩
  ·exact(k.extBut Z.extBut L).extBut S.extBut (bY dl)
  ·unfold PySem.stored;split;·rw[ak];lia
   ·rw[ae];simp;lia
  ·intro j u' p' fS XI;obtain⟨t',Y,rfl,B_,K8⟩:=F j u' p' fS XI;have nd:=Q B_;obtain⟨g,a,r'⟩:=kT B_;exact⟨t',Y,rfl,⟨g,(S.2 _ nd).trans a,r'⟩,K8⟩
  ·refine hR h' T ?_ λb ob u4 O8 y=>k' b ob u4 O8 ((S.2 _ u4).trans ((Z.2 _ O8).trans y));rw[j'];exact Cg
theorem Dy{ps:List (κ×Value)}{Q:dC}(C:A.handled=af)(G:PlainL s.heap l its)(I:∀i:Nat,its[i]?=af↔ps[i]?=af)(hz:ps.length<=1000)(M:∀(j:Nat)(u:Value)(p:κ×Value),its[j]?=O u->ps[j]?=O p->yd knd s.heap u p)(h:∀h' T,h'.DictOf knd s.heap.objs.size (merged [] ps)->(∀b o,s.heap.get? b=O o->h'.get? b=O o)->Q (.ref s.heap.objs.size) {s with heap:=h',toks:=T}):bb (bn P w) A (call (.type "dict") [.ref l]) Q E s:=by
 refine callType_codes (Q₁:=λa S=>a=.ref s.heap.objs.size/\S={s with heap:=s.heap.push {cls:=.type "dict",data:=.dict #[]}}) F.kt_called_dict (F.kt_typeCall_dict_1 _) F.entry_dict_init (kt_code_dict_new _ ⟨rfl,rfl⟩) ?_;rintro a S ⟨rfl,rfl⟩;have L:(s.heap.push {cls:=.type "dict",data:=.dict #[]}).DictOf knd s.heap.objs.size []:=Heap.DictOf.new s.heap;refine⟨L.typeIs,F.args_dict_init_2 _ _,?_⟩;unfold Builtin.«dict.__init__»;refine aa ?_;unfold Builtin.Dict.selfAndRest;refine aa (wpAny_notOrdered_dict L.typeIs ?_);show bb _ _ (pure (s.heap.objs.size,[ab0 l])) _ _ _;refine au ?_;show bb _ _ (Builtin.Dict.updateFrom "dict.__init__" s.heap.objs.size (.ref l) [] .none) _ _ _;unfold Builtin.Dict.updateFrom;obtain⟨o,n,e,c,dn,kL⟩:=id G;have g:(s.heap.push {cls:=.type "dict",data:=.dict #[]}).get? l=O o:=aj _ e;have N:Shared.TypeIs {s with heap:=s.heap.push {cls:=.type "dict",data:=.dict #[]}} (.ref l) "list":=⟨o,g,c⟩;refine aa (mJ N ?_);rw[bx (by ext)];refine aa (Br g c kL dn C λH m k=>?_);rw[bx (by rfl)];refine aa (iq ?_);have U:PlainL H l its:=⟨o,n,k _ _ g,c,dn,kL⟩;have Xu:H.DictOf knd s.heap.objs.size []:=by obtain⟨v,W,Y,x,r⟩:=L;exact⟨v,W,Y,k _ _ x,r⟩
 refine aa (pN U.isList ?_);refine au ⟨Ab lQ _,?_⟩;have K:∀b o,s.heap.get? b=O o->(H.push {cls:=.type "list_iterator",data:=.fields #[.ref l,.int 0 0]}).get? b=O o:=λb o q=>aj _ (k _ _ (aj _ q));refine DV (A:=A.in1) (R:=wants (λr f=>r=ab1/\Q (ab0 s.heap.objs.size) f) E) (knd:=knd) (d:=s.heap.objs.size) (l:=l) (its:=its) C I hz ps.length 0 [] {s with heap:=H.push {cls:=.type "list_iterator",data:=.fields #[.ref l,.int 0 0]},toks:=m} (by lia) ⟨_,aU _ rfl,rfl,rfl⟩ ?_ (Xu.push _) (aB _) (λj u p hu y=>?_) λh' T D Z=>⟨rfl,?_⟩;·exact⟨o,K _ _ e,c,n,kL⟩
 ·obtain⟨t,B,rfl,⟨v,x,r'⟩,hk⟩:=M j u p hu y;exact⟨t,B,rfl,⟨v,K _ _ x,r'⟩,hk⟩
 ·rw[ic]at D;refine h h' T D λb ob q=>Z b ob (λz=>?_) (λz=>?_) (K _ _ q);·have:=aN q;rw[z]at this;exact cS _ this
  ·have:=aN (k _ _ (aj {cls:=.type "dict",data:=.dict #[]} q));rw[z]at this;exact cS _ this
end
theorem Paired.at'{α β:Type}{F:α->β->Prop}:∀{xs:List α}{ys:List β}{i:Nat}{x:α}{y:β},Paired F xs ys->xs[i]?=O x->ys[i]?=O y->F x y:=by
 intro xs ys i x y p;induction p generalizing i with
 |nil=>intro e;simp at e
 |cons h _ I=>intro e a;cases i with|zero=>simp at e a;subst e;subst a;exact h|succ i=>exact I (by simpa using e) (by simpa using a)
theorem HD:dJ X (.builtin "len") λxs H Q=>∃(a:Addr)(ws:List Str),xs=[.ref a]/\H a=O (.ext λh=>oy X.prog X.w h a ws)/\Q (.int ws.length) H:=by
 intro p s σ H xs U Q I r h;obtain⟨a,ws,rfl,b,q⟩:=h;obtain⟨u,rfl,R⟩:=pM r;cases R;obtain⟨o,c,k,t,e,ex,d,_,f,_,m,g,_⟩:=(I.di a _ b).1;have i:c.size=ws.length:=by have:=f.length_eq;rw[ak]at this;simpa using this
 have j:(scanBound:Int)<2^63:=by ext
 exact call_len_set e ex d g (by lia) ⟨.int ws.length,H,I.tok _,⟨s.toks+1,by rw[i]⟩,q⟩
end L2
namespace L2
open PySem.SeqAt PySem.MeetsSeq PySem.Builtin PySem.Builtin.Str
variable{X:Cx}
def wQ:Ca X "str.startswith" λx xs H Q=>∃(z y:Str),x=.str z/\xs=[.str y]/\Q (.bl (ae0 z y)) H:=by intro p s σ H x xs v U Q I R r h;obtain⟨z,y,rfl,rfl,q⟩:=h;obtain⟨t,rfl⟩:=R;obtain⟨u,rfl,T,rfl⟩:=pM r;exact SC.startswith ⟨.bl _,H,I,rfl,q⟩
theorem xZ:∀(l:List (Str×Tok)),Vals ((l.map (·.1)).map V.str) (strValues l)|[]=>.nil|p::l=>.cons ⟨p.2,rfl⟩ (xZ l)
def Me:Ca X "str.split" λx xs H Q=>∃(z y:Str),x=.str z/\xs=[.str y]/\(y.length==0)=a7/\z.length<=sizeLine/\(partsBetween z (occurrences z y 0 z.length (z.length+1)) y.length).length<=sizeLine/\(ac9 z y).length<=sizeLine/\∀l,H l=af->Q (.ref l) (cQ H l (.lst ((ac9 z y).map V.str))):=by
 intro p s σ H x xs v U Q I R r h;obtain⟨z,y,rfl,rfl,j,m,d,i,q⟩:=h;obtain⟨t,rfl⟩:=R;obtain⟨w,rfl,u,rfl⟩:=pM r;have fin:∀(l:List (Str×Tok))(k:Nat),l.map (·.1)=ac9 z y->EP X p σ Q (.ref s.heap.objs.size) {s with heap:=s.heap.push {cls:=.type "list",data:=.seq (strValues l).toArray},toks:=k}:=λl k e=>by refine⟨.ref s.heap.objs.size,_,I.laid (a:=s.heap.objs.size) (o:=.lst ((ac9 z y).map V.str)) (λb n g=>aj _ g) (aB _) ⟨by rw[ak];exact i,_,_,by rw[<-e];exact xZ l,aU _ rfl⟩,rfl,q _ I.fresh⟩
 cases c:decide (z.length<y.length)||decide (strKind z<strKind y)
 ·cases f:(occurrences z y 0 z.length (z.length+1)).isEmpty;·refine eO jW (oj _ _ _) qU (pT _ _) (meets_str_split_sep z y t u c j f m d) ?_;show wants (EP X p σ Q) X.xe _ {s with toks:=_,heap:=s.heap.push {cls:=.type "list",data:=.seq (strsFrom s.toks (partsBetween z (occurrences z y 0 z.length (z.length+1)) y.length)).toArray}};rw[strsFrom_eq];exact fin (numbered s.toks _) _ ((numbered_texts _ _).trans ((bE (yc c)).trans (bE (yc f))).symm)
  ·exact eO jW (oj _ _ _) qU (pT _ _) (meets_str_split_not_found z y t u c j f) (fin [(z,t)] _ ((bE (yc c)).trans (bx f)).symm)
 ·exact eO jW (oj _ _ _) qU (pT _ _) (meets_str_split_cannot_occur z y t u c) (fin [(z,t)] _ (bx c).symm)
def wD:dJ X (.type "int") λxs H Q=>∃(z:Str)(n:Int),xs=[.str z]/\ab2 z=O n/\z.length<=640/\Q (.int n) H:=by intro p s σ H xs U Q I r h;obtain⟨z,n,rfl,hn,l,q⟩:=h;obtain⟨u,rfl,t,rfl⟩:=pM r;exact PySem.W.KIN.call_text hn l ⟨.int _,H,I.tok _,⟨_,rfl⟩,q⟩
end L2
namespace L2
variable{X:Cx}{am:ce}{σ:tSt}{H:Hp}{s:bv}{a b C:Addr}{A:cr}{E:dC}{P:cf}{w:b7}{K:Frag}{mg:b'}{base:Heap}{x:Str}{ps ks:List Str}{k:Nat}{sp:Addr->Addr->Sp}{body:List Stmt}{pos:Pos}
def Hl(K:Frag)(b:Addr)(ks:List Str):Prop:=∃(o:Obj)(i:Array Value)(m:Nat),K.lookup b=O o/\o.cls=.type "tuple"/\o.dict=af/\o.data=.seq i m/\i.size<=sizeLine/\Vals (ks.map V.str) i.toList
structure Ar(w:b7)(K:Frag)(a:Addr)(tab:Str->Option (List Str)):Prop where
 ex:∃(es:Array fy)(n:Nat),K.lookup a=O ⟨.type "dict",af,.dict es n,#[]⟩/\KeysLit w.params es.toList/\∀x,match tab x with|some ks=>∃b,findBy ab5 es x=O (.ref b)/\Hl K b ks|none=>findBy ab5 es x=af
 lo:(a==gt)=a7
def Hl.sq(h:Hl K b ks):eL K H b (ks.map V.str):=let ⟨o,i,m,a,b,_,c,d,e⟩:=h;.inr ⟨o,i,m,a,b,c,d,e⟩
def Hl.ty(h:Hl K b ks):iu K "tuple" (.ref b) H:=let ⟨o,i,m,a,b,n,_⟩:=h;.inr (.inl ⟨rfl,o,a,b,n⟩)
def aca(K:Frag)(a:Addr)(t:Str->Option (List Str)):R2:=λx y H Q=>x=.ref a/\∃k ks,y=.str k/\t k=O ks/\∀b,Hl K b ks->Q (.ref b) H
def Rr{c:Str->Option (List Str)}(T:Ar X.w X.K a c):CF X (aca X.K a c):=by intro e slice am s σ H x y v u Q I r R h f;obtain⟨rfl,k,ks,rfl,g,q⟩:=h;cases r;obtain⟨t,rfl⟩:=R;obtain⟨j,m,lk,d,look⟩:=T.ex;have hm:=jq (prog:=X.prog) (w:=X.w) I.l9 lk d;have l:=look k;rw[g]at l;obtain⟨b,F,i⟩:=l;exact fZ hm.typeIs iJ.lookup (qY (knd:=strKind X.prog X.w) (kE X.prog X.w k t) hm F ⟨rfl,⟨.ref b,H,I.tok _,rfl,q b i⟩⟩) f
def ML(I:Inv X am σ H s){k:b8}{v:V}(h:eL X.K H b [kV k,v]):∃r,RelV v r/\yd (fB X.prog X.w) s.heap (.ref b) (k,r):=by obtain⟨c,d,e,_⟩:=I.tuple h;obtain⟨u,r,rfl,R,f⟩:=d.two;refine⟨r,f,b,u,rfl,e,?_⟩;cases k with|inl i=>obtain⟨t,rfl⟩:=R;exact sH X.prog X.w i t|inr x=>obtain⟨t,rfl⟩:=R;exact sI X.prog X.w x t
def IH(I:Inv X am σ H s):∀{T:List V}{B:List (b8×V)}{its:List Value},Vals T its->Paired (λt(v:b8×V)=>∃b,t=V.ref b/\eL X.K H b [kV v.1,v.2]) T B->∃ps:List (b8×Value),KV B ps/\Paired (yd (fB X.prog X.w) s.heap) its ps:=by intro T B its a;induction a generalizing B with|nil=>intro b;cases b;exact⟨[],.nil,.nil⟩|cons r R i=>intro b;cases b with|cons p pp=>obtain⟨ps,a,b⟩:=i pp;obtain⟨c,rfl,h⟩:=p;cases r;obtain⟨w,j,d⟩:=ML I h;exact⟨_,.cons ⟨rfl,j⟩ a,.cons d b⟩
def rD(y:X.calm):dJ X (.type "dict") λxs H Q=>∃(l:Addr)(T:List V)(B:List (b8×V)),xs=[.ref l]/\gN X.K H l T/\B.length<=100/\Paired (λt(v:b8×V)=>∃b,t=V.ref b/\eL X.K H b [kV v.1,v.2]) T B/\∀a,H a=af->Q (.ref a) (cQ H a (.dK (lK [] B))):=by
 intro am s σ H xs U Q I r h;obtain⟨l,T,B,rfl,z,N,g,q⟩:=h;obtain⟨u,rfl,D⟩:=pM r;cases D;obtain⟨its,m,F,_⟩:=I.list z;have n:its.length=B.length:=by rw[<-m.length,g.length]
 obtain⟨ps,c,d⟩:=IH I m g;have S:ps.length=B.length:=c.length.symm;have W:(1000:Nat)<=sizeLine:=by ext
 refine Dy (knd:=fB X.prog X.w) (its:=its.toArray) (ps:=ps) (I.ok.hd y) F (λi=>?_) (by lia) (λj u p hu e=>?_) λY G L M=>?_;·rw[kB,o7,o7];lia
 ·rw[kB]at hu;exact Paired.at' d hu e
 ·have R:KV (lK [] B) (merged [] ps):=KV.merge c .nil;have f:=oW B [];refine⟨.ref s.heap.objs.size,_,I.laid (a:=s.heap.objs.size) (o:=.dK (lK [] B)) (t':=G) M (aB _) ?_,rfl,q _ (I.di.fresh (aB _))⟩;exact Xc (by simp at f;lia) (cu.mpr (bY (bu I.big))) R L
noncomputable def A3(i:Nat)(D:Ends):Ends:={nx:=λσ H=>D.nx (σ.set i af) H,rt:=D.rt,bk:=λσ H=>D.bk (σ.set i af) H,ct:=λσ H=>D.ct (σ.set i af) H}
def ahi(K:Frag)(R:Addr)(L i:Nat)(tb:XK->TS)(t:Addr->Addr->TS):TS:=λD σ H=>∃E1:XK,tb E1 D σ H/\∀(C:Addr)(o:Option Addr)(h:Hp)(a:Addr)(c:tSt),E1 (.ref C) o h->c.length=L->subIn K (.ref C) (.ref R)=O J/\t a C (A3 i D) (c.set i (O (.ref a))) h
section
variable{D:Ends}{f:Flow}
theorem SP.D7(ok:X.Ok)(h:SP {X with pn:=X.pn++am,xe:=E} [] D f s):SP X am D f s:=by cases f with|next=>obtain⟨c,d,I,q⟩:=h;exact⟨c,d,I.D7 ok,q⟩|brk=>obtain⟨c,d,I,q⟩:=h;exact⟨c,d,I.D7 ok,q⟩|cont=>obtain⟨c,d,I,q⟩:=h;exact⟨c,d,I.D7 ok,q⟩|ret u=>obtain⟨v,c,d,I,r,q⟩:=h;exact⟨v,c,d,I.D7 ok,r,q⟩
end
def Zr{n:Str}{R:Addr}{i:Nat}{VZ:List Stmt}{b0:Stmt}{np p:Pos}{tb:XK->TS}{ts:Addr->Addr->TS}(fr:OX X)(hN:X.N.Nodup)(hi:X.N[i]?=O n)(M:X.env.scope.names.lookup n=O .local)(hf:X.fn n)(hg:Gl X x)(hm:X.mg x=O (.ref R))(hR:Ws X.K R)(hb:∀pn E1,kH (X.tr pn E1) body (tb E1))(hs:∀pn a C,Hd (X.hn pn a) a C->kH (X.hn pn a) (b0::VZ) (ts a C))(hd:autoParam ((x==("__debug__":Str))=a7) P3):PS X (.Try body [.ExceptHandler (O (.Name x np)) (O n) (b0::VZ) p] [] [] pos) (ahi X.K R X.N.length i tb ts):=by
 intro am s σ H D I h;obtain⟨E1,Xr,hh⟩:=h;have ok:=I.ok;refine wpAny_Try_except (dB (hb (X.pn++am) E1 [] s σ H D (I.ahn _) Xr) (λf s1 q=>?_) λe s1 q=>?_);·have q':=SP.D7 ok q;cases f with|next=>exact gA q'|brk=>exact q'|cont=>exact q'|ret u=>exact q'
 obtain⟨y,H0,s0,j,a,C,F,rfl,U,hE⟩:=q;obtain⟨QY,W⟩:=hh C af F a y hE j.len;have Y:∀{b:Addr},s0.heap.get? b=af->b≠X.env.locals:=λz e=>by obtain⟨m,⟨o,_,_,B,_⟩,_⟩:=j.loc;rw[e]at z;rw[z]at B;cases B
 have Z:∀{b:Addr},s0.heap.get? b=af->b∉X.fs:=λz e=>by obtain⟨_,o,B,_⟩:=j.kq.mem e;rw[z]at B;cases B
 have hand:∀{G:Value}{s2:bv}(f2:Fl X.prog X.w X.stack H0 s0 F a C G s2),∃t T,s2.heap.get? a=O (qN C t (.ref T))/\Inv (X.hn ((a,qN C t (.ref T))::(X.pn++am)) a) [] y F s2:=λ{G s2}f2=>by obtain⟨T,⟨⟨t,ha⟩,_⟩,_⟩:=f2.ex;exact⟨t,T,ha,(f2.inv (X:={X with pn:=X.pn++am}) j).ahm ha f2.na (Y f2.new) (Z f2.new) (by intro v z;cases z)⟩
 refine U.note (X:={X with pn:=X.pn++am}) j fr.st fr.fr ok.frames λs2 f2=>?_;refine f2.land (X:={X with pn:=X.pn++am}) (f2.frF (X:={X with pn:=X.pn++am}) j) λs3 f3=>?_;obtain⟨t3,T3,ha3,I3⟩:=hand f3;refine wpAny_handleBy_cons (codeAny_handlers_test ?_) (by intro z;cases z);refine kg (X:=X.hn ((a,qN C t3 (.ref T3))::(X.pn++am)) a) I3 hg hm ?_ hd;refine Qx I3.l9 hR ha3 rfl QY ?_;refine codeAny_handlers_suite_as ?_;refine f3.land (X:={X with pn:=X.pn++am}) (f3.frF (X:={X with pn:=X.pn++am}) j) λs4 f4=>?_;obtain⟨t4,T4,ha4,I4⟩:=hand f4;refine qG (X:=X.hn ((a,qN C t4 (.ref T4))::(X.pn++am)) a) (v:=.ref a) I4 hN hi (.inl M) rfl (λs5 I5=>?_) (.inl hf);refine dB (hs _ a C ⟨rfl,t4,.ref T4,aw⟩ [] s5 _ F (A3 i D) I5 W) (λG s6 L=>?_) λ_ _ z=>z.elim;have okP:Cx.Ok {X with pn:=X.pn++am}:=ok.pnx _ _;have go:∀{c:tSt}{g:Hp}{Q:Unit->bv->Prop},Inv (X.hn ((a,qN C t4 (.ref T4))::(X.pn++am)) a) [] c g s6->(∀S,Inv X am (c.set i af) g S->Q () S)->bb (bn X.prog X.w) X.A (do bindName X.env n .none;unbindBehindTheSuite X.env n p) Q X.xe s6:=λ{c g Q}d k=>by have J6:Inv X am c g s6:=Inv.D7 (E:=X.xe) ok (d.agK okP);obtain⟨m,hn,_⟩:=id J6.loc;refine wpAny_nameGoes_keeps M hn (by rw[ok.kind];rfl) λh' v hn' QX=>?_;exact k _ (J6.afq hN hi M hn hn' QX)
 cases G with|next=>obtain⟨c,g,d,q⟩:=L;exact go d λS l=>⟨_,_,l,q⟩|brk=>obtain⟨c,g,d,q⟩:=L;exact go d λS l=>⟨_,_,l,q⟩|cont=>obtain⟨c,g,d,q⟩:=L;exact go d λS l=>⟨_,_,l,q⟩|ret u=>obtain⟨v,c,g,d,r,q⟩:=L;exact go d λS l=>⟨v,_,_,l,r,q⟩
structure uv(k:Nat)(A:cr)(a:Addr):Prop where
 hd:A.handled=O (.ref a)dp:A.depth+3*k+5<recursionLimit
 un:A.units+16*k+200<cLine
def dQ.hand(r:dQ k A)(a:Addr):uv k (A.mark (O (.ref a))) a:=⟨rfl,r.dp,r.un⟩
theorem uv.deeper(r:uv (k+1) A a)(env:Env):uv k (A.deeper env) a:=⟨r.hd,by have:=r.dp;show A.depth+1+3*k+5<_;lia,by have:=r.un;show A.units+3+16*k+200<_;lia⟩
abbrev wE(P:cf)(w:b7)(K:Frag)(mg:b')(base:Heap)(N:List Str)(q:Str)(S:Scope)(f:Addr)(c:Value)(A:cr)(o:List Env)(s:bv)(H:Hp)(a:Addr)(e:Obj):Cx:={(oE CB P w K mg base N q S f c A o s H E0).Vl with calm:=a7,pn:=[(a,e)]}
structure CC(P:cf)(w:b7)(K:Frag)(mg:b')(base:Heap)(k:Nat)(x:Str)(ps:List Str)(sp:Addr->Addr->Sp):Prop where ex:∃(f:Addr)(fd:dL),(∀(A:cr)(outer:List Env)(s:bv)(H:Hp)(args:Args)(us:List Value)(vs:List V)(Q:VK)(a C t:Addr)(tb:Value),uv k A a->An P w K mg base A outer s H->s.heap.get? a=O (qN C t tb)->H a=af->a∉oF outer->BindsTo s fd args (ps.zip us)->Vals vs us->sp a C vs H Q E0->eH (bn P w) A (.call (.ref f) args) (CR CB outer P w H s Q E0) s)/\(∀a C vs H Q E,sp a C vs H Q E->vs.length=ps.length)/\mg x=O (.ref f)/\keepIn K (.ref f)/\Binds K fd ps []
section
variable{st:Stmt}{N:List Str}
def Src.okH(S:Src K mg x st ps)(F:dD N ps (aL st))(len:∀a C vs H Q E,sp a C vs H Q E->vs.length=ps.length)(Z:∀(f:Addr)(D:Value)(A:cr)(c:List Env)(s:bv)(H:Hp)(vs:List V)(Q:VK)(a C t:Addr)(tb:Value),uv k (A.deeper (envOfC x (aL st) s.heap.objs.size f D)) a->sp a C vs H Q E0->Hd (wE P w K mg base N x (aL st) f D A c s H a (qN C t tb)) a C->∃T,kH (wE P w K mg base N x (aL st) f D A c s H a (qN C t tb)) (cb st) T/\T {nx:=λ_ H'=>Q .non H',rt:=Q} (start N vs) H):CC P w K mg base (k+1) x ps sp:=by
 obtain⟨f,fd,R,hm,hb⟩:=S.ex;obtain⟨oc,od,kV,doc,pm,an,D,ct,tD,rfl,lk,yW⟩:=R.ex;refine⟨f,_,λA c s H args us vs Q a C t tb l g i m B G r U=>?_,len,hm,R.kp,hb⟩;have hl:=len _ _ _ _ _ _ U;have Y:K.In s.heap:=g.mod.Pb.keeps λb o e=>(g.bs b o e).1;have L:s.heap.NoLimit:=g.mod.nolimit.keeps λb o e=>(g.bs b o e).1;have K9:∀y∈ps.zip us,(aL st).names.lookup y.1=O .local\/(aL st).names.lookup y.1=O .cell/\((cellsFrom (s.heap.objs.size+1) (aL st).names []).lookup y.1).isSome:=λ⟨n,v⟩ hy=>by
  rcases F.par n (tI hy).1 with q|q;·exact .inl q
  ·exact .inr ⟨q,sQ _ _ _ (.inl q)⟩
 refine O' (by have:=l.dp;lia) (Y _ _ lk) rfl F.co F.gen rfl (PySem.W.codeRec_of Y yW) (G _ _ _ _ ?_);refine Pp F.kind K9 λenv he s1 y=>?_;subst he;refine⟨L.keeps y.toInCall.keep,codeAny_func ?_⟩;have d:Inv (oE CB P w K mg base N x (aL st) f D {A with handled:=af} c s H E0) [] (start N vs) H s1:=xC F rfl ⟨g.frames,g.mod,g.bs,g.Cd,g.kq,g.HV,g.di,g.bare⟩ hl r y;have mz:a<s.heap.objs.size:=aN i;have I:Inv (wE P w K mg base N x (aL st) f D A c s H a (qN C t tb)) [] (start N vs) H s1:=by
  refine⟨⟨d.ok.mod,d.ok.kind,d.ok.glob,d.ok.blt,d.ok.above,d.ok.inj,d.ok.has,d.ok.O4,λz=>(aK z).elim,d.ok.frames,d.ok.TF,d.ok.KU,d.ok.bs,d.ok.Cd,d.ok.vj,d.ok.uU,d.ok.kq,d.ok.HV⟩,d.os,d.bare,d.base,d.loc,d.cell,d.free,d.gT,λp hp=>?_,d.di,d.len⟩;have e:p=(a,qN C t tb):=by simpa using hp
  subst e;exact⟨y.toInCall.keep _ _ i,m,bu (bt mz d.ok.above),B,by intro v z;cases z⟩
 obtain⟨T,ht,hq⟩:=Z f D A c s H vs Q a C t tb (l.deeper _) U ⟨l.hd,t,tb,by simp⟩;refine dB (ht [] s1 (start N vs) H _ I hq) (λfl s' h=>?_) λe s' h=>h.elim;cases fl with|ret u=>obtain⟨v,M,H',j,rv,q⟩:=h;exact⟨v,H',j.os,j.bare,j.base,j.di,rv,q⟩|next=>obtain⟨M,H',j,q⟩:=h;exact⟨.non,H',j.os,j.bare,j.base,j.di,rfl,q⟩|brk=>obtain⟨_,_,_,q⟩:=h;exact ac8 q|cont=>obtain⟨_,_,_,q⟩:=h;exact ac8 q
end
def CC.mono{j:Nat}(D:CC P w K mg base j x ps sp)(h:j<=k):CC P w K mg base k x ps sp:=by obtain⟨f,F,run,r⟩:=D.ex;exact⟨f,F,λA o s H args u v Q a C t T c=>run A o s H args u v Q a C t T ⟨c.hd,by have:=c.dp;lia,by have:=c.un;lia⟩,r⟩
def Sh{p:Pos}{e:Expr}{es:List Expr}{t:TA}(D:CC X.prog X.w X.K X.mg X.base k x ps sp)(j:Hd X a C)(l:uv k X.A a)(m:Gl X x)(o:PA X (e::es) t)(v:autoParam ((x==("__debug__":Str))=a7) P3)(d:autoParam ((e::es).all cm=J) o0):PE X (.Call (.Name x p) (e::es) [] pos) (ahe (sp a C) t):=by
 obtain⟨f,fd,run,len,y,B,F⟩:=D.ex;intro am s σ H Q I h;rw[bh,aI]at d;refine eP (kg I m y ?_ v);refine jw (h₀:=X.base) I.ok.mod.Pb B (dh (o pos am s σ H _ I h) λU s1 ⟨G,L,i,r,q⟩=>⟨i.l9,?_⟩) (c8 d.1) (fF d.2);obtain⟨T,g,n⟩:=j.pn;obtain⟨Z,M,N,S,_⟩:=i.pin (a,qN C T g) (cP _ n);have W:U.length=ps.length:=by rw[<-r.length];exact len _ _ _ _ _ _ q
 have Y:a∉oF X.stack:=λz=>by
  rcases aJ.mp (i.zO a z)with e|e;·exact N e
  ·exact S e
 refine sS (jY (run X.A X.stack s1 L ⟨U,[]⟩ U G Q a C T g l i.Xf Z M Y (by have w:=F s1 U i.l9 (by simpa using W);simpa using w) r q) λR s' c=>?_);cases R with|error e=>exact c.elim|ok fl=>cases fl with|ret u=>exact i.after c|next=>exact ac8 c|brk=>exact ac8 c|cont=>exact ac8 c
def Gr{tg l:Expr}{tl:TE}{g:TG}{tb:TS}{a0:Addr}(hh:Hd X a0 C)(T:PassesOwn (bn X.prog X.w) X.A X.env X.xe)(hl:PE X l tl)(hg:PG X tg g)(t:kH X body tb)(hs:autoParam (∀x,hG l X.env x=pure x) hY):PS X (.For tg l body [] pos) (TM (af6 X.K tl) g tb):=by
 intro am s σ H D I h;refine wpAny_For (dh (hl am s σ H _ I h) λv s1 x=>?_) hs;obtain⟨x,H1,I1,r1,a,e,⟨xs,hq⟩,q⟩:=x;subst e;cases r1;obtain⟨its,rv,p,hz⟩:=I1.tuple hq;refine om (show s1.heap.IsTuple a its.toArray from p) ?_;obtain⟨W,⟨m0,w0⟩,U⟩:=q;have fp:mm X am H1 s1.heap.objs.size:=I1.HU (aB _) (I1.di.fresh (aB _));generalize hit:s1.heap.objs.size=it at fp⊢;refine Ix (λn s'=>∃i d H',Inv X am d H' s'/\s'.heap.IsTupleIter it a i/\H' it=af/\W i n d H') ?_ m0 ⟨0,σ,H1,I1.kept (t':=s1.toks) λb o e=>aj _ e,⟨_,by rw[<-hit];exact aU _ rfl,rfl,rfl⟩,fp.1,w0⟩;rintro n S ⟨i,y,G,L,Y,fr3,w3⟩;have f3:mm X am G it:=⟨fr3,fp.2⟩;obtain⟨f0,f1,f2,f4,f5,f6⟩:=id f3;rcases U i n y G w3 with ⟨stop,qn⟩|⟨go,N,hN,step⟩;·obtain⟨xs3,B,F⟩:=stop;obtain⟨X6,R,p3,_⟩:=L.tuple B;have hl3:=R.length;obtain⟨t0,Z,hpn⟩:=hh.pn;have aaN:(a0,qN C t0 Z)∈X.pn++am:=cP _ hpn;obtain⟨z1,_⟩:=L.pin (a0,qN C t0 Z) aaN;refine cV T (EK hh.hd z1 (f6 _ aaN) Y (show S.heap.IsTuple a X6.toArray from p3) (by simp;lia) λM eb=>?_);exact gA ⟨y,G,L.turned (t':=S.toks) (λb o t e=>eb b o t e) f0 f1 f4 f5 f6,qn⟩
 ·obtain⟨xs3,x3,B,F⟩:=go;obtain⟨X6,R,p3,_⟩:=L.tuple B;obtain⟨u,hu,ru⟩:=R.get F;refine cV T (s_ Y (show S.heap.IsTuple a X6.toArray from p3) (x:=u) (by simpa using hu) λM EF sb=>?_);have I4:Inv X am y G {S with heap:=M}:=L.turned (t':=S.toks) (λb o t e=>(sb.2 b t).trans e) f0 f1 f4 f5 f6;obtain⟨ot,et,ct,dt⟩:=id EF;refine cV T (FE (s:={S with heap:=M}) et ct dt (by ext) ?_);have I5:=I4.pinned (fp:=[it]) (λb t=>by rw[aQ.mp t];exact f3) (λb t=>by rw[aQ.mp t];exact⟨ot,et,λv z=>by rw[dt]at z;cases z⟩);refine cV T (dh (hg _ {S with heap:=M} y G x3 u _ I5 ru (step x3 G ⟨rfl,λys hy=>by rw[L.kU hy B];exact F⟩)) λ_ s6 H6=>?_);obtain⟨σ6,H6,I6,q6⟩:=H6;refine cV T (dh (t _ s6 σ6 H6 _ I6 q6) λf s7 Q=>?_);have again:∀{c:tSt}{j:Hp},Inv X (am++nq [it] M) c j s7->N c j->∃m,m<n/\∃i d H',Inv X am d H' s7/\s7.heap.IsTupleIter it a i/\H' it=af/\W i m d H':=λ{c j}r n7=>by obtain⟨m',hm',w7⟩:=hN c j n7;have pm:(it,ot)∈X.pn++(am++nq [it] M):=aR _ (aR _ (fE (aQ.mpr rfl) et));exact⟨m',hm',i+1,c,j,r.fG,EF.at λo e=>by rw[et]at e;cases e;exact(r.pin _ pm).1,(r.pin _ pm).2.1,w7⟩
  cases f with|next=>obtain⟨c,j,r,n7⟩:=Q;exact again r n7|cont=>obtain⟨c,j,r,n7⟩:=Q;exact again r n7|brk=>obtain⟨c,j,r,Q⟩:=Q;exact⟨c,j,r.fG,Q⟩|ret v=>obtain⟨x7,c,j,r,r7,Q⟩:=Q;exact⟨x7,c,j,r.fG,r7,Q⟩
end L2
namespace L2
open PySem.W
structure EU(K:Frag)(C:Addr):Prop where
 ga:findIn K (.ref C) "__getattribute__"=O (O (.builtin "BaseException.__getattribute__"))gr:findIn K (.ref C) "__getattr__"=O af
 fo:findObj K C af "__class__"=O (.bind (.builtin "getset_descriptor.__get__") (.builtin "object.__class__"))mo:mroIn K C (.type "object")=O J
 ba:subIn K (.ref C) (.type "BaseException")=O J
def HN{prog:cf}{w:b7}{A:cr}{E:dC}{s:bv}{K:Frag}{a C:Addr}{ox:Obj}{Q:Option Value->bv->Prop}(X:K.In s.heap)(I:InstAt s.heap a ox C af)(F:EU K C)(h:Q (O (.ref C)) {s with toks:=s.toks+1}):bb (bn prog w) A (getAttr? (.ref a) "__class__") Q E s:=by
 obtain⟨H,g,d,t,os⟩:=s;have L:=I.type (M:=bn prog w);have l:=looks_findIn (M:=bn prog w) X F.ga;have L2:=looks_findIn (M:=bn prog w) X F.gr;have b:=looks_find (M:=bn prog w) X I F.fo;unfold getAttr? getAttrBy? getAttrBy;refine aa (wpAny_mkText (aa (pW (cG (aa (L.at (aa (l.at ?_))))))));show bb _ _ (getAttrByItsOwn _ _ _ _ _ _) _ _ _;unfold getAttrByItsOwn hookBefore;refine aa ?_;show bb _ _ (typeLookup (.ref C) "__getattr__") _ _ _;refine L2.at ?_;refine aa (pW (cG ?_));show bb _ _ (boundAndCalled (.builtin "BaseException.__getattribute__") (.ref a) _) _ _ _;unfold boundAndCalled;rw[p_.ga.bind (.ref a)];refine aa (au ?_);show bb _ _ (call (.builtin "BaseException.__getattribute__") [.ref a,.str "__class__" t]) _ _ _;refine sS (Qa p_.ga.plain PySem.F.entry_bexc_ga ?_);have k:builtinKind "BaseException.__getattribute__"=O .slot:=by ext
 have x:splitId "BaseException.__getattribute__"=O ("BaseException","__getattribute__"):=by ext
 have r:=PySem.F.args_bexc_ga (.ref a) (.str "__class__" t);have c:Looks (bn prog w) H (isInstance (.ref a) (.type "BaseException")) true:=L.andThen (looks_subIn X F.ba);simp only[checkBuiltinCall,k,x];refine aa (c.at ?_);rw[bE (by ext)];refine JA (a:=()) r ?_;unfold Builtin.«object.__getattribute__»;refine aa (au ?_);dsimp only;refine aa (au ?_);refine aa (L.at (aa (b.at ?_)));dsimp only;show bb _ _ (do let v<-ft [Value.builtin "object.__class__"] (call (.builtin "getset_descriptor.__get__") [.builtin "object.__class__",.ref a,.ref C]);ret v:Sem Fin) _ _ _;refine aa (cG (sS (class_get (ox:=ox) (od:=af) X I F.mo (au ?_))));show bb _ _ (handedOut (.ref C)) _ _ _;exact au (au h)
end L2
namespace L2
open PySem.SeqAt
variable{a C:Addr}{X:Cx}
def LN{K:Frag}{ox:Obj}(F:EU K C)(H:(clsIn K C).isSome):KitX K (.ref a) (.ref C) λh=>PySem.W.InstAt h a ox C af where
 ty:=λ_ _ _ I=>I.type;it:=λ_ _ X _=>xD X H;ne:=λh tp d i n sl X p=>by
  refine bw.mpr λq=>?_;have e:C=tp:=Value.ref.inj (kD.mp q);subst e;unfold clsIn at H;split at H;·rename_i b D c s o;have z:=(X _ _ o).symm.trans p;cases z
  ·cases H
 ca:=λX I k=>HN X I F k
def ff(f:Hd X a C)(F:EU X.K C)(g:(clsIn X.K C).isSome):dJ X (.builtin "isinstance") λxs H Q=>∃(c:V)(cv:Value)(b:Bool),xs=[.ref a,c]/\((∃D,c=.ref D/\cv=.ref D)\/∃n,c=.ty n/\cv=.type n)/\kitOne X.K (.ref C) cv=O b/\Q (.bl b) H:=by
 intro p s σ H xs U Q I r h;obtain⟨c,cv,b,rfl,d,k,q⟩:=h;obtain⟨u,v,rfl,i,R⟩:=r.two;cases i;have ev:v=cv:=by
  rcases d with ⟨D,rfl,rfl⟩|⟨n,rfl,rfl⟩;·exact R
  ·exact R
 subst ev;obtain⟨t,T,e⟩:=f.pn;obtain⟨Z,_⟩:=I.pin (a,qN C t T) (cP _ e);have j:PySem.W.InstAt s.heap a (qN C t T) C none:=⟨Z,rfl,rfl,trivial⟩;exact cE (LN F g) I.l9 j k (λz=>nomatch z) λl=>⟨.bl b,H,I.tok l,rfl,q⟩
def Ay{bs:List Bool}{us:List Value}(r:Vals (bs.map V.bl) us):us=bs.map ad0:=by induction bs generalizing us with|nil=>cases r;rfl|cons b t i=>cases r with|cons R c=>rw[i c,show _=ad0 b from R];rfl
def jp:Value->Bool|.bool b=>b|_=>a7
def KR{A:cr}{s:bv}(b:Bool):EqAt A s (.bool b) (.bool J) b:=by
 have r:RelV (.bl b) (.bool b):=rfl;have R:RelV (.bl J) (.bool J):=rfl;have q:=KL (A:=A) (s:=s) r R rfl rfl;have e:KQ (.bl b) (.bl J)=b:=by cases b<;>rfl
 rw[e]at q;exact q
theorem uJ:∀(bs:List Bool),(bs.map ad0).countP jp=bs.count J|[]=>rfl|b::t=>by rw[aY,List.countP_cons,uJ t,List.count_cons];cases b<;>rfl
def Iy:Ca X "list.count" λx xs H Q=>∃(l:Addr)(bs:List Bool),x=.ref l/\xs=[.bl J]/\H l=O (.lst (bs.map V.bl))/\Q (.int (bs.count J:Nat)) H:=by
 intro p s σ H x xs v U Q I R r h;obtain⟨l,bs,rfl,rfl,d,q⟩:=h;cases R;obtain⟨u,rfl,e⟩:=r.one;obtain rfl:u=ad0 true:=e;obtain⟨_,i,n,f,o⟩:=I.di l _ d;obtain rfl:=Ay f;refine eO q_ ⟨_,o,rfl⟩ PySem.F.entry_list_count (PySem.F.args_list_count_2 _ _) (list_countAt l (bs.map ad0).toArray n af #[] (.bool J) jp) ⟨o,λy g=>?_,⟨.int _,H,I.tok _,⟨_,rfl⟩,?_⟩⟩
 ·have c:y∈bs.map ad0:=by simpa using g
  obtain⟨b,_,rfl⟩:=bL.mp c;exact KR b
 ·rw[show(bs.map ad0).toArray.toList=bs.map ad0 from rfl,uJ];exact q
def IA:Ca X "list.index" λx xs H Q=>∃(l:Addr)(bs:List Bool)(j:Nat),x=.ref l/\xs=[.bl J]/\H l=O (.lst (bs.map V.bl))/\j<1000/\bs[j]?=O J/\(∀m,m<j->bs[m]?=O a7)/\Q (.int (j:Nat)) H:=by
 intro P s σ H x xs v T Q I R r h;obtain⟨l,bs,j,rfl,rfl,f,g,i,B,q⟩:=h;cases R;obtain⟨u,rfl,k⟩:=r.one;obtain rfl:u=ad0 true:=k;obtain⟨_,D,n,G,o⟩:=I.di l _ f;obtain rfl:=Ay G;obtain⟨U,t⟩:=ai.mp i;refine eO r_ ⟨_,o,rfl⟩ PySem.F.entry_list_index (PySem.F.args_list_index_2 _ _) (PySem.MeetsSeq.list_index l (bs.map ad0).toArray n (.bool J) jp (λy K=>?_) j (by simpa using U) (by lia) ?_ λm L c=>?_) ⟨o,⟨.int _,H,I.tok _,⟨_,rfl⟩,q⟩⟩
 ·have d:y∈bs.map ad0:=by simpa using K
  obtain⟨b,_,rfl⟩:=bL.mp d;intro p w A E S M N;exact KR (A:=A) (s:=S) b p w E M N
 ·simp[t,jp]
 ·have e:m<bs.length:=by simpa using L
  have z:=B m c;rw[aE e]at z;simp[cU z,jp]
def WM:c7 "set"=O (.type "set"):=by ext
end L2
namespace L2
def Gq{X:Cx}{tg iter F:Expr}{G:List Expr}{a:Scope}{pos acz py:Pos}{U:List Str}{wi:TI}{g:TG}{tc:TT}{te:TE}{Z:tSt->tSt}{i0:Nat}{Y:Str}(hN0:X.N.Nodup)(hi0:X.N[i0]?=O Y)(hx0:Loc X.env.scope Y)(S:gG X U a)(A5:X.calm)(hσ:∀σ:tSt,σ.length=X.N.length->qZ X U a σ (Z σ))(hi:PI X tg iter wi)(hg:∀fp B C,PG (gC X U a fp B C) tg g)(hc:∀fp B C,pY (gC X U a fp B C) G tc)(he:∀fp B C,PE (gC X U a fp B C) F te)(hs:autoParam (∀x,hG iter X.env x=pure x) hY)(hsw:autoParam (gZ (.ListComp F [⟨tg,iter,G,0⟩] a pos) (O (.Name Y py)) acz.line X.env=pure J) o0)(hf0:autoParam (X.fn Y=J\/X.env.scope.names.lookup Y=O .local) ib):PS X (.Assign [.Name Y py] (.ListComp F [⟨tg,iter,G,0⟩] a pos) acz) (BV (BW wi g tc te Z) (kM i0)):=by
 intro P s σ H D I h;have j9:∀y∈a.names,y.2=.free->∃c,X.env.cells.lookup y.1=O c:=λy hy hk=>I.ok.has y.1 (.inl (S.fre y hy hk));have sub:=mP (cells:=X.env.cells) (names:=a.names) (acc:=[]) j9 (λx c e=>by cases e);rw[exec_Assign_Name_used _ _ _ _ hsw];refine aa (Ad (aa ?_));show bb _ X.A (do let _<-comprehension (.ListComp F [⟨tg,iter,G,0⟩] a pos) a X.env _ (newList []) a7 (eval iter X.env) (O (assign (.Name Y py) X.env))) _ _ s;refine aa (dB (Wj (use:=O (assign (.Name Y py) X.env)) (Q:=λ_ s'=>∃k l,Inv X P k l s'/\D.nx k l) rfl hs (uG j9) S.kind S.loc ?_) (λ_ s' hq=>au (au hq)) λ_ _ e=>e);refine(dh (hi P s σ H _ I h) λv s1 h1=>dh h1 λitv s2 h2=>?_);obtain⟨it,fp,tn,j,H2,rfl,I2,T,JN,f2,h2⟩:=h2;obtain⟨W,⟨m0,w0⟩,turn⟩:=h2 s2.heap.objs.size I2.fresh;have lt2:∀b∈fp,b<s2.heap.objs.size:=λb f=>by obtain⟨o,ho,_⟩:=T.obj _ _ JN b f;exact aN ho
 refine bZ (Xz S.D3 (by intro y hy;simp at hy) (λh₁ pq px=>?_) S.kind);dsimp only at pq px⊢;have I3:Inv X P σ (cQ H2 s2.heap.objs.size (.lst [])) {s2 with heap:=s2.heap.push {cls:=.type "list",data:=.seq ([]:List Value).toArray}}:=I2.Rz (t':=s2.toks) (ys:=[]) .nil (bG _);generalize hs3:({s2 with heap:=s2.heap.push {cls:=.type "list",data:=.seq ([]:List Value).toArray}}:bv)=s3 at I3;have e3:s2.heap.push {cls:=.type "list",data:=.seq ([]:List Value).toArray}=s3.heap:=by rw[<-hs3]
 have mi:s3.heap.objs.size=s2.heap.objs.size+1:=by rw[<-e3,fJ]
 have Z6:∀b o,s2.heap.get? b=O o->s3.heap.get? b=O o:=λb o e=>by rw[<-e3];exact aj _ e
 have f3:∀b∈fp,mm X P (cQ H2 s2.heap.objs.size (.lst [])) b:=λb f=>by obtain⟨q1,q2⟩:=f2 b f;exact⟨by rw[bC (bu (lt2 b f))];exact q1,q2⟩
 have lt3:∀b∈fp,b<s3.heap.objs.size:=λb f=>by rw[mi];exact pL (lt2 b f)
 rw[e3]at pq px⊢;have up1:∀b o,s3.heap.get? b=O o->h₁.get? b=O o:=λb o e=>px.extBut b o (bu (aN e)) (aj _ e);have XC:h₁.Ns s3.heap.objs.size λ_=>af:=by have q:=pq;simpa using q
 have I4:Inv (gC X U a fp s3 (cQ H2 s2.heap.objs.size (.lst []))) [] (Z σ) (cQ H2 s2.heap.objs.size (.lst [])) {s3 with heap:=h₁,toks:=s2.toks}:=AG S I3 f3 lt3 (hσ σ I.len) XC up1;have st4:tn 0 h₁:=T.keep _ _ _ JN λb f o e=>up1 b o (Z6 b o e);generalize E:gC X U a fp s3 (cQ H2 s2.heap.objs.size (.lst []))=t at I4;have xP:t.prog=X.prog:=by rw[<-E];rfl
 have xw:t.w=X.w:=by rw[<-E];rfl
 have xK:t.K=X.K:=by rw[<-E];rfl
 have xA:t.A=X.A:=by rw[<-E];rfl
 have xc:t.calm=true:=by rw[<-E];exact A5
 have xx:t.xe=λ_ _=>False:=by rw[<-E];rfl
 have xe:t.env=compEnvC a (oA X.env.cells a.names []) s3.heap.objs.size X.env:=by rw[<-E];rfl
 have hg':PG t tg g:=by rw[<-E];exact hg _ _ _
 have HZ:pY t G tc:=by rw[<-E];exact hc _ _ _
 have he':PE t F te:=by rw[<-E];exact he _ _ _
 have KS:t.ex=fp:=by rw[<-E];rfl
 have fs0:t.fs=oF X.stack:=by rw[<-E];rfl
 have pn0:t.pn=[]:=by rw[<-E];rfl
 have s00:t.s₀=s3:=by rw[<-E];rfl
 have H00:t.H₀=cQ H2 s2.heap.objs.size (.lst []):=by rw[<-E];rfl
 have R0:=I4.ok;have vQ:∀{l:Hp},(∀b∈fp,l b=af)->∀b∈fp,mm t [] l b:=λ{l}hn b f=>by obtain⟨_,q1,q2,q3,q4,q5⟩:=f3 b f;refine⟨hn b f,(R0.KU b (by rw[KS];exact f)).1,R0.uU b (by rw[KS];exact f),.inl (by rw[KS];exact f),(R0.KU b (by rw[KS];exact f)).2,λp hp=>?_⟩;rw[pn0]at hp;exact absurd (show p∈([]:ce)from hp) (by simp)
 have fin:∀(s':bv)(k:tSt)(l:Hp),Inv t [] k l s'->kM i0 (.ref s2.heap.objs.size) σ l D.nx->compPost (bn X.prog X.w) X.A X.xe (O (assign (.Name Y py) X.env)) (λ_ s'=>∃k l,Inv X P k l s'/\D.nx k l) (.ref s2.heap.objs.size) s3.heap.objs.size (.ok .next) s':=λs' k l I' q=>by
  have hC:t.env.locals=s3.heap.objs.size:=by rw[xe];rfl
  obtain⟨m,hm,_⟩:=id I'.loc;rw[hC]at hm;have un:=I'.base;rw[fs0,KS,s00,H00]at un;have pj:l s3.heap.objs.size=none:=by rw[<-hC];exact I'.free
  have DH:kZ X.prog X.w l s'.heap:=by rw[<-xP,<-xw];exact I'.di
  have IX:Inv X P σ l s':=by
   refine I3.Fe (s':=s') (ch:=fp) ?_ un DH I'.bare λb f=>?_;·have z:=I'.os;rw[s00]at z;exact z
   ·obtain⟨_,q1,q2,q3,q4,q5⟩:=f3 b f;exact⟨q3,q1,q4,q5⟩
  have lt:∀b o,s3.heap.get? b=O o->b≠s3.heap.objs.size:=λb o e=>bu (aN e);have O5:mm X P l s3.heap.objs.size:=I3.HU (aB _) pj;obtain⟨oC,esC,epC,hoC,hrC⟩:=id hm;have IP:=IX.pinned (fp:=[s3.heap.objs.size]) (λb f=>by rw[aQ.mp f];exact O5) (λb f=>by rw[aQ.mp f];exact⟨oC,hoC,λv g=>by simp_all⟩);refine wpAny_assign_Name (qG IP hN0 hi0 hx0 (v:=.ref s2.heap.objs.size) rfl (λsa Ia=>?_) hf0);have hoA:sa.heap.get? s3.heap.objs.size=O oC:=(Ia.pin (s3.heap.objs.size,oC) (aR _ (aR _ (fE (by simp) hoC)))).1;refine⟨m,hm.at' λo e=>?_,λh' QX=>⟨_,l,?_,q⟩⟩;·rw[hoC]at e;injection e with e;exact e▸hoA
  ·obtain⟨q0,q1,q2,q3,q4,q5⟩:=O5;have Iu:=Ia.fG;have Cj:∀b o,b ∉[s3.heap.objs.size]->sa.heap.get? b=O o->h'.get? b=O o:=λb o f e=>(QX.2 b (by simpa using f)).trans e;refine Iu.step (g':=sa.gens) (t':=sa.toks) (d':=sa.drawn) (ch:=[s3.heap.objs.size]) (λb f=>?_) (λb o _ _ f e _=>Cj b o f e) (λb o _ _ f e _=>⟨o.slots,Cj b o f e⟩) (λb o _ _ n=>n) (λb o f e=>⟨o,Cj b o f e⟩) (λ_ _ e=>e) (λ_ _ _ e=>e) (λb ps e=>⟨#[],by rw[e];simp⟩) (λm' hm'=>hm'.at' λo e=>Cj _ o (by simpa using bY q1) e) (tS Iu.di q0 QX) Iu.bare;rw[aQ.mp f];exact⟨q3,q1,q4,q5⟩
 have R:eH (bn X.prog X.w) X.A (.compLoop (.ListComp F [⟨tg,iter,G,0⟩] a pos) 0 (.ref it) (.ref s2.heap.objs.size) (compEnvC a (oA X.env.cells a.names []) s3.heap.objs.size X.env)) (compPost (bn X.prog X.w) X.A X.xe (O (assign (.Name Y py) X.env)) (λ_ s'=>∃k l,Inv X P k l s'/\D.nx k l) (.ref s2.heap.objs.size) s3.heap.objs.size) {s3 with heap:=h₁,toks:=s2.toks}:=by
  refine zV (λn s'=>∃i k ys l,Inv t [] k l s'/\tn i s'.heap/\(∀b∈fp,l b=af)/\W i n k ys l) ?_ m0 ⟨0,_,[],_,I4,st4,λb f=>(f3 b f).1,w0⟩;rintro n s5 ⟨i,L,ys,H5,I5,TC,Xk,w5⟩;obtain⟨oG,hh⟩:=turn i n L ys H5 w5;rcases hh with ⟨stop,q⟩|⟨go,Ae,step⟩;·have d:=T.done t xP xw xK xc i [] s5 L H5 (λ_ _=>False) I5 (vQ Xk) TC stop;rw[xA]at d;exact dh d λr s6 ⟨hr,I6⟩=>.inl ⟨hr,fin s6 L H5 I6 q⟩
  ·have d:=T.item t xP xw xK xc i [] s5 L H5 (λ_ _=>False) I5 (vQ Xk) TC go;rw[xA]at d;refine dh d λr s6 ⟨u,hr,h6⟩=>.inr ⟨u,hr,dh h6 λ_ s7 x=>?_⟩;obtain⟨x,H7,I7,r7,y7,ZT,fr7⟩:=x;have I7':=I7.pinned (vQ fr7) (T.obj _ _ ZT);have a1:=hg' _ s7 L H7 x u _ I7' r7 (step x H7 y7);rw[xP,xw,xA,xe,xx]at a1;refine dh a1 λ_ s8 M=>?_;obtain⟨M,H8,I8,q8⟩:=M;have a2:=HZ _ s8 M H8 _ I8 q8;rw[xP,xw,xA,xe,xx]at a2;refine dh a2 λok s9 H9=>?_;obtain⟨H9,I9,q9⟩:=H9;have back:∀{σz:tSt}{Hz:Hp}{sz:bv},Inv t ([]++nq fp s7.heap) σz Hz sz->tn (i+1) sz.heap/\∀b∈fp,Hz b=none:=λ{σz Hz sz}Iz=>by refine⟨T.keep _ _ _ ZT λb f o e=>(Iz.pin (b,o) (aR _ (aR _ (fE f e)))).1,λb f=>?_⟩;obtain⟨o,e,_⟩:=T.obj _ _ ZT b f;exact(Iz.pin (b,o) (aR _ (aR _ (fE f e)))).2.1
   cases ok with|false=>obtain⟨m',hm,w'⟩:=q9;rw[bE aK];exact⟨m',hm,i+1,M,ys,H9,I9.fG,(back I9).1,(back I9).2,w'⟩|true=>rw[bx rfl]at q9⊢;have a3:=he' _ s9 M H9 _ I9 q9;rw[xP,xw,xA,xe,xx]at a3;refine dh a3 λy sa yv=>?_;obtain⟨yv,Ha,Ia,ra,K5,m',hm,w'⟩:=yv;have a4:=jG (X:=t) _ sa M Ha (.ref s2.heap.objs.size) [yv] (.ref s2.heap.objs.size) [y] (λv l=>l=cQ Ha s2.heap.objs.size (.lst (ys++[yv]))) Ia rfl (.cons ra .nil) ⟨_,ys,yv,rfl,rfl,K5,Ae,rfl⟩;rw[xP,xw,xA,xx]at a4;refine dh a4 λ_ sb Hb=>?_;obtain⟨_,Hb,Ib,_,eb⟩:=Hb;subst eb;exact⟨m',hm,i+1,M,ys++[yv],_,Ib.fG,(back Ib).1,(back Ib).2,w'⟩
 have es:({s2 with heap:=h₁,toks:=s2.toks+([]:List (Str×Value)).length}:bv)={s3 with heap:=h₁,toks:=s2.toks}:=by rw[<-hs3];rfl
 refine D' ?_ ?_;·exact es▸R
 ·exact T.self _ 0 _ _ _ st4 (es▸R)
end L2
namespace PySem
open Builtin Builtin.Str
def HX(x y z:Str)(l:Nat)(a:l<=x.length+1):(glued z (partsBetween x (occurrences x y 0 x.length l) y.length)).length<=x.length+(x.length+1)*z.length:=by
 have h1:=L4 x y 0 x.length l;have h:(glued y (partsBetween x (occurrences x y 0 x.length l) y.length)).length=x.length:=by rw[Pl]
 rw[size_glued,y0,Nat.add_sub_cancel]at h;rw[size_glued,y0,Nat.add_sub_cancel];have H:(occurrences x y 0 x.length l).length*z.length<=(x.length+1)*z.length:=XD _ (by omega);omega
end PySem
namespace L2
open PySem.SeqAt PySem.MeetsSeq PySem.Builtin PySem.Builtin.Str
variable{e:Expr}{pos:Pos}{M:Model}{A:cr}{E:dC}{s:bv}{env:Env}{Q:List Value->bv->Prop}
def BS{es:List Expr}(H:cm e)(h:bb M A (PySem.eval e env) (λv S=>bb M A (spliced (db pos (ci es env))) (λvs a=>Q (v::vs) a) E S) E s):bb M A (spliced (db pos (ci (e::es) env))) Q E s:=by rw[c8 H];show bb _ _ (spliced ((a7,PySem.eval e env)::db pos (ci es env))) _ _ s;exact Ai h
def Tt(h:Q [] s):bb M A (spliced (db pos (ci [] env))) Q E s:=Cq h
def u_(X:Cx)(e:Expr)(t:TT):Prop:=∀(p:ce)(s:bv)(σ:tSt)(H:Hp)(Q:Bool->Hp->Prop),Inv X p σ H s->t σ H Q->bb (bn X.prog X.w) X.A (isTrue e X.env (eval e X.env)) (λb S=>1<=S.toks/\TP X p σ Q b S) X.xe s
abbrev Px(X:Cx)(e:Expr)(t:TE):Prop:=Y' 1 X e t
section
variable{X:Cx}{a b c:Expr}{ta tb te:TE}
end
end L2
namespace L2
variable{y:Str}{X:Cx}{e:Expr}{p1 p2:Pos}
theorem Dj{c:Nat}:∀{a b X Y:List Nat},c∉a->c∉b->a++c::X=b++c::Y->a=b/\X=Y|[],[],X,Y,_,_,h=>⟨rfl,by simpa using h⟩|[],y::b,X,Y,_,H,h=>by simp at h;exact absurd h.1 λe=>H (by rw[<-e];exact aw)|x::a,[],X,Y,d,_,h=>by simp at h;exact absurd h.1 λe=>d (by rw[e];exact aw)|x::a,y::b,X,Y,d,H,h=>by simp only[fK,List.cons.injEq]at h;obtain⟨E,f⟩:=Dj (λz=>d (aq _ z)) (λz=>H (aq _ z)) h.2;exact⟨by rw[h.1,E],f⟩
def da{x:Str}(h:x.cps.toList=y.cps.toList):x=y:=by apply Str.ext';exact Array.toList_inj.mp h
def dv(c:Nat)(x y:Str)(r:List Str):(ab8 ⟨#[c]⟩ (x::y::r)).cps.toList=x.cps.toList++c::(ab8 ⟨#[c]⟩ (y::r)).cps.toList:=by show(x++⟨#[c]⟩++ab8 ⟨#[c]⟩ (y::r):Str).cps.toList=_;rw[jX,jX];simp
theorem Be{c:Nat}:∀{as bs:List Str},as ≠[]->bs ≠[]->(∀x∈as,c∉x.cps.toList)->(∀x∈bs,c∉x.cps.toList)->ab8 ⟨#[c]⟩ as=ab8 ⟨#[c]⟩ bs->as=bs|[],_,h,_,_,_,_=>absurd rfl h|_,[],_,h,_,_,_=>absurd rfl h|[a],[b],_,_,_,_,h=>by have e:a=b:=h;rw[e]|[a],b::B::r,_,_,H,_,h=>by exfalso;have e:a=ab8 ⟨#[c]⟩ (b::B::r):=h;refine H a aw ?_;rw[e,dv];simp|a::A::r,[b],_,_,_,d,h=>by exfalso;have e:b=ab8 ⟨#[c]⟩ (a::A::r):=h.symm;refine d b aw ?_;rw[e,dv];simp|a::A::r,b::B::R,_,_,H,d,h=>by have e:=bU (λs:Str=>s.cps.toList) h;simp only[dv]at e;obtain⟨E,g⟩:=Dj (H a aw) (d b aw) e;have i:=Be (c:=c) (as:=A::r) (bs:=B::R) (by simp) (by simp) (λx f=>H x (aq _ f)) (λx f=>d x (aq _ f)) (da g);rw[da E,i]
def vL{c:Nat}{as:List Str}(h:as ≠[])(H:∀x∈as,c∉x.cps.toList):ac9 (ab8 ⟨#[c]⟩ as) ⟨#[c]⟩=as:=by refine Be (c:=c) ?_ h (StrLaws.split_free _ c) H (StrLaws.join_split _ _);intro e;have:=split_pos (ab8 ⟨#[c]⟩ as) ⟨#[c]⟩;rw[e]at this;simp at this
def vX(z:Str)(ws:List Str):ah5 z ws=ab8 z ws:=No z ws
theorem u9(c:Nat):∀(ls:List Str),ab8 ⟨#[]⟩ (ls.map λ(l:Str)=>l++⟨#[c]⟩)=ab8 ⟨#[c]⟩ (ls++[⟨#[]⟩])|[]=>rfl|[x]=>by apply da;rw[show[x]++[(⟨#[]⟩:Str)]=[x,⟨#[]⟩]from rfl,dv];show(x++⟨#[c]⟩:Str).cps.toList=x.cps.toList++c::([]:List Nat);rw[jX];simp|x::y::r=>by have i:=u9 c (y::r);apply da;rw[show(x::y::r++[(⟨#[]⟩:Str)])=x::y::(r++[⟨#[]⟩])from rfl,dv];rw[show(y::(r++[(⟨#[]⟩:Str)]))=y::r++[⟨#[]⟩]from rfl,<-i];show(x++⟨#[c]⟩++⟨#[]⟩++ab8 ⟨#[]⟩ ((y::r).map λ(l:Str)=>l++⟨#[c]⟩):Str).cps.toList=_;rw[jX,jX,jX];simp
def cX(x y:Str):(x++y).length=x.length+y.length:=by show(x.cps++y.cps).size=x.cps.size+y.cps.size;simp
def PE.one{X:Cx}{e:Expr}{t:TE}(h:PE X e t):Px X e t:=h.n 1
def Px.imp{t t':TE}(h:Px X e t)(i:∀σ H Q,t' σ H Q->t σ H Q):Px X e t':=λp s σ H Q I a q=>h p s σ H Q I a (i _ _ _ q)
def u_.imp{t t':TT}(h:u_ X e t)(i:∀σ H Q,t' σ H Q->t σ H Q):u_ X e t':=λp s σ H Q I q=>h p s σ H Q I (i _ _ _ q)
def acN(y w:Str)(t:TE):TE:=λσ H Q=>t σ H λx h=>∃z:Str,x=.str z/\z.length<=1000000/\Q (.str (ad7 z y w)) h
def Sb{o:Expr}{t:TE}{w:Str}{j f:Nat}{b5 d:Pos}(g:Px X o t)(b:(y==w)=a7)(i:w.length<=10)(q:ge o "replace" X.env (eval o X.env)=eval o X.env)(m:(b5.endLine==d.line)):Px X (.Call (.Attribute o "replace" b5) [.Constant (.str y) j p1,.Constant (.str w) f p2] [] d) (acN y w t):=by intro p s σ H Q I c h;refine sR q rfl m rfl (zS c (g p s σ H _ I c h) λv s1 T l=>?_);obtain⟨x,n,r,R,z,rfl,A,u⟩:=l;obtain⟨B,rfl⟩:=R;refine⟨"str","str.replace",jV,PySem.F.slot_str_replace,PySem.F.type_str_replace,oj _ _ _,(λa e=>by cases e),?_⟩;refine jS (fF rfl) (lg ?_);refine BS rfl (Ah ?_);refine BS rfl (Ah ?_);refine Tt ?_;have C:(z.length+1)*w.length<=(z.length+1)*10:=Db _ i;exact SC.replace (iD (by omega)) (iD (by show 0<s1.toks+1;omega)) (bu (by show s1.toks<s1.toks+1;omega)) b (by omega) λD k=>⟨.str _,n,r.tok _,⟨_,rfl⟩,u⟩
def SN{c a b:Expr}{t:TT}{T tb:TE}{pos:Pos}(k:u_ X c t)(l:PE X a T)(m:Px X b tb):kH X [.If c [.Return (O a) p1] [] pos,.Return (O b) p2] (ZZ t (Oh T) (Oh tb)):=by intro p s σ H D I h;refine kF (wpAny_If (dh (k p s σ H _ I h) λd s1 n=>?_));obtain⟨n,g,j,Q⟩:=n;cases d with|true=>refine kF (Cz (dh (l p s1 σ g _ j Q) λv s2 x=>?_));obtain⟨x,f,i,r,q⟩:=x;exact⟨x,σ,f,i,r,q⟩|false=>refine gA ?_;refine kF (Cz (dh (m p s1 σ g _ j n Q) λv s2 x=>?_));obtain⟨x,f,i,r,q⟩:=x;exact⟨x,σ,f,i,r,q⟩
end L2
namespace F
open L2
variable{K:Frag}{a p:Addr}{vs v:List V}{u o:HO}{i:Nat}{d:Dv}{σ:Es}{τ:tSt}
inductive Pv where|non|bl(b:Bool)|int(i:Int)|str(x:Str)|tup(xs:List Pv)|lst(xs:List Pv)|scr(xs:List Pv)|dct(ks vs:List Pv)|obj(C:Nat)(fs:List Pv)|fn(i:Nat)|ty(c:Nat)
inductive Dv where|p(x:Pv)|r(i:Nat)
inductive Ob where|lst(xs:List Pv)|df(xs:List Dv)|dct(ks vs:List Pv)|ins(C:Nat)(fs:List Dv)
noncomputable def kW:Nat->String|0=>"str"|1=>"int"|2=>"bool"|3=>"tuple"|_=>"list"
abbrev Hs:=List Ob
abbrev Es:=List (Option Dv)
set_option genInjectivity false in
structure Tx where
 K:Frag
 mg:b'
 fI:Nat->Str
 ca:Nat->Addr
 fl:Nat->List Str
 G:List Addr
def NX{H:Hp}{P:Prop}(s:P/\Rd H a (.lst vs)\/gN K (λ_=>af) a vs):gN K H a vs:=s.elim (λh=>.inl h.2) λh=>h.elim (λz=>by rcases z with z|⟨_,z⟩<;>cases z) .inr
variable(Z:Tx)(M:List Addr)(H:Hp)
mutual
def bR:Pv->V->Prop|.non,v=>v=.non|.bl b,v=>v=.bl b|.int i,v=>v=.int i|.str x,v=>v=.str x|.tup xs,v=>∃a vs,v=.ref a/\eL Z.K H a vs/\aO xs vs|.lst xs,v=>∃a vs,v=.ref a/\(a∉M/\a∉Z.G)/\H a=O (.lst vs)/\aO xs vs|.scr xs,v=>∃a vs,v=.ref a/\((a∉M/\a∉Z.G)/\Rd H a (.lst vs)\/gN Z.K (λ_=>af) a vs)/\aO xs vs|.dct ks us,v=>∃a B,v=.ref a/\(a∉M/\a∉Z.G)/\H a=O (.dK B)/\aO ks (B.map λp=>kV p.1)/\aO us (B.map (·.2))|.obj C fs,v=>∃a D fv,v=.ref a/\(a∉M/\a∉Z.G)/\H a=O (.ins (Z.ca C) D fv)/\fv.map (·.1)=(Z.fl C).take fs.length/\aO fs (fv.map (·.2))|.fn i,v=>∃a,Z.mg (Z.fI i)=O (.ref a)/\v=.ref a|.ty c,v=>v=.ty (kW c)def aO:List Pv->List V->Prop|[],[]=>True|x::xs,v::vs=>bR x v/\aO xs vs|_,_=>False
end
def cZ:Dv->V->Prop|.p x,v=>bR Z M H x v|.r i,v=>∃a,M[i]?=O a/\v=.ref a
def cj:List Dv->List V->Prop|[],[]=>True|x::X,v::vs=>cZ Z M H x v/\cj X vs|_,_=>False
def we(a:Addr):Ob->Prop|.lst x=>∃vs,H a=O (.lst vs)/\aO Z M H x vs|.df ds=>∃vs,H a=O (.lst vs)/\cj Z M H ds vs|.dct k U=>∃b,H a=O (.dK b)/\aO Z M H k (b.map λp=>kV p.1)/\aO Z M H U (b.map (·.2))|.ins C fs=>∃D f,H a=O (.ins (Z.ca C) D f)/\H D=O (.own a)/\f.map (·.1)=(Z.fl C).take fs.length/\cj Z M H fs (f.map (·.2))
structure bq(h:Hs):Prop where
 nd:M.Nodup
 dj:∀a∈M,a∉Z.G
 ln:M.length=h.length
 gs:∀b∈Z.G,∃o,H b=O o
 ob:∀(i:Nat)a o,M[i]?=O a->h[i]?=O o->we Z M H a o
structure dw(σ:Es)(τ:tSt):Prop where
 ln:σ.length=τ.length
 at':∀(i:Nat)d,σ[i]?=O (O d)->∃v,τ[i]?=O (O v)/\cZ Z M H d v
structure Ext(M:List Addr)(H:Hp)(M':List Addr)(H':Hp):Prop where
 pre:∃l,M'=M++l
 keep:∀b o,b∉M->H b=O o->H' b=O o
 new:∀b∈M',b∉M->H b=af
section
variable{Z:Tx}{M M' M₂:List Addr}{H H' H₂:Hp}{h h':Hs}
def Ext.refl:Ext M H M H:=⟨⟨[],(aM M).symm⟩,λ_ _ _ h=>h,λ_ h n=>absurd h n⟩
def Ext.trans(a:Ext M H M' H')(b:Ext M' H' M₂ H₂):Ext M H M₂ H₂:=by
 obtain⟨l,rfl⟩:=a.pre;obtain⟨L,rfl⟩:=b.pre;have k:∀c o,c∉M->H c=O o->c∉M++l:=λc o e h z=>by rw[a.new c z e]at h;cases h
 refine⟨⟨l++L,by rw[aA]⟩,λc o e h=>b.keep c o (k c o e h) (a.keep c o e h),λc e hn=>?_⟩;by_cases z:c∈M++l;·exact a.new c z hn
 ·cases f:H c with|none=>rfl|some o=>have:=b.new c e z;rw[a.keep c o hn f]at this;cases this
noncomputable def zd:HO->Bool|.lst _=>J|.dK _=>J|.ins _ _ _=>J|_=>a7
def bq.there(r:bq Z M H h)(g:a∈M):∃o,H a=O o/\zd o=true:=by
 obtain⟨i,f⟩:=wt g;have l:i<h.length:=by rw[<-r.ln];exact(ai.mp f).1
 have b:=r.ob i a h[i] f (aE l);cases c:h[i]with|lst x=>rw[c]at b;obtain⟨_,e,_⟩:=b;exact⟨_,e,rfl⟩|df x=>rw[c]at b;obtain⟨_,e,_⟩:=b;exact⟨_,e,rfl⟩|dct k vs=>rw[c]at b;obtain⟨_,e,_⟩:=b;exact⟨_,e,rfl⟩|ins C fs=>rw[c]at b;obtain⟨_,_,e,_⟩:=b;exact⟨_,e,rfl⟩
def bq.no(r:bq Z M H h){a:Addr}{o:HO}(e:H a=O o)(n:zd o=a7):a∉M:=λz=>by obtain⟨u,b,c⟩:=r.there z;rw[e]at b;cases b;rw[n]at c;cases c
def bq.fresh(r:bq Z M H h)(b:H p=af):p∉M:=λz=>by obtain⟨o,e,_⟩:=r.there z;rw[b]at e;cases e
def bq.o9(r:bq Z M H h)(b:H p=af):p∉M/\p∉Z.G:=⟨r.fresh b,λz=>by obtain⟨o,e⟩:=r.gs p z;rw[b]at e;cases e⟩
def bq.Mg(r:bq Z M H h)(b:a∈M):¬Rd H a (.tup vs):=λz=>by
 rcases z with z|⟨q,z⟩;·exact r.no z rfl b
 ·exact r.no z rfl b
structure Mv(M:List Addr)(H:Hp)(M':List Addr)(H':Hp):Prop where
 nt:∀a∈M,∀vs,¬Rd H a (.tup vs)keep:∀b o,b∉M->H b=O o->H' b=O o
 new:∀b∈M',b∉M->H b=af
def Mv.rd(m:Mv M H M' H')(b:a∉M)(r:Rd H a u):Rd H' a u:=by
 rcases r with r|⟨q,r⟩;·exact .inl (m.keep _ _ b r)
 ·exact .inr ⟨q,m.keep _ _ b r⟩
def Mv.sqT(m:Mv M H M' H')(s:eL K H a vs):eL K H' a vs:=by
 rcases s with r|r;·exact .inl (m.rd (λz=>m.nt a z vs r) r)
 ·exact .inr r
def Mv.ni(m:Mv M H M' H')(b:a∉M)(r:H a=O o):a∉M':=λz=>by rw[m.new a z b]at r;cases r
mutual
theorem bR.mv(m:Mv M H M' H'):∀{x:Pv}{v:V},bR Z M H x v->bR Z M' H' x v
 |.non,_,h=>by unfold bR at*;exact h|.bl _,_,h=>by unfold bR at*;exact h|.int _,_,h=>by unfold bR at*;exact h|.str _,_,h=>by unfold bR at*;exact h|.fn _,_,h=>by unfold bR at*;exact h|.ty _,_,h=>by unfold bR at*;exact h|.tup xs,_,h=>by unfold bR at*;obtain⟨a,vs,e,s,q⟩:=h;exact⟨a,vs,e,m.sqT s,aO.mv m q⟩|.lst xs,_,h=>by unfold bR at*;obtain⟨a,vs,e,n,s,q⟩:=h;exact⟨a,vs,e,⟨m.ni n.1 s,n.2⟩,m.keep _ _ n.1 s,aO.mv m q⟩|.scr xs,_,h=>by
  unfold bR at*;obtain⟨a,vs,e,s,q⟩:=h;rcases s with ⟨n,s⟩|s;·exact⟨a,vs,e,.inl ⟨⟨s.elim (m.ni n.1) λ⟨_,r⟩=>m.ni n.1 r,n.2⟩,m.rd n.1 s⟩,aO.mv m q⟩
  ·exact⟨a,vs,e,.inr s,aO.mv m q⟩|.dct ks us,_,h=>by unfold bR at*;obtain⟨a,b,e,n,s,q,Q⟩:=h;exact⟨a,b,e,⟨m.ni n.1 s,n.2⟩,m.keep _ _ n.1 s,aO.mv m q,aO.mv m Q⟩|.obj C fs,_,h=>by unfold bR at*;obtain⟨a,D,fv,e,n,s,l,q⟩:=h;exact⟨a,D,fv,e,⟨m.ni n.1 s,n.2⟩,m.keep _ _ n.1 s,l,aO.mv m q⟩theorem aO.mv(m:Mv M H M' H'):∀{xs:List Pv}{vs:List V},aO Z M H xs vs->aO Z M' H' xs vs|[],[],h=>by unfold aO at*;trivial|[],_::_,h=>by unfold aO at*;exact h|_::_,[],h=>by unfold aO at*;exact h|x::xs,v::vs,h=>by unfold aO at*;exact⟨bR.mv m h.1,aO.mv m h.2⟩end
theorem Ext.mv(e:Ext M H M' H')(r:bq Z M H h):Mv M H M' H':=⟨λ_ b _=>r.Mg b,e.keep,e.new⟩
theorem Ext.at(e:Ext M H M' H')(h:M[i]?=O a):M'[i]?=O a:=by obtain⟨l,rfl⟩:=e.pre;rw[aW (ai.mp h).1];exact h
theorem cZ.mv(m:Mv M H M' H')(at':∀(i:Nat)a,M[i]?=O a->M'[i]?=O a){v:V}(h:cZ Z M H d v):cZ Z M' H' d v:=by cases d with|p x=>exact bR.mv m h|r i=>obtain⟨a,b,c⟩:=h;exact⟨a,at' i a b,c⟩
theorem cj.mv(m:Mv M H M' H')(at':∀(i:Nat)a,M[i]?=O a->M'[i]?=O a):∀{ds:List Dv}{vs:List V},cj Z M H ds vs->cj Z M' H' ds vs|[],[],_=>trivial|[],_::_,h=>h|_::_,[],h=>h|_::_,_::_,h=>⟨cZ.mv m at' h.1,cj.mv m at' h.2⟩
theorem cZ.ext(r:bq Z M H h)(e:Ext M H M' H'){v:V}(q:cZ Z M H d v):cZ Z M' H' d v:=cZ.mv (e.mv r) (λ_ _=>e.at) q
theorem cj.ext(r:bq Z M H h)(e:Ext M H M' H'){d:List Dv}(q:cj Z M H d v):cj Z M' H' d v:=cj.mv (e.mv r) (λ_ _=>e.at) q
theorem bR.ext(r:bq Z M H h)(e:Ext M H M' H'){d:Pv}{v:V}(q:bR Z M H d v):bR Z M' H' d v:=bR.mv (e.mv r) q
theorem aO.ext(r:bq Z M H h)(e:Ext M H M' H'){d:List Pv}(q:aO Z M H d v):aO Z M' H' d v:=aO.mv (e.mv r) q
theorem dw.ext(q:dw Z M H σ τ)(r:bq Z M H h)(e:Ext M H M' H'):dw Z M' H' σ τ:=⟨q.ln,λi d b=>let ⟨v,c,q⟩:=q.at' i d b;⟨v,c,q.ext r e⟩⟩
theorem dw.set(q:dw Z M H σ τ){v:V}(f:cZ Z M H d v):dw Z M H (σ.set i (O d)) (τ.set i (O v)):=⟨by rw[bp,bp];exact q.ln,λj e b=>by
 by_cases c:i=j
 ·subst c;by_cases l:i<σ.length;·rw[cB l]at b;cases b;exact⟨v,by rw[cB (by rw[<-q.ln];exact l)],f⟩
  ·rw[kA (by rw[bp];lia)]at b;cases b
 ·rw[aG c]at b⊢;exact q.at' j e b⟩
theorem we.mv(m:Mv M H M' H')(at':∀(i:Nat)a,M[i]?=O a->M'[i]?=O a){o:Ob}(k:∀u,H a=O u->H' a=O u)(x:∀D,H D=O (.own a)->H' D=O (.own a))(h:we Z M H a o):we Z M' H' a o:=by cases o with|lst X=>obtain⟨vs,e,q⟩:=h;exact⟨vs,k _ e,aO.mv m q⟩|df X=>obtain⟨vs,e,q⟩:=h;exact⟨vs,k _ e,cj.mv m at' q⟩|dct s U=>obtain⟨b,e,q,Q⟩:=h;exact⟨b,k _ e,aO.mv m q,aO.mv m Q⟩|ins C fs=>obtain⟨D,f,e,n,c,q⟩:=h;exact⟨D,f,k _ e,x _ n,c,cj.mv m at' q⟩
theorem Ext.add(c:H p=af):Ext M H M (cQ H p o):=⟨⟨[],(aM M).symm⟩,λb u _ h=>by rw[bC (bS h c)];exact h,λb h n=>absurd h n⟩
theorem qL{H:Hp}{b:Addr}(h:∃q,H b=O q):∃q,cQ H p o b=O q:=by
 by_cases e:b=p;·subst e;exact⟨o,bF⟩
 ·rw[bC e];exact h
theorem bq.add(r:bq Z M H h)(c:H p=af):bq Z M (cQ H p o) h:=⟨r.nd,r.dj,r.ln,λb f=>qL (r.gs b f),λi a u g j=>we.mv ((Ext.add c).mv r) (λ_ _ z=>z) (λq e=>by rw[bC (bS e c)];exact e) (λD e=>by rw[bC (bS e c)];exact e) (r.ob i a u g j)⟩
theorem Ext.push(r:bq Z M H h)(c:H p=af):Ext M H (M++[p]) (cQ H p u):=⟨⟨[p],rfl⟩,λb o _ e=>by rw[bC (bS e c)];exact e,λb f n=>by
 rcases bf.mp f with z|z;·exact absurd z n
 ·rw[aQ.mp z];exact c⟩
theorem bq.push(r:bq Z M H h){o:Ob}(f:H p=af)(s:we Z (M++[p]) (cQ H p u) p o):bq Z (M++[p]) (cQ H p u) (h++[o]):=by
 refine⟨fk.mpr ⟨r.nd,by simp,λa j b l z=>?_⟩,λa j=>(bf.mp j).elim (r.dj a) λz=>by rw[aQ.mp z];exact(r.o9 f).2,by rw[ae,ae,r.ln];rfl,λb l=>qL (r.gs b l),λi a q c g=>?_⟩;·rw[aQ.mp l]at z;subst z;exact r.fresh f j
 ·by_cases m:i<M.length;·rw[aW m]at c;rw[aW (by rw[<-r.ln];exact m)]at g;exact we.mv ((Ext.push r f).mv r) (λ_ _=>(Ext.push (u:=u) r f).at) (λq e=>by rw[bC (bS e f)];exact e) (λD e=>by rw[bC (bS e f)];exact e) (r.ob i a q c g)
  ·rw[aP (by lia)]at c;rw[aP (by rw[<-r.ln];lia)]at g;rw[<-r.ln]at g;cases n:i-M.length with|zero=>rw[n]at c g;cases c;cases g;exact s|succ k=>rw[n]at c;cases c
theorem Ext.put(c:a∈M):Ext M H M (cQ H a u):=⟨⟨[],(aM M).symm⟩,λb o n e=>by rw[bC λz=>n (by rw[z];exact c)];exact e,λb h n=>absurd h n⟩
theorem bq.put(r:bq Z M H h){o:Ob}(c:M[i]?=O a)(n:we Z M (cQ H a u) a o):bq Z M (cQ H a u) (h.set i o):=by
 have m:a∈M:=aZ c;refine⟨r.nd,r.dj,by rw[bp];exact r.ln,λb k=>qL (r.gs b k),λj b q f g=>?_⟩;by_cases l:j=i
 ·subst l;rw[c]at f;cases f;have s:j<h.length:=by rw[<-r.ln];exact(ai.mp c).1
  rw[cB s]at g;cases g;exact n
 ·rw[aG (bY l)]at g;have k:b≠a:=λz=>l (by have t:=ai.mp f;have h4:=ai.mp c;obtain⟨L,E⟩:=t;obtain⟨l4,w⟩:=h4;exact(kC r.nd).mp (by rw[E,w,z]));exact we.mv ((Ext.put m).mv r) (λ_ _ z=>z) (λq e=>by rw[bC k];exact e) (λD e=>by rw[bC λz=>by rw[z]at e;exact r.no e rfl m];exact e) (r.ob j b q f g)
noncomputable def bD(k:Nat):Dv->Bool|.p _=>J|.r i=>decide (i<k)
def ζ(k:Nat):List Dv->Bool|[]=>J|d::r=>bD k d&&ζ k r
def bO(k:Nat):Ob->Bool|.lst _=>J|.df ds=>ζ k ds|.dct _ _=>J|.ins _ fs=>ζ k fs
def bH(k:Nat):Hs->Bool|[]=>J|o::r=>bO k o&&bH k r
def WF(k:Nat):Option Dv->Option Dv|some d=>if bD k d then O d else af|none=>af
def P5(k:Nat):Es->Es|[]=>[]|d::r=>WF k d::P5 k r
theorem J7{k:Nat}:∀{h:Hs},bH k h=J->∀o∈h,bO k o=J
 |[],_,o,b=>by cases b|q::r,e,o,b=>by
  simp only[bH,aI]at e;rcases aJ.mp b with z|z;·rw[z];exact e.1
  ·exact J7 e.2 o z
theorem Mv.cut(r:bq Z M H h)(k:Nat):Mv M H (M.take k) H:=⟨λ_ c _=>r.Mg c,λ_ _ _ e=>e,λb f n=>absurd (ie f) n⟩
theorem cZ.cut(r:bq Z M H h){k:Nat}{d:Dv}{v:V}(q:cZ Z M H d v)(b:bD k d):cZ Z (M.take k) H d v:=by cases d with|p x=>exact bR.mv (Mv.cut r k) q|r i=>obtain⟨a,c,e⟩:=q;have f:i<k:=aX b;exact⟨a,by rw[iZ f];exact c,e⟩
theorem cj.cut(r:bq Z M H h){k:Nat}:∀{ds:List Dv}{vs:List V},cj Z M H ds vs->ζ k ds->cj Z (M.take k) H ds vs|[],[],_,_=>trivial|[],_::_,q,_=>q|_::_,[],q,_=>q|_::_,_::_,q,b=>by simp only[ζ,aI]at b;exact⟨q.1.cut r b.1,cj.cut r q.2 b.2⟩
theorem bq.cut(r:bq Z M H h)(k:Nat)(b:bH k (h.take k)):bq Z (M.take k) H (h.take k):=by
 refine⟨r.nd.sublist (List.take_sublist k M),λa j=>r.dj a (ie j),by rw[c0,c0,r.ln],r.gs,λi a o f c=>?_⟩;have g:=J7 b o (aZ c);have m:i<k:=by have:=(ai.mp c).1;rw[c0]at this;lia
 rw[iZ m]at f c;have q:=r.ob i a o f c;cases o with|lst x=>obtain⟨vs,e,q⟩:=q;exact⟨vs,e,aO.mv (Mv.cut r k) q⟩|df x=>obtain⟨vs,e,q⟩:=q;exact⟨vs,e,q.cut r g⟩|dct s U=>obtain⟨B,e,q,Q⟩:=q;exact⟨B,e,aO.mv (Mv.cut r k) q,aO.mv (Mv.cut r k) Q⟩|ins C fs=>obtain⟨D,F,e,n,l,q⟩:=q;exact⟨D,F,e,n,l,q.cut r g⟩
theorem Ff{k:Nat}{d:Dv}:∀{σ:Es}{i:Nat},(P5 k σ)[i]?=O (O d)->σ[i]?=O (O d)/\bD k d=J
 |[],i,e=>by simp[P5]at e|q::r,0,e=>by simp only[P5,qR,Option.some.injEq]at e;cases q with|none=>cases e|some q=>
   simp only[WF]at e;split at e;·cases e;exact⟨rfl,by assumption⟩
   ·cases e
 |q::r,i+1,e=>by simp only[P5,dZ]at e⊢;exact Ff e
theorem Fg(k:Nat):∀σ:Es,(P5 k σ).length=σ.length|[]=>rfl|_::r=>by simp only[P5,ao,Fg k r]
theorem dw.cut{σ:Es}{τ:tSt}(q:dw Z M H σ τ)(r:bq Z M H h)(k:Nat):dw Z (M.take k) H (P5 k σ) τ:=⟨(Fg k σ).trans q.ln,λi d b=>by obtain⟨c,e⟩:=Ff b;obtain⟨v,f,q⟩:=q.at' i d c;exact⟨v,f,q.cut r e⟩⟩
theorem Ext.cut(e:Ext M H M' H'){k:Nat}(c:M.length<=k):Ext M H (M'.take k) H':=by obtain⟨l,rfl⟩:=e.pre;refine⟨⟨l.take (k-M.length),by rw[List.take_append,fW c]⟩,e.keep,λb f n=>e.new b (ie f) n⟩
end
end F
namespace F
open L2
variable{Z:Tx}{E:XK}{τ τ2:tSt}{H H':Hp}{M M' G' L:List Addr}{σ σ' σ2:Es}{h h':Hs}{xc:XP}{t:Tb}{X:Cx}{e b c:Expr}{a:Addr}{A T:Sm}{B:Prop}{pos p:Pos}{b4:List Expr}{Y:T0}{ρ js:List Nat}{C:Ct}{k n i:Nat}{x:Pv}{tg:Tg}{QV:VK}{t':TT}{α:Type}{v:V}{r:List V->Hp->VK->Prop}{o o':HO}{op:CmpOp}{QB:Bool->Hp->Prop}{d:Dv}{vs:List V}{D:Ends}{xs:List Pv}
abbrev XP:=Nat->Hs->Prop
abbrev KP:=List Dv->Hs->Prop
abbrev Sm:=XP->Es->Hs->KP->Prop
set_option genInjectivity false in
structure En where
 nx:Es->Hs->Prop
 rt:Dv->Hs->Prop
 bk:Es->Hs->Prop
 ct:Es->Hs->Prop
 xc:XP
abbrev Ss:=En->Es->Hs->Prop
set_option genInjectivity false in
structure Tb where
 fI:Nat->Str
 ca:Nat->Addr
 fl:Nat->List Str
set_option genInjectivity false in
structure T0 where
 K:Frag
 mg:b'
 t:Tb
noncomputable abbrev T0.z(Y:T0)(G:List Addr):Tx:=⟨Y.K,Y.mg,Y.t.fI,Y.t.ca,Y.t.fl,G⟩
noncomputable abbrev yx(t:Tb)(X:Cx):T0:=⟨X.K,X.mg,t⟩
section
variable(Z:Tx)
structure Kn(E:XK)(τ:tSt)(H:Hp)(QV:VK)(M:List Addr)(σ:Es)(h:Hs)(xc:XP)(Q:KP):Prop where
 rel:bq Z M H h
 env:dw Z M H σ τ
 out:∀d h' M' H' v,Ext M H M' H'->bq Z M' H' h'->cZ Z M' H' d v->Q [d] h'->QV v H'
 exc:∀C h' M' H',Ext M H M' H'->bq Z M' H' h'->xc C h'->E (.ref (Z.ca C)) af H'
structure KnA(E:XK)(τ:tSt)(H:Hp)(QV:List V->Hp->Prop)(M:List Addr)(σ:Es)(h:Hs)(xc:XP)(Q:KP):Prop where
 rel:bq Z M H h
 env:dw Z M H σ τ
 out:∀d h' M' H' v,Ext M H M' H'->bq Z M' H' h'->cj Z M' H' d v->Q d h'->QV v H'
 exc:∀C h' M' H',Ext M H M' H'->bq Z M' H' h'->xc C h'->E (.ref (Z.ca C)) af H'
structure KnT(E:XK)(τ:tSt)(H:Hp)(QV:Bool->Hp->Prop)(M:List Addr)(σ:Es)(h:Hs)(xc:XP)(Q:KP):Prop where
 rel:bq Z M H h
 env:dw Z M H σ τ
 out:∀d h' M' H',Ext M H M' H'->bq Z M' H' h'->Q [d] h'->∃b,d=.p (.bl b)/\QV b H'
 exc:∀C h' M' H',Ext M H M' H'->bq Z M' H' h'->xc C h'->E (.ref (Z.ca C)) af H'
structure Wt(E:XK)(τ:tSt)(H:Hp)(D:Ends)(M:List Addr)(σ:Es)(h:Hs)(N:En):Prop where
 rel:bq Z M H h
 env:dw Z M H σ τ
 nx:∀σ' h' M' H' τ',Ext M H M' H'->bq Z M' H' h'->dw Z M' H' σ' τ'->N.nx σ' h'->D.nx τ' H'
 rt:∀d h' M' H' v,Ext M H M' H'->bq Z M' H' h'->cZ Z M' H' d v->N.rt d h'->D.rt v H'
 bk:∀σ' h' M' H' τ',Ext M H M' H'->bq Z M' H' h'->dw Z M' H' σ' τ'->N.bk σ' h'->D.bk τ' H'
 ct:∀σ' h' M' H' τ',Ext M H M' H'->bq Z M' H' h'->dw Z M' H' σ' τ'->N.ct σ' h'->D.ct τ' H'
 exc:∀C h' M' H',Ext M H M' H'->bq Z M' H' h'->N.xc C h'->E (.ref (Z.ca C)) af H'
inductive cJ(Y:T0)(E:XK)(m:Sm)(τ:tSt)(H:Hp)(QV:VK):Prop|mk(G M:List Addr)(σ:Es)(h:Hs)(xc:XP)(Q:KP)(k:Kn (Y.z G) E τ H QV M σ h xc Q)(q:m xc σ h Q):cJ Y E m τ H QV
inductive gF(Y:T0)(E:XK)(m:Sm)(τ:tSt)(H:Hp)(QV:List V->Hp->Prop):Prop|mk(G M:List Addr)(σ:Es)(h:Hs)(xc:XP)(Q:KP)(k:KnA (Y.z G) E τ H QV M σ h xc Q)(q:m xc σ h Q):gF Y E m τ H QV
inductive jj(Y:T0)(E:XK)(m:Sm)(τ:tSt)(H:Hp)(QV:Bool->Hp->Prop):Prop|mk(G M:List Addr)(σ:Es)(h:Hs)(xc:XP)(Q:KP)(k:KnT (Y.z G) E τ H QV M σ h xc Q)(q:m xc σ h Q):jj Y E m τ H QV
inductive fQ(Y:T0)(E:XK)(m:Ss)(D:Ends)(τ:tSt)(H:Hp):Prop|mk(G M:List Addr)(σ:Es)(h:Hs)(N:En)(k:Wt (Y.z G) E τ H D M σ h N)(q:m N σ h):fQ Y E m D τ H
end
section
variable{Q:KP}
def Kn.Qw(k:Kn Z E τ H QV M σ h xc Q)(e:Ext M H M' H'):∀C f m H1,Ext M' H' m H1->bq Z m H1 f->xc C f->E (.ref (Z.ca C)) af H1:=λC f m H1 x r q=>k.exc C f m H1 (e.trans x) r q
def Kn.on{q:VK}{Q':KP}(k:Kn Z E τ H QV M σ h xc Q)(e:Ext M H M' H')(r:bq Z M' H' h')(o:∀d g m f v,Ext M' H' m f->bq Z m f g->cZ Z m f d v->Q' [d] g->q v f):Kn Z E τ H' q M' σ h' xc Q':=⟨r,k.env.ext k.rel e,o,k.Qw e⟩
def Kn.go{QV:VK}(k:Kn Z E τ H QV M σ h xc Q)(e:Ext M H M' H')(r:bq Z M' H' h'):Kn Z E τ H' QV M' σ h' xc Q:=⟨r,k.env.ext k.rel e,λd f m g v x=>k.out d f m g v (e.trans x),k.Qw e⟩
end
def _root_.L2.PE.imp{t t':TE}(h:PE X e t')(i:∀σ H Q,t σ H Q->t' σ H Q):PE X e t:=λP s σ H Q I q=>h P s σ H Q I (i σ H Q q)
def _root_.L2.PT.imp{t:TT}(h:PT X e t')(i:∀σ H Q,t σ H Q->t' σ H Q):PT X e t:=λP s σ H Q I q=>h P s σ H Q I (i σ H Q q)
def _root_.L2.PW.imp{t:TT}(h:PW X e t')(i:∀σ H Q,t σ H Q->t' σ H Q):PW X e t:=λw P s σ H Q I q=>h w P s σ H Q I (i σ H Q q)
def _root_.L2.PA.imp{e:List Expr}{t t':TA}(h:PA X e t')(i:∀σ H Q,t σ H Q->t' σ H Q):PA X e t:=λpos P s σ H Q I q=>h pos P s σ H Q I (i σ H Q q)
def _root_.L2.PS.imp{e:Stmt}{t t':TS}(h:PS X e t')(i:∀D σ H,t D σ H->t' D σ H):PS X e t:=λP s σ H D I q=>h P s σ H D I (i D σ H q)
def _root_.L2.kH.imp{e:List Stmt}{t t':TS}(h:kH X e t')(i:∀D σ H,t D σ H->t' D σ H):kH X e t:=λP s σ H D I q=>h P s σ H D I (i D σ H q)
def gd(c:Bool)(A:Prop):Prop:=match c with|true=>A|false=>False
def ay{c:Bool}{A:Prop}(h:c)(a:A):gd c A:=by subst h;exact a
def bB{c:Bool}{A:Prop}(h:gd c A):c/\A:=by cases c with|true=>exact⟨rfl,h⟩|false=>exact h.elim
def br(c:Bool)(A B:Prop):Prop:=match c with|true=>A|false=>B
def c6{c:Bool}{A:Prop}(a:c->A)(b:c=a7->B):br c A B:=by cases c with|true=>exact a rfl|false=>exact b rfl
def iw(o:Option α)(A:α->Prop)(B:Prop):Prop:=match o with|some x=>A x|none=>B
def MF{o:Option α}{A:α->Prop}(a:∀x,o=O x->A x)(b:o=af->B):iw o A B:=by cases o with|some x=>exact a x rfl|none=>exact b rfl
def cN{o:Option α}{A:α->Prop}{x:α}(e:o=O x)(a:A x):iw o A B:=by subst e;exact a
def Gb{o:Option α}{A:α->Prop}(h:iw o A False):∃x,o=O x/\A x:=by cases o with|some x=>exact⟨x,rfl,h⟩|none=>exact h.elim
noncomputable def ud:List Dv->Option (List Pv)
 |[]=>O []|.p x::r=>match ud r with|some xs=>O (x::xs)|none=>af
 |.r _::_=>af
abbrev O1:=Dv->Hs->(Dv->Hs->Prop)->Prop
abbrev O2:=Dv->Dv->Hs->(Dv->Hs->Prop)->Prop
abbrev ON:=List Dv->Hs->(Dv->Hs->Prop)->Prop
def sV(i:Nat):Sm:=λ_ σ h Q=>match σ[i]? with|some (O d)=>Q [d] h|_=>False
def sC(x:Pv):Sm:=λ_ _ h Q=>Q [.p x] h
def s1(o:O1)(A:Sm):Sm:=λxc σ h Q=>A xc σ h λxs f=>match xs with|[x]=>o x f λd g=>Q [d] g|_=>False
def s2(o:O2)(A B:Sm):Sm:=λxc σ h Q=>A xc σ h λxs f=>match xs with
 |[x]=>B xc σ f λs g=>match s with|[y]=>o x y g λd j=>Q [d] j|_=>False
 |_=>False
def sN(o:ON)(A:Sm):Sm:=λxc σ h Q=>A xc σ h λxs f=>o xs f λd g=>Q [d] g
def EE:Sm:=λ_ _ h Q=>Q [] h
def VP(A R:Sm):Sm:=λxc σ h Q=>A xc σ h λxs f=>match xs with|[x]=>R xc σ f λy g=>Q (x::y) g|_=>False
def Th(A B:Sm):Sm:=λxc σ h Q=>A xc σ h λxs f=>match xs with|[.p (.bl b)]=>br b (B xc σ f λy g=>match y with|[.p (.bl c)]=>Q [.p (.bl c)] g|_=>False) (Q [.p (.bl a7)] f)|_=>False
def l0(A B:Sm):Sm:=λxc σ h Q=>A xc σ h λxs f=>match xs with|[.p (.bl b)]=>br b (Q [.p (.bl J)] f) (B xc σ f λy g=>match y with|[.p (.bl c)]=>Q [.p (.bl c)] g|_=>False)|_=>False
def U1(A:Sm):Sm:=λxc σ h Q=>A xc σ h λxs f=>match xs with|[.p (.bl b)]=>Q [.p (.bl !b)] f|_=>False
def ZK(T A B:Sm):Sm:=λxc σ h Q=>T xc σ h λxs f=>match xs with|[.p (.bl b)]=>br b (A xc σ f Q) (B xc σ f Q)|_=>False
section
variable{a:Expr}{B:Sm}
def AC(h:PE X e (Jr i)):PE X e (cJ (yx t X) E (sV i)):=h.imp λτ H QV ⟨G,M,σ,s,xc,Q,k,q⟩=>by
 unfold sV at q;split at q;·rename_i d f;obtain⟨v,g,j⟩:=k.env.at' i d f;exact⟨v,g,k.out d s M H v Ext.refl k.rel j q⟩
 ·exact q.elim
def Ej(h:PE X e (tC v))(f:∀G M H,bR ((yx t X).z G) M H x v):PE X e (cJ (yx t X) E (sC x)):=h.imp λτ H QV ⟨G,M,σ,s,xc,Q,k,q⟩=>k.out (.p x) s M H v Ext.refl k.rel (f G M H) q
def Pr(Y:T0)(r:V->Hp->VK->Prop)(o:O1):Prop:=∀G M h H x v Q QV,bq (Y.z G) M H h->cZ (Y.z G) M H x v->o x h Q->(∀d h' M' H' w,Ext M H M' H'->bq (Y.z G) M' H' h'->cZ (Y.z G) M' H' d w->Q d h'->QV w H')->r v H QV
def jf(Y:T0)(r:R2)(o:O2):Prop:=∀G M h H x y v u Q QV,bq (Y.z G) M H h->cZ (Y.z G) M H x v->cZ (Y.z G) M H y u->o x y h Q->(∀d h' M' H' w,Ext M H M' H'->bq (Y.z G) M' H' h'->cZ (Y.z G) M' H' d w->Q d h'->QV w H')->r v u H QV
def rj(Y:T0)(r:List V->Hp->VK->Prop)(o:ON):Prop:=∀G M h H xs vs Q QV,bq (Y.z G) M H h->cj (Y.z G) M H xs vs->o xs h Q->(∀d h' M' H' w,Ext M H M' H'->bq (Y.z G) M' H' h'->cZ (Y.z G) M' H' d w->Q d h'->QV w H')->r vs H QV
def V1{r:V->Hp->VK->Prop}{o:O1}(f:Pr (yx t X) r o)(h:cJ (yx t X) E (s1 o A) τ H QV):Fk r (cJ (yx t X) E A) τ H QV:=by obtain⟨G,M,σ,s,xc,Q,k,q⟩:=h;refine⟨G,M,σ,s,xc,_,⟨k.rel,k.env,λd h' M' H' v e R i g=>?_,k.exc⟩,q⟩;exact f G M' h' H' d v _ _ R i g λj l m u w y z I F=>k.out j l m u w (e.trans y) z I F
def sJ{r:R2}{o:O2}(g:jf (yx t X) r o)(h:cJ (yx t X) E (s2 o A B) τ H QV):Q_ r (cJ (yx t X) E A) (cJ (yx t X) E B) τ H QV:=by obtain⟨G,M,σ,s,xc,Q,k,q⟩:=h;refine⟨G,M,σ,s,xc,_,⟨k.rel,k.env,λd h' M' H' v e R i j=>?_,k.exc⟩,q⟩;refine⟨G,M',σ,h',xc,_,k.on e R λl m u y w f F I K=>?_,j⟩;exact g G u m y d l v w _ _ F (i.ext R f) I K λN P S U z W r3 i3 q3=>k.out N P S U z (e.trans (f.trans W)) r3 i3 q3
def abS{op:Operator}{r:R2}{o:O2}(f:jQ X (binaryOp op) r)(g:jf (yx t X) r o)(j:PE X a (cJ (yx t X) E A))(l:PE X b (cJ (yx t X) E B)):PE X (.BinOp a op b pos) (cJ (yx t X) E (s2 o A B)):=(abN f j l).imp λ_ _ _=>sJ g
def abV{op:UnaryOp}{r:V->Hp->VK->Prop}{o:O1}(f:Wx X (unaryOp op) r)(g:Pr (yx t X) r o)(j:PE X a (cJ (yx t X) E A)):PE X (.UnaryOp op a pos) (cJ (yx t X) E (s1 o A)):=(Vy f j).imp λ_ _ _=>V1 g
def Y5{r:R2}{o:O2}(f:jQ X (compareOp op) r)(g:jf (yx t X) r o)(j:PE X a (cJ (yx t X) E A))(l:PE X b (cJ (yx t X) E B))(m:gb op b=a7):PE X (.Compare a [op] [b] pos) (cJ (yx t X) E (s2 o A B)):=(Sf f j l m).imp λ_ _ _=>sJ g
def BZ{m:Sm}(h:jj (yx t X) E m τ H QB):cJ (yx t X) E m τ H λx H'=>∃k,x=.bl k/\QB k H':=by obtain⟨G,M,σ,s,xc,Q,k,q⟩:=h;refine⟨G,M,σ,s,xc,Q,⟨k.rel,k.env,λd h' M' H' v e R i f=>?_,k.exc⟩,q⟩;obtain⟨c,rfl,g⟩:=k.out d h' M' H' e R f;refine⟨c,?_,g⟩;unfold cZ bR at i;exact i
def SH{r:R2}{o:O2}(f:jQ X (compareOp op) r)(g:jf (yx t X) r o)(j:PE X a (cJ (yx t X) E A))(l:PE X b (cJ (yx t X) E B))(m:gb op b=a7):PT X (.Compare a [op] [b] pos) (jj (yx t X) E (s2 o A B)):=(uc f j l m).imp λ_ _ _ h=>sJ g (BZ h)
def SI(h:PE X e (cJ (yx t X) E A))(f:∀oZ,isTrue e X.env oZ=do let v<-oZ;standAt e.pos;ft [v] (truthy v)):PT X e (jj (yx t X) E A):=(Nq h f).imp λ_ _ _ h=>BZ h
end
section
variable{a:Expr}{B:Sm}
def Oe(h:jj (yx t X) E (Th A B) τ H QB):Xt (jj (yx t X) E A) (jj (yx t X) E B) τ H QB:=by
 obtain⟨G,M,σ,s,xc,Q,k,q⟩:=h;refine⟨G,M,σ,s,xc,_,⟨k.rel,k.env,λd h' M' H' e R l=>?_,k.exc⟩,q⟩;split at l;·rename_i b g;injection g with g;refine⟨b,g,?_⟩;cases b with|false=>obtain⟨c,f,j⟩:=k.out _ h' M' H' e R l;injection f with f;injection f with f;subst f;exact j|true=>
   refine⟨G,M',σ,h',xc,_,⟨R,k.env.ext k.rel e,λK j u w y z m=>?_,λC f F I x r q=>k.exc C f F I (e.trans x) r q⟩,l⟩;split at m;·rename_i c g;injection g with g;obtain⟨N,f,j⟩:=k.out _ j u w (e.trans y) z m;injection f with f;injection f with f;subst f;exact⟨c,g,j⟩
   ·exact m.elim
 ·exact l.elim
def TX(h:jj (yx t X) E (l0 A B) τ H QB):TW (jj (yx t X) E A) (jj (yx t X) E B) τ H QB:=by
 obtain⟨G,M,σ,s,xc,Q,k,q⟩:=h;refine⟨G,M,σ,s,xc,_,⟨k.rel,k.env,λd h' M' H' e R l=>?_,k.exc⟩,q⟩;split at l;·rename_i b g;injection g with g;refine⟨b,g,?_⟩;cases b with|true=>obtain⟨c,f,j⟩:=k.out _ h' M' H' e R l;injection f with f;injection f with f;subst f;exact j|false=>
   refine⟨G,M',σ,h',xc,_,⟨R,k.env.ext k.rel e,λK j u w y z m=>?_,λC f F I x r q=>k.exc C f F I (e.trans x) r q⟩,l⟩;split at m;·rename_i c g;injection g with g;obtain⟨N,f,j⟩:=k.out _ j u w (e.trans y) z m;injection f with f;injection f with f;subst f;exact⟨c,g,j⟩
   ·exact m.elim
 ·exact l.elim
def Of(h:jj (yx t X) E (U1 A) τ H QB):Tl (jj (yx t X) E A) τ H QB:=by
 obtain⟨G,M,σ,s,xc,Q,k,q⟩:=h;refine⟨G,M,σ,s,xc,_,⟨k.rel,k.env,λd h' M' H' e R g=>?_,k.exc⟩,q⟩;split at g;·rename_i b j;injection j with j;obtain⟨c,f,l⟩:=k.out _ h' M' H' e R g;injection f with f;injection f with f;subst f;exact⟨b,j,l⟩
 ·exact g.elim
def TY(h:cJ (yx t X) E (Th A B) τ H QV):V2 (cJ (yx t X) E A) (cJ (yx t X) E B) τ H QV:=by
 obtain⟨G,M,σ,s,xc,Q,k,q⟩:=h;refine⟨G,M,σ,s,xc,_,⟨k.rel,k.env,λd h' M' H' v e R i g=>?_,k.exc⟩,q⟩;split at g;·rename_i b f;injection f with f;subst f;unfold cZ bR at i;refine⟨b,i,?_⟩;cases b with|false=>exact k.out _ h' M' H' _ e R (by unfold cZ bR;rfl) g|true=>
   refine⟨G,M',σ,h',xc,_,k.on e R λF l m u w y z I j=>?_,g⟩;split at j;·rename_i c f;injection f with f;subst f;exact k.out _ l m u w (e.trans y) z I j
   ·exact j.elim
 ·exact g.elim
def Z0(h:cJ (yx t X) E (l0 A B) τ H QV):K' (cJ (yx t X) E A) (cJ (yx t X) E B) τ H QV:=by
 obtain⟨G,M,σ,s,xc,Q,k,q⟩:=h;refine⟨G,M,σ,s,xc,_,⟨k.rel,k.env,λd h' M' H' v e R i g=>?_,k.exc⟩,q⟩;split at g;·rename_i b f;injection f with f;subst f;unfold cZ bR at i;refine⟨b,i,?_⟩;cases b with|true=>exact k.out _ h' M' H' _ e R (by unfold cZ bR;rfl) g|false=>
   refine⟨G,M',σ,h',xc,_,k.on e R λF l m u w y z I j=>?_,g⟩;split at j;·rename_i c f;injection f with f;subst f;exact k.out _ l m u w (e.trans y) z I j
   ·exact j.elim
 ·exact g.elim
def TZ(h:cJ (yx t X) E (ZK T A B) τ H QV):K6 (jj (yx t X) E T) (cJ (yx t X) E A) (cJ (yx t X) E B) τ H QV:=by
 obtain⟨G,M,σ,s,xc,Q,k,q⟩:=h;refine⟨G,M,σ,s,xc,_,⟨k.rel,k.env,λd h' M' H' e R f=>?_,k.exc⟩,q⟩;split at f;·rename_i b g;injection g with g;refine⟨b,g,?_⟩;cases b with|true=>exact⟨G,M',σ,h',xc,_,k.go e R,f⟩|false=>exact⟨G,M',σ,h',xc,_,k.go e R,f⟩
 ·exact f.elim
def Y8(f:PT X c (jj (yx t X) E T))(g:PE X a (cJ (yx t X) E A))(j:PE X b (cJ (yx t X) E B)):PE X (.IfExp c a b pos) (cJ (yx t X) E (ZK T A B)):=(MQ f g j).imp λ_ _ _=>TZ
def Sq:PA X [] (gF (yx t X) E EE):=dF.imp λτ H QV ⟨G,M,σ,s,xc,Q,k,q⟩=>k.out [] s M H [] Ext.refl k.rel trivial q
def MZ(g:PE X a (cJ (yx t X) E A))(j:PA X b4 (gF (yx t X) E B))(l:cm a):PA X (a::b4) (gF (yx t X) E (VP A B)):=(lP g j l).imp λτ H QV ⟨G,M,σ,s,xc,Q,k,q⟩=>by refine⟨G,M,σ,s,xc,_,⟨k.rel,k.env,λd h' M' H' v e R i m=>?_,k.exc⟩,q⟩;refine⟨G,M',σ,h',xc,_,⟨R,k.env.ext k.rel e,λds u w y W f z I F=>?_,λC K N P x r q=>k.exc C K N P (e.trans x) r q⟩,m⟩;exact k.out (d::ds) u w y (v::W) (e.trans f) z ⟨i.ext R f,I⟩ F
def V4{o:ON}(f:rj (yx t X) r o)(h:cJ (yx t X) E (sN o A) τ H QV):gF (yx t X) E A τ H λvs g=>r vs g QV:=by obtain⟨G,M,σ,s,xc,Q,k,q⟩:=h;refine⟨G,M,σ,s,xc,_,⟨k.rel,k.env,λd h' M' H' v e R i j=>?_,k.exc⟩,q⟩;exact f G M' h' H' d v _ _ R i j λl m u y w z F I K=>k.out l m u y w (e.trans z) F I K
def Gf{x:Str}{id:String}{o:ON}(f:dJ X (.builtin id) r)(g:rj (yx t X) r o)(j:Gl X x)(m:X.mg x=af)(l:c7 x=O (.builtin id))(q:PA X (a::b4) (gF (yx t X) E A))(hn:x≠"__name__")(I:(x==("__debug__":Str))=a7)(U:(a::b4).all cm):PE X (.Call (.Name x p) (a::b4) [] pos) (cJ (yx t X) E (sN o A)):=(md f j m l q hn I U).imp λ_ _ _=>V4 g
def xO{x:Str}{id:String}{o:ON}(f:dJ X (.type id) r)(g:rj (yx t X) r o)(j:Gl X x)(m:X.mg x=af)(l:c7 x=O (.type id))(q:PA X (a::b4) (gF (yx t X) E A))(hn:x≠"__name__")(I:(x==("__debug__":Str))=a7)(U:(a::b4).all cm):PE X (.Call (.Name x p) (a::b4) [] pos) (cJ (yx t X) E (sN o A)):=(Vv f j m l q hn I U).imp λ_ _ _=>V4 g
end
abbrev Ct:=List Dv->Hs->(Dv->Hs->Prop)->XP->Prop
inductive iH(Y:T0)(C:Ct)(vs:List V)(H:Hp)(QV:VK)(EV:XK):Prop|mk(G M:List Addr)(h:Hs)(ds:List Dv)(Q:Dv->Hs->Prop)(xc:XP)(r:bq (Y.z G) M H h)(i:cj (Y.z G) M H ds vs)(c:C ds h Q xc)(out:∀d h' M' H' v,Ext M H M' H'->bq (Y.z G) M' H' h'->cZ (Y.z G) M' H' d v->Q d h'->QV v H')(exc:∀c h' M' H',Ext M H M' H'->bq (Y.z G) M' H' h'->xc c h'->EV (.ref (Y.t.ca c)) af H'):iH Y C vs H QV EV
noncomputable def gO(i:Nat):List Nat->Bool|[]=>a7|j::r=>aa3 i j||gO i r
def lq:List Nat->Bool|[]=>J|i::r=>!gO i r&&lq r
noncomputable def Ro(i:Nat):List Nat->Nat|[]=>0|j::r=>match aa3 i j with|true=>0|false=>Ro i r+1
def Wp(ρ:List Nat):Dv->Bool|.p _=>J|.r i=>gO i ρ
def Ij(ρ:List Nat):List Dv->Bool|[]=>J|d::r=>Wp ρ d&&Ij ρ r
def Tk(ρ:List Nat):Ob->Bool|.lst _=>J|.df ds=>Ij ρ ds|.dct _ _=>J|.ins _ fs=>Ij ρ fs
def ki(ρ:List Nat):Dv->Dv|.p x=>.p x|.r i=>.r (Ro i ρ)
def wP(ρ:List Nat):Ob->Ob|.lst xs=>.lst xs|.df ds=>.df (ds.map (ki ρ))|.dct K vs=>.dct K vs|.ins C fs=>.ins C (fs.map (ki ρ))
def lh(ρ:List Nat)(h:Hs):List Nat->Option Hs|[]=>O []|i::r=>match h[i]? with|none=>af|some o=>match Tk ρ o with|false=>af|true=>match lh ρ h r with|none=>af|some l=>O (wP ρ o::l)
noncomputable def UJ(ρ:List Nat)(n:Nat):Dv->Dv|.p x=>.p x|.r k=>match ρ[k]? with|some i=>.r i|none=>.r (n+(k-ρ.length))
def JC(ρ:List Nat)(n:Nat):Ob->Ob|.lst xs=>.lst xs|.df ds=>.df (ds.map (UJ ρ n))|.dct K vs=>.dct K vs|.ins C fs=>.ins C (fs.map (UJ ρ n))
def RG(ρ:List Nat)(n:Nat):List Nat->Hs->Hs->Hs|[],[],h=>h|[],o::os,h=>h++(o::os).map (JC ρ n)|_::_,[],h=>h|i::r,o::os,h=>RG ρ n r os (h.set i (JC ρ n o))
def Yn(ρ:List Nat)(C:Ct):Ct:=λds h Q xc=>gd (lq ρ&&Ij ρ ds) (match lh ρ h ρ with|none=>False|some l=>C (ds.map (ki ρ)) l (λd f=>Q (UJ ρ h.length d) (RG ρ h.length ρ f h)) λc f=>xc c (RG ρ h.length ρ f h))
theorem cC{i:Nat}:∀{l:List Nat},gO i l=J↔i∈l|[]=>by simp[gO]|j::r=>by simp only[gO,gp,aJ,cC (l:=r),Nat.beq_eq]
theorem F4:∀{l:List Nat},lq l=J->l.Nodup|[],_=>ig|i::r,h=>by simp only[lq,aI,Cp]at h;refine cD.mpr ⟨λz=>?_,F4 h.2⟩;rw[cC.mpr z]at h;cases h.1
theorem FL{i:Nat}:∀{l:List Nat},i∈l->l[Ro i l]?=O i
 |[],h=>by cases h|j::r,h=>by
  unfold Ro;split;·rename_i e;rw[ax e];rfl
  ·rename_i e;have f:i∈r:=(aJ.mp h).resolve_left λz=>by rw[z,fX]at e;cases e
   rw[dZ];exact FL f
section
variable{G:List Addr}{l l':Hs}
noncomputable def mL(ρ:List Nat)(M:List Addr):List Addr:=ρ.filterMap λi=>M[i]?
theorem LQ{ρ0:List Nat}:∀{ρ:List Nat}{l:Hs},lh ρ0 h ρ=O l->l.length=ρ.length/\∀(k:Nat)i,ρ[k]?=O i->∃o,h[i]?=O o/\Tk ρ0 o/\l[k]?=O (wP ρ0 o)
 |[],l,e=>by cases e;exact⟨rfl,λk i h=>by simp at h⟩|i::r,l,e=>by
  unfold lh at e;split at e;·cases e
  ·rename_i o g;split at e;·cases e
   ·rename_i m;split at e;·cases e
    ·rename_i l1 q;cases e;obtain⟨a,b⟩:=LQ q;refine⟨by rw[ao,ao,a],λk j f=>?_⟩;cases k with|zero=>cases f;exact⟨o,g,m,rfl⟩|succ k=>exact b k j f
def vd(f:∀i∈ρ,i<M.length):(mL ρ M).length=ρ.length/\∀(k:Nat),(mL ρ M)[k]?=ρ[k]?.bind λi=>M[i]?:=by induction ρ with|nil=>exact⟨rfl,λk=>by simp[mL]⟩|cons i r I=>
  obtain⟨a,b⟩:=I λj g=>f j (aq _ g);have e:M[i]?=O (M[i]'(f i aw)):=aE (f i aw);have m:mL (i::r) M=M[i]'(f i aw)::mL r M:=by unfold mL;rw[eo,e]
  rw[m];refine⟨by rw[ao,ao,a],λk=>?_⟩;cases k with|zero=>rw[qR,qR];exact e.symm|succ k=>rw[dZ,dZ];exact b k
def zb(h:a∈mL ρ M):a∈M:=by obtain⟨i,_,e⟩:=og.mp h;exact aZ e
def abl(m:M.Nodup)(f:ρ.Nodup):(mL ρ M).Nodup:=by unfold mL;refine List.Pairwise.filterMap _ ?_ f;intro i j g b q c s z;subst z;refine g ?_;obtain⟨l1,u⟩:=ai.mp q;obtain⟨l2,w⟩:=ai.mp s;exact(kC m).mp (u.trans w.symm)
mutual
theorem bR.fr{G' M':List Addr}(n:∀a,a∈M'\/a∈G'->a∈M\/a∈G\/H a=af):∀{x:Pv}{v:V},bR (Y.z G) M H x v->bR (Y.z G') M' H x v
 |.non,_,h=>by unfold bR at*;exact h|.bl _,_,h=>by unfold bR at*;exact h|.int _,_,h=>by unfold bR at*;exact h|.str _,_,h=>by unfold bR at*;exact h|.fn _,_,h=>by unfold bR at*;exact h|.ty _,_,h=>by unfold bR at*;exact h|.tup xs,_,h=>by unfold bR at*;obtain⟨a,vs,e,s,q⟩:=h;exact⟨a,vs,e,s,aO.fr n q⟩|.lst xs,_,h=>by
  unfold bR at*;obtain⟨a,vs,e,k,s,q⟩:=h;have z:∀z,(a∈M'\/a∈G')=z->¬z:=λ_ e z=>by subst e;rcases n a z with z|z|z;exact k.1 z;exact k.2 z;rw[z]at s;cases s
  exact⟨a,vs,e,⟨λy=>z _ rfl (.inl y),λy=>z _ rfl (.inr y)⟩,s,aO.fr n q⟩|.scr xs,_,h=>by
  unfold bR at*;obtain⟨a,vs,e,s,q⟩:=h;rcases s with ⟨k,s⟩|s
  ·have z:∀z,(a∈M'\/a∈G')=z->¬z:=λ_ e z=>by subst e;rcases n a z with z|z|z;exact k.1 z;exact k.2 z;rcases s with s|⟨_,s⟩<;>rw[z]at s<;>cases s
   exact⟨a,vs,e,.inl ⟨⟨λy=>z _ rfl (.inl y),λy=>z _ rfl (.inr y)⟩,s⟩,aO.fr n q⟩
  ·exact⟨a,vs,e,.inr s,aO.fr n q⟩|.dct ks us,_,h=>by
  unfold bR at*;obtain⟨a,K,e,k,s,q,Q⟩:=h;have z:∀z,(a∈M'\/a∈G')=z->¬z:=λ_ e z=>by subst e;rcases n a z with z|z|z;exact k.1 z;exact k.2 z;rw[z]at s;cases s
  exact⟨a,K,e,⟨λy=>z _ rfl (.inl y),λy=>z _ rfl (.inr y)⟩,s,aO.fr n q,aO.fr n Q⟩|.obj C fs,_,h=>by
  unfold bR at*;obtain⟨a,f,fv,e,k,s,l,q⟩:=h;have z:∀z,(a∈M'\/a∈G')=z->¬z:=λ_ e z=>by subst e;rcases n a z with z|z|z;exact k.1 z;exact k.2 z;rw[z]at s;cases s
  exact⟨a,f,fv,e,⟨λy=>z _ rfl (.inl y),λy=>z _ rfl (.inr y)⟩,s,l,aO.fr n q⟩theorem aO.fr{G' M':List Addr}(n:∀a,a∈M'\/a∈G'->a∈M\/a∈G\/H a=af):∀{xs:List Pv}{vs:List V},aO (Y.z G) M H xs vs->aO (Y.z G') M' H xs vs|[],[],h=>by unfold aO at*;trivial|[],_::_,h=>by unfold aO at*;exact h|_::_,[],h=>by unfold aO at*;exact h|x::xs,v::vs,h=>by unfold aO at*;exact⟨bR.fr n h.1,aO.fr n h.2⟩end
theorem bR.up(n:∀a,a∉M'->a∉G'->a∉M/\a∉G)(h:bR (Y.z G') M' H x v):bR (Y.z G) M H x v:=bR.fr (λa f=>by
 by_cases z:a∈M';·exact .inl z
 ·by_cases y:a∈G';·exact .inr (.inl y)
  ·obtain⟨p,q⟩:=n a z y;exact(f.elim p q).elim) h
theorem aO.up(n:∀a,a∉M'->a∉G'->a∉M/\a∉G){x:List Pv}{v:List V}(h:aO (Y.z G') M' H x v):aO (Y.z G) M H x v:=aO.fr (λa f=>by
 by_cases z:a∈M';·exact .inl z
 ·by_cases y:a∈G';·exact .inr (.inl y)
  ·obtain⟨p,q⟩:=n a z y;exact(f.elim p q).elim) h
def gL(ρ:List Nat)(M G:List Addr):List Addr:=G++M.filter λa=>!(mL ρ M).contains a
theorem ph:a∈gL ρ M G↔a∈G\/a∈M/\a∉mL ρ M:=by unfold gL;rw[bf,gq];simp
theorem Fv:∀a,a∈mL ρ M\/a∈gL ρ M G->a∈M\/a∈G\/H a=none:=λa h=>h.elim (λz=>.inl (zb z)) λz=>(ph.mp z).elim (λz=>.inr (.inl z)) λz=>.inl z.1
theorem cZ.dn(f:∀i∈ρ,i<M.length)(g:Wp ρ d)(q:cZ (Y.z G) M H d v):cZ (Y.z (gL ρ M G)) (mL ρ M) H (ki ρ d) v:=by cases d with|p x=>exact bR.fr Fv q|r i=>obtain⟨a,j,m⟩:=q;have hi:=cC.mp g;refine⟨a,?_,m⟩;rw[(vd f).2,FL hi];exact j
theorem cj.dn(f:∀i∈ρ,i<M.length):∀{ds:List Dv}{vs:List V},Ij ρ ds=J->cj (Y.z G) M H ds vs->cj (Y.z (gL ρ M G)) (mL ρ M) H (ds.map (ki ρ)) vs|[],[],_,_=>trivial|[],_::_,_,q=>q|_::_,[],_,q=>q|_::_,_::_,hd,q=>by simp only[Ij,aI]at hd;exact⟨q.1.dn f hd.1,cj.dn f hd.2 q.2⟩
theorem bq.dn(r:bq (Y.z G) M H h)(s:ρ.Nodup)(e:lh ρ h ρ=O l):bq (Y.z (gL ρ M G)) (mL ρ M) H l/\∀i∈ρ,i<M.length:=by
 obtain⟨I,w⟩:=LQ e;have f:∀i∈ρ,i<M.length:=λi g=>by obtain⟨k,e⟩:=wt g;obtain⟨o,u,_⟩:=w k i e;rw[r.ln];exact(ai.mp u).1
 refine⟨⟨abl r.nd s,λa y z=>(ph.mp z).elim (r.dj a (zb y)) λz=>z.2 y,by rw[(vd f).1,I],λb K=>?_,λk a o j F=>?_⟩,f⟩
 ·rcases ph.mp K with z|z;·exact r.gs b z
  ·obtain⟨o,e,_⟩:=r.there z.1;exact⟨o,e⟩
 ·rw[(vd f).2]at j;cases g:ρ[k]? with|none=>rw[g]at j;cases j|some i=>rw[g]at j;obtain⟨o',u,m,N⟩:=w k i g;rw[N]at F;cases F;have q:=r.ob i a o' j u;cases o' with|lst xs=>obtain⟨vs,e,q⟩:=q;exact⟨vs,e,aO.fr Fv q⟩|df xs=>obtain⟨vs,e,q⟩:=q;exact⟨vs,e,q.dn f m⟩|dct W us=>obtain⟨P,e,q,Q⟩:=q;exact⟨P,e,aO.fr Fv q,aO.fr Fv Q⟩|ins C fs=>obtain⟨R,S,e,n,U,q⟩:=q;exact⟨R,S,e,n,by rw[ak];exact U,q.dn f m⟩
theorem GW:∀a,a∉mL ρ M++L->a∉gL ρ M G->a∉M++L/\a∉G:=λa f g=>⟨λz=>(bf.mp z).elim (λz=>g (ph.mpr (.inr ⟨z,λy=>f (cP _ y)⟩))) λz=>f (aR _ z),λz=>g (ph.mpr (.inl z))⟩
theorem cZ.up(m:∀i∈ρ,i<M.length)(q:cZ (Y.z (gL ρ M G)) (mL ρ M++L) H d v):cZ (Y.z G) (M++L) H (UJ ρ M.length d) v:=by cases d with|p x=>exact bR.up GW q|r k=>
  obtain⟨a,f,g⟩:=q;have ml:=vd m;have s:UJ ρ M.length (.r k)=match ρ[k]? with|some i=>.r i|none=>.r (M.length+(k-ρ.length)):=rfl;rw[s];by_cases u:k<ρ.length;·rw[aW (by rw[ml.1];exact u),ml.2]at f;cases j:ρ[k]? with|none=>rw[j]at f;cases f|some i=>rw[j]at f;exact⟨a,by rw[aW (ai.mp f).1];exact f,g⟩
  ·rw[aP (by rw[ml.1];lia),ml.1]at f;rw[kA (l:=ρ) (by lia)];refine⟨a,?_,g⟩;rw[aP (by lia),show M.length+(k-ρ.length)-M.length=k-ρ.length by lia];exact f
theorem cj.up{L:List Addr}(f:∀i∈ρ,i<M.length):∀{ds:List Dv}{vs:List V},cj (Y.z (gL ρ M G)) (mL ρ M++L) H ds vs->cj (Y.z G) (M++L) H (ds.map (UJ ρ M.length)) vs|[],[],_=>trivial|[],_::_,q=>q|_::_,[],q=>q|_::_,_::_,q=>⟨q.1.up f,cj.up f q.2⟩
theorem we.up(f:∀i∈ρ,i<M.length){o:Ob}(q:we (Y.z (gL ρ M G)) (mL ρ M++L) H a o):we (Y.z G) (M++L) H a (JC ρ M.length o):=by cases o with|lst xs=>obtain⟨vs,e,q⟩:=q;exact⟨vs,e,aO.up GW q⟩|df xs=>obtain⟨vs,e,q⟩:=q;exact⟨vs,e,q.up f⟩|dct s u=>obtain⟨K,e,q,Q⟩:=q;exact⟨K,e,aO.up GW q,aO.up GW Q⟩|ins C fs=>obtain⟨g,F,e,n,j,q⟩:=q;exact⟨g,F,e,n,by rw[ak];exact j,q.up f⟩
theorem FY{ρ0:List Nat}{n:Nat}:∀{ρ:List Nat}{os h:Hs},ρ.Nodup->ρ.length<=os.length->(∀i∈ρ,i<h.length)->(RG ρ0 n ρ os h).length=h.length+(os.length-ρ.length)/\∀(j:Nat)o,(RG ρ0 n ρ os h)[j]?=O o->(∃(k:Nat)(o':Ob),ρ[k]?=O j/\os[k]?=O o'/\o=JC ρ0 n o')\/j∉ρ/\h[j]?=O o\/∃o':Ob,h.length<=j/\os[ρ.length+(j-h.length)]?=O o'/\o=JC ρ0 n o'
 |[],os,h,_,_,_=>by
  have y:RG ρ0 n [] os h=h++os.map (JC ρ0 n):=by cases os with|nil=>rw[fj,aM];rfl|cons _ _=>rfl
  rw[y];refine⟨by rw[ae,ak];rfl,λj o e=>?_⟩;by_cases g:j<h.length;·rw[aW g]at e;exact .inr (.inl ⟨by simp,e⟩)
  ·rw[aP (by lia),bM]at e;cases q:os[j-h.length]? with|none=>rw[q]at e;cases e|some o'=>rw[q]at e;cases e;exact .inr (.inr ⟨o',by lia,by rw[JQ,sM];exact q,rfl⟩)
 |i::r,[],h,_,s,_=>by simp at s|i::r,o1::os,h,hn,s,w=>by
  unfold RG;rw[cD]at hn;obtain⟨a,b⟩:=FY (ρ0:=ρ0) (n:=n) (ρ:=r) (os:=os) (h:=h.set i (JC ρ0 n o1)) hn.2 (by simpa using s) (λj g=>by rw[bp];exact w j (aq _ g));rw[bp]at a;refine⟨by rw[a,ao,ao];lia,λj o e=>?_⟩;rcases b j o e with ⟨k,o',m,f,u⟩|⟨m,f⟩|⟨o',m,f,u⟩;·exact .inl ⟨k+1,o',m,f,u⟩
  ·by_cases g:j=i;·subst g;rw[cB (w j aw)]at f;cases f;exact .inl ⟨0,o1,rfl,rfl,rfl⟩
   ·rw[aG (bY g)]at f;exact .inr (.inl ⟨λz=>(aJ.mp z).elim g m,f⟩)
  ·rw[bp]at m f;refine .inr (.inr ⟨o',m,?_,u⟩);rw[ao,show r.length+1+(j-h.length)=r.length+(j-h.length)+1 by lia,dZ];exact f
theorem bq.up(r:bq (Y.z G) M H h)(w:ρ.Nodup)(g:∀i∈ρ,i<M.length)(e:Ext (mL ρ M) H (mL ρ M++L) H')(R:bq (Y.z (gL ρ M G)) (mL ρ M++L) H' l'):Ext M H (M++L) H'/\bq (Y.z G) (M++L) H' (RG ρ M.length ρ l' h):=by
 have ml:=vd g;have U:(mL ρ M++L).length=l'.length:=R.ln;rw[ae,ml.1]at U;have ex:Ext M H (M++L) H':=by
  refine⟨⟨L,rfl⟩,λb o n F=>e.keep b o (λz=>n (zb z)) F,λb F n=>?_⟩;rcases bf.mp F with z|z;·exact absurd z n
  ·exact e.new b (aR _ z) λz=>n (zb z)
 have N:∀a∈L,a∉M:=λa Q W=>by
  by_cases z:a∈mL ρ M;·exact(fk.mp R.nd).2.2 a z a Q rfl
  ·have h1:=e.new a (aR _ Q) z;obtain⟨o,s,_⟩:=r.there W;rw[h1]at s;cases s
 obtain⟨a,b⟩:=FY (ρ0:=ρ) (n:=M.length) (ρ:=ρ) (os:=l') (h:=h) w (by lia) (λi I=>by rw[<-r.ln];exact g i I);refine⟨ex,⟨fk.mpr ⟨r.nd,(fk.mp R.nd).2.1,λx m y hy z=>N y hy (z▸m)⟩,λx m=>(bf.mp m).elim (r.dj x) λy z=>R.dj x (aR _ y) (ph.mpr (.inl z)),by rw[a,ae,<-r.ln];lia,λx m=>R.gs x (ph.mpr (.inl m)),λj c o h1 s=>?_⟩⟩;rcases b j o s with ⟨k,o',K,f,rfl⟩|⟨K,f⟩|⟨o',K,f,rfl⟩
 ·have hj:=g j (aZ K);rw[aW hj]at h1;have hk:k<(mL ρ M).length:=by rw[ml.1];exact(ai.mp K).1
  exact(R.ob k c o' (by rw[aW hk,ml.2,K];exact h1) f).up g
 ·have hj:j<M.length:=by rw[r.ln];exact(ai.mp f).1
  rw[aW hj]at h1;have q:=r.ob j c o h1 f;have hc:c∉mL ρ M:=λz=>by obtain⟨i,I,P⟩:=og.mp z;obtain⟨l1,e1⟩:=ai.mp h1;obtain⟨l2,P⟩:=ai.mp P;have:=(kC r.nd).mp (e1.trans P.symm);exact K (this▸I)
  exact we.mv (ex.mv r) (λ_ _=>ex.at) (λu hu=>e.keep c u hc hu) (λdx S=>ex.keep dx _ (r.no S rfl) S) q
 ·rw[aP (by rw[r.ln];exact K)]at h1;refine(R.ob (ρ.length+(j-h.length)) c o' ?_ f).up g;rw[aP (by rw[ml.1];lia),ml.1,show ρ.length+(j-h.length)-ρ.length=j-M.length by rw[r.ln];lia];exact h1
end
def xW{G:List Addr}{ds:List Dv}{Q:Dv->Hs->Prop}{EV:XK}(r:bq (Y.z G) M H h)(i:cj (Y.z G) M H ds vs)(q:Yn ρ C ds h Q xc)(out:∀d h' M' H' v,Ext M H M' H'->bq (Y.z G) M' H' h'->cZ (Y.z G) M' H' d v->Q d h'->QV v H')(j:∀c h' M' H',Ext M H M' H'->bq (Y.z G) M' H' h'->xc c h'->EV (.ref (Y.t.ca c)) af H'):iH Y C vs H QV EV:=by
 obtain⟨c,q⟩:=bB q;rw[aI]at c;have f:=F4 c.1;split at q;·exact q.elim
 ·rename_i l w;obtain⟨y,g⟩:=r.dn f w;refine⟨gL ρ M G,mL ρ M,l,_,_,_,y,i.dn g c.2,q,λd h' M' H' v e m I s=>?_,λc h' M' H' e m s=>?_⟩;·obtain⟨L,rfl⟩:=e.pre;obtain⟨u,R⟩:=r.up f g e m;rw[r.ln]at R;have i2:=I.up g;rw[r.ln]at i2;exact out _ _ _ _ v u R i2 s
  ·obtain⟨L,rfl⟩:=e.pre;obtain⟨u,R⟩:=r.up f g e m;rw[r.ln]at R;exact j _ _ _ _ u R s
def NO(ρ:List Nat)(C:Ct)(A:Sm):Sm:=λxc σ h Q=>A xc σ h λds f=>Yn ρ C ds f (λd g=>Q [d] g) xc
section
variable{a:Expr}{B:Sm}{x:Str}{ps:List Str}
def N9(h:cJ (yx t X) E (NO ρ C A) τ H QV):gF (yx t X) E A τ H λvs s=>iH (yx t X) C vs s QV E:=by obtain⟨G,M,σ,u,xc,Q,k,q⟩:=h;refine⟨G,M,σ,u,xc,_,⟨k.rel,k.env,λd h' M' H' v e y i z=>?_,k.exc⟩,q⟩;exact xW y i z (λF f m g w j R I l=>k.out F f m g w (e.trans j) R I l) λc f m g j R l=>k.exc c f m g (e.trans j) R l
def Sl(D:mK X.prog X.w X.K X.mg X.base k x ps (iH (yx t X) C))(f:dQ k X.A)(g:eu (oP X.prog X.w) X E)(j:Gl X x)(l:PA X (a::b4) (gF (yx t X) E A))(I:(x==("__debug__":Str))=a7)(U:(a::b4).all cm):PE X (.Call (.Name x p) (a::b4) [] pos) (cJ (yx t X) E (NO ρ C A)):=(zt D f g j l I U).imp λ_ _ _=>N9
end
def FJ:Ss:=λN σ h=>N.nx σ h
def ZN(m n:Ss):Ss:=λN σ h=>m {N with nx:=λσ' h'=>n N σ' h'} σ h
def VQ(m n:Ss):Ss:=λN σ h=>∃R:Es->Hs->Prop,m {N with nx:=R} σ h/\∀σ' h',R σ' h'->n N σ' h'
def EQ(A:Sm):Ss:=λN σ h=>A N.xc σ h λ_ f=>N.nx σ f
def Ji(A:Sm):Ss:=λN σ h=>A N.xc σ h λxs f=>match xs with|[d]=>N.rt d f|_=>False
def ny(T:Sm)(m n:Ss):Ss:=λN σ h=>T N.xc σ h λxs f=>match xs with|[.p (.bl b)]=>br b (m N σ f) (n N σ f)|_=>False
def NT(i:Nat)(A:Sm):Ss:=λN σ h=>A N.xc σ h λxs f=>match xs with|[d]=>N.nx (σ.set i (O d)) f|_=>False
noncomputable def rV:List Nat->List Pv->Es->Option Es|[],[],σ=>O σ|i::I,x::xs,σ=>rV I xs (σ.set i (O (.p x)))|_,_,_=>af
def Zp(is:List Nat)(A:Sm):Ss:=λN σ h=>A N.xc σ h λxs f=>match xs with
 |[.p (.tup y)]=>match rV is y σ with|some σ'=>N.nx σ' f|none=>False
 |_=>False
def NS(C:Nat)(A:Sm):Ss:=λN σ h=>A N.xc σ h λ_ f=>N.xc C f
section
variable{st:Stmt}{b4 sa sb:List Stmt}{a:Expr}{B:Sm}{m n:Ss}
def Wt.Qw{N:En}(k:Wt Z E τ H D M σ h N)(e:Ext M H M' H'):∀C f g H1,Ext M' H' g H1->bq Z g H1 f->N.xc C f->E (.ref (Z.ca C)) af H1:=λC f g H1 x r q=>k.exc C f g H1 (e.trans x) r q
def Wt.go{Z:Tx}{τ f:tSt}{H H':Hp}{D:Ends}{M M':List Addr}{σ σ':Es}{h h':Hs}{N:En}(k:Wt Z E τ H D M σ h N)(e:Ext M H M' H')(r:bq Z M' H' h')(v:dw Z M' H' σ' f):Wt Z E f H' D M' σ' h' N:=⟨r,v,λ_ _ _ _ _ x=>k.nx _ _ _ _ _ (e.trans x),λ_ _ _ _ _ x=>k.rt _ _ _ _ _ (e.trans x),λ_ _ _ _ _ x=>k.bk _ _ _ _ _ (e.trans x),λ_ _ _ _ _ x=>k.ct _ _ _ _ _ (e.trans x),k.Qw e⟩
def SA:kH X [] (fQ (yx t X) E FJ):=zw.imp λD τ H ⟨G,M,σ,h,N,k,q⟩=>k.nx σ h M H τ Ext.refl k.rel k.env q
def ZP(h:fQ (yx t X) E (ZN m n) D τ H):Go (fQ (yx t X) E m) (fQ (yx t X) E n) D τ H:=by obtain⟨G,M,σ,h,N,k,q⟩:=h;exact⟨G,M,σ,h,{N with nx:=λσ' h'=>n N σ' h'},⟨k.rel,k.env,λσ' h' M' H' f e r v q=>⟨G,M',σ',h',N,k.go e r v,q⟩,k.rt,k.bk,k.ct,k.exc⟩,q⟩
def M9(f:PS X st (fQ (yx t X) E m))(g:kH X b4 (fQ (yx t X) E n)):kH X (st::b4) (fQ (yx t X) E (ZN m n)):=(g9 f g).imp λ_ _ _=>ZP
def Sz(f:PS X st (fQ (yx t X) E m))(g:kH X b4 (fQ (yx t X) E n)):kH X (st::b4) (fQ (yx t X) E (VQ m n)):=(g9 f g).imp λD τ H ⟨G,M,σ,h,N,k,R,q,i⟩=>⟨G,M,σ,h,{N with nx:=R},⟨k.rel,k.env,λσ' h' M' H' j e r v q=>⟨G,M',σ',h',N,k.go e r v,i _ _ q⟩,k.rt,k.bk,k.ct,k.exc⟩,q⟩
def SD(f:PS X st (fQ (yx t X) E m)):kH X [st] (fQ (yx t X) E m):=iP f
def Zi(f:PE X e (cJ (yx t X) E A))(s:gZ e af pos.line X.env=pure a7):PS X (.Expr e pos) (fQ (yx t X) E (EQ A)):=(ua f s).imp λD τ H ⟨G,M,σ,h,N,k,q⟩=>⟨G,M,σ,h,N.xc,_,⟨k.rel,k.env,λd h' M' H' v e r i q=>k.nx σ h' M' H' τ e r (k.env.ext k.rel e) q,k.exc⟩,q⟩
def SE(f:PE X e (cJ (yx t X) E A)):PS X (.Return (O e) pos) (fQ (yx t X) E (Ji A)):=(pI f).imp λD τ H ⟨G,M,σ,h,N,k,q⟩=>⟨G,M,σ,h,N.xc,_,⟨k.rel,k.env,λd h' M' H' v e r i q=>k.rt d h' M' H' v e r i q,k.exc⟩,q⟩
def Zj(g:PT X c (jj (yx t X) E T))(j:kH X sa (fQ (yx t X) E m))(l:kH X sb (fQ (yx t X) E n)):PS X (.If c sa sb pos) (fQ (yx t X) E (ny T m n)):=(Nl g j l).imp λD τ H ⟨G,M,σ,h,N,k,q⟩=>by
 refine⟨G,M,σ,h,N.xc,_,⟨k.rel,k.env,λd h' M' H' e R Q=>?_,k.exc⟩,q⟩;split at Q;·rename_i b f;injection f with f;refine⟨b,f,?_⟩;cases b with|true=>exact⟨G,M',σ,h',N,k.go e R (k.env.ext k.rel e),Q⟩|false=>exact⟨G,M',σ,h',N,k.go e R (k.env.ext k.rel e),Q⟩
 ·exact Q.elim
def SF(s:∀f,PE X e f->PS X st (BV f (kM i)))(g:PE X e (cJ (yx t X) E A)):PS X st (fQ (yx t X) E (NT i A)):=(s _ g).imp λD τ H ⟨G,M,σ,h,N,k,q⟩=>⟨G,M,σ,h,N.xc,_,⟨k.rel,k.env,λd h' M' H' v e r i q=>k.nx _ h' M' H' _ e r ((k.env.ext k.rel e).set i) q,k.exc⟩,q⟩
def K0:List Nat->UE|[]=>UR|i::I=>UT (kM i) (K0 I)
theorem CM{Z:Tx}{M:List Addr}{H:Hp}{R:tSt->Hp->Prop}:∀{is:List Nat}{ys:List Pv}{vs:List V}{σ σ':Es}{τ:tSt},rV is ys σ=O σ'->aO Z M H ys vs->dw Z M H σ τ->(∀f,dw Z M H σ' f->R f H)->K0 is vs τ H R|[],[],[],σ,σ',τ,e,_,v,q=>by cases e;exact⟨rfl,q τ v⟩|[],[],_::_,_,_,_,_,h,_,_=>by unfold aO at h;exact h.elim|[],_::_,_,_,_,_,e,_,_,_=>by cases e|_::_,[],_,_,_,_,e,_,_,_=>by cases e|_::_,_::_,[],_,_,_,_,h,_,_=>by unfold aO at h;exact h.elim|i::is,y::ys,w::vs,σ,σ',τ,e,h,v,q=>by unfold aO at h;exact⟨w,vs,rfl,CM (is:=is) (ys:=ys) e h.2 (v.set (i:=i) (d:=.p y) h.1) q⟩
theorem aO.len{Z:Tx}{M:List Addr}{H:Hp}:∀{ys:List Pv}{vs:List V},aO Z M H ys vs->ys.length=vs.length|[],[],_=>rfl|[],_::_,h=>by unfold aO at h;exact h.elim|_::_,[],h=>by unfold aO at h;exact h.elim|_::_,_::_,h=>by unfold aO at h;rw[ao,ao,aO.len h.2]
theorem pK:∀{is:List Nat}{ys:List Pv}{σ σ':Es},rV is ys σ=O σ'->ys.length=is.length|[],[],_,_,_=>rfl|[],_::_,_,_,e=>by cases e|_::_,[],_,_,e=>by cases e|_::is,_::ys,_,_,e=>by rw[ao,ao,pK (is:=is) (ys:=ys) e]
def SG{is:List Nat}(u:∀l,PE X e l->PS X st (BV l (Xn X.K is.length (K0 is))))(w:PE X e (cJ (yx t X) E A)):PS X st (fQ (yx t X) E (Zp is A)):=(u _ w).imp λD τ H ⟨G,M,σ,h,N,k,q⟩=>by
 refine⟨G,M,σ,h,N.xc,_,⟨k.rel,k.env,λd h' M' H' v e r i q=>?_,k.exc⟩,q⟩;split at q
 ·rename_i y g;injection g with g;subst g;split at q;·rename_i σ' f;unfold cZ bR at i;obtain⟨a,vs,rfl,s,i⟩:=i;refine⟨a,vs,rfl,s,by rw[<-i.len];exact pK f,?_⟩;exact CM f i (k.env.ext k.rel e) λj v=>k.nx σ' h' M' H' j e r v q
  ·exact q.elim
 ·exact q.elim
def IS{C:Nat}(s:∀f,PE X e f->PS X st (Og E (t.ca C) f))(g:PE X e (cJ (yx t X) E A)):PS X st (fQ (yx t X) E (NS C A)):=(s _ g).imp λD τ H ⟨G,M,σ,h,N,k,q⟩=>⟨G,M,σ,h,N.xc,_,⟨k.rel,k.env,λd h' M' H' v e r i q=>k.exc C h' M' H' e r q,k.exc⟩,q⟩
end
abbrev Im:=XP->Es->Hs->(List Pv->Hs->Prop)->Prop
inductive Tg where|one(i:Nat)|many(is:List Nat)
def lp:Tg->Pv->Es->Option Es|.one i,x,σ=>O (σ.set i (O (.p x)))|.many I,.tup y,σ=>rV I y σ|.many _,_,_=>af
def kb(K:Frag):Tg->TG|.one i=>kM i|.many is=>Xn K is.length (K0 is)
def wJ{R:tSt->Hp->Prop}(e:lp tg x σ=O σ')(i:bR Z M H x v)(r:dw Z M H σ τ)(q:∀f,dw Z M H σ' f->R f H):kb Z.K tg v τ H R:=by cases tg with|one j=>cases e;exact q _ (r.set (d:=.p x) i)|many I=>cases x with|tup y=>unfold bR at i;obtain⟨a,vs,rfl,s,i⟩:=i;exact⟨a,vs,rfl,s,by rw[<-i.len];exact pK e,CM e i r q⟩|_=>cases e
def UC(Y:T0)(G:List Addr)(M:List Addr)(H:Hp)(j:It)(xs:List Pv):Prop:=∀G' M' H' h',(∀b∈G',b∈G\/H b=af)->Ext M H M' H'->bq (Y.z G') M' H' h'->(∀(i:Nat)x,xs[i]?=O x->j.go i H'/\∀v Q,j.k_ i H' v Q->Ext M' H' M' Q/\bq (Y.z G') M' Q h'/\bR (Y.z G') M' Q x v)/\j.stop xs.length H'
structure KnI(Y:T0)(G:List Addr)(E:XK)(τ:tSt)(H:Hp)(R:It->Hp->Prop)(M:List Addr)(σ:Es)(h:Hs)(xc:XP)(Q:List Pv->Hs->Prop):Prop where
 rel:bq (Y.z G) M H h
 env:dw (Y.z G) M H σ τ
 out:∀xs h' M' H' a,Ext M H M' H'->bq (Y.z G) M' H' h'->UC Y G M' H' a xs->xs.length<=sizeLine->Q xs h'->R a H'
 exc:∀C h' M' H',Ext M H M' H'->bq (Y.z G) M' H' h'->xc C h'->E (.ref (Y.t.ca C)) af H'
inductive zR(Y:T0)(E:XK)(m:Im)(τ:tSt)(H:Hp)(R:It->Hp->Prop):Prop|mk(G M:List Addr)(σ:Es)(h:Hs)(xc:XP)(Q:_)(k:KnI Y G E τ H R M σ h xc Q)(q:m xc σ h Q):zR Y E m τ H R
def Dg(k:Nat)(R:Es->Hs->Prop):Es->Hs->Prop:=λσ h=>gd (bH k (h.take k)) (R (P5 k σ) (h.take k))
@[irreducible]def QI(k:Nat)(xs:List Pv)(a:Pv->Es->Option Es)(b:Ss)(N:En)(σ:Es)(h:Hs):Prop:=∃W:Nat->Es->Hs->Prop,W 0 σ h/\(∀(i:Nat)x σ' h',xs[i]?=O x->W i σ' h'->match a x σ' with|some σ2=>b {N with nx:=Dg k (W (i+1)),ct:=Dg k (W (i+1)),bk:=Dg k N.nx} σ2 h'|none=>False)/\∀σ' h',W xs.length σ' h'->N.nx σ' h'
def XO(tg:Tg)(I:Im)(b:Ss):Ss:=λN σ h=>I N.xc σ h λxs f=>QI f.length xs (lp tg) b N σ f
section
variable{st:Stmt}{I:Im}{b:Ss}
def Dk{R:Es->Hs->Prop}(f:bq Z M H h)(e:Ext M H M' H')(r:bq Z M' H' h')(v:dw Z M' H' σ τ)(q:Dg h.length R σ h'):∃h2 σ2,Ext M H M H'/\bq Z M H' h2/\dw Z M H' σ2 τ/\R σ2 h2:=by
 obtain⟨c,q⟩:=bB q;have j:M'.take h.length=M:=by obtain⟨l,rfl⟩:=e.pre;rw[<-f.ln,oh]
 have e2:=e.cut (k:=h.length) (by rw[f.ln];exact aB _);have g:=r.cut h.length c;have v2:=v.cut r h.length;rw[j]at e2 g v2;exact⟨_,_,e2,g,v2,q⟩
def Xj(h:fQ (yx t X) E (XO tg I b) D τ H):TM (zR (yx t X) E I) (kb X.K tg) (fQ (yx t X) E b) D τ H:=by
 obtain⟨G,M,σ,h0,N,k,q⟩:=h;refine⟨G,M,σ,h0,N.xc,_,⟨k.rel,k.env,λxs h1 f H1 j e1 r1 jo hz q=>?_,k.exc⟩,q⟩;unfold QI at q;obtain⟨W,w0,turn,fin⟩:=q;refine⟨λi m u H'=>m=xs.length-i/\i<=xs.length/\∃σ' h',Ext f H1 f H'/\bq ((yx t X).z G) f H' h'/\dw ((yx t X).z G) f H' σ' u/\W i σ' h',⟨_,rfl,bG _,σ,h1,Ext.refl,r1,k.env.ext k.rel e1,w0⟩,?_⟩;rintro i _ u H' ⟨rfl,hi,σ',h',e2,r2,v2,w⟩;obtain⟨ja,jb⟩:=jo G f H' h' (λ_ z=>.inl z) e2 r2;by_cases mz:i<xs.length
 ·obtain⟨g,y⟩:=ja i xs[i] (aE mz);refine .inr ⟨g,λτ2 H2=>∃m',m'<xs.length-i/\m'=xs.length-(i+1)/\i+1<=xs.length/\∃σ' h',Ext f H1 f H2/\bq ((yx t X).z G) f H2 h'/\dw ((yx t X).z G) f H2 σ' τ2/\W (i+1) σ' h',λτ2 H2 ⟨m',hm,z⟩=>⟨m',hm,z⟩,λv oQ yl=>?_⟩;obtain⟨e3,r3,ip⟩:=y v oQ yl;have q:=turn i xs[i] σ' h' (aE mz) w;split at q
  ·rename_i σ2 hσ;refine wJ hσ ip (v2.ext r2 e3) λτ2 v4=>?_;have O6:=e2.trans e3;refine⟨G,f,σ2,h',_,⟨r3,v4,?_,?_,?_,?_,?_⟩,q⟩;·intro σ5 S U F P s R v5 Q;obtain⟨h6,l,e6,r6,v6,q6⟩:=Dk r1 (O6.trans s) R v5 Q;exact⟨_,by lia,rfl,by lia,l,h6,e6,r6,v6,q6⟩
   ·exact λd S U F v s R i5 Q=>k.rt d S U F v (e1.trans (O6.trans s)) R i5 Q
   ·intro σ5 S U F P s R v5 Q;obtain⟨h6,l,e6,r6,v6,q6⟩:=Dk r1 (O6.trans s) R v5 Q;exact k.nx l h6 f F P (e1.trans e6) r6 v6 q6
   ·intro σ5 S U F P s R v5 Q;obtain⟨h6,l,e6,r6,v6,q6⟩:=Dk r1 (O6.trans s) R v5 Q;exact⟨_,by lia,rfl,by lia,l,h6,e6,r6,v6,q6⟩
   ·exact λC S U F s R Q=>k.exc C S U F (e1.trans (O6.trans s)) R Q
  ·exact q.elim
 ·have hx:i=xs.length:=by lia
  subst hx;exact .inl ⟨jb,k.nx σ' h' f H' u (e1.trans e2) r2 v2 (fin σ' h' w)⟩
theorem aO.get:∀{xs:List Pv}{vs:List V}{i:Nat}{x:Pv},aO Z M H xs vs->xs[i]?=O x->∃v,vs[i]?=O v/\bR Z M H x v|[],_,_,_,_,e=>by simp at e|_::_,[],_,_,h,_=>by unfold aO at h;exact h.elim|_::_,v::_,0,_,h,e=>by unfold aO at h;cases e;exact⟨v,rfl,h.1⟩|_::_,_::_,i+1,_,h,e=>by unfold aO at h;obtain⟨w,f,g⟩:=aO.get (i:=i) h.2 (by simpa using e);exact⟨w,by simpa using f,g⟩
section
variable{G:List Addr}
def V7(g:∀b∈G',b∈G\/H b=af):∀a,a∈M\/a∈G'->a∈M\/a∈G\/H a=none:=λa h=>h.elim .inl λz=>.inr (g a z)
def bR.wk(g:∀b∈G',b∈G\/H b=af)(h:bR (Y.z G) M H x v):bR (Y.z G') M H x v:=bR.fr (V7 g) h
def aO.wk(g:∀b∈G',b∈G\/H b=af){x:List Pv}{v:List V}(h:aO (Y.z G) M H x v):aO (Y.z G') M H x v:=aO.fr (V7 g) h
def aa6(r:bq (Y.z G) M H h)(N:a∉M)(s:Rd H a (.lst vs))(q:aO (Y.z G) M H xs vs):UC Y G M H (ms Y.K a) xs:=λG' M' H' h' g e R=>by have S:gN Y.K H' a vs:=.inl ((e.mv r).rd N s);have q':=aO.mv (e.mv r) (aO.wk g q);refine⟨λi x j=>?_,⟨vs,S,by rw[q.len];exact aB _⟩⟩;obtain⟨v,f,l⟩:=q'.get j;refine⟨⟨vs,v,S,f⟩,λw Q ⟨m,y⟩=>?_⟩;subst m;have hw:=y vs S;rw[f]at hw;cases hw;exact⟨Ext.refl,R,l⟩
def aba(r:bq (Y.z G) M H h)(s:eL Y.K H a vs)(q:aO (Y.z G) M H xs vs):UC Y G M H (OY Y.K a) xs:=λG' M' H' h' g e R=>by have S:eL Y.K H' a vs:=(e.mv r).sqT s;have q':=aO.mv (e.mv r) (aO.wk g q);refine⟨λi x j=>?_,⟨vs,S,by rw[q.len];exact aB _⟩⟩;obtain⟨v,f,l⟩:=q'.get j;refine⟨⟨vs,v,S,f⟩,λw Q ⟨m,y⟩=>?_⟩;subst m;have hw:=y vs S;rw[f]at hw;cases hw;exact⟨Ext.refl,R,l⟩
noncomputable def mw(lo:Int)(n:Nat):List Pv:=(ab6 n).map λ(i:Nat)=>.int (lo+i)
def aa7{lo:Int}:UC Y G M H (n' lo n) (mw lo n):=λG' M' H' h' l e R=>by
 refine⟨λi x f=>?_,show n<=(mw lo n).length by unfold mw;rw[ak,d7];exact aB _⟩;unfold mw at f;rw[bM]at f;by_cases g:i<n;·rw[x8 g]at f;cases f;refine⟨g,λw Q ⟨j,y⟩=>?_⟩;subst j y;exact⟨Ext.refl,R,by unfold bR;rfl⟩
 ·rw[kA (by rw[d7];lia)]at f;cases f
end
noncomputable def gH(n:Nat)(js:List Nat)(σ:Es):Es:=aa4 n af++js.map λj=>σ[j]?.join
def WZ(k:Nat)(R:Hs->Prop):Hs->Prop:=λh=>gd (bH k (h.take k)) (R (h.take k))
noncomputable def T8(n:Nat):Tg->Bool|.one i=>decide (i<n)|.many is=>is.all λi=>decide (i<n)
@[irreducible]def Kv(g:Hs)(xs:List Pv)(e:Pv->Option Es)(T A:Es->Hs->KP->Prop)(Q:List Pv->Hs->Prop):Prop:=∃W:Nat->List Pv->Hs->Prop,W 0 [] g/\(∀(i:Nat)y f h',xs[i]?=O y->W i f h'->match e y with
  |some σ2=>T σ2 h' λbs j=>match bs with|[.p (.bl b)]=>br b (A σ2 j λs l=>match s with|[.p y]=>WZ g.length (W (i+1) (f++[y])) l|_=>False) (WZ g.length (W (i+1) f) j)|_=>False
  |none=>False)/\∀f h',W xs.length f h'->Q f h'
def Gz(n:Nat)(js:List Nat)(tg:Tg)(I:Im)(T A:Sm)(x:Bool):Sm:=λxc σ h Q=>I xc σ h λxs g=>Kv g xs (λy=>lp tg y (gH n js σ)) (T λc h=>x=J/\xc c h) (A λc h=>x=J/\xc c h) λf h'=>Q [.p (.lst f)] h'
theorem xU{n:Nat}:∀{is:List Nat}{ys:List Pv}{σ σ':Es},(is.all λi=>decide (i<n))=J->rV is ys σ=O σ'->σ'.length=σ.length/\∀i,n<=i->σ'[i]?=σ[i]?|[],[],_,_,_,e=>by cases e;exact⟨rfl,λ_ _=>rfl⟩|[],_::_,_,_,_,e=>by cases e|_::_,[],_,_,_,e=>by cases e|j::is,y::ys,σ,σ',h,e=>by rw[bh,aI]at h;obtain⟨a,b⟩:=xU (is:=is) (ys:=ys) h.2 e;refine⟨by rw[a,bp],λi f=>?_⟩;have g:j<n:=aX h.1;rw[b i f,aG (by lia)]
def WA(h:T8 n tg)(e:lp tg x σ=O σ'):σ'.length=σ.length/\∀i,n<=i->σ'[i]?=σ[i]?:=by cases tg with|one j=>cases e;have f:j<n:=aX h;exact⟨by rw[bp],λi g=>by rw[aG (by lia)]⟩|many s=>cases x with|tup y=>exact xU h e|_=>cases e
def AE(v:dw Z M H σ τ)(n:Nat)(js:List Nat):dw Z M H (gH n js σ) (p9 n js τ):=by
 refine⟨by unfold gH p9;rw[ae,ae,ak,ak,bV,bV],λi d f=>?_⟩;unfold gH at f;unfold p9;by_cases g:i<n;·rw[aW (by rw[bV];exact g),fM,bx g]at f;cases f
 ·rw[aP (by rw[bV];lia),bV,bM]at f⊢;cases l:js[i-n]? with|none=>rw[l]at f;cases f|some j=>rw[l]at f;cases s:σ[j]? with|none=>rw[tJ,s]at f;cases f|some o=>
    rw[tJ,s]at f;have m:o=O d:=by simpa using f
    subst m;obtain⟨w,q,u⟩:=v.at' j d s;exact⟨w,by rw[tJ,q];rfl,u⟩
def rE(l:σ2.length=(gH n js σ).length)(j:∀i,n<=i->σ2[i]?=(gH n js σ)[i]?)(v:dw Z M H σ2 τ2):dw Z M H (gH n js σ) τ2:=by
 refine⟨l▸v.ln,λi d f=>?_⟩;by_cases g:i<n;·unfold gH at f;rw[aW (by rw[bV];exact g),fM,bx g]at f;cases f
 ·exact v.at' i d (by rw[j i (by lia)];exact f)
section
variable{G:List Addr}
def NC{u:HO}{b:Addr}(g:H a=O o)(f:b≠a)(r:Rd H b u):Rd (cQ H a o') b u:=by
 rcases r with r|⟨q,r⟩;·exact .inl (by rw[bC f];exact r)
 ·exact .inr ⟨q,by rw[bC f];exact r⟩
def Tu{K:Frag}{b:Addr}(g:zd o)(f:H a=O o)(s:eL K H b vs):eL K (cQ H a o') b vs:=by
 rcases s with r|r;·refine .inl (NC f (λz=>?_) r);subst z;rcases r with r|⟨o,r⟩<;>rw[f]at r<;>cases r<;>cases g
 ·exact .inr r
mutual
theorem bR.chg{o o':HO}(j:zd o)(f:a∈G)(g:H a=O o):∀{x:Pv}{v:V},bR (Y.z G) M H x v->bR (Y.z G) M (cQ H a o') x v
 |.non,_,h=>by unfold bR at*;exact h|.bl _,_,h=>by unfold bR at*;exact h|.int _,_,h=>by unfold bR at*;exact h|.str _,_,h=>by unfold bR at*;exact h|.fn _,_,h=>by unfold bR at*;exact h|.ty _,_,h=>by unfold bR at*;exact h|.tup xs,_,h=>by unfold bR at*;obtain⟨b,vs,e,s,q⟩:=h;exact⟨b,vs,e,Tu j g s,aO.chg j f g q⟩|.lst xs,_,h=>by unfold bR at*;obtain⟨b,vs,e,n,s,q⟩:=h;exact⟨b,vs,e,n,by rw[bC λz:b=a=>n.2 (z▸f)];exact s,aO.chg j f g q⟩|.scr xs,_,h=>by
  unfold bR at*;obtain⟨b,vs,e,s,q⟩:=h;rcases s with ⟨n,s⟩|s;·exact⟨b,vs,e,.inl ⟨n,NC g (λz=>n.2 (z▸f)) s⟩,aO.chg j f g q⟩
  ·exact⟨b,vs,e,.inr s,aO.chg j f g q⟩|.dct ks us,_,h=>by unfold bR at*;obtain⟨b,K,e,n,s,q,Q⟩:=h;exact⟨b,K,e,n,by rw[bC λz:b=a=>n.2 (z▸f)];exact s,aO.chg j f g q,aO.chg j f g Q⟩|.obj C fs,_,h=>by unfold bR at*;obtain⟨b,m,fv,e,n,s,l,q⟩:=h;exact⟨b,m,fv,e,n,by rw[bC λz:b=a=>n.2 (z▸f)];exact s,l,aO.chg j f g q⟩theorem aO.chg{o o':HO}(j:zd o)(f:a∈G)(g:H a=O o):∀{xs:List Pv}{vs:List V},aO (Y.z G) M H xs vs->aO (Y.z G) M (cQ H a o') xs vs|[],[],h=>by unfold aO at*;trivial|[],_::_,h=>by unfold aO at*;exact h|_::_,[],h=>by unfold aO at*;exact h|x::xs,v::vs,h=>by unfold aO at*;exact⟨bR.chg j f g h.1,aO.chg j f g h.2⟩end
theorem cZ.chg(f:zd o)(g:a∈G)(j:H a=O o)(q:cZ (Y.z G) M H d v):cZ (Y.z G) M (cQ H a o') d v:=by cases d with|p x=>exact bR.chg f g j q|r i=>exact q
theorem cj.chg{o o':HO}(f:zd o)(g:a∈G)(j:H a=O o):∀{ds:List Dv}{vs:List V},cj (Y.z G) M H ds vs->cj (Y.z G) M (cQ H a o') ds vs|[],[],_=>trivial|[],_::_,q=>q|_::_,[],q=>q|_::_,_::_,q=>⟨q.1.chg f g j,cj.chg f g j q.2⟩
theorem dw.chg(f:zd o)(g:a∈G)(j:H a=O o)(q:dw (Y.z G) M H σ τ):dw (Y.z G) M (cQ H a o') σ τ:=⟨q.ln,λi d l=>let ⟨v,m,q⟩:=q.at' i d l;⟨v,m,q.chg f g j⟩⟩
theorem bq.chg(f:zd o)(m:a∈G)(g:H a=O o)(N:a∉M)(r:bq (Y.z G) M H h):bq (Y.z G) M (cQ H a o') h:=by refine⟨r.nd,r.dj,r.ln,λb j=>qL (r.gs b j),λi b Q s u=>?_⟩;have j:b≠a:=λz=>N (z▸aZ s);have q:=r.ob i b Q s u;cases Q with|lst xs=>obtain⟨vs,e,q⟩:=q;exact⟨vs,by rw[bC j];exact e,aO.chg f m g q⟩|df xs=>obtain⟨vs,e,q⟩:=q;exact⟨vs,by rw[bC j];exact e,q.chg f m g⟩|dct P U=>obtain⟨K,e,q,w⟩:=q;exact⟨K,by rw[bC j];exact e,aO.chg f m g q,aO.chg f m g w⟩|ins C fs=>obtain⟨y,F,e,n,l,q⟩:=q;exact⟨y,F,by rw[bC j];exact e,by rw[bC λz=>by rw[z,g]at n;cases n;cases f];exact n,l,q.chg f m g⟩
theorem cZ.wk(g:∀b∈G',b∈G\/H b=af)(q:cZ (Y.z G) M H d v):cZ (Y.z G') M H d v:=by cases d with|p x=>exact bR.wk g q|r i=>exact q
theorem cj.wk{G':List Addr}(g:∀b∈G',b∈G\/H b=af):∀{ds:List Dv}{vs:List V},cj (Y.z G) M H ds vs->cj (Y.z G') M H ds vs|[],[],_=>trivial|[],_::_,q=>q|_::_,[],q=>q|_::_,_::_,q=>⟨q.1.wk g,cj.wk g q.2⟩
theorem we.wk(g:∀b∈G',b∈G\/H b=af){b:Addr}{o:Ob}(z:we (Y.z G) M H b o):we (Y.z G') M H b o:=by cases o with|lst xs=>obtain⟨vs,e,q⟩:=z;exact⟨vs,e,aO.wk g q⟩|df xs=>obtain⟨vs,e,q⟩:=z;exact⟨vs,e,q.wk g⟩|dct s u=>obtain⟨K,e,q,Q⟩:=z;exact⟨K,e,aO.wk g q,aO.wk g Q⟩|ins C fs=>obtain⟨f,F,e,n,l,q⟩:=z;exact⟨f,F,e,n,l,q.wk g⟩
theorem y6(hn:H a=af):∀b∈a::G,b∈G\/H b=none:=λb f=>(aJ.mp f).elim (λz=>.inr (z▸hn)) .inl
theorem DJ:∀b∈G,b∈a::G\/H b=none:=λb f=>.inl (aq _ f)
theorem dw.JB(hn:H a=af)(r:bq (Y.z G) M H h)(q:dw (Y.z G) M H σ τ):dw (Y.z (a::G)) M (cQ H a o) σ τ:=⟨q.ln,λi d f=>let ⟨v,g,q⟩:=q.at' i d f;⟨v,g,(q.wk (y6 hn)).mv ((Ext.add hn).mv r) λ_ _ z=>z⟩⟩
theorem bq.JB(hn:H a=af)(r:bq (Y.z G) M H h):bq (Y.z (a::G)) M (cQ H a o) h:=by
 have R:=r.add (o:=o) hn;refine⟨r.nd,λb f z=>(aJ.mp z).elim (λz=>r.fresh hn (z▸f)) (r.dj b f),r.ln,λb f=>?_,λi b q g j=>?_⟩
 ·rcases aJ.mp f with z|z;·subst z;exact⟨o,bF⟩
  ·exact R.gs b z
 ·have k:∀{b u},H b=O u->cQ H a o b=O u:=λe=>by rw[bC (bS e hn)];exact e
  exact we.mv ((Ext.add (M:=M) (o:=o) hn).mv r) (λ_ _ z=>z) (λ_=>k) (λ_=>k) ((r.ob i b q g j).wk (y6 hn))
theorem bq.dun(r:bq (Y.z (a::G)) M H h):bq (Y.z G) M H h:=⟨r.nd,λb f z=>r.dj b f (aq _ z),r.ln,λb f=>r.gs b (aq _ f),λi b q g j=>(r.ob i b q g j).wk DJ⟩
theorem aO.app{Z:Tx}:∀{xs ys:List Pv}{vs ws:List V},aO Z M H xs vs->aO Z M H ys ws->aO Z M H (xs++ys) (vs++ws)|[],_,[],_,_,q=>q|[],_,_::_,_,h,_=>by unfold aO at h;exact h.elim|_::_,_,[],_,h,_=>by unfold aO at h;exact h.elim|_::_,_,_::_,_,h,q=>by unfold aO at h;rw[fK,fK];unfold aO;exact⟨h.1,aO.app h.2 q⟩
theorem aO.one{Z:Tx}{x:Pv}{v:V}(h:bR Z M H x v):aO Z M H [x] [v]:=by unfold aO;exact⟨h,by unfold aO;trivial⟩
end
def xo{m f:List Addr}{q g:Hp}{s:Hs}{τ4:tSt}(y:dw Z m q (gH n js σ) τ2)(F:dw Z f g σ2 τ4)(G:σ2.length=(gH n js σ).length)(K:∀i,n<=i->σ2[i]?=(gH n js σ)[i]?)(R:bq Z f g s)(N:k=m.length)(P:f.take k=m):dw Z m g (gH n js σ) τ4:=by have v:=rE G K F;refine⟨v.ln,λi d l=>?_⟩;obtain⟨w,Q,S⟩:=v.at' i d l;refine⟨w,Q,?_⟩;obtain⟨u,_,U⟩:=y.at' i d l;have z:=S.cut R (k:=k) (by cases d with|p x=>rfl|r j=>obtain⟨b,W,_⟩:=U;exact cq (N▸(ai.mp W).1));rw[P]at z;exact z
def yB{x:Bool}{E1:XK}(hE:∀c H,x=J->E (.ref c) af H->E1 (.ref c) af H)(ht:T8 n tg)(h:cJ (yx t X) E (Gz n js tg I T A x) τ H QV):BW (zR (yx t X) E I) (kb X.K tg) (jj (yx t X) E1 T) (cJ (yx t X) E1 A) (p9 n js) τ H QV:=by
 obtain⟨G,M,σ,h0,xc,Q,k,q⟩:=h;refine⟨G,M,σ,h0,xc,_,⟨k.rel,k.env,λxs s M1 H1 j e1 R jo hz q=>?_,k.exc⟩,q⟩;unfold Kv at q;obtain⟨W,w0,turn,fin⟩:=q;intro f oG;obtain⟨N,naG⟩:=R.o9 oG;have ea:Ext M1 H1 M1 (cQ H1 f (.lst [])):=Ext.add oG;have v1:=k.env.ext k.rel e1;let Z:Tx:=(yx t X).z (f::G);have U4:f∈f::G:=aw;refine⟨λi m τ2 ys F=>m=xs.length-i/\i<=xs.length/\F f=O (.lst ys)/\ys.length<=i/\∃P h',Ext M1 H1 M1 F/\bq Z M1 F h'/\dw Z M1 F (gH n js σ) τ2/\aO Z M1 F P ys/\W i P h',⟨_,rfl,bG _,bF,bG _,[],s,ea,R.JB oG,(AE v1 n js).JB oG R,by unfold aO;trivial,w0⟩,?_⟩;rintro i _ τ2 ys F ⟨rfl,hi,ha,hly,P,h',e2,r2,v2,p2,w⟩;refine⟨ha,?_⟩;obtain⟨ja,jb⟩:=jo (f::G) M1 F h' (y6 oG) e2 r2;by_cases mz:i<xs.length
 ·obtain⟨g,y⟩:=ja i xs[i] (aE mz);refine .inr ⟨g,by lia,λv oQ yl=>?_⟩;obtain⟨e3,r3,ip⟩:=y v oQ yl;have q:=turn i xs[i] P h' (aE mz) w;split at q
  ·rename_i σ2 hσ;obtain⟨gl,gg⟩:=WA ht hσ;refine wJ (Z:=Z) hσ ip (v2.ext r2 e3) λτ4 v4=>?_;have ex:∀{S U},Ext M1 oQ S U->∀C u4 Pt JY,Ext S U Pt JY->bq Z Pt JY u4->x/\xc C u4->E1 (.ref (t.ca C)) af JY:=λu C u4 Pt JY x' r q=>hE _ _ q.1 (k.exc C u4 Pt JY ((e1.trans (e2.trans e3)).trans (u.trans x')) r.dun q.2);have ka:∀{S U},Ext M1 oQ S U->U f=O (.lst ys):=λu=>u.keep f _ N (e3.keep f _ N ha);have p3:=p2.ext r2 e3;refine⟨f::G,M1,σ2,h',_,_,⟨r3,v4,λd h5 S U u r5 q5=>?_,ex Ext.refl⟩,q⟩;split at q5
   ·rename_i b hb;injection hb with hb;refine⟨b,hb,?_⟩
    cases b with|true=>
     rw[bx rfl];refine⟨f::G,S,σ2,h5,_,_,⟨r5,v4.ext r3 u,λd6 h6 M6 H6 v6 e6 r6 i6 q6=>?_,ex u⟩,q5⟩;split at q6
     ·rename_i y hy;injection hy with hy;subst hy;have Qr:=u.trans e6;have Rt:=ka Qr;refine⟨Rt,xs.length-(i+1),by lia,rfl,by lia,bF,by rw[ae];simp;lia,?_⟩;have Qq:=(e2.trans e3).trans Qr;obtain⟨c,q7⟩:=bB q6;have hM:M6.take s.length=M1:=by obtain⟨l,rfl⟩:=Qq.pre;rw[<-R.ln,oh]
      have r7:=r6.cut s.length c;have i7:bR Z (M6.take s.length) H6 y v6:=bR.mv (Mv.cut r6 s.length) i6;have v7:=xo v2 (v4.ext r3 Qr) gl gg r6 R.ln.symm hM;have p7:aO Z (M6.take s.length) H6 P ys:=aO.mv (Mv.cut r6 s.length) (p3.ext r3 Qr);rw[hM]at r7 i7 p7;have e7:=Qq.cut (k:=s.length) (by rw[R.ln];exact aB _);rw[hM]at e7;refine⟨P++[y],_,⟨⟨[],(aM M1).symm⟩,λb o hb ho=>?_,λb hb hn=>absurd hb hn⟩,r7.chg rfl U4 Rt N,?_,(p7.app (aO.one i7)).chg rfl U4 Rt,q7⟩;·rw[bC (bS ho oG)];exact e7.keep b o hb ho
      ·exact v7.chg rfl U4 Rt
     ·exact q6.elim|false=>
     rw[bE aK];refine⟨xs.length-(i+1),by lia,rfl,by lia,ka u,by lia,?_⟩;have Qq:=(e2.trans e3).trans u;obtain⟨c,q7⟩:=bB q5;have hM:S.take s.length=M1:=by obtain⟨l,rfl⟩:=Qq.pre;rw[<-R.ln,oh]
     have r7:=r5.cut s.length c;have v7:=xo v2 (v4.ext r3 u) gl gg r5 R.ln.symm hM;have p7:aO Z (S.take s.length) U P ys:=aO.mv (Mv.cut r5 s.length) (p3.ext r3 u);have e7:=Qq.cut (k:=s.length) (by rw[R.ln];exact aB _);rw[hM]at r7 p7 e7;exact⟨P,_,e7,r7,v7,p7,q7⟩
   ·exact q5.elim
  ·exact q.elim
 ·have hx:i=xs.length:=by lia
  subst hx;refine .inl ⟨jb,k.out _ h' M1 F (.ref f) (e1.trans e2) r2.dun ?_ (fin P h' w)⟩;unfold cZ bR;exact⟨f,ys,rfl,⟨N,naG⟩,ha,aO.wk DJ p2⟩
end
end F
namespace F
open L2 PySem.SeqAt
variable{X:Cx}{am:ce}{σ:tSt}{s:bv}{Y:T0}{M:List Addr}{H:Hp}{i j:Int}{vs ws:List V}{xs ys:List Pv}{A:cr}{p q:Pv}{v:V}{v' u':Value}
noncomputable def pA:List Nat->List Nat->Bool|[],[]=>J|a::x,b::y=>aa3 a b&&pA x y|_,_=>a7
def bA(a b:Str):Bool:=pA a.cps.toList b.cps.toList
theorem vg:∀{x y:List Nat},pA x y=J↔x=y|[],[]=>by simp[pA]|[],_::_=>by simp[pA]|_::_,[]=>by simp[pA]|a::x,b::y=>by simp only[pA,aI,Nat.beq_eq,vg (x:=x) (y:=y),List.cons.injEq]
def aT{a b:Str}:bA a b=J↔a=b:=by
 unfold bA;rw[vg];constructor;·intro h;cases a with|mk a=>cases b with|mk b=>exact bU Str.mk (Array.toList_inj.mp h)
 ·intro h;rw[h]
def nU(a b:Str):(a==b)=bA a b:=by
 by_cases h:a=b;·rw[aT.mpr h,h];exact eI b
 ·have c:bA a b=false:=bw.mpr λz=>h (aT.mp z);rw[c];exact cu.mpr h
noncomputable def Vg(neg b:Bool):Bool:=match neg with|true=>!b|false=>b
def D2(neg b:Bool):Vg neg b=(neg !=b):=by cases neg<;>cases b<;>rfl
noncomputable def qi:Int->Int->Bool|.ofNat a,.ofNat b=>aa3 a b|.negSucc a,.negSucc b=>aa3 a b|_,_=>a7
noncomputable def rN:Int->Int->Bool|.ofNat a,.ofNat b=>aa5 a b|.negSucc _,.ofNat _=>J|.negSucc a,.negSucc b=>aa5 b a|.ofNat _,.negSucc _=>a7
noncomputable def lJ:Int->Int->Bool|.ofNat a,.ofNat b=>aa5 (a+1) b|.negSucc _,.ofNat _=>J|.negSucc a,.negSucc b=>aa5 (b+1) a|.ofNat _,.negSucc _=>a7
def ap{a b:Nat}:aa5 a b=J↔a<=b:=⟨bg,eU⟩
def eD:qi i j=J↔i=j:=by
 cases i<;>cases j;·exact⟨λh=>by rw[ax h],λh=>by injection h with h;rw[h];exact fX _⟩
 ·exact⟨λh=>(by cases h),λh=>by cases h⟩
 ·exact⟨λh=>(by cases h),λh=>by cases h⟩
 ·exact⟨λh=>by rw[ax h],λh=>by injection h with h;rw[h];exact fX _⟩
def el:rN i j=J↔i<=j:=by
 cases i<;>cases j;·exact ap.trans (by simp only[fh];lia)
 ·exact⟨λh=>(by cases h),λh=>by simp only[fh]at h;lia⟩
 ·exact⟨λ_=>by simp only[fh];lia,λ_=>rfl⟩
 ·exact ap.trans (by lia)
def eF:lJ i j=J↔i<j:=by
 cases i<;>cases j;·exact ap.trans (by simp only[fh];lia)
 ·exact⟨λh=>(by cases h),λh=>by simp only[fh]at h;lia⟩
 ·exact⟨λ_=>by simp only[fh];lia,λ_=>rfl⟩
 ·exact ap.trans (by lia)
def rG(i j:Int):qi i j=decide (i=j):=dG.mpr (by rw[gP];exact eD)
def Ym(i j:Int):rN i j=decide (i<=j):=dG.mpr (by rw[gP];exact el)
def LU(i j:Int):lJ i j=decide (i<j):=dG.mpr (by rw[gP];exact eF)
noncomputable def b2(b:Bool):Int:=match b with|true=>1|false=>0
mutual
def pP:Pv->Pv->Bool|.non,.non=>J|.bl a,.bl b=>a==b|.bl a,.int b=>qi (b2 a) b|.int a,.bl b=>qi a (b2 b)|.int a,.int b=>qi a b|.str a,.str b=>bA a b|.tup a,.tup b=>jI a b|.lst a,.lst b=>jI a b|_,_=>a7
def jI:List Pv->List Pv->Bool|[],[]=>J|a::x,b::y=>pP a b&&jI x y|_,_=>a7
end
noncomputable def lM:Nat->Pv->Bool|0,_=>a7|n+1,.tup xs=>xs.all (lM n)|n+1,.lst xs=>xs.all (lM n)|_+1,.non=>J|_+1,.bl _=>J|_+1,.int _=>J|_+1,.str _=>J|_+1,_=>a7
def xv(xs ys:List Pv)(j:Nat):Bool:=match xs[j]?,ys[j]? with|some a,O b=>pP a b|_,_=>J
theorem lE:∀{xs ys:List Pv},xs.length=ys.length->jI xs ys=(ab6 xs.length).all (xv xs ys)|[],[],_=>by unfold jI;rfl|a::x,b::y,h=>by have I:=lE (xs:=x) (ys:=y) (by simpa using h);unfold jI;rw[I,ao,List.range_succ_eq_map,bh,mE];rfl|[],_::_,h=>by simp at h|_::_,[],h=>by simp at h
theorem qj:∀{xs ys:List Pv},jI xs ys=J->xs.length=ys.length|[],[],_=>rfl|a::x,b::y,h=>by unfold jI at h;rw[aI]at h;rw[ao,ao,qj h.2]|[],_::_,h=>by unfold jI at h;cases h|_::_,[],h=>by unfold jI at h;cases h
mutual
theorem KN:∀{n:Nat}{x:Pv},lM n x=J->pP x x=J|0,_,h=>by unfold lM at h;cases h|n+1,.non,_=>by unfold pP;rfl|n+1,.bl b,_=>by unfold pP;exact eI b|n+1,.int i,_=>by unfold pP;rw[rG];exact cq rfl|n+1,.str x,_=>by unfold pP;exact aT.mpr rfl|n+1,.tup xs,h=>by unfold pP;unfold lM at h;exact nK h|n+1,.lst xs,h=>by unfold pP;unfold lM at h;exact nK h|n+1,.dct _ _,h=>by unfold lM at h;cases h|n+1,.scr _,h=>by unfold lM at h;cases h|n+1,.obj _ _,h=>by unfold lM at h;cases h|n+1,.fn _,h=>by unfold lM at h;cases h|n+1,.ty _,h=>by unfold lM at h;cases h
theorem nK:∀{n:Nat}{xs:List Pv},xs.all (lM n)=J->jI xs xs=J|_,[],_=>by unfold jI;rfl|n,x::xs,h=>by rw[bh,aI]at h;unfold jI;rw[KN h.1,nK h.2];rfl
end
section
variable{G:List Addr}
theorem GF(m:Y.K=X.K)(I:Inv X am σ H s):∀(n:Nat){p q:Pv}{v:V},lM n p=J->lM n q->bR (Y.z G) M H p v->bR (Y.z G) M H q v->p=q:=by
 intro n;induction n with|zero=>intro _ _ _ h;unfold lM at h;cases h|succ n jj=>
  intro p q v d f k c
  have P:∀{P qs:List Pv}{vs:List V},P.all (lM n)=J->qs.all (lM n)->aO (Y.z G) M H P vs->aO (Y.z G) M H qs vs->P=qs:=by intro P;induction P with
   |nil=>intro qs vs _ _ a b;have l:=a.len.trans b.len.symm;cases qs with|nil=>rfl|cons _ _=>simp at l
   |cons p P E=>intro qs vs t u a b;have l:=a.len.trans b.len.symm;cases qs with|nil=>simp at l|cons q qs=>cases vs with|nil=>unfold aO at a;exact a.elim|cons w vs=>unfold aO at a b;rw[bh,aI]at t u;rw[jj t.1 u.1 a.1 b.1,E t.2 u.2 a.2 b.2]
  cases p with
  |tup xs=>unfold bR at k;obtain⟨a,vs,rfl,o,x⟩:=k;cases q with|tup ys=>unfold bR at c;obtain⟨b,ws,e,S,g⟩:=c;cases e;rw[I.kU (show eL X.K H a ws from m▸S) (show eL X.K H a vs from m▸o)]at g;unfold lM at d f;rw[P d f x g]|lst ys=>unfold bR at c;obtain⟨b,ws,e,_,S,g⟩:=c;cases e;exfalso;obtain⟨y,_,⟨o1,B,D,_⟩,_⟩:=I.tuple (show eL X.K H a vs from m▸o);obtain⟨R,_,⟨F,N,r,C,_⟩,_⟩:=I.list (show gN X.K H a ws from .inl (.inl S));rw[B]at r;cases r;rw[D]at C;injection C with C;exact absurd C (by ext)|_=>first|(unfold bR at c;cases c;done)|(unfold lM at f;cases f;done)
  |lst xs=>unfold bR at k;obtain⟨a,vs,rfl,_,o,x⟩:=k;cases q with|tup ys=>unfold bR at c;obtain⟨b,ws,e,S,g⟩:=c;cases e;exfalso;obtain⟨y,_,⟨o1,B,D,_⟩,_⟩:=I.tuple (show eL X.K H a ws from m▸S);obtain⟨R,_,⟨F,N,r,C,_⟩,_⟩:=I.list (show gN X.K H a vs from .inl (.inl o));rw[B]at r;cases r;rw[D]at C;injection C with C;exact absurd C (by ext)|lst ys=>unfold bR at c;obtain⟨b,ws,e,_,S,g⟩:=c;cases e;rw[I.Bl (show gN X.K H a ws from .inl (.inl S)) (show gN X.K H a vs from .inl (.inl o))]at g;unfold lM at d f;rw[P d f x g]|_=>first|(unfold bR at c;cases c;done)|(unfold lM at f;cases f;done)
  |dct _ _=>unfold lM at d;cases d|scr _=>unfold lM at d;cases d|obj _ _=>unfold lM at d;cases d|fn _=>unfold lM at d;cases d|ty _=>unfold lM at d;cases d|_=>unfold bR at k;subst k;cases q<;>first|(unfold bR at c;cases c;rfl)|(unfold bR at c;cases c;done)|(unfold bR at c;obtain⟨_,_,e,_⟩:=c;cases e;done)|(unfold lM at f;cases f;done)
def qr{us Z:List Value}(r:Vals vs us)(R:Vals ws Z)(ix:aO (Y.z G) M H xs vs)(I:aO (Y.z G) M H ys ws)(c:∀{p q:Pv}{v u:V}{v' u':Value},p∈xs->q∈ys->bR (Y.z G) M H p v->bR (Y.z G) M H q u->RelV v v'->RelV u u'->EqAt A s v' u' (pP p q)):∀j(h:j<us.toArray.size)(a:j<Z.toArray.size),EqAt A s us.toArray[j] Z.toArray[j] (xv xs ys j):=by
 intro j h a;have l1:=r.length;have l2:=R.length;have L:=ix.len;have l4:=I.len;simp only[aD]at h a;have e:xs[j]?=O (xs[j]'(by lia)):=aE _;have E:ys[j]?=O (ys[j]'(by lia)):=aE _;obtain⟨v,d,pv⟩:=ix.get e;obtain⟨w,f,P⟩:=I.get E;obtain⟨u,hu,g⟩:=r.get d;obtain⟨z,b,k⟩:=R.get f;have l:us.toArray[j]=u:=by rw[aE h]at hu;simpa using hu
 have m:Z.toArray[j]=z:=by rw[aE a]at b;simpa using b
 rw[l,m];unfold xv;rw[e,E];exact c (iB _) (iB _) pv P g k
def GH{a b:Addr}(I:Inv X am σ H s)(S:eL X.K H a vs)(d:eL X.K H b ws)(ix:aO (Y.z G) M H xs vs)(y:aO (Y.z G) M H ys ws)(f:∀{p q:Pv}{v u:V}{v' u':Value},p∈xs->q∈ys->bR (Y.z G) M H p v->bR (Y.z G) M H q u->RelV v v'->RelV u u'->EqAt A.in1 s v' u' (pP p q))(hu:A.units<cLine):∃(its r:Array Value)(e:Nat->Bool),s.heap.IsTuple a its/\s.heap.IsTuple b r/\(∀j(k:j<its.size)(l:j<r.size),EqAt A.in1 s its[j] r[j] (e j))/\((ab6 (min its.size r.size)).all e&&its.size==r.size)=jI xs ys:=by
 obtain⟨its,R,t,_⟩:=I.tuple S;obtain⟨r,c,T,_⟩:=I.tuple d;refine⟨its.toArray,r.toArray,xv xs ys,t,T,qr R c ix y f,?_⟩;rw[aD,aD,<-R.length,<-c.length,<-ix.len,<-y.len];by_cases h:xs.length=ys.length;·rw[<-h,Nat.min_self,lE h,eI,bX]
 ·rw[cu.mpr h,nW];cases g:jI xs ys with|false=>rfl|true=>exact absurd (qj g) h
inductive Kd(X:Cx)(Y:T0)(G M:List Addr)(H:Hp)(s:bv)(n:Nat):Pv->V->Value->Prop|tup(xs:List Pv)(a:Addr)(vs:List V)(its:List Value)(k:xs.all (lM n))(sa:eL X.K H a vs)(ia:aO (Y.z G) M H xs vs)(T:s.heap.IsTuple a its.toArray):Kd X Y G M H s n (.tup xs) (.ref a) (.ref a)|lst(xs:List Pv)(a:Addr)(vs:List V)(its:List Value)(k:xs.all (lM n))(ia:aO (Y.z G) M H xs vs)(T:PlainL s.heap a its.toArray)(r:Vals vs its):Kd X Y G M H s n (.lst xs) (.ref a) (.ref a)|non:Kd X Y G M H s n .non .non .none|bl(b:Bool):Kd X Y G M H s n (.bl b) (.bl b) (.bool b)|int(i:Int)(t:Tok):Kd X Y G M H s n (.int i) (.int i) (.int i t)|str(z:Str)(t:Tok):Kd X Y G M H s n (.str z) (.str z) (.str z t)
def va(e:Y.K=X.K)(I:Inv X am σ H s){n:Nat}(k:lM (n+1) p)(h:bR (Y.z G) M H p v)(r:RelV v v'):Kd X Y G M H s n p v v':=by unfold lM at k;unfold bR at h;cases p with|tup xs=>obtain⟨a,vs,rfl,S,d⟩:=h;cases r;obtain⟨c,_,T,_⟩:=I.tuple (show eL X.K H a vs from e▸S);exact .tup xs a vs c k (e▸S) d T|lst xs=>obtain⟨a,vs,rfl,_,S,d⟩:=h;cases r;obtain⟨c,r,T,_⟩:=I.list (show gN X.K H a vs from .inl (.inl S));exact .lst xs a vs c k d T r|non=>subst h;cases r;exact .non|bl b=>subst h;cases r;exact .bl b|int i=>subst h;obtain⟨t,rfl⟩:=r;exact .int i t|str z=>subst h;obtain⟨t,rfl⟩:=r;exact .str z t|_=>cases k
theorem J3(y:Y.K=X.K)(I:Inv X am σ H s):∀(n:Nat){p q:Pv}{v u:V}{v' u':Value}{A:cr},lM n p=J->lM n q->bR (Y.z G) M H p v->bR (Y.z G) M H q u->RelV v v'->RelV u u'->A.units+n<cLine->RcAt A s v' u' (pP p q)/\RcNeAt A s v' u' !pP p q/\EqAt A s v' u' (pP p q):=by
 intro n;induction n with|zero=>intro _ _ _ _ _ _ _ h;unfold lM at h;cases h|succ n jj=>
  intro p q v u v' u' A k1 D h1 E r1 B hu
  have f:A.units<cLine:=by lia
  have sub:∀{xs ys:List Pv},xs.all (lM n)=J->ys.all (lM n)->∀{p q:Pv}{v u:V}{v' u':Value},p∈xs->q∈ys->bR (Y.z G) M H p v->bR (Y.z G) M H q u->RelV v v'->RelV u u'->EqAt A.in1 s v' u' (pP p q):=λ{xs ys}a b{p q v u v' u'}hp hq i j r1 B=>(jj (aS.mp a p hp) (aS.mp b q hq) i j r1 B (by show A.units+1+n<cLine;lia)).2.2;have same:v=u->p=q:=λz=>by subst z;exact GF y I (n+1) k1 D h1 E
  have rf:∀{a b:Addr}{xs ys:List Pv},xs.all (lM n)=J->(a=b->xs=ys)->RcAt A s (.ref a) (.ref b) (jI xs ys)->EqAt A s (.ref a) (.ref b) (jI xs ys):=λ{a b xs ys}k e r=>by
   by_cases P:a=b;·subst P;rw[<-e rfl,nK k];exact EqAt.same _
   ·exact EqAt.of_refs P r
  unfold pP;have x:=va y I k1 h1 r1;have w:=va y I D E B;clear k1 h1 r1 D E B;cases x with
  |tup xs a vs x F sa Q m=>cases w with|tup ys b ws L w S o T=>obtain⟨i1,j1,e,t,t2,hj,he⟩:=GH (A:=A) I sa S Q o (sub F w) f;have R:=RcAt.tuples t t2 f hj;have N:=RcNeAt.tuples t t2 f hj;rw[he]at R N;exact⟨R,N,rf F (λz=>by subst z;injection same rfl) R⟩|lst ys b ws L w o T C=>exact⟨RcAt.tuple_list m T.isList f,RcNeAt.tuple_list m T.isList f,EqAt.tuple_list m T.isList f⟩|non=>exact⟨RcAt.tuple_none m f,RcNeAt.tuple_none m f,EqAt.tuple_none m f⟩|bl d=>exact⟨RcAt.tuple_bool d m f,RcNeAt.tuple_bool d m f,EqAt.tuple_bool d m f⟩|int d t=>exact⟨RcAt.tuple_int d t m f,RcNeAt.tuple_int d t m f,EqAt.tuple_int d t m f⟩|str d t=>exact⟨RcAt.tuple_str d t m f,RcNeAt.tuple_str d t m f,EqAt.tuple_str d t m f⟩
  |lst xs a vs x F Q m ra=>cases w with|tup ys b ws L w S o T=>exact⟨RcAt.list_tuple m.isList T f,RcNeAt.list_tuple m.isList T f,EqAt.list_tuple m.isList T f⟩|lst ys b ws L w o T C=>
    have U:x.toArray.size=xs.length/\L.toArray.size=ys.length:=⟨by rw[aD,<-ra.length,<-Q.len],by rw[aD,<-C.length,<-o.len]⟩;have R:RcAt A s (.ref a) (.ref b) (jI xs ys)/\RcNeAt A s (.ref a) (.ref b) !jI xs ys:=by
     by_cases hl:xs.length=ys.length
     ·have l:x.toArray.size=L.toArray.size:=by rw[U.1,U.2,hl]
      have e:(ab6 x.toArray.size).all (xv xs ys)=jI xs ys:=by rw[U.1,<-lE hl]
      rw[<-e];exact⟨RcAt.lists m.isList T.isList l f (qr ra C Q o (sub F w)),RcNeAt.lists m.isList T.isList l f (qr ra C Q o (sub F w))⟩
     ·have l:(x.toArray.size !=L.toArray.size)=true:=by rw[U.1,U.2];exact bne_iff_ne.mpr hl
      rw[show jI xs ys=a7 from bw.mpr λz=>hl (qj z)];exact⟨RcAt.lists_lengths m.isList T.isList l f,RcNeAt.lists_lengths m.isList T.isList l f⟩
    exact⟨R.1,R.2,rf F (λz=>by subst z;injection same rfl) R.1⟩|non=>exact⟨RcAt.list_none m.isList f,RcNeAt.list_none m.isList f,EqAt.list_none m.isList f⟩|bl d=>exact⟨RcAt.list_bool d m.isList f,RcNeAt.list_bool d m.isList f,EqAt.list_bool d m.isList f⟩|int d t=>exact⟨RcAt.list_int d t m.isList f,RcNeAt.list_int d t m.isList f,EqAt.list_int d t m.isList f⟩|str d t=>exact⟨RcAt.list_str d t m.isList f,RcNeAt.list_str d t m.isList f,EqAt.list_str d t m.isList f⟩
  |non=>cases w with|tup ys b ws L w S o T=>exact⟨RcAt.none_tuple T f,RcNeAt.none_tuple T f,EqAt.none_tuple T f⟩|lst ys b ws L w o T C=>exact⟨RcAt.none_list T.isList f,RcNeAt.none_list T.isList f,EqAt.none_list T.isList f⟩|non=>exact⟨RcAt.none_none,RcNeAt.none_none,EqAt.same _⟩|bl d=>exact⟨RcAt.none_bool d,RcNeAt.none_bool d,EqAt.none_bool d⟩|int d t=>exact⟨RcAt.none_int d t,RcNeAt.none_int d t,EqAt.none_int d t⟩|str d t=>exact⟨RcAt.none_str d t,RcNeAt.none_str d t,EqAt.none_str d t⟩
  |bl c=>cases w with|tup ys b ws L w S o T=>exact⟨RcAt.bool_tuple c T f,RcNeAt.bool_tuple c T f,EqAt.bool_tuple c T f⟩|lst ys b ws L w o T C=>exact⟨RcAt.bool_list c T.isList f,RcNeAt.bool_list c T.isList f,EqAt.bool_list c T.isList f⟩|non=>exact⟨RcAt.bool_none c,RcNeAt.bool_none c,EqAt.bool_none c⟩|bl d=>exact⟨RcAt.bool_bool c d,RcNeAt.bool_bool c d,EqAt.bool_bool c d⟩|int d t=>dsimp only;rw[rG];have z:=RcAt.bool_int (A:=A) (s:=s) c d t;have Z:=RcNeAt.bool_int (A:=A) (s:=s) c d t;have W:=EqAt.bool_int (A:=A) (s:=s) c d t;rw[ky]at z Z W;cases c<;>exact⟨z,Z,W⟩|str d t=>exact⟨RcAt.bool_str c d t,RcNeAt.bool_str c d t,EqAt.bool_str c d t⟩
  |int c g=>cases w with|tup ys b ws L w S o T=>exact⟨RcAt.int_tuple c g T f,RcNeAt.int_tuple c g T f,EqAt.int_tuple c g T f⟩|lst ys b ws L w o T C=>exact⟨RcAt.int_list c g T.isList f,RcNeAt.int_list c g T.isList f,EqAt.int_list c g T.isList f⟩|non=>exact⟨RcAt.int_none c g,RcNeAt.int_none c g,EqAt.int_none c g⟩|bl d=>dsimp only;rw[rG];have z:=RcAt.int_bool (A:=A) (s:=s) c g d;have Z:=RcNeAt.int_bool (A:=A) (s:=s) c g d;have W:=EqAt.int_bool (A:=A) (s:=s) c g d;rw[ky]at z Z W;cases d<;>exact⟨z,Z,W⟩|int d t=>dsimp only;rw[rG,<-ky];exact⟨RcAt.int_int c g d t,RcNeAt.int_int c g d t,EqAt.int_int c g d t⟩|str d t=>exact⟨RcAt.int_str c g d t,RcNeAt.int_str c g d t,EqAt.int_str c g d t⟩
  |str c g=>cases w with|tup ys b ws L w S o T=>exact⟨RcAt.str_tuple c g T f,RcNeAt.str_tuple c g T f,EqAt.str_tuple c g T f⟩|lst ys b ws L w o T C=>exact⟨RcAt.str_list c g T.isList f,RcNeAt.str_list c g T.isList f,EqAt.str_list c g T.isList f⟩|non=>exact⟨RcAt.str_none c g,RcNeAt.str_none c g,EqAt.str_none c g⟩|bl d=>exact⟨RcAt.str_bool c g d,RcNeAt.str_bool c g d,EqAt.str_bool c g d⟩|int d t=>exact⟨RcAt.str_int c g d t,RcNeAt.str_int c g d t,EqAt.str_int c g d t⟩|str d t=>dsimp only;rw[<-nU];exact⟨RcAt.str_str c g d t,RcNeAt.str_str c g d t,EqAt.str_str c g d t⟩
noncomputable def OA:Pv->Pv->Bool|.tup _,.tup []=>J|.lst _,.lst []=>J|_,_=>a7
def ZC(w:Y.K=X.K)(I:Inv X am σ H s){u:V}(k:OA p q)(h:bR (Y.z G) M H p v)(g:bR (Y.z G) M H q u)(R:RelV v v')(x:RelV u u')(hu:A.units<cLine):RcAt A s v' u' (pP p q)/\RcNeAt A s v' u' !pP p q:=by
 unfold OA at k;split at k;·rename_i xs;unfold bR at h g;obtain⟨a,vs,rfl,S,d⟩:=h;obtain⟨b,ws,rfl,o,f⟩:=g;cases R;cases x;obtain⟨E,F,e,y,B,C,D⟩:=GH (A:=A) I (show eL X.K H a vs from w▸S) (show eL X.K H b ws from w▸o) d f (λ_ r=>by cases r) hu;unfold pP;rw[<-D];exact⟨RcAt.tuples y B hu C,RcNeAt.tuples y B hu C⟩
 ·rename_i xs;unfold bR at h g;obtain⟨a,vs,rfl,_,S,d⟩:=h;obtain⟨b,ws,rfl,_,o,f⟩:=g;cases R;cases x;obtain⟨c,T,t,_⟩:=I.list (show gN X.K H a vs from .inl (.inl S));obtain⟨L,Z,m,_⟩:=I.list (show gN X.K H b ws from .inl (.inl o));unfold pP;by_cases n:xs.length=([]:List Pv).length
  ·have l:c.toArray.size=L.toArray.size:=by rw[aD,aD,<-T.length,<-Z.length,<-d.len,<-f.len,n]
   have e:(ab6 c.toArray.size).all (xv xs [])=jI xs []:=by rw[aD,<-T.length,<-d.len,<-lE n]
   rw[<-e];have z:=qr (s:=s) (A:=A.in1) T Z d f (λ_ r=>by cases r);exact⟨RcAt.lists t.isList m.isList l hu z,RcNeAt.lists t.isList m.isList l hu z⟩
  ·have l:(c.toArray.size !=L.toArray.size)=true:=by rw[aD,aD,<-T.length,<-Z.length,<-d.len,<-f.len];exact bne_iff_ne.mpr n
   have e:jI xs []=false:=bw.mpr λz=>n (qj z);rw[e];exact⟨RcAt.lists_lengths t.isList m.isList l hu,RcNeAt.lists_lengths t.isList m.isList l hu⟩
 ·cases k
end
section
variable{t:Tb}
def nG(p q:Pv):Bool:=OA p q||lM 60 p&&lM 60 q
def SS(Y:T0)(n:Bool):R2:=λv u H Q=>∃G M p q,bR (Y.z G) M H p v/\bR (Y.z G) M H q u/\nG p q=J/\Q (.bl (n !=pP p q)) H
def NB{G:List Addr}(h:Y.K=X.K)(I:Inv X am σ H s){u:V}(k:nG p q)(a:bR (Y.z G) M H p v)(b:bR (Y.z G) M H q u)(r:RelV v v')(R:RelV u u')(hu:A.units+64<cLine):RcAt A s v' u' (pP p q)/\RcNeAt A s v' u' !pP p q:=by
 rcases(gp _ _).mp k with k|k;·exact ZC h I k a b r R (by lia)
 ·rw[aI]at k;exact(λz=>⟨z.1,z.2.1⟩) (J3 h I _ k.1 k.2 a b r R (by lia))
def YO(hu:X.A.units+64<cLine):jQ X (compareOp .Eq) (SS (yx t X) a7):=by intro am s σ H x y v u Q I r R h;obtain⟨G,M,p,q,a,b,k,h⟩:=h;refine(NB (Y:=yx t X) rfl I k a b r R hu).1 X.prog X.w _ _ ⟨.bl _,H,I,rfl,?_⟩;rw[jR]at h;exact h
def YV(hu:X.A.units+64<cLine):jQ X (compareOp .NotEq) (SS (yx t X) J):=by intro am s σ H x y v u Q I r R h;obtain⟨G,M,p,q,a,b,k,h⟩:=h;refine(NB (Y:=yx t X) rfl I k a b r R hu).2 X.prog X.w _ _ ⟨.bl _,H,I,rfl,?_⟩;rw[pR]at h;exact h
end
def su:O2:=λx y h Q=>match x,y with|.p a,.p b=>gd (nG a b) (Q (.p (.bl (pP a b))) h)|_,_=>False
def FM:O2:=λx y h Q=>match x,y with|.p a,.p b=>gd (nG a b) (Q (.p (.bl !pP a b)) h)|_,_=>False
def XY:jf Y (SS Y a7) su:=λG M h H x y v u Q d r i j q out=>by cases x with|r _=>exact q.elim|p a=>cases y with|r _=>exact q.elim|p b=>obtain⟨c,q⟩:=bB q;exact⟨G,M,a,b,i,j,c,by rw[jR];exact out _ h M H _ Ext.refl r (by unfold cZ bR;rfl) q⟩
def X4:jf Y (SS Y J) FM:=λG M h H x y v u Q d r i j q out=>by cases x with|r _=>exact q.elim|p a=>cases y with|r _=>exact q.elim|p b=>obtain⟨c,q⟩:=bB q;exact⟨G,M,a,b,i,j,c,by rw[pR];exact out _ h M H _ Ext.refl r (by unfold cZ bR;rfl) q⟩
end F
namespace F
open L2
variable{Y:T0}{M:List Addr}{H H':Hp}{h:Hs}{x d:Dv}{v:V}{t:Tb}{X:Cx}{E:XK}{e a b tg:Expr}{c j n k0:Nat}{b4 es:List Expr}{A B T:Sm}{pos p2:Pos}{p:Addr}{Z:Tx}{i:Int}{xs ks us:List Pv}{vs:List V}{z name f:Str}{neg:Bool}{α:Type}{QV:VK}{τ:tSt}{k:Pv}{κ:b8}{bK:List (b8×V)}{op:CmpOp}{r:V->List V->Hp->VK->Prop}{oo:OM}{D:Ends}{tab:Str->Option (List Str)}
section
variable{G:List Addr}{y:Dv}{u:V}
noncomputable def j4(h:Hs):Dv->Option (List Pv)
 |.p (.lst xs)=>O xs|.r i=>match h[i]? with|some (.lst xs)=>O xs|_=>af
 |_=>af
def bq.at'(r:bq Z M H h){i:Nat}{a:Addr}{o:Ob}(g:M[i]?=O a)(l:h[i]?=O o):we Z M H a o:=r.ob i a o g l
def fO(r:bq (Y.z G) M H h)(i:cZ (Y.z G) M H x v)(e:j4 h x=O xs):∃a vs,v=.ref a/\H a=O (.lst vs)/\aO (Y.z G) M H xs vs:=by
 unfold j4 at e;split at e;·cases e;unfold cZ bR at i;obtain⟨a,vs,g,_,l,m⟩:=i;exact⟨a,vs,g,l,m⟩
 ·split at e;·rename_i o;cases e;obtain⟨a,g,l⟩:=i;obtain⟨vs,m,q⟩:=r.at' g o;exact⟨a,vs,l,m,q⟩
  ·cases e
 ·cases e
def jM(r:bq (Y.z G) M H h)(g:H p=af)(i:aO (Y.z G) M H xs vs):cZ (Y.z G) M (cQ H p (.lst vs)) (.p (.lst xs)) (.ref p):=by unfold cZ bR;exact⟨p,vs,rfl,r.o9 g,bF,i.ext r (Ext.add g)⟩
def qp(r:bq (Y.z G) M H h)(g:H p=af)(i:aO (Y.z G) M H xs vs):cZ (Y.z G) M (cQ H p (.tup vs)) (.p (.tup xs)) (.ref p):=by unfold cZ bR;exact⟨p,vs,rfl,eL.of bF,i.ext r (Ext.add g)⟩
def gS(s:jh H H'):Ext M H M H':=⟨⟨[],(aM M).symm⟩,λb o _ e=>s b o e,λb h n=>absurd h n⟩
def kR(r:bq (Y.z G) M H h)(s:jh H H'):bq (Y.z G) M H' h:=⟨r.nd,r.dj,r.ln,λb g=>let ⟨o,e⟩:=r.gs b g;⟨o,s _ _ e⟩,λi a o l m=>we.mv ((gS s).mv r) (λ_ _ z=>z) (λ_ e=>s _ _ e) (λ_ e=>s _ _ e) (r.ob i a o l m)⟩
def ef:cZ (Y.z G) M H (.p (.int i)) (.int i):=by unfold cZ bR;rfl
def gX{b:Bool}:cZ (Y.z G) M H (.p (.bl b)) (.bl b):=by unfold cZ bR;rfl
def kf:cZ (Y.z G) M H (.p (.str z)) (.str z):=by unfold cZ bR;rfl
def nL:cZ (Y.z G) M H (.p .non) .non:=by unfold cZ bR;rfl
def d9(q:cZ (Y.z G) M H (.p (.int i)) v):v=.int i:=by unfold cZ bR at q;exact q
def JU{b:Bool}(q:cZ (Y.z G) M H (.p (.bl b)) v):v=.bl b:=by unfold cZ bR at q;exact q
def eV(q:cZ (Y.z G) M H (.p (.str z)) v):v=.str z:=by unfold cZ bR at q;exact q
def JV(q:cZ (Y.z G) M H (.p .non) v):v=.non:=by unfold cZ bR at q;exact q
def lZ(q:cZ (Y.z G) M H (.p (.tup xs)) v):∃a vs,v=.ref a/\eL Y.K H a vs/\aO (Y.z G) M H xs vs:=by unfold cZ bR at q;exact q
def oI(c:Int->Int->Bool)(g:Int->Int->Int):O2:=λx y h Q=>match x,y with|.p (.int i),.p (.int j)=>gd (c i j) (Q (.p (.int (g i j))) h)|_,_=>False
def oB(g:Int->Int->Bool):O2:=λx y h Q=>match x,y with|.p (.int i),.p (.int j)=>Q (.p (.bl (g i j))) h|_,_=>False
def U8{C:Int->Int->Prop}{c:Int->Int->Bool}{g:Int->Int->Int}(l:∀i j,c i j=J->C i j):jf Y (rI C λi j=>.int (g i j)) (oI c g):=λG M h H x y v u Q QV r i j q out=>by
 unfold oI at q;split at q;·obtain⟨k,q⟩:=bB q;exact⟨_,_,d9 i,d9 j,l _ _ k,out _ h M H _ Ext.refl r ef q⟩
 ·exact q.elim
def U7{g:Int->Int->Bool}:jf Y (Jc λi j=>.bl (g i j)) (oB g):=λG M h H x y v u Q QV r i j q out=>by
 unfold oB at q;split at q;·exact⟨_,_,d9 i,d9 j,out _ h M H _ Ext.refl r gX q⟩
 ·exact q.elim
def cT:Int->Int->Bool:=λ_ _=>J
def YG:O2:=oI cT λi j=>i-j
def Ri:jf Y (Jc λi j=>.int (i-j)) YG:=λG M h H x y v u Q QV r i j q out=>by
 unfold YG oI at q;split at q;·exact⟨_,_,d9 i,d9 j,out _ h M H _ Ext.refl r ef q⟩
 ·exact q.elim
noncomputable def δ(i:Int):Bool:=decide (-18446744073709551616<i)&&decide (i<18446744073709551616)
def CV(i j:Int):Bool:=δ j||δ i
theorem PQ{j:Int}(h:CV i j):JT i j:=by
 unfold CV δ at h;simp only[gp,aI,gP]at h;rcases h with h|h;·exact .inr ⟨by lia,by lia⟩
 ·exact .inl ⟨by lia,by lia⟩
noncomputable def ξ(_ j:Int):Bool:=decide (0<j)&&decide (j<1073741824)
def i9:O2:=oI ξ λi j=>i/j
def Q5:jf Y (rI P' λi j=>.int (i/j)) i9:=U8 λi j h=>by unfold ξ at h;simp only[aI,gP]at h;exact h
noncomputable def aeS(_ j:Int):Bool:=decide (0<j)
def io:O2:=oI aeS λi j=>i%j
def Rb:jf Y (rI (λ_ j=>0<j) λi j=>.int (i%j)) io:=U8 λi j h=>aX h
def YD:O1:=λx h Q=>match x with|.p (.int i)=>Q (.p (.int (-i))) h|_=>False
def Rc:Pr Y (rU λi=>.int (-i)) YD:=λG M h H x v Q QV r i q out=>by
 unfold YD at q;split at q;·exact⟨_,d9 i,out _ h M H _ Ext.refl r ef q⟩
 ·exact q.elim
noncomputable def iz(n:Nat):Bool:=aa5 n sizeLine
def dI(h:iz n):n<=sizeLine:=bg h
def gE(h:n<=sizeLine):iz n=true:=eU h
def Yw:O2:=λx y h Q=>match x,y with|.p (.int i),.p (.int j)=>Q (.p (.int (i+j))) h|.p (.str a),.p (.str b)=>gd (iz (a.length+b.length)) (Q (.p (.str (a++b))) h)|.p (.tup a),.p (.tup b)=>gd (iz (a.length+b.length)) (Q (.p (.tup (a++b))) h)|x,y=>match j4 h x,j4 h y with|some a,O b=>gd (iz (a.length+b.length)) (Q (.p (.lst (a++b))) h)|_,_=>False
def VE(K:Frag):R2:=λx y H Q=>Jc (λi j=>.int (i+j)) x y H Q\/(∃i j,x=.str i/\y=.str j/\i.length+j.length<=sizeLine/\Q (.str (i++j)) H)\/Nx K x y H Q\/Zz x y H Q
def R4:jQ X (binaryOp .Add) (VE X.K):=YN.or (Ec.or (MI.or MH))
def Q0:jf Y (VE Y.K) Yw:=λG M h H x y v u Q QV r i j q out=>by
 unfold Yw at q;split at q;·exact .inl ⟨_,_,d9 i,d9 j,out _ h M H _ Ext.refl r ef q⟩
 ·obtain⟨k,q⟩:=bB q;exact .inr (.inl ⟨_,_,eV i,eV j,dI k,out _ h M H _ Ext.refl r kf q⟩)
 ·obtain⟨k,q⟩:=bB q;obtain⟨a,vs,l,s1,I⟩:=lZ i;obtain⟨b,w,m,s2,g⟩:=lZ j;refine .inr (.inr (.inl ⟨a,b,vs,w,l,m,s1,s2,by rw[<-I.len,<-g.len];exact dI k,λp H' s S=>?_⟩));refine out _ h M H' _ (gS s) (kR r s) ?_ q;unfold cZ bR;exact⟨p,_,rfl,S,(I.app g).ext r (gS s)⟩
 ·split at q;·rename_i a b C F;obtain⟨k,q⟩:=bB q;obtain⟨c,vs,l,s1,I⟩:=fO r i C;obtain⟨d,w,m,s2,g⟩:=fO r j F;refine .inr (.inr (.inr ⟨c,d,vs,w,l,m,s1,s2,by rw[<-I.len,<-g.len];exact dI k,λp o=>?_⟩));exact out _ h M _ _ (Ext.add o) (r.add o) (jM r o (I.app g)) q
  ·exact q.elim
def IR:O2:=oB lJ
def x0:O2:=oB λi j=>lJ j i
def X3:jf Y (Jc λi j=>.bl (decide (i<j))) IR:=by rw[show(λi j:Int=>V.bl (decide (i<j)))=λi j=>.bl (lJ i j)by funext i j;rw[LU]];exact U7
def XZ:jf Y (Jc λi j=>.bl (decide (j<i))) x0:=by rw[show(λi j:Int=>V.bl (decide (j<i)))=λi j=>.bl (lJ j i)by funext i j;rw[LU]];exact U7 (g:=λi j=>lJ j i)
def rx:O2:=λx y h Q=>match x,y with|.p (.int i),.p (.int j)=>Q (.p (.bl (rN i j))) h|.p (.str a),.p (.str b)=>Q (.p (.bl !decide (b.cps.toList<a.cps.toList))) h|_,_=>False
def Xs:R2:=λx y H Q=>Jc (λi j=>.bl (decide (i<=j))) x y H Q\/∃i j,x=.str i/\y=.str j/\Q (.bl !decide (j.cps.toList<i.cps.toList)) H
def YS:jQ X (compareOp .LtE) Xs:=abK.or IG
def X2:jf Y Xs rx:=λG M h H x y v u Q QV r i j q out=>by
 unfold rx at q;split at q;·rw[Ym]at q;exact .inl ⟨_,_,d9 i,d9 j,out _ h M H _ Ext.refl r gX q⟩
 ·exact .inr ⟨_,_,eV i,eV j,out _ h M H _ Ext.refl r gX q⟩
 ·exact q.elim
def Lj:Pv->Bool|.non=>J|_=>a7
noncomputable def uW:Pv->Bool|.non=>J|.bl _=>J|.int _=>J|.str _=>J|_=>a7
def FK(x:Pv):List Pv->Bool|[]=>a7|y::r=>pP y x||FK x r
noncomputable def gI:List Pv->Bool|[]=>J|x::r=>uW x&&gI r
def vM(h:Hs):Dv->Option (List Pv)|.p (.tup xs)=>O xs|d=>j4 h d
def qE{G:List Addr}(r:bq (Y.z G) M H h)(i:cZ (Y.z G) M H x v)(e:vM h x=O xs):∃a vs,v=.ref a/\(gN Y.K H a vs\/eL Y.K H a vs)/\aO (Y.z G) M H xs vs:=by
 unfold vM at e;split at e;·cases e;obtain⟨a,vs,g,s1,I⟩:=lZ i;exact⟨a,vs,g,.inr s1,I⟩
 ·obtain⟨a,vs,g,s1,I⟩:=fO r i e;exact⟨a,vs,g,.inl (gN.of s1),I⟩
def WE(a b:Int):(a==b)=qi a b:=by rw[rG];exact ky ..
def DB{G:List Addr}{p:Pv}(f:uW p)(i:bR (Y.z G) M H p v):mT v/\∀{q:Pv}{u:V},uW q=J->bR (Y.z G) M H q u->KQ u v=pP q p:=by
 cases p<;>first|(cases f;done)|skip
 all_goals(unfold bR at i;subst i;refine⟨rfl,λ{q u}g j=>?_⟩)
 all_goals(cases q<;>first|(cases g;done)|(unfold bR at j;subst j;unfold pP KQ;first|rfl|exact nU _ _|(exact WE _ _)|(rename_i b;cases b<;>exact WE _ _)|(rename_i b _;cases b<;>exact WE _ _)))
theorem T2{Y:T0}{G M:List Addr}{H:Hp}{p:Pv}{v:V}(f:uW p)(i:bR (Y.z G) M H p v):∀{xs:List Pv}{vs:List V},gI xs=J->aO (Y.z G) M H xs vs->vs.all mT/\U5 v vs=FK p xs|[],[],_,_=>⟨rfl,rfl⟩|[],_::_,_,h=>by unfold aO at h;exact h.elim|_::_,[],_,h=>by unfold aO at h;exact h.elim|x::xs,w::vs,g,h=>by unfold aO at h;simp only[gI,aI]at g;obtain⟨a,b⟩:=T2 f i g.2 h.2;refine⟨by rw[bh,(DB g.1 h.1).1,a];rfl,?_⟩;have e:=(DB f i).2 g.1 h.1;unfold U5 at b⊢;rw[kY,b,e];rfl
def sK(neg:Bool):O2:=λx y h Q=>match x with
 |.p a=>match vM h y with|some xs=>gd (uW a&&gI xs) (Q (.p (.bl (Vg neg (FK a xs)))) h)|none=>match a,y with|.str i,.p (.str j)=>Q (.p (.bl (Vg neg !(ab3 j i 0 j.length 1).isEmpty))) h|_,_=>False
 |_=>False
def QW(K:Frag)(neg:Bool):R2:=λx y H Q=>A8 K neg x y H Q\/∃i j,x=.str i/\y=.str j/\Q (.bl (neg !=!(ab3 j i 0 j.length 1).isEmpty)) H
def YQ:jQ X (compareOp .In) (QW X.K a7):=xM.or λP s σ H x y v u Q I R g ⟨i,j,l,m,q⟩=>IF P s σ H x y v u Q I R g ⟨i,j,l,m,by rw[jR]at q;exact q⟩
def X0:jf Y (QW Y.K neg) (sK neg):=λG M h H x y v u Q QV r i j q out=>by
 unfold sK at q;simp only[D2]at q;split at q
 ·rename_i a;split at q
  ·rename_i xs e;obtain⟨k,q⟩:=bB q;rw[aI]at k;obtain⟨b,vs,g,s1,I⟩:=qE r j e;obtain⟨l,m⟩:=T2 k.1 i k.2 I;refine .inl ⟨b,vs,g,s1,(DB k.1 i).1,l,?_⟩;refine out _ h M H _ Ext.refl r ?_ q;rw[m];cases neg;·rw[jR];exact gX
   ·rw[pR];exact gX
  ·split at q;·exact .inr ⟨_,_,eV i,eV j,out _ h M H _ Ext.refl r gX q⟩
   ·exact q.elim
 ·exact q.elim
noncomputable def wB(xs:List α):Int->Option α|.ofNat n=>xs[n]?|.negSucc n=>match aa5 (n+1) xs.length with|true=>xs[xs.length-(n+1)]?|false=>af
def yh(xs:List α)(n:Nat):wB xs (.negSucc n)=match aa5 (n+1) xs.length with|true=>xs[xs.length-(n+1)]?|false=>af:=rfl
theorem CO(xs:List α)(i:Int):wB xs i=Cb xs i:=by unfold Cb Rn;cases i with|ofNat n=>
  show xs[n]?=_;rw[bx (show(0:Int)<=Int.ofNat n from Int.natCast_nonneg n)];by_cases hn:n<xs.length;·rw[bx (show Int.ofNat n<(xs.length:Int)by show((n:Nat):Int)<_;lia)];rfl
  ·rw[bE (show ¬Int.ofNat n<(xs.length:Int)by show ¬((n:Nat):Int)<_;lia),kA (by lia)];rfl|negSucc n=>
  rw[bE (by lia),yh];by_cases hn:n+1<=xs.length;·rw[bx (by lia),eU hn];show xs[xs.length-(n+1)]?=xs[(Int.negSucc n+(xs.length:Int)).toNat]?;rw[show(Int.negSucc n+(xs.length:Int)).toNat=xs.length-(n+1)by lia]
  ·rw[bE (by lia),show aa5 (n+1) xs.length=a7 from bw.mpr λz=>hn (bg z)];rfl
noncomputable def mY(h:Hs):Dv->Option (List Dv)
 |.r i=>match h[i]? with|some (.df ds)=>O ds|_=>af
 |_=>af
def zk:O2:=λx y h Q=>match y with
 |.p (.int i)=>match vM h x with|some xs=>iw (wB xs i) (λz=>Q (.p z) h) False|none=>match x with|.p (.str z)=>gd (iz z.length) (iw (wB z.cps.toList i) (λc=>Q (.p (.str ⟨#[c]⟩)) h) False)|.p (.scr xs)=>iw (wB xs i) (λz=>Q (.p z) h) False|x=>match mY h x with|some ds=>iw (wB ds i) (λd=>Q d h) False|none=>False
 |_=>False
theorem aO.Cb{G:List Addr}{z:Pv}(q:aO (Y.z G) M H xs vs)(e:wB xs i=O z):∃v,L2.Cb vs i=O v/\bR (Y.z G) M H z v:=by rw[<-CO];cases i with|ofNat n=>exact q.get e|negSucc n=>
  rw[yh]at e⊢;rw[<-q.len];split at e;·exact q.get e
  ·cases e
theorem cj.len{Z:Tx}{M:List Addr}{H:Hp}:∀{ds:List Dv}{vs:List V},cj Z M H ds vs->ds.length=vs.length|[],[],_=>rfl|[],_::_,h=>h.elim|_::_,[],h=>h.elim|_::_,_::_,h=>by rw[ao,ao,cj.len h.2]
theorem cj.get{Z:Tx}{M:List Addr}{H:Hp}:∀{xs:List Dv}{vs:List V}{i:Nat}{x:Dv},cj Z M H xs vs->xs[i]?=O x->∃v,vs[i]?=O v/\cZ Z M H x v|[],_,_,_,_,e=>by simp at e|_::_,[],_,_,h,_=>h.elim|_::_,v::_,0,_,h,e=>by cases e;exact⟨v,rfl,h.1⟩|_::_,_::_,i+1,_,h,e=>by obtain⟨w,g,l⟩:=cj.get (i:=i) h.2 (by simpa using e);exact⟨w,by simpa using g,l⟩
theorem cj.Cb{G:List Addr}{xs:List Dv}{z:Dv}(q:cj (Y.z G) M H xs vs)(e:wB xs i=O z):∃v,L2.Cb vs i=O v/\cZ (Y.z G) M H z v:=by rw[<-CO];cases i with|ofNat n=>exact q.get e|negSucc n=>
  rw[yh]at e⊢;rw[<-q.len];split at e;·exact q.get e
  ·cases e
def X1:jf Y (Wn Y.K) zk:=λG M h H x y v u Q QV r i j q out=>by
 unfold zk iw at q;split at q
 ·split at q
  ·rename_i xs e;split at q
   ·rename_i z s;obtain⟨a,vs,m,s1,I⟩:=qE r i e;obtain⟨w,g,l⟩:=I.Cb s;have o:=out (.p z) h M H w Ext.refl r l q;rcases s1 with s1|s1;·exact .inl ⟨a,vs,_,w,m,d9 j,s1,g,o⟩
    ·exact .inr (.inl ⟨a,vs,_,w,m,d9 j,s1,g,o⟩)
   ·exact q.elim
  ·split at q
   ·obtain⟨k,q⟩:=bB q;split at q;·rename_i c C;rw[CO]at C;exact .inr (.inr ⟨_,_,c,eV i,d9 j,dI k,C,out _ h M H _ Ext.refl r kf q⟩)
    ·exact q.elim
   ·split at q;·rename_i z s;unfold cZ bR at i;obtain⟨a,vs,m,s1,I⟩:=i;obtain⟨w,g,l⟩:=I.Cb s;exact .inl ⟨a,vs,_,w,m,d9 j,NX s1,g,out (.p z) h M H w Ext.refl r l q⟩
    ·exact q.elim
   ·split at q
    ·rename_i ds e;split at q
     ·rename_i d F;unfold mY at e;split at e
      ·split at e;·rename_i L;cases e;obtain⟨a,g,l⟩:=i;obtain⟨vs,N,P⟩:=r.at' g L;obtain⟨w,R,S⟩:=P.Cb F;exact .inl ⟨a,vs,_,w,l,d9 j,gN.of N,R,out _ h M H w Ext.refl r S q⟩
       ·cases e
      ·cases e
     ·exact q.elim
    ·exact q.elim
 ·exact q.elim
noncomputable def l6(n:Nat):Option Int->Nat|none=>0|some (.ofNat k)=>k|some (.negSucc k)=>n-(k+1)
def mQ(xs:List α)(lo g:Option Int):List α:=match g with|none=>xs.drop (l6 xs.length lo)|some (.ofNat k)=>(xs.take k).drop (l6 xs.length lo)|some (.negSucc k)=>(xs.take (xs.length-(k+1))).drop (l6 xs.length lo)
def xT(n d k:Nat):HT.fT n d (O (.ofNat k))=min k n:=HT.GB n d k
theorem GC(n d k:Nat):HT.fT n d (O (.negSucc k))=n-(k+1):=by have h:=HT.yz (.negSucc k) n d;rw[bx (by lia)]at h;lia
theorem yK(xs:List α)(n:Nat)(hn:xs.length<=n)(lo:Option Int):xs.drop (HT.fT n 0 lo)=xs.drop (l6 n lo):=by cases lo with
 |none=>rw[HT.vG];rfl
 |some i=>cases i with|ofNat k=>
   rw[xT];show xs.drop (min k n)=xs.drop k;by_cases h:k<=n;·rw[jn h]
   ·rw[Hc (by lia),U_ hn,U_ (by lia)]|negSucc k=>rw[GC];rfl
theorem Qb(xs:List V)(lo hi:Option Int):mR xs lo hi=mQ xs lo hi:=by
 unfold mR;rw[<-List.drop_take];have e:xs.take (HT.fT xs.length xs.length hi)=match hi with|none=>xs|some (.ofNat k)=>xs.take k|some (.negSucc k)=>xs.take (xs.length-(k+1)):=by cases hi with
  |none=>rw[HT.vG,dN]
  |some i=>cases i with|ofNat k=>
    rw[xT];show xs.take (min k xs.length)=xs.take k;by_cases h:k<=xs.length;·rw[jn h]
    ·rw[Hc (by lia),dN,fW (by lia)]|negSucc k=>rw[GC]
 rw[e];unfold mQ;cases hi with|none=>exact yK xs _ (aB _) lo|some i=>cases i with|ofNat k=>exact yK _ _ (by rw[c0];exact He ..) lo|negSucc k=>exact yK _ _ (by rw[c0];exact He ..) lo
theorem aO.drop{Z:Tx}:∀{xs:List Pv}{vs:List V}(n:Nat),aO Z M H xs vs->aO Z M H (xs.drop n) (vs.drop n)|_,_,0,q=>q|[],[],n+1,q=>q|[],_::_,_+1,q=>by unfold aO at q;exact q.elim|_::_,[],_+1,q=>by unfold aO at q;exact q.elim|_::_,_::_,n+1,q=>by unfold aO at q;exact aO.drop n q.2
theorem aO.take{Z:Tx}:∀{xs:List Pv}{vs:List V}(n:Nat),aO Z M H xs vs->aO Z M H (xs.take n) (vs.take n)|xs,vs,0,q=>by rw[ik,ik];unfold aO;trivial|[],[],n+1,q=>q|[],_::_,_+1,q=>by unfold aO at q;exact q.elim|_::_,[],_+1,q=>by unfold aO at q;exact q.elim|_::_,_::_,n+1,q=>by unfold aO at q;rw[er,er];unfold aO;exact⟨q.1,aO.take n q.2⟩
theorem aO.rev{Z:Tx}:∀{xs:List Pv}{vs:List V},aO Z M H xs vs->aO Z M H xs.reverse vs.reverse|[],[],q=>q|[],_::_,q=>by unfold aO at q;exact q.elim|_::_,[],q=>by unfold aO at q;exact q.elim|_::_,_::_,q=>by unfold aO at q;rw[de,de];exact(aO.rev q.2).app (aO.one q.1)
theorem aO.mR(q:aO (Y.z G) M H xs vs)(lo g:Option Int):aO (Y.z G) M H (mQ xs lo g) (L2.mR vs lo g):=by rw[Qb];unfold mQ;rw[q.len];cases g with|none=>exact q.drop _|some i=>cases i with|ofNat k=>exact(q.take k).drop _|negSucc k=>exact(q.take _).drop _
end
def sP(m:Option Sm)(g:XP)(σ:Es)(h:Hs)(Q:Option Int->Hs->Prop):Prop:=match m with|none=>Q af h|some L=>L g σ h λxs l=>match xs with|[.p (.int i)]=>Q (O i) l|_=>False
def wf(x:Dv)(lo g:Option Int)(h:Hs)(Q:Dv->Hs->Prop):Prop:=match x with|.p (.tup xs)=>Q (.p (.tup (mQ xs lo g))) h|.p (.str z)=>gd (iz z.length) (Q (.p (.str (Txt.slice z lo g))) h)|x=>match j4 h x with|some xs=>Q (.p (.lst (mQ xs lo g))) h|none=>False
def XM(A:Sm)(L U:Option Sm):Sm:=λg σ h Q=>A g σ h λxs l=>match xs with|[x]=>sP L g σ l λlo m=>sP U g σ m λo q=>wf x lo o q λd s=>Q [d] s|_=>False
def Mh(K:Frag):V->Option Int->Option Int->Hp->VK->Prop:=λx lo g H Q=>VI K x lo g H Q\/(∃z:Str,x=.str z/\z.length<=sizeLine/\Q (.str (Txt.slice z lo g)) H)\/D_ K x lo g H Q
def ahb:Hj X (Mh X.K):=GJ.or (Ts.or Tr)
def X5{G:List Addr}{lo g:Option Int}{Q:Dv->Hs->Prop}(r:bq (Y.z G) M H h)(i:cZ (Y.z G) M H x v)(q:wf x lo g h Q)(out:∀d h' M' H' w,Ext M H M' H'->bq (Y.z G) M' H' h'->cZ (Y.z G) M' H' d w->Q d h'->QV w H'):Mh Y.K v lo g H QV:=by
 unfold wf at q;split at q;·obtain⟨a,vs,l,s1,I⟩:=lZ i;refine .inl ⟨a,vs,l,s1,λp H' s S=>?_⟩;refine out _ h M H' _ (gS s) (kR r s) ?_ q;unfold cZ bR;exact⟨p,_,rfl,S,(I.mR lo g).ext r (gS s)⟩
 ·obtain⟨k,q⟩:=bB q;exact .inr (.inl ⟨_,eV i,dI k,out _ h M H _ Ext.refl r kf q⟩)
 ·split at q;·rename_i xs e;obtain⟨a,vs,l,s1,I⟩:=fO r i e;exact .inr (.inr ⟨a,vs,l,gN.of s1,λp m=>out _ h M _ _ (Ext.add m) (r.add m) (jM r m (I.mR lo g)) q⟩)
  ·exact q.elim
structure KnO(Z:Tx)(E:XK)(τ:tSt)(H:Hp)(R:Option Int->Hp->Prop)(M:List Addr)(σ:Es)(h:Hs)(xc:XP)(Q:Option Int->Hs->Prop):Prop where
 rel:bq Z M H h
 env:dw Z M H σ τ
 out:∀o h' M' H',Ext M H M' H'->bq Z M' H' h'->Q o h'->R o H'
 exc:∀C h' M' H',Ext M H M' H'->bq Z M' H' h'->xc C h'->E (.ref (Z.ca C)) af H'
inductive Jq(Y:T0)(E:XK)(m:Option Sm)(τ:tSt)(H:Hp)(R:Option Int->Hp->Prop):Prop|mk(G M:List Addr)(σ:Es)(h:Hs)(xc:XP)(Q:_)(k:KnO (Y.z G) E τ H R M σ h xc Q)(q:sP m xc σ h Q):Jq Y E m τ H R
section
variable{c:Expr}{lo hi:Option Expr}{L U:Option Sm}
def _root_.L2.PO.imp{e:Option Expr}{t t':TO}(h:PO X e t')(i:∀σ H Q,t σ H Q->t' σ H Q):PO X e t:=λP s σ H Q I q=>h P s σ H Q I (i σ H Q q)
def M7:PO X af (Jq (yx t X) E af):=Gi.imp λτ H R ⟨G,M,σ,h,g,Q,k,q⟩=>k.out af h M H Ext.refl k.rel q
def M8(l:PE X e (cJ (yx t X) E A)):PO X (O e) (Jq (yx t X) E (O A)):=(Gj l).imp λτ H R ⟨G,M,σ,h,m,Q,k,q⟩=>by
 refine⟨G,M,σ,h,m,_,⟨k.rel,k.env,λd o s u v e r i q=>?_,k.exc⟩,q⟩;split at q;·rename_i j g;injection g with g;subst g;exact⟨j,d9 i,k.out _ o s u e r q⟩
 ·exact q.elim
def abU(u:PE X e (cJ (yx t X) E A))(y:PO X lo (Jq (yx t X) E L))(hu:PO X hi (Jq (yx t X) E U)):PE X (.Subscript e (.Slice lo hi af p2) pos) (cJ (yx t X) E (XM A L U)):=(Bz ahb u y hu).imp λτ H QV ⟨G,M,σ,h,m,Q,k,q⟩=>by refine⟨G,M,σ,h,m,_,⟨k.rel,k.env,λd C F H1 v g R I K=>?_,k.exc⟩,q⟩;refine⟨G,F,σ,C,m,_,⟨R,k.env.ext k.rel g,λol N P H2 l o S=>?_,k.Qw g⟩,K⟩;refine⟨G,P,σ,N,m,_,⟨o,k.env.ext k.rel (g.trans l),λou h3 M3 H3 s W q3=>?_,k.Qw (g.trans l)⟩,S⟩;exact X5 (Y:=yx t X) W ((I.ext R l).ext o s) q3 λd4 h4 M4 H4 w e4 r4 i4 q4=>k.out d4 h4 M4 H4 w (g.trans (l.trans (s.trans e4))) r4 i4 q4
def RW:O1:=λx h Q=>match x with|.p (.tup xs)=>Q (.p (.tup xs.reverse)) h|_=>False
def Zf{st:Expr}(o:PE X e (cJ (yx t X) E A))(I:PE X st (tC (.int (-1)))):PE X (.Subscript e (.Slice af af (O st) p2) pos) (cJ (yx t X) E (s1 RW A)):=(Sk o I).imp λτ H QV ⟨G,M,σ,h,s,Q,k,q⟩=>by
  refine⟨G,M,σ,h,s,_,⟨k.rel,k.env,λd m u K v w R y g=>?_,k.exc⟩,q⟩;change RW d m _ at g;unfold RW at g;split at g;·obtain⟨a,vs,C,s1,F⟩:=lZ y;exact⟨a,vs,C,s1,λp l=>k.out _ m u _ _ (w.trans (Ext.add l)) (R.add l) (qp R l F.rev) g⟩
  ·exact g.elim
def MC:ON:=λds h Q=>match ud ds with|some xs=>gd (iz xs.length) (Q (.p (.tup xs)) h)|none=>False
def Mw:ON:=λds h Q=>match ud ds with|some xs=>gd (iz xs.length) (Q (.p (.lst xs)) h)|none=>False
def Mu:ON:=λds h Q=>match ud ds with|some xs=>gd (iz xs.length) (Q (.r h.length) (h++[.lst xs]))|none=>False
def YB:ON:=λds h Q=>gd (iz ds.length) (Q (.r h.length) (h++[.df ds]))
theorem rS{Y:T0}{G M:List Addr}{H:Hp}:∀{ds:List Dv}{vs:List V}{xs:List Pv},ud ds=O xs->cj (Y.z G) M H ds vs->aO (Y.z G) M H xs vs
 |[],[],_,e,_=>by cases e;unfold aO;trivial|[],_::_,_,_,q=>q.elim|_::_,[],_,_,q=>q.elim|.r _::_,_::_,_,e,_=>by cases e|.p x::ds,v::vs,xs,e,q=>by
  unfold ud at e;split at e;·rename_i s y;cases e;unfold aO;exact⟨q.1,rS y q.2⟩
  ·cases e
def T5(h:cJ (yx t X) E (sN MC A) τ H QV):xz (gF (yx t X) E A) τ H QV:=by
 obtain⟨G,M,σ,h,o,Q,k,q⟩:=h;refine⟨G,M,σ,h,o,_,⟨k.rel,k.env,λd m s w v u R I g=>?_,k.exc⟩,q⟩;change MC d m _ at g;unfold MC at g;split at g;·rename_i xs ex;obtain⟨c,g⟩:=bB g;have i2:=rS ex I;exact⟨by rw[<-i2.len];exact dI c,λp l=>k.out _ m s _ _ (u.trans (Ext.add l)) (R.add l) (qp R l i2) g⟩
 ·exact g.elim
def Zh{k1:Nat}(h:PA X b4 (gF (yx t X) E A)):PE X (.Tuple b4 k1 pos) (cJ (yx t X) E (sN MC A)):=(Ei h).imp λ_ _ _=>T5
def TU(h:cJ (yx t X) E (sN Mw A) τ H QV):TR (gF (yx t X) E A) τ H QV:=by
 obtain⟨G,M,σ,h,o,Q,k,q⟩:=h;refine⟨G,M,σ,h,o,_,⟨k.rel,k.env,λd m s w v u R I g=>?_,k.exc⟩,q⟩;change Mw d m _ at g;unfold Mw at g;split at g;·rename_i xs ex;obtain⟨c,g⟩:=bB g;have i2:=rS ex I;exact⟨by rw[<-i2.len];exact dI c,λp l=>k.out _ m s _ _ (u.trans (Ext.add l)) (R.add l) (jM R l i2) g⟩
 ·exact g.elim
def Zb(h:PA X b4 (gF (yx t X) E A)):PE X (.List b4 pos) (cJ (yx t X) E (sN Mw A)):=(rR h).imp λ_ _ _=>TU
def Bb(e:M.length=h.length):cZ Z (M++[p]) H (.r h.length) (.ref p):=⟨p,by rw[<-e,aP (aB _),fY];rfl,rfl⟩
def TQ(h:cJ (yx t X) E (sN Mu A) τ H QV):TR (gF (yx t X) E A) τ H QV:=by
 obtain⟨G,M,σ,h,m,Q,k,q⟩:=h;refine⟨G,M,σ,h,m,_,⟨k.rel,k.env,λd s u y v w R I g=>?_,k.exc⟩,q⟩;change Mu d s _ at g;unfold Mu at g;split at g;·rename_i xs ex;obtain⟨c,g⟩:=bB g;have i2:=rS ex I;refine⟨by rw[<-i2.len];exact dI c,λp l=>?_⟩;exact k.out _ _ (u++[p]) _ _ (w.trans (Ext.push R l)) (R.push (o:=.lst xs) l ⟨v,bF,i2.ext R (Ext.push R l)⟩) (Bb R.ln) g
 ·exact g.elim
def Za(h:PA X b4 (gF (yx t X) E A)):PE X (.List b4 pos) (cJ (yx t X) E (sN Mu A)):=(rR h).imp λ_ _ _=>TQ
def TN(h:cJ (yx t X) E (sN YB A) τ H QV):TR (gF (yx t X) E A) τ H QV:=by obtain⟨G,M,σ,h,m,Q,k,q⟩:=h;refine⟨G,M,σ,h,m,_,⟨k.rel,k.env,λd w s y v u R I g=>?_,k.exc⟩,q⟩;obtain⟨c,g⟩:=bB (show gd (iz d.length) _ from g);refine⟨by rw[<-I.len];exact dI c,λp l=>?_⟩;exact k.out _ _ (s++[p]) _ _ (u.trans (Ext.push R l)) (R.push (o:=.df d) l ⟨v,bF,I.ext R (Ext.push R l)⟩) (Bb R.ln) g
def Y9(h:PA X b4 (gF (yx t X) E A)):PE X (.List b4 pos) (cJ (yx t X) E (sN YB A)):=(rR h).imp λ_ _ _=>TN
end
def cj.kQ(q:cj Z M H [d] vs):∃v,vs=[v]/\cZ Z M H d v:=by cases vs with|nil=>exact q.elim|cons v r=>cases r with|nil=>exact⟨v,rfl,q.1⟩|cons _ _=>exact q.2.elim
def cj.two'{e:Dv}(q:cj Z M H [d,e] vs):∃v u,vs=[v,u]/\cZ Z M H d v/\cZ Z M H e u:=by cases vs with|nil=>exact q.elim|cons v r=>obtain⟨u,rfl,i⟩:=cj.kQ q.2;exact⟨v,u,rfl,q.1,i⟩
def mq:ON:=λds h Q=>match ds with
 |[x]=>match vM h x with|some xs=>Q (.p (.int xs.length)) h|none=>match x with|.p (.str z)=>gd (iz z.length) (Q (.p (.int z.length)) h)|.p (.scr xs)=>Q (.p (.int xs.length)) h|.p (.dct ks _)=>Q (.p (.int ks.length)) h|x=>match mY h x with|some ds=>Q (.p (.int ds.length)) h|none=>False
 |_=>False
def VF(K:Frag):List V->Hp->VK->Prop:=λxs H Q=>(∃p y,xs=[.ref p]/\(gN K H p y\/eL K H p y)/\Q (.int y.length) H)\/(∃z,xs=[.str z]/\z.length<=sizeLine/\Q (.int z.length) H)\/∃a bK,xs=[V.ref a]/\H a=O (.dK bK)/\Q (.int bK.length) H
def HB:dJ X (.builtin "len") (VF X.K):=yq.or (yr.or HC)
def Q9:rj Y (VF Y.K) mq:=λG M h H xs vs Q QV r l q out=>by
 unfold mq at q;split at q
 ·obtain⟨v,rfl,i⟩:=l.kQ;split at q;·rename_i C e;obtain⟨a,w,g,s1,I⟩:=qE r i e;exact .inl ⟨a,w,by rw[g],s1,out _ h M H _ Ext.refl r (by rw[<-I.len];exact ef) q⟩
  ·split at q;·obtain⟨k,q⟩:=bB q;exact .inr (.inl ⟨_,by rw[eV i],dI k,out _ h M H _ Ext.refl r ef q⟩)
   ·unfold cZ bR at i;obtain⟨a,w,g,s1,I⟩:=i;exact .inl ⟨a,w,by rw[g],.inl (NX s1),out _ h M H _ Ext.refl r (by rw[<-I.len];exact ef) q⟩
   ·unfold cZ bR at i;obtain⟨a,bK,g,_,s1,I,_⟩:=i;exact .inr (.inr ⟨a,bK,by rw[g],s1,out _ h M H _ Ext.refl r (by rw[I.len,ak];exact ef) q⟩)
   ·split at q
    ·rename_i ds e;unfold mY at e;split at e
     ·split at e;·rename_i o;cases e;obtain⟨a,m,s⟩:=i;obtain⟨w,u,y⟩:=r.at' m o;exact .inl ⟨a,w,by rw[s],.inl (gN.of u),out _ h M H _ Ext.refl r (by rw[<-y.len];exact ef) q⟩
      ·cases e
     ·cases e
    ·exact q.elim
 ·exact q.elim
noncomputable def Ik(c:Nat):Pv->Option Bool|.str _=>O (aa3 c 0)|.int _=>O (aa3 c 1)|.bl _=>O (aa3 c 2||aa3 c 1)|.tup _=>O (aa3 c 3)|.lst _=>O (aa3 c 4)|.non=>O a7|.dct _ _=>O a7|_=>af
def Bv:ON:=λds h Q=>match ds with|[x,.p (.ty c)]=>gd (aa5 c 4) (match x with
  |.p a=>match Ik c a with|some b=>Q (.p (.bl b)) h|none=>False
  |.r i=>match h[i]? with|some (.lst _)=>Q (.p (.bl (aa3 c 4))) h|some (.df _)=>Q (.p (.bl (aa3 c 4))) h|_=>False)|_=>False
def Pa(K:Frag)(H:Hp)(x:V)(n:String):Prop:=Pg H x=O n\/n="tuple"/\∃a xs,x=.ref a/\eL K H a xs
def ZA(K:Frag):List V->Hp->VK->Prop:=λxs H Q=>∃x c n,xs=[x,.ty c]/\Pa K H x n/\c ∈["str","int","bool","tuple","list"]/\Q (.bl (Rj n c)) H
def HA:dJ X (.builtin "isinstance") (ZA X.K):=by
 intro P s σ H xs us Q I r h;obtain⟨x,c,n,rfl,g,l,q⟩:=h;rcases g with g|⟨rfl,a,G,rfl,sq⟩;·exact Kr P s σ H _ us Q I r ⟨x,c,n,rfl,g,l,q⟩
 ·obtain⟨u,v,rfl,R,m⟩:=r.two;obtain rfl:v=af3 c:=m;cases R;obtain⟨w,_,⟨o,y,C,_⟩,_⟩:=I.tuple sq;exact cE PySem.W.kitx_tuple I.l9 ⟨o,y,C⟩ (LL (by simp) l) (λz=>nomatch z) λF=>⟨.bl _,H,I.tok F,rfl,q⟩
def Ox:∀{c:Nat},aa5 c 4=J->kW c ∈["str","int","bool","tuple","list"]|0,_=>by simp[kW]|1,_=>by simp[kW]|2,_=>by simp[kW]|3,_=>by simp[kW]|4,_=>by simp[kW]|_+5,h=>by simp at h
theorem LG(h:aa5 c 4){n:String}{b:Bool}(hn:(n,b)∈[("str",aa3 c 0),("int",aa3 c 1),("bool",aa3 c 2||aa3 c 1),("tuple",aa3 c 3),("list",aa3 c 4),("NoneType",a7),("dict",a7)]):Rj n (kW c)=b:=by
 have g:c<=4:=bg h;have:c=0\/c=1\/c=2\/c=3\/c=4:=by lia
 simp only[aJ,qT,or_false,Prod.mk.injEq]at hn;rcases this with rfl|rfl|rfl|rfl|rfl<;>rcases hn with ⟨rfl,rfl⟩|⟨rfl,rfl⟩|⟨rfl,rfl⟩|⟨rfl,rfl⟩|⟨rfl,rfl⟩|⟨rfl,rfl⟩|⟨rfl,rfl⟩<;>rfl
def Q7:rj Y (ZA Y.K) Bv:=λG M h H xs vs Q QV r y q out=>by
 unfold Bv at q;split at q
 ·rename_i x c;obtain⟨v,u,rfl,i,j⟩:=y.two';have C:u=.ty (kW c):=by unfold cZ bR at j;exact j
  subst C;obtain⟨k,q⟩:=bB q;have fin:∀{n:String}{b:Bool},Pa Y.K H v n->(n,b)∈[("str",aa3 c 0),("int",aa3 c 1),("bool",aa3 c 2||aa3 c 1),("tuple",aa3 c 3),("list",aa3 c 4),("NoneType",a7),("dict",a7)]->Q (.p (.bl b)) h->ZA Y.K [v,.ty (kW c)] H QV:=λ{n b}F hn q=>⟨v,kW c,n,rfl,F,Ox k,by rw[LG k hn];exact out _ h M H _ Ext.refl r gX q⟩;cases x with
  |p a=>cases a with|str z=>exact fin (.inl (by rw[eV i];rfl)) (by simp) q|int z=>exact fin (.inl (by rw[d9 i];rfl)) (by simp) q|bl z=>exact fin (.inl (by rw[JU i];rfl)) (by simp) q|non=>exact fin (n:="NoneType") (.inl (by rw[JV i];rfl)) (by simp) q|tup xs=>obtain⟨a,w,g,s1,I⟩:=lZ i;exact fin (.inr ⟨rfl,a,w,g,s1⟩) (by simp) q|lst xs=>unfold cZ bR at i;obtain⟨a,w,g,_,s1,I⟩:=i;exact fin (n:="list") (.inl (by rw[g];simp only[Pg,s1])) (by simp) q|dct ks us=>unfold cZ bR at i;obtain⟨a,w,g,_,s1,I⟩:=i;exact fin (n:="dict") (.inl (by rw[g];simp only[Pg,s1])) (by simp) q|_=>exact q.elim
  |r n=>
   change match h[n]? with|some (.lst _)=>Q (.p (.bl (aa3 c 4))) h|some (.df _)=>Q (.p (.bl (aa3 c 4))) h|_=>False at q;split at q;·rename_i o;obtain⟨a,l,m⟩:=i;obtain⟨w,s,L⟩:=r.at' l o;exact fin (n:="list") (.inl (by rw[m];simp only[Pg,s])) (by simp) q
   ·rename_i o;obtain⟨a,l,m⟩:=i;obtain⟨w,s,L⟩:=r.at' l o;exact fin (n:="list") (.inl (by rw[m];simp only[Pg,s])) (by simp) q
   ·exact q.elim
 ·exact q.elim
noncomputable def xn:List Pv->Option (List Bool)
 |[]=>O []|.bl b::r=>match xn r with|some bs=>O (b::bs)|none=>af
 |_::_=>af
theorem Kb{G M:List Addr}{H:Hp}:∀{xs:List Pv}{bs:List Bool}{vs:List V},xn xs=O bs->aO (Y.z G) M H xs vs->vs=bs.map V.bl
 |[],_,[],e,_=>by cases e;rfl|[],_,_::_,_,q=>by unfold aO at q;exact q.elim|_::_,_,[],_,q=>by unfold aO at q;exact q.elim|.bl b::xs,bs,v::vs,e,q=>by
  unfold aO at q;change(match xn xs with|some bs=>O (b::bs)|none=>af)=O bs at e;split at e;·rename_i s y;cases e;have g:v=.bl b:=JU (show cZ (Y.z G) M H (.p (.bl b)) v from q.1);rw[g,Kb y q.2];rfl
  ·cases e|.non::_,_,_::_,e,_=>by cases e|.int _::_,_,_::_,e,_=>by cases e|.str _::_,_,_::_,e,_=>by cases e|.tup _::_,_,_::_,e,_=>by cases e|.lst _::_,_,_::_,e,_=>by cases e|.scr _::_,_,_::_,e,_=>by cases e|.dct _ _::_,_,_::_,e,_=>by cases e|.obj _ _::_,_,_::_,e,_=>by cases e|.fn _::_,_,_::_,e,_=>by cases e|.ty _::_,_,_::_,e,_=>by cases e
@[irreducible]def Mn:ON:=λds h Q=>match ds with
 |[x]=>match j4 h x with|some xs=>iw (xn xs) (λbs=>Q (.p (.bl (bs.all id))) h) False|none=>False
 |_=>False
def Q1:rj Y (λxs H Q=>∃(l:Addr)(bs:List Bool),xs=[.ref l]/\gN Y.K H l (bs.map V.bl)/\Q (.bl (bs.all id)) H) Mn:=λG M h H xs vs Q QV r I q out=>by
 unfold Mn iw at q;split at q
 ·obtain⟨v,rfl,i⟩:=I.kQ;split at q
  ·rename_i y e;split at q;·rename_i bs g;obtain⟨a,w,m,s1,o⟩:=fO r i e;rw[Kb g o]at s1;exact⟨a,bs,by rw[m],gN.of s1,out _ h M H _ Ext.refl r gX q⟩
   ·exact q.elim
  ·exact q.elim
 ·exact q.elim
def iW:ON:=λds h Q=>match ds with
 |[x]=>match vM h x with|some xs=>Q (.p (.tup xs)) h|none=>False
 |_=>False
def Lv:rj Y (λxs H Q=>∃p ys,xs=[.ref p]/\((gN Y.K H p ys/\∀l,H l=af->Q (.ref l) (cQ H l (.tup ys)))\/eL Y.K H p ys/\Q (.ref p) H)) iW:=λG M h H xs vs Q QV r m q out=>by
 unfold iW at q;split at q
 ·obtain⟨v,rfl,i⟩:=m.kQ;split at q
  ·rename_i ys e;obtain⟨a,w,rfl,s1,I⟩:=qE r i e;refine⟨a,w,rfl,?_⟩;rcases s1 with s1|s1;·exact .inl ⟨s1,λp g=>out _ h M _ _ (Ext.add g) (r.add g) (qp r g I) q⟩
   ·exact .inr ⟨s1,out _ h M H _ Ext.refl r (by unfold cZ bR;exact⟨a,w,rfl,s1,I⟩) q⟩
  ·exact q.elim
 ·exact q.elim
def Mx:ON:=λds h Q=>match ds with
 |[x]=>match vM h x with|some xs=>Q (.p (.lst xs)) h|none=>False
 |_=>False
def Lp:rj Y (λxs H Q=>∃p ys,xs=[.ref p]/\(gN Y.K H p ys\/eL Y.K H p ys)/\∀l,H l=af->Q (.ref l) (cQ H l (.lst ys))) Mx:=λG M h H xs vs Q QV r I q out=>by
 unfold Mx at q;split at q
 ·obtain⟨v,rfl,i⟩:=I.kQ;split at q;·rename_i ys e;obtain⟨a,w,rfl,s1,m⟩:=qE r i e;exact⟨a,w,rfl,s1,λp g=>out _ h M _ _ (Ext.add g) (r.add g) (jM r g m) q⟩
  ·exact q.elim
 ·exact q.elim
def Mp:ON:=λds h Q=>match ds with|[.p (.int i)]=>Q (.p (.int i)) h|[.p (.bl b)]=>Q (.p (.int (b2 b))) h|_=>False
def Ln:rj Y (λxs H Q=>(∃i,xs=[.int i]/\Q (.int i) H)\/∃k,xs=[.bl k]/\Q (.int (if k then 1 else 0)) H) Mp:=λG M h H xs vs Q QV r I q out=>by
 unfold Mp at q;split at q;·obtain⟨v,rfl,i⟩:=I.kQ;exact .inl ⟨_,by rw[d9 i],out _ h M H _ Ext.refl r ef q⟩
 ·obtain⟨v,rfl,i⟩:=I.kQ;rename_i b;exact .inr ⟨b,by rw[JU i],out _ h M H _ Ext.refl r (by cases b<;>exact ef) q⟩
 ·exact q.elim
def YC:ON:=λds h Q=>match ds with|[.p (.int i),.p (.int j)]=>Q (.p (.int (if j<i then j else i))) h|_=>False
def Ra:rj Y (λxs H Q=>∃i j,xs=[.int i,.int j]/\Q (.int (if j<i then j else i)) H) YC:=λG M h H xs vs Q QV r I q out=>by
 unfold YC at q;split at q;·obtain⟨v,u,rfl,i,j⟩:=I.two';exact⟨_,_,by rw[d9 i,d9 j],out _ h M H _ Ext.refl r ef q⟩
 ·exact q.elim
def MB:ON:=λds h Q=>match ds with|[.p (.str z)]=>Q (.p (.str z)) h|[.p (.int i)]=>gd (decide (i.natAbs.log2<1920)) (Q (.p (.str (toString i))) h)|_=>False
def Lu:rj Y (λxs H Q=>(∃z,xs=[.str z]/\Q (.str z) H)\/∃i,xs=[.int i]/\i.natAbs.log2<1920/\Q (.str (toString i)) H) MB:=λG M h H xs vs Q QV r I q out=>by
 unfold MB at q;split at q;·obtain⟨v,rfl,i⟩:=I.kQ;exact .inl ⟨_,by rw[eV i],out _ h M H _ Ext.refl r kf q⟩
 ·obtain⟨v,rfl,i⟩:=I.kQ;obtain⟨k,q⟩:=bB q;exact .inr ⟨_,by rw[d9 i],aX k,out _ h M H _ Ext.refl r kf q⟩
 ·exact q.elim
noncomputable def qt:Pv->Option b8|.str x=>O (.inr x)|.int i=>O (.inl i)|_=>af
def DS:Pv->Pv->Bool|.str a,.str b=>bA a b|.int a,.int b=>qi a b|_,_=>a7
def lD(k:Pv):List Pv->List Pv->Option Pv
 |K::ks,u::us=>match DS K k with|true=>O u|false=>lD k ks us
 |_,_=>af
def AU(k:Pv):List Pv->Bool|[]=>a7|K::ks=>DS K k||AU k ks
def KH(k v:Pv):List Pv->List Pv->List Pv|K::ks,u::us=>(match DS K k with|true=>v|false=>u)::KH k v ks us|_,us=>us
def so(k v:Pv)(ks us:List Pv):List Pv:=match AU k ks with|true=>KH k v ks us|false=>us++[v]
def sj(k:Pv)(ks:List Pv):List Pv:=match AU k ks with|true=>ks|false=>ks++[k]
section
variable{G:List Addr}
def Yi(e:qt k=O κ)(i:bR (Y.z G) M H k v):v=kV κ:=by
 cases k<;>first|(cases e;done)|skip
 ·cases e;unfold bR at i;exact i
 ·cases e;unfold bR at i;exact i
def Yj(i:bR (Y.z G) M H k (kV κ)):qt k=O κ:=by cases k with|str x=>unfold bR at i;cases κ<;>cases i;rfl|int x=>unfold bR at i;cases κ<;>cases i;rfl|non=>unfold bR at i;cases κ<;>cases i|bl _=>unfold bR at i;cases κ<;>cases i|ty _=>unfold bR at i;cases κ<;>cases i|_=>unfold bR at i;exfalso;cases κ<;>simp[kV]at i
def Bf{a b:Pv}{g:b8}(l:qt a=O κ)(m:qt b=O g):DS a b=decide (κ=g):=by
 cases a<;>first|(cases l;done)|skip
 all_goals(cases b<;>first|(cases m;done)|skip)
 all_goals(cases l;cases m)
 ·rename_i x y;show qi x y=_;rw[rG];by_cases e:x=y;·rw[cq e,cq (by rw[e])]
  ·rw[bN e,bN λz=>e (by cases z;rfl)]
 ·rw[bN λz=>by cases z];rfl
 ·rw[bN λz=>by cases z];rfl
 ·rename_i x y;show bA x y=_;by_cases e:x=y;·rw[aT.mpr e,cq (by rw[e])]
  ·rw[bw.mpr λz=>e (aT.mp z),bN λz=>e (by cases z;rfl)]
def kG(Y:T0)(G M:List Addr)(H:Hp)(ks us:List Pv)(bK:List (b8×V)):Prop:=aO (Y.z G) M H ks (bK.map λp=>kV p.1)/\aO (Y.z G) M H us (bK.map (·.2))
def kG.cons{k u:Pv}{ks us:List Pv}{p:b8×V}{bK:List (b8×V)}:kG Y G M H (k::ks) (u::us) (p::bK)↔(qt k=O p.1/\bR (Y.z G) M H u p.2)/\kG Y G M H ks us bK:=by
 unfold kG;rw[aY,aY];constructor;·rintro⟨a,b⟩;unfold aO at a b;exact⟨⟨Yj a.1,b.1⟩,a.2,b.2⟩
 ·rintro⟨⟨a,b⟩,c,d⟩;unfold aO;refine⟨⟨?_,c⟩,b,d⟩;cases k<;>first|(cases a;done)|skip
  ·rename_i n;have:kV p.1=V.int n:=by injection a with a;rw[<-a];rfl
   unfold bR;exact this
  ·rename_i n;have:kV p.1=V.str n:=by injection a with a;rw[<-a];rfl
   unfold bR;exact this
theorem kG.ind{P:List Pv->List Pv->List (b8×V)->Prop}(g:P [] [] [])(l:∀k u ks us p bK,qt k=O p.1->bR (Y.z G) M H u p.2->kG Y G M H ks us bK->P ks us bK->P (k::ks) (u::us) (p::bK)):∀{ks us:List Pv}{bK:List (b8×V)},kG Y G M H ks us bK->P ks us bK|[],[],[],_=>g|k::ks,u::us,p::bK,h=>by obtain⟨⟨a,b⟩,c⟩:=kG.cons.mp h;exact l k u ks us p bK a b c (kG.ind g l c)|[],_::_,bK,h=>by have:=h.1.len.trans (by rw[ak]);have:=h.2.len.trans (by rw[ak]);simp at*;lia|_::_,[],bK,h=>by have:=h.1.len.trans (by rw[ak]);have:=h.2.len.trans (by rw[ak]);simp at*;lia|[],[],_::_,h=>by have:=h.1.len;simp at this|_::_,_::_,[],h=>by have:=h.1.len;simp at this
def Ft(g:qt k=O κ)(d:kG Y G M H ks us bK):(∃p v,lD k ks us=O p/\oO bK κ=O v/\bR (Y.z G) M H p v)\/lD k ks us=af/\oO bK κ=af:=by
 refine kG.ind (P:=λks us bK=>(∃p v,lD k ks us=O p/\oO bK κ=O v/\bR (Y.z G) M H p v)\/lD k ks us=af/\oO bK κ=af) (.inr ⟨rfl,rfl⟩) (λK u ks us p bK l m q I=>?_) d;have e:=Bf l g;by_cases z:p.1=κ;·rw[cq z]at e;refine .inl ⟨u,p.2,by unfold lD;rw[e],vZ z,m⟩
 ·rw[bN z]at e;have o:lD k (K::ks) (u::us)=lD k ks us:=by show(match DS K k with|true=>O u|false=>lD k ks us)=_;rw[e]
  rw[o,vY z];exact I
def HL{p:Pv}(l:qt k=O κ)(d:kG Y G M H ks us bK)(e:lD k ks us=O p):∃v,oO bK κ=O v/\bR (Y.z G) M H p v:=by
 rcases Ft l d with ⟨q,v,g,m,o⟩|⟨g,_⟩;·rw[e]at g;cases g;exact⟨v,m,o⟩
 ·rw[e]at g;cases g
theorem kG.app{ks' us':List Pv}{g:List (b8×V)}(a:kG Y G M H ks us bK)(b:kG Y G M H ks' us' g):kG Y G M H (ks++ks') (us++us') (bK++g):=by unfold kG;rw[aV,aV];exact⟨a.1.app b.1,a.2.app b.2⟩
def kG.nil:kG Y G M H [] [] []:=by unfold kG;rw[fj,fj];unfold aO;exact⟨trivial,trivial⟩
def Qp{w:Pv}(l:qt k=O κ)(m:bR (Y.z G) M H w v)(d:kG Y G M H ks us bK):kG Y G M H (sj k ks) (so k w ks us) (vv bK κ v):=by
 have h:(bK.any λK=>decide (K.1=κ))=AU k ks/\kG Y G M H ks (KH k w ks us) (bK.map λK=>if K.1=κ then(K.1,v)else K):=by
  refine kG.ind (P:=λks us bK=>(bK.any λK=>decide (K.1=κ))=AU k ks/\kG Y G M H ks (KH k w ks us) (bK.map λK=>if K.1=κ then(K.1,v)else K)) ⟨rfl,kG.nil⟩ (λo u ks us p bK g q s I=>?_) d;have e:=Bf g l;refine⟨by rw[kY,I.1,<-e];rfl,?_⟩;rw[aY];show kG Y G M H (o::ks) ((match DS o k with|true=>w|false=>u)::KH k w ks us) _;by_cases z:p.1=κ;·rw[bx z,e,cq z];exact kG.cons.mpr ⟨⟨g,m⟩,I.2⟩
  ·rw[bE z,e,bN z];exact kG.cons.mpr ⟨⟨g,q⟩,I.2⟩
 unfold sj so vv;rw[h.1];cases y:AU k ks with|true=>rw[bx rfl];exact h.2|false=>rw[bE aK];exact d.app (kG.cons.mpr ⟨⟨l,m⟩,kG.nil⟩)
noncomputable def Ql(h:Hs):Dv->Option (List Pv×List Pv)
 |.p (.dct ks us)=>O (ks,us)|.r i=>match h[i]? with|some (.dct ks us)=>O (ks,us)|_=>af
 |_=>af
def Fq(r:bq (Y.z G) M H h)(i:cZ (Y.z G) M H x v)(e:Ql h x=O (ks,us)):∃a bK,v=.ref a/\H a=O (.dK bK)/\kG Y G M H ks us bK:=by
 unfold Ql at e;split at e;·cases e;unfold cZ bR at i;obtain⟨a,bK,g,_,l,m⟩:=i;exact⟨a,bK,g,l,m⟩
 ·split at e;·rename_i o;cases e;obtain⟨a,g,l⟩:=i;obtain⟨bK,m,q⟩:=r.at' g o;exact⟨a,bK,l,m,q⟩
  ·cases e
 ·cases e
def Yy:O2:=λx y h Q=>match y with
 |.p k=>match qt k with
  |some _=>match Ql h x with|some (ks,us)=>iw (lD k ks us) (λp=>Q (.p p) h) False|none=>False
  |none=>False
 |_=>False
def ID(neg:Bool):O2:=λy x h Q=>match y with
 |.p k=>match qt k with
  |some _=>match Ql h x with|some (ks,us)=>Q (.p (.bl (Vg neg (lD k ks us).isSome))) h|none=>False
  |none=>False
 |_=>False
variable{c:Expr}{C:Sm}{pos':Pos}
def Y6(hu:X.A.units+1<cLine)(o:PE X a (cJ (yx t X) E A))(s:PE X b (cJ (yx t X) E B))(F:Wu b):PE X (.Subscript a b pos) (cJ (yx t X) E (s2 Yy A B)):=(Si hu o s F).imp λτ H QV h=>by
  refine sJ (r:=λx y l Q=>∃a v,x=.ref a/\rg l a y (O v)/\Q v l) (λG M h H x y v u Q QV r i j q out=>?_) h;unfold Yy iw at q;split at q
  ·split at q
   ·rename_i κ m;split at q
    ·rename_i ks us I;split at q;·rename_i p K;obtain⟨a,bK,L,s1,N⟩:=Fq r i I;obtain⟨w,P,R⟩:=HL m N K;have g:=rg.k (k:=κ) s1;rw[P,<-Yi m (show bR ((yx t X).z G) M H _ u from j)]at g;exact⟨a,w,L,g,out (.p p) h M H w Ext.refl r R q⟩
     ·exact q.elim
    ·exact q.elim
   ·exact q.elim
  ·exact q.elim
def KG:jf (yx t X) (λy x l Q=>∃a o,x=.ref a/\rg l a y o/\Q (.bl (neg !=o.isSome)) l) (ID neg):=λG M h H x y v u Q QV r i j q out=>by
 unfold ID at q;simp only[D2]at q;split at q
 ·rename_i k0;split at q
  ·rename_i κ m;split at q
   ·rename_i ks us I;obtain⟨a,bK,K,s1,L⟩:=Fq r j I;have g:=rg.k (k:=κ) s1;rw[<-Yi m (show bR ((yx t X).z G) M H _ v from i)]at g;refine⟨a,_,K,g,out _ h M H _ Ext.refl r ?_ q⟩;have e:(lD k0 ks us).isSome=(oO bK κ).isSome:=by rcases Ft m L with ⟨p,w,s,F,_⟩|⟨s,F⟩<;>rw[s,F]<;>rfl
    rw[e];exact gX
   ·exact q.elim
  ·exact q.elim
 ·exact q.elim
def R9(hu:X.A.units+1<cLine)(g:PE X a (cJ (yx t X) E A))(l:PE X b (cJ (yx t X) E B)):PC X .In a b (cJ (yx t X) E (s2 (ID a7) A B)):=λP s σ H Q I q=>by refine Eg hu g l P s σ H Q I ?_;have z:=sJ (KG (neg:=a7)) q;simp only[jR]at z;exact z
def Eh(hu:X.A.units+1<cLine)(g:PE X a (cJ (yx t X) E A))(l:PE X b (cJ (yx t X) E B)):PC X .NotIn a b (cJ (yx t X) E (s2 (ID J) A B)):=λP s σ H Q I q=>by refine II hu g l P s σ H Q I ?_;have z:=sJ (KG (neg:=J)) q;simp only[pR]at z;exact z
def abT(h:PC X op a b (cJ (yx t X) E A))(g:gb op b=a7):PE X (.Compare a [op] [b] pos) (cJ (yx t X) E A):=Y3 h g
def Zk(h:PC X op a b (cJ (yx t X) E A))(g:gb op b=a7):PT X (.Compare a [op] [b] pos) (jj (yx t X) E A):=(Zs h g).imp λ_ _ _ q=>BZ q
end
def wM(A:Sm):Im:=λg σ h Q=>A g σ h λds l=>match ds with|[.p (.lst xs)]=>Q xs l|_=>False
def x1:O1:=λx h Q=>match x with|.p (.lst xs)=>Q (.p (.lst xs)) h|.p (.tup xs)=>Q (.p (.lst xs)) h|_=>False
noncomputable def wZ(z:Str):List Pv:=z.cps.toList.map λc=>.str ⟨#[c]⟩
def E_:O1:=λx h Q=>match x with|.p (.str z)=>gd (iz z.length) (Q (.p (.lst (wZ z))) h)|_=>False
def RT:ON:=λds h Q=>match ds with|[.p (.int n)]=>gd (iz n.toNat&&decide (-4611686018427387904<=n)) (Q (.p (.lst (mw 0 n.toNat))) h)|_=>False
noncomputable def kx:List Pv->List Pv->List Pv|x::xs,y::s=>.tup [x,y]::kx xs s|_,_=>[]
def RU:ON:=λds h Q=>match ds with|[.p (.tup xs),.p (.tup y)]=>Q (.p (.lst (kx xs y))) h|_=>False
section
variable{c:Expr}{p:Pos}{G:List Addr}
def _root_.L2.PI.imp{t t':TI}(h:PI X tg e t')(i:∀σ H Q,t σ H Q->t' σ H Q):PI X tg e t:=λP s σ H Q I q=>h P s σ H Q I (i σ H Q q)
def af4(K:Frag)(l:TE):TI:=λσ H R=>l σ H λx g=>∃a,x=.ref a/\((∃xs,gN K g a xs)/\R (ms K a) g\/(∃xs,eL K g a xs)/\R (OY K a) g)
def Nc{l:Expr}{y:TE}(C:PE X l y):PI X tg l (af4 X.K y):=by
 intro P s σ H R I h;refine dh (C P s σ H _ I h) λv s1 x=>?_;obtain⟨x,u,g,L,Q⟩:=x;obtain⟨a,e,q⟩:=Q;subst e;cases L;have F:∀b ∈[s1.heap.objs.size],mm X P u b:=λb N=>by
  have e:b=s1.heap.objs.size:=by simpa using N
  subst e;exact g.HU (aB _) (g.di.fresh (aB _))
 rcases q with ⟨⟨xs,w⟩,q⟩|⟨⟨xs,w⟩,q⟩;·obtain⟨m,S,p,U⟩:=g.list w;refine pN p.isList ?_;exact⟨s1.heap.objs.size,[s1.heap.objs.size],_,_,u,rfl,g.kept (t':=s1.toks) λb o e=>aj _ e,Jt a _,⟨_,aU _ rfl,rfl,rfl⟩,F,q⟩
 ·obtain⟨m,S,p,U⟩:=g.tuple w;refine om (show s1.heap.IsTuple a m.toArray from p) ?_;exact⟨s1.heap.objs.size,[s1.heap.objs.size],_,_,u,rfl,g.kept (t':=s1.toks) λb o e=>aj _ e,EM a _,⟨_,aU _ rfl,rfl,rfl⟩,F,q⟩
def Wq(X:Cx)(H:Hp):Prop:=∃P σ s,Inv X P σ H s
def Wq.len{a:Addr}(I:Wq X H)(h:gN X.K H a vs\/eL X.K H a vs):vs.length<=sizeLine:=by
 obtain⟨_,_,_,I⟩:=I;rcases h with h|h;·obtain⟨_,_,_,z⟩:=I.list h;exact z
 ·obtain⟨_,_,_,z⟩:=I.tuple h;exact z
def Gh{w:TI}(h:PI X tg e w):PI X tg e λσ H R=>w σ H λg l=>Wq X l->R g l:=λP s σ H R I q=>dh (h P s σ H _ I q) λv s1 o=>dh o λu s2 z=>by obtain⟨y,F,C,g,H',e,m,T,st,f,r⟩:=z;exact⟨y,F,C,g,H',e,m,T,st,f,r ⟨_,_,_,m⟩⟩
def Sv(y:PE X e (cJ (yx t X) E A)):PI X tg e (zR (yx t X) E (wM (s1 x1 A))):=(Gh (Nc y)).imp λτ H R ⟨G,M,σ,h,C,Q,k,q⟩=>by refine⟨G,M,σ,h,C,_,⟨k.rel,k.env,λd o s u v w g m l=>?_,k.exc⟩,q⟩;cases d with|r _=>exact l.elim|p d=>cases d with|lst xs=>unfold cZ bR at m;obtain⟨a,vs,rfl,N,s1,I⟩:=m;exact⟨a,rfl,.inl ⟨⟨vs,gN.of s1⟩,λhd=>k.out xs o s u _ w g (aa6 (Y:=yx t X) g N.1 (.inl s1) I) (by rw[I.len];exact hd.len (.inl (gN.of s1))) l⟩⟩|tup xs=>obtain⟨a,vs,rfl,s1,I⟩:=lZ m;exact⟨a,rfl,.inr ⟨⟨vs,s1⟩,λhd=>k.out xs o s u _ w g (aba (Y:=yx t X) g s1 I) (by rw[I.len];exact hd.len (.inr s1)) l⟩⟩|_=>exact l.elim
def aa8:UC Y G M H (tt z) (wZ z):=λu y H' C F e R=>by refine⟨λi x g=>?_,show(wZ z).length=z.cps.size by unfold wZ;rw[ak,bJ]⟩;unfold wZ at g;rw[bM]at g;cases l:z.cps.toList[i]? with|none=>rw[l]at g;cases g|some c=>
  rw[l]at g;cases g;have m:z.cps[i]?=O c:=by rw[<-QQ];exact l
  refine⟨(eM.mp m).1,λw Q q=>?_⟩;obtain⟨q,I,o,s⟩:=q;subst q;rw[m]at o;cases o;exact⟨Ext.refl,R,by subst s;unfold bR;rfl⟩
def Sw{y:Str}{P:Pos}(l:PE X e (cJ (yx t X) E A)):PI X (.Name y P) e (zR (yx t X) E (wM (s1 E_ A))):=(Zn l).imp λτ H R ⟨G,M,σ,h,m,Q,k,q⟩=>by refine⟨G,M,σ,h,m,_,⟨k.rel,k.env,λd o s u v w C I g=>?_,k.exc⟩,q⟩;cases d with
 |r _=>exact g.elim|p d=>cases d with|str z=>
   obtain⟨c,g⟩:=bB (show gd (iz z.length) _ from g);have F:(wZ z).length<=sizeLine:=by unfold wZ;rw[ak,bJ];exact dI c
   exact⟨z,eV I,k.out _ o s u _ w C aa8 F g⟩|_=>exact g.elim
theorem Su{x:Expr}(m:Gl X "range")(o:X.mg "range"=af)(s:PA X [x] (gF (yx t X) E A))(U:cm x):PI X tg (.Call (.Name "range" p) [x] [] pos) (zR (yx t X) E (wM (sN RT A))):=(IT m o s (c8 U)).imp λτ H R ⟨G,M,σ,h,u,Q,k,q⟩=>by
  refine⟨G,M,σ,h,u,_,⟨k.rel,k.env,λd l y C v F I K g=>?_,k.exc⟩,q⟩;change RT d l _ at g;unfold RT at g;split at g
  ·rename_i n;obtain⟨c,g⟩:=bB g;rw[aI]at c;obtain⟨w,rfl,L⟩:=K.kQ;have hn:=dI c.1;have N:sizeLine<2^62:=by ext
   refine⟨n,by rw[d9 L],by have:=aX c.2;lia,?_,k.out _ l y C _ F I aa7 (by unfold mw;rw[ak,d7];exact hn) g⟩;have:(n.toNat:Int)<2^62:=by have:n.toNat<2^62:=jv hn N;exact_mod_cast this
   lia
  ·exact g.elim
theorem B7:∀{xs ys:List Pv}{i:Nat}{z:Pv},(kx xs ys)[i]?=O z->∃x y,xs[i]?=O x/\ys[i]?=O y/\z=.tup [x,y]|[],_,_,_,e=>by simp[kx]at e|_::_,[],_,_,e=>by simp[kx]at e|x::_,y::_,0,_,e=>by cases e;exact⟨x,y,rfl,rfl,rfl⟩|_::_,_::_,i+1,_,e=>by obtain⟨x,y,g,l,m⟩:=B7 (i:=i) (by simpa[kx]using e);exact⟨x,y,by simpa using g,by simpa using l,m⟩
theorem wc:∀(xs ys:List Pv),(kx xs ys).length=min xs.length ys.length|[],_=>by simp[kx]|_::_,[]=>by simp[kx]|_::xs,_::ys=>by simp[kx,wc xs ys]
def Ly{x y:Pv}{w:V}{T:Addr}(r:bq (Y.z G) M H h)(g:H T=af)(i:bR (Y.z G) M H x v)(j:bR (Y.z G) M H y w):bR (Y.z G) M (cQ H T (.tup [v,w])) (.tup [x,y]) (.ref T):=qp r g (show aO (Y.z G) M H ([x]++[y]) ([v]++[w])from(aO.one i).app (aO.one j))
theorem abb{ys:List Pv}{ws:List V}{g l:Addr}(r:bq (Y.z G) M H h)(s1:eL Y.K H g vs)(s2:eL Y.K H l ws)(q:aO (Y.z G) M H xs vs)(C:aO (Y.z G) M H ys ws):UC Y G M H (ul Y.K g l) (kx xs ys):=λG' M' H' h' F e R=>by have s:eL Y.K H' g vs:=(e.mv r).sqT s1;have S:eL Y.K H' l ws:=(e.mv r).sqT s2;have I:=aO.mv (e.mv r) (aO.wk F q);have m:=aO.mv (e.mv r) (aO.wk F C);refine⟨λi z P=>?_,⟨vs,ws,s,S,by rw[wc,q.len,C.len];lia⟩⟩;obtain⟨x,y,Q,U,rfl⟩:=B7 P;obtain⟨v,L,pv⟩:=I.get Q;obtain⟨w,N,W⟩:=m.get U;refine⟨⟨vs,ws,v,w,s,S,L,N⟩,λu oQ T=>?_⟩;obtain⟨T,o,hu,y2⟩:=T;have e2:=y2 vs ws v w s S L N;subst e2 hu;exact⟨Ext.add o,R.add o,Ly R o pv W⟩
def Sy{s:Pos}(y:Gl X "zip")(C:X.mg "zip"=af)(F:PA X [a,b] (gF (yx t X) E A))(l:cm a)(m:cm b):PI X (.Tuple es k0 s) (.Call (.Name "zip" p) [a,b] [] pos) (zR (yx t X) E (wM (sN RU A))):=(Gh (Zo y C F (by rw[c8 l,c8 m];rfl) (by rw[c8 m];rfl))).imp λτ H R ⟨G,M,σ,h,K,Q,k,q⟩=>by
  refine⟨G,M,σ,h,K,_,⟨k.rel,k.env,λd l L N v P o S g=>?_,k.exc⟩,q⟩;change RU d l _ at g;unfold RU at g;split at g;·obtain⟨w,u,rfl,U,W⟩:=S.two';obtain⟨a1,vs,rfl,s1,I⟩:=lZ U;obtain⟨a2,ws,rfl,s2,i5⟩:=lZ W;refine⟨a1,a2,rfl,⟨vs,s1⟩,⟨ws,s2⟩,λhd=>k.out _ l L N _ P o (abb (Y:=yx t X) o s1 s2 I i5) ?_ g⟩;rw[wc,I.len];exact aH (Nat.min_le_left ..) (hd.len (.inr s1))
  ·exact g.elim
end
abbrev OM:=Dv->List Dv->Hs->(Dv->Hs->Prop)->Prop
def wz(Y:T0)(r:V->List V->Hp->VK->Prop)(o:OM):Prop:=∀G M h H x xs v vs Q QV,bq (Y.z G) M H h->cZ (Y.z G) M H x v->cj (Y.z G) M H xs vs->o x xs h Q->(∀d g m H' w,Ext M H m H'->bq (Y.z G) m H' g->cZ (Y.z G) m H' d w->Q d g->QV w H')->r v vs H QV
def DR(c:Nat)(h:Hs)(x:Dv):Bool:=match c with
 |0=>match x with|.p (.str _)=>J|_=>a7
 |4=>(j4 h x).isSome||(mY h x).isSome|_=>a7
def ZM(c:Nat)(o:OM)(A R:Sm):Sm:=λg σ h Q=>A g σ h λxs l=>match xs with|[x]=>gd (DR c l x) (R g σ l λds m=>o x ds m λd q=>Q [d] q)|_=>False
section
variable{o:Expr}{C R:Sm}{p b5 dP:Pos}{G:List Addr}
def tX{ds:List Dv}(r:bq (Y.z G) M H h)(i:cZ (Y.z G) M H x v)(e:mY h x=O ds):∃n a vs,x=.r n/\M[n]?=O a/\v=.ref a/\H a=O (.lst vs)/\cj (Y.z G) M H ds vs:=by
 unfold mY at e;split at e
 ·split at e;·rename_i l;cases e;obtain⟨a,g,m⟩:=i;obtain⟨vs,q,s⟩:=r.at' g l;exact⟨_,a,vs,rfl,g,m,q,s⟩
  ·cases e
 ·cases e
def U9(r:bq (Y.z G) M H h)(i:cZ (Y.z G) M H x v)(e:DR c h x):iu Y.K (kW c) v H:=by
 unfold DR at e;split at e
 ·split at e;·rw[eV i];exact(rfl:"str"="str")
  ·cases e
 ·rw[gp]at e;rcases e with e|e;·obtain⟨xs,ex⟩:=cF.mp e;obtain⟨a,vs,g,s1,I⟩:=fO r i ex;rw[g];exact .inl ⟨rfl,vs,gN.of s1⟩
  ·obtain⟨xs,ex⟩:=cF.mp e;obtain⟨n,a,vs,_,_,g,s1,I⟩:=tX r i ex;rw[g];exact .inl ⟨rfl,vs,gN.of s1⟩
 ·cases e
def ZY{o:OM}(F:wz (yx t X) r o)(h:cJ (yx t X) E (ZM c o A R) τ H QV):vx X.K (kW c) r (cJ (yx t X) E A) (gF (yx t X) E R) τ H QV:=by obtain⟨G,M,σ,h,s,Q,k,q⟩:=h;refine⟨G,M,σ,h,s,_,⟨k.rel,k.env,λd u L H1 v g l I m=>?_,k.exc⟩,q⟩;obtain⟨N,m⟩:=bB (show gd (DR c u d) _ from m);refine⟨U9 l I N,G,L,σ,u,s,_,⟨l,k.env.ext k.rel g,λds P S U vs y W i2 q2=>?_,k.Qw g⟩,m⟩;exact F G S P U d ds v vs _ _ W (I.ext l y) i2 q2 λd3 h3 M3 H3 w e3 r3 i3 q3=>k.out d3 h3 M3 H3 w (g.trans (y.trans e3)) r3 i3 q3
def KW(U:(e::es).all cm)(l:(e::es).length<30):((db dP (ci (e::es) X.env)).all (λx=>!x.1)&&(backToKw dP (hB [] X.env)).all (λx=>x.1.isSome)&&decide ((e::es).length+([]:List Keyword).length+(if([]:List Keyword).isEmpty then 0 else 1)<30))=true:=by
 have h1:=fF (env:=X.env) (pos:=dP) U;have g:(db dP (ci (e::es) X.env)).all (λx=>!x.1)=true:=by rw[aS];intro x m;rw[List.any_eq_false]at h1;have:=h1 x m;simpa using this
 rw[g,cR];simp only[aI];exact⟨rfl,cq (by simpa using l)⟩
def xQ{id:String}(P:PlainAttrs (kW c))(slot:Slot (kW c) name id)(y:typeOf (.builtin id)=pure (.type "method_descriptor"))(g:Ca X id r)(m:wz (yx t X) r oo)(l:PE X o (cJ (yx t X) E A))(q:PA X (a::b4) (gF (yx t X) E R))(Q:ge o name X.env (eval o X.env)=eval o X.env)(U:(a::b4).all cm)(s:(a::b4).length<30)(W:(b5.endLine==dP.line)):PE X (.Call (.Attribute o name b5) (a::b4) [] dP) (cJ (yx t X) E (ZM c oo A R)):=by have hp:=U;rw[bh,aI]at hp;exact(vn P slot y g l q Q (KW U s) W (c8 hp.1) (fF hp.2)).imp λ_ _ _=>ZY m
def Zc{id:String}(h:PE X (.Call (.Attribute o name b5) [] [] dP) (T1 X.K (kW c) r (cJ (yx t X) E A)))(m:wz (yx t X) r oo):PE X (.Call (.Attribute o name b5) [] [] dP) (cJ (yx t X) E (ZM c oo A EE)):=h.imp λτ H QV ⟨G,M,σ,h,u,Q,k,q⟩=>by refine⟨G,M,σ,h,u,_,⟨k.rel,k.env,λd l y F v L s I g=>?_,k.exc⟩,q⟩;obtain⟨N,g⟩:=bB (show gd (DR c l d) _ from g);exact⟨U9 s I N,m G y l F d [] v [] _ _ s I trivial g λP S U W w e3 r3 i3 q3=>k.out P S U W w (L.trans e3) r3 i3 q3⟩
def mn:OM:=λx ds h Q=>match x,ds with
 |.r i,[d]=>match h[i]? with
  |some (.lst xs)=>match d with|.p y=>gd (iz (xs.length+1)) (Q (.p .non) (h.set i (.lst (xs++[y]))))|.r _=>False
  |some (.df xs)=>gd (iz (xs.length+1)) (Q (.p .non) (h.set i (.df (xs++[d]))))|_=>False
 |_,_=>False
theorem cj.app{Z:Tx}:∀{xs ys:List Dv}{vs ws:List V},cj Z M H xs vs->cj Z M H ys ws->cj Z M H (xs++ys) (vs++ws)|[],_,[],_,_,q=>q|[],_,_::_,_,h,_=>h.elim|_::_,_,[],_,h,_=>h.elim|_::_,_,_::_,_,h,q=>⟨h.1,cj.app h.2 q⟩
def cj.one{Z:Tx}{d:Dv}{v:V}(h:cZ Z M H d v):cj Z M H [d] [v]:=⟨h,trivial⟩
def Q3:wz Y zy mn:=λG M h H x xs v vs Q QV r i L q out=>by
 unfold mn at q;split at q
 ·rename_i n d;obtain⟨w,rfl,j⟩:=L.kQ;obtain⟨a,g,K⟩:=i;have s:a∈M:=aZ g;split at q;·rename_i u F;cases d with|r _=>exact q.elim|p y=>obtain⟨c,q⟩:=bB q;obtain⟨W,I,l⟩:=r.at' g F;have m:=dI c;refine⟨a,W,w,K,rfl,I,by rw[l.len]at m;exact m,?_⟩;refine out _ _ M _ .non (Ext.put s) (r.put (o:=.lst (u++[y])) g ⟨_,bF,?_⟩) nL q;exact(l.app (aO.one j)).ext r (Ext.put s)
  ·rename_i u F;obtain⟨c,q⟩:=bB q;obtain⟨W,I,l⟩:=r.at' g F;have m:=dI c;refine⟨a,W,w,K,rfl,I,by rw[l.len]at m;exact m,?_⟩;refine out _ _ M _ .non (Ext.put s) (r.put (o:=.df (u++[d])) g ⟨_,bF,?_⟩) nL q;exact(l.app (cj.one j)).ext r (Ext.put s)
  ·exact q.elim
 ·exact q.elim
noncomputable def ag9(xs:List Pv)(v:Pv):Int->Option (List Pv)
 |.ofNat n=>match aa5 (n+1) xs.length with|true=>O (xs.set n v)|false=>af
 |_=>af
def Sr(A B C:Sm):Ss:=λN σ h=>A N.xc σ h λvs m=>match vs with
 |[.p v]=>B N.xc σ m λxs q=>match xs with
  |[.r i]=>C N.xc σ q λy l=>match y with
   |[.p (.int k)]=>match l[i]? with
    |some (.lst s)=>match ag9 s v k with|some g=>N.nx σ (l.set i (.lst g))|none=>False
    |_=>False
   |_=>False
  |_=>False
 |_=>False
theorem aO.set{Z:Tx}{x:Pv}{v:V}(i:bR Z M H x v):∀{xs:List Pv}{vs:List V}(n:Nat),aO Z M H xs vs->aO Z M H (xs.set n x) (vs.set n v)|[],[],_,q=>q|[],_::_,_,q=>by unfold aO at q;exact q.elim|_::_,[],_,q=>by unfold aO at q;exact q.elim|_::_,_::_,0,q=>by unfold aO at q;rw[List.set_cons_zero,List.set_cons_zero];unfold aO;exact⟨i,q.2⟩|_::_,_::_,n+1,q=>by unfold aO at q;rw[List.set_cons_succ,List.set_cons_succ];unfold aO;exact⟨q.1,aO.set i n q.2⟩
theorem Zu(h:fQ (yx t X) E (Sr A B C) D τ H):BV (cJ (yx t X) E A) (TD (cJ (yx t X) E B) (cJ (yx t X) E C) VH) D τ H:=by obtain⟨G,M,σ,h,N,k,q⟩:=h;have ex:∀{W H'},Ext M H W H'->∀C s g H1,Ext W H' g H1->bq ((yx t X).z G) g H1 s->N.xc C s->E (.ref (t.ca C)) af H1:=λe C s g H1 x r q=>k.exc C s g H1 (e.trans x) r q;refine⟨G,M,σ,h,N.xc,_,⟨k.rel,k.env,λd s g H1 v u r1 i1 q1=>?_,k.exc⟩,q⟩;cases d with|r _=>exact q1.elim|p x=>refine⟨G,g,σ,s,N.xc,_,⟨r1,k.env.ext k.rel u,λd2 h2 M2 H2 v2 w K i2 q2=>?_,ex u⟩,q1⟩;cases d2 with|p _=>exact q2.elim|r n=>
   refine⟨G,M2,σ,h2,N.xc,_,⟨K,k.env.ext k.rel (u.trans w),λd3 h3 M3 H3 v3 F L i3 Q=>?_,ex (u.trans w)⟩,q2⟩;split at Q
   ·rename_i kk l;injection l with l;subst l;split at Q
    ·rename_i I ho;split at Q;·rename_i P y;obtain⟨a,S,g2⟩:=i2.ext K F;obtain⟨ws,g3,g4⟩:=L.at' S ho;have U:a∈M3:=aZ S;cases kk with|negSucc m=>cases y|ofNat m=>
       change(match aa5 (m+1) I.length with|true=>O (I.set m x)|false=>af)=O P at y;split at y
       ·rename_i hb;cases y;have hm:m<I.length:=bg hb;refine⟨a,ws,(m:Int),m,g2,d9 i3,g3,?_,?_⟩;·unfold Rn;rw[bx (Int.natCast_nonneg m),bx (by rw[<-g4.len];lia)];rfl
        ·have ix:=((show bR ((yx t X).z G) g H1 x v from i1).ext r1 w).ext K F;refine k.nx σ _ M3 _ τ ((u.trans (w.trans F)).trans (Ext.put U)) (L.put (o:=.lst (I.set m x)) S ⟨_,bF,?_⟩) (k.env.ext k.rel ((u.trans (w.trans F)).trans (Ext.put U))) Q;exact(g4.set ix m).ext L (Ext.put U)
       ·cases y
     ·exact Q.elim
    ·exact Q.elim
   ·exact Q.elim
structure uu(K:Frag)(t:Tb)(c:Nat):Prop where
 cl:ET K (t.ca c)na:∀f∈t.fl c,lr K (t.ca c) f
 nd:(t.fl c).Nodup
noncomputable def KY(c j:Nat)(h:Hs):Dv->Option Dv
 |.p (.obj g fs)=>match aa3 g c with
  |true=>match fs[j]? with|some x=>O (.p x)|none=>af
  |false=>af
 |.r i=>match h[i]? with
  |some (.ins g fs)=>match aa3 g c with|true=>fs[j]?|false=>af
  |_=>af
 |_=>af
def nk(c j:Nat):O1:=λx h Q=>match KY c j h x with|some d=>Q d h|none=>False
theorem nQ{f:Str}:∀{fv:List (Str×V)}{l:List Str}{j:Nat}{v:V},l.Nodup->fv.map (·.1)=l.take fv.length->l[j]?=O f->(fv.map (·.2))[j]?=O v->fv.lookup f=O v|[],_,_,_,_,_,_,e=>by simp at e|(g,w)::fv,[],_,_,_,e,_,_=>by simp at e|(g,w)::fv,x::l,0,v,N,e,m,q=>by rw[aY,ao,er]at e;injection e with s u;cases m;cases q;rw[fN,show(f==g)=J from kD.mpr s.symm]|(g,w)::fv,x::l,j+1,v,N,e,m,q=>by rw[aY,ao,er]at e;injection e with s u;rw[cD]at N;have y:f∈l:=aZ (by simpa using m);rw[fN,show(f==g)=a7 from cu.mpr λz=>N.1 (by rw[<-s,<-z];exact y)];exact nQ N.2 u (by simpa using m) (by simpa using q)
def Y7(l:uu X.K t c)(s:(t.fl c)[j]?=O f)(ha:PE X a (cJ (yx t X) E A))(hb:ge a f X.env (eval a X.env)=eval a X.env):PE X (.Attribute a f pos) (cJ (yx t X) E (s1 (nk c j) A)):=(Y4 ha hb).imp λτ H QV ⟨G,M,σ,h,xc,Q,k,q⟩=>by
  refine⟨G,M,σ,h,xc,_,⟨k.rel,k.env,λd u M1 H1 v e1 L N m=>?_,k.exc⟩,q⟩;change nk c j d u _ at m;unfold nk at m;split at m;·rename_i P g;cases d with
   |p d=>cases d with
    |obj y fs=>
     change(match aa3 y c with
      |true=>match fs[j]? with|some x=>O (Dv.p x)|none=>af
      |false=>af)=O P at g;split at g
     ·rename_i S;split at g
      ·rename_i x ex;cases g;obtain rfl:=ax S;unfold cZ bR at N;obtain⟨a,U,F,rfl,_,s1,l1,I⟩:=N;obtain⟨w,W,g2⟩:=I.get ex;have ln:fs.length=F.length:=by have:=I.len;rw[ak]at this;exact this
       rw[ln]at l1;exact⟨a,_,U,F,w,rfl,s1,l.cl,l.na f (aZ s),nQ l.nd l1 s W,k.out (.p x) u M1 H1 w e1 L g2 m⟩
      ·cases g
     ·cases g|_=>cases g
   |r n=>
    change(match u[n]? with
     |some (.ins y fs)=>match aa3 y c with|true=>fs[j]?|false=>af
     |_=>af)=O P at g;split at g
    ·rename_i y fs ho;split at g
     ·rename_i S;obtain rfl:=ax S;obtain⟨a,g0,rfl⟩:=N;obtain⟨U,F,s1,_,l1,I⟩:=L.at' g0 ho;obtain⟨w,W,g2⟩:=I.get g;have ln:fs.length=F.length:=by have:=I.len;rw[ak]at this;exact this
      rw[ln]at l1;exact⟨a,_,U,F,w,rfl,s1,l.cl,l.na f (aZ s),nQ l.nd l1 s W,k.out P u M1 H1 w e1 L g2 m⟩
     ·cases g
    ·cases g
  ·exact m.elim
noncomputable def Tn(j:Nat)(d:Dv)(fs:List Dv):Option (List Dv):=match aa3 j fs.length with|true=>O (fs++[d])|false=>match aa5 (j+1) fs.length with|true=>O (fs.set j d)|false=>af
def qA(c j i:Nat)(d:Dv)(h:Hs)(K:Hs->Prop):Prop:=match h[i]? with|some (.ins g fs)=>gd (aa3 g c&&aa5 (fs.length+1) 1000) (match Tn j d fs with|some y=>K (h.set i (.ins c y))|none=>False)|_=>False
def VT(c j:Nat)(A B:Sm):Ss:=λN σ h=>A N.xc σ h λvs g=>match vs with
 |[d]=>B N.xc σ g λxs l=>match xs with|[.r i]=>qA c j i d l λm=>N.nx σ m|_=>False
 |_=>False
theorem zx{f:Str}{v:V}:∀{fv:List (Str×V)}{l:List Str}{j:Nat},l.Nodup->fv.map (·.1)=l.take fv.length->l[j]?=O f->j<fv.length->(iX f v fv).map (·.1)=fv.map (·.1)/\(iX f v fv).map (·.2)=(fv.map (·.2)).set j v/\(iX f v fv).length=fv.length|[],_,_,_,_,_,h=>by simp at h|(g,w)::fv,[],_,_,e,_,_=>by simp at e|(g,w)::fv,x::l,0,N,e,m,_=>by rw[aY,ao,er]at e;injection e with q s;cases m;have:iX f v ((g,w)::fv)=(g,v)::fv:=bx q;rw[this];exact⟨rfl,rfl,rfl⟩|(g,w)::fv,x::l,j+1,N,e,m,u=>by rw[aY,ao,er]at e;injection e with q s;rw[cD]at N;have y:f∈l:=aZ (by simpa using m);have:iX f v ((g,w)::fv)=(g,w)::iX f v fv:=bE λz=>N.1 (by rw[<-q];show g∈l;rw[z];exact y);rw[this];obtain⟨a,b,c⟩:=zx (v:=v) (fv:=fv) N.2 s (by simpa using m) (by simpa using u);exact⟨by rw[aY,a];rfl,by rw[aY,b];rfl,by rw[ao,c];rfl⟩
theorem BC{f:Str}{v:V}:∀{fv:List (Str×V)}{l:List Str},l.Nodup->fv.map (·.1)=l.take fv.length->l[fv.length]?=O f->iX f v fv=fv++[(f,v)]
 |[],_,_,_,_=>rfl|(g,w)::fv,[],_,e,_=>by simp at e|(g,w)::fv,x::l,N,e,m=>by
  rw[aY,ao,er]at e;injection e with q s;rw[cD]at N;have u:l[fv.length]?=O f:=by simpa using m
  have:iX f v ((g,w)::fv)=(g,w)::iX f v fv:=bE λz=>N.1 (by rw[<-q];show g∈l;rw[z];exact aZ u);rw[this,BC N.2 s u];rfl
theorem cj.set{Z:Tx}{x:Dv}{v:V}(i:cZ Z M H x v):∀{xs:List Dv}{vs:List V}(n:Nat),cj Z M H xs vs->cj Z M H (xs.set n x) (vs.set n v)|[],[],_,q=>q|[],_::_,_,q=>q.elim|_::_,[],_,q=>q.elim|_::_,_::_,0,q=>⟨i,q.2⟩|_::_,_::_,n+1,q=>⟨q.1,cj.set i n q.2⟩
theorem QL(u:uu X.K t c)(l:(t.fl c)[j]?=O f)(h:fQ (yx t X) E (VT c j A B) D τ H):AT X.K (cJ (yx t X) E B) (cJ (yx t X) E A) f D τ H:=by obtain⟨G,M,σ,h,N,k,q⟩:=h;refine⟨G,M,σ,h,N.xc,_,⟨k.rel,k.env,λd S U H1 v w r1 i1 q1=>?_,k.exc⟩,q⟩;refine⟨G,U,σ,S,N.xc,_,⟨r1,k.env.ext k.rel w,λd2 h2 M2 H2 v2 W r2 i2 Q=>?_,λC S U H1 x r q=>k.exc C S U H1 (w.trans x) r q⟩,q1⟩;cases d2 with|p _=>exact Q.elim|r n=>
  change match h2[n]? with|some (.ins g fs)=>gd (aa3 g c&&aa5 (fs.length+1) 1000) (match Tn j d fs with|some y=>N.nx σ (h2.set n (.ins c y))|none=>False)|_=>False at Q;split at Q
  ·rename_i g fs ho;obtain⟨c1,Q⟩:=bB Q;rw[aI]at c1;obtain rfl:=ax c1.1;have hl:=bg c1.2;split at Q
   ·rename_i y s;obtain⟨a,g0,rfl⟩:=i2;have ha:a∈M2:=aZ g0;obtain⟨P,m,s1,s2,l1,i3⟩:=r2.at' g0 ho;have L:fs.length=m.length:=by have:=i3.len;rw[ak]at this;exact this
    rw[L]at l1;have I:=i1.ext r1 W;refine⟨a,_,P,m,rfl,s1,u.cl,u.na f (aZ l),by lia,?_⟩;have dxa:P≠a:=λz=>by rw[z,s1]at s2;cases s2
    have fin:∀F,F.map (·.1)=(t.fl g).take y.length->cj ((yx t X).z G) M2 H2 y (F.map (·.2))->D.nx τ (cQ H2 a (.ins (t.ca g) P F)):=λF u4 O8=>k.nx σ _ M2 _ τ ((w.trans W).trans (Ext.put ha)) (r2.put (o:=.ins g y) g0 ⟨P,F,bF,by rw[bC dxa];exact s2,u4,O8.ext r2 (Ext.put ha)⟩) (k.env.ext k.rel ((w.trans W).trans (Ext.put ha))) Q;unfold Tn at s;split at s
    ·rename_i ej;cases s;have ej:=ax ej;subst ej;rw[L]at l;rw[BC u.nd l1 l];refine fin _ ?_ ?_;·rw[aV,l1,ae,L];show List.take m.length (t.fl g)++[f]=List.take (m.length+1) (t.fl g);rw[List.take_succ,l];rfl
     ·rw[aV];exact i3.app (cj.one I)
    ·split at s
     ·rename_i eb;cases s;have U3:j<m.length:=by rw[<-L];exact bg eb
      obtain⟨p1,p2,p3⟩:=zx (v:=v) u.nd l1 l U3;refine fin _ ?_ ?_;·rw[p1,l1,bp,L]
      ·rw[p2];exact i3.set I j
     ·cases s
   ·exact Q.elim
  ·exact Q.elim
def Rs(c:Nat)(g:Hs)(Q:KP)(l:Hs):Prop:=match l with
 |[.ins m fs]=>match ud fs with|some P=>gd (aa3 m c) (Q [.p (.obj c P)] g)|none=>False
 |_=>False
noncomputable def DO:Dv->Bool|.p .non=>J|_=>a7
def xL(c:Nat)(g:Ct)(A:Sm):Sm:=λm σ h Q=>A m σ h λds q=>match ud ds with|some _=>g (.r 0::ds) [.ins c []] (λd l=>gd (DO d) (Rs c q Q l)) λ_ _=>False|none=>False
theorem Nr{Z g:Tx}{M M':List Addr}{H H':Hp}(f:∀{x v},bR Z M H x v->bR g M' H' x v):∀{ds:List Dv}{vs:List V}{xs:List Pv},ud ds=O xs->cj Z M H ds vs->cj g M' H' ds vs
 |[],[],_,_,_=>trivial|[],_::_,_,_,q=>q|_::_,[],_,_,q=>q|.r _::_,_::_,_,e,_=>by cases e|.p x::ds,v::vs,xs,e,q=>by
  unfold ud at e;split at e;·rename_i s y;exact⟨f q.1,Nr f y q.2⟩
  ·cases e
theorem Gu:∀{ds:List Dv}{xs:List Pv},ud ds=O xs->ds.length=xs.length
 |[],_,e=>by cases e;rfl|.r _::_,_,e=>by cases e|.p x::ds,xs,e=>by
  unfold ud at e;split at e;·rename_i s y;cases e;rw[ao,ao,Gu y]
  ·cases e
def Zd{x:Str}{ps:List Str}{ct:Ct}(D:sT X.prog X.w X.K X.mg X.base k0 x (t.ca c) ps (iH (yx t X) ct))(hr:dQ (k0+1) X.A)(hg:Gl X x)(P:PA X (a::b4) (gF (yx t X) E A))(iT:(x==("__debug__":Str))=a7)(dU:(a::b4).all cm):PE X (.Call (.Name x p) (a::b4) [] pos) (cJ (yx t X) E (xL c ct A)):=(By D hr hg P iT dU).imp λτ H QV ⟨G,M,σ,h,xc,Q,k,q⟩=>by
 refine⟨G,M,σ,h,xc,_,⟨k.rel,k.env,λd h1 U m v e1 I i1 W=>?_,k.exc⟩,q⟩;split at W
 ·rename_i xs ex;intro x g N nd RM;have nx2:cQ m g (.own x) x=none:=by rw[bC (bY RM)];exact N
  have L:jh m (cQ (cQ m g (.own x)) x (.ins (t.ca c) g [])):=λb o e=>by rw[bC (bS e N),bC (bS e nd)];exact e
  have hx:cQ (cQ m g (.own x)) x (.ins (t.ca c) g []) x=O (.ins (t.ca c) g []):=bF;have F:cQ (cQ m g (.own x)) x (.ins (t.ca c) g []) g=O (.own x):=by rw[bC RM];exact bF
  generalize cQ (cQ m g (.own x)) x (.ins (t.ca c) g [])=H2 at L hx F;have r2:=kR I L;rw[aM];refine⟨G++U,[x],[.ins c []],.r 0::d,_,_,⟨by simp,λb s=>?_,rfl,λb s=>?_,λi a o g1 g2=>?_⟩,⟨⟨x,rfl,rfl⟩,?_⟩,W,λd h' M' H' v e' r' i' qa=>?_,λc h' M' H' e' r' q'=>q'.elim⟩;·rw[aQ.mp s];obtain⟨n1,n2⟩:=I.o9 N;exact λz=>(bf.mp z).elim n2 n1
  ·rcases bf.mp s with z|z;·exact r2.gs b z
   ·obtain⟨o,e,_⟩:=r2.there z;exact⟨o,e⟩
  ·cases i with|zero=>cases g1;cases g2;exact⟨g,[],hx,F,rfl,trivial⟩|succ i=>simp at g1
  ·refine Nr (λ{y w}iy=>?_) ex i1;have iy2:=bR.fr (G':=G++U) (M':=[x]) (λa P=>?_) iy;·exact bR.mv (M':=[x]) (H':=H2) ⟨λb s vs z=>(by rw[aQ.mp s]at z;rcases z with z|⟨_,z⟩<;>rw[N]at z<;>cases z),λb o _ e=>L b o e,λb s n=>absurd s n⟩ iy2
   ·rcases P with z|z;·rw[aQ.mp z];exact .inr (.inr N)
    ·exact(bf.mp z).elim (λz=>.inr (.inl z)) .inl
  ·obtain⟨cn,u⟩:=bB qa;clear qa;have dn:d=.p .non:=by cases d with|r _=>cases cn|p d=>cases d<;>first|rfl|cases cn
   subst dn;refine⟨JV i',?_⟩;unfold Rs at u;split at u
   ·rename_i c' fs;split at u
    ·rename_i qs eq;obtain⟨c2,qc⟩:=bB u;obtain rfl:=ax c2;obtain⟨l,hl⟩:=e'.pre;have hM:M'=[x]:=by have:=r'.ln;rw[hl]at this;cases l with|nil=>exact hl|cons _ _=>simp at this
     subst hM;have S:jh m H':=λb o e=>e'.keep b o (λz=>by rw[aQ.mp z,N]at e;cases e) (L b o e);obtain⟨dx',fv,s1,s2,l1,i3⟩:=r'.at' (i:=0) (a:=x) rfl rfl;have i4:=rS (Y:=yx t X) eq i3;refine k.out _ h1 U H' _ (e1.trans (gS S)) (kR I S) ?_ qc;have fg:=I.o9 N;unfold cZ bR;refine⟨x,dx',fv,rfl,fg,s1,by rw[<-Gu eq];exact l1,?_⟩;exact aO.up (Y:=yx t X) (λa h1 h2=>⟨λz=>h2 (aR _ z),λz=>h2 (cP _ z)⟩) i4
    ·exact u.elim
   ·exact u.elim
 ·exact W.elim
def TK(P:cf)(w:b7)(K:Frag)(m:b')(g:Heap)(k:Nat)(E:XK)(l:TE)(t:TA):TE:=λσ H Q=>l σ H λv q=>∃(f:Addr)(F:dL)(s:List Str)(S:Sp),v=.ref f/\je P w K m g (oP P w) k f F s S/\keepIn K (.ref f)=J/\Binds K F s []/\t σ q λvs u=>S vs u Q E
def IJ{k:Nat}{x:Str}{g:TE}{p:Pos}{t:TA}(u:PE X (.Name x p) g)(L:dQ k X.A)(N:eu (oP X.prog X.w) X E)(S:PA X (e::es) t)(U:(e::es).all cm):PE X (.Call (.Name x p) (e::es) [] pos) (TK X.prog X.w X.K X.mg X.base k E g t):=by intro P s σ H Q I h;rw[bh,aI]at U;refine eP (dh (u P s σ H _ I h) λv s1 y=>?_);obtain⟨y,W,l,r,f,fd,ps,sp,e1,F,hk,hb,q⟩:=y;subst e1;cases r;refine jw (h₀:=X.base) l.ok.mod.Pb hk (dh (S pos P s1 σ W _ l q) λus s2 ⟨vs,H2,m,r2,q2⟩=>⟨m.l9,?_⟩) (c8 U.1) (fF U.2);exact zD F L hb .nil N m r2 (by rw[aM];exact q2)
def NQ(F:Nat->Ct)(S:List Nat)(ρ:List Nat)(A R:Sm):Sm:=λg σ h Q=>A g σ h λxs l=>match xs with|[.p (.fn i)]=>gd (gO i S) (R g σ l λds m=>Yn ρ (F i) ds m (λd q=>Q [d] q) g)|_=>False
def MY{k:Nat}{x:Str}{fn:Nat->Ct}{S ρ:List Nat}(D:∀i∈S,∃ps,mK X.prog X.w X.K X.mg X.base k (t.fI i) ps (iH (yx t X) (fn i)))(hr:dQ k X.A)(hp:eu (oP X.prog X.w) X E)(hx:PE X (.Name x p) (cJ (yx t X) E A))(ha:PA X (a::b4) (gF (yx t X) E R))(dU:(a::b4).all cm):PE X (.Call (.Name x p) (a::b4) [] pos) (cJ (yx t X) E (NQ fn S ρ A R)):=(IJ hx hr hp ha dU).imp λτ H QV ⟨G,M,σ,h,P,Q,k,q⟩=>by refine⟨G,M,σ,h,P,_,⟨k.rel,k.env,λd h1 M1 H1 v l r1 U g=>?_,k.exc⟩,q⟩;cases d with|r _=>exact g.elim|p d=>cases d with|fn i=>obtain⟨c,g⟩:=bB (show gd (gO i S) _ from g);obtain⟨ps,f,fd,F,hm,hk,hb⟩:=D i (cC.mp c);unfold cZ bR at U;obtain⟨a,m,rfl⟩:=U;change X.mg (t.fI i)=O (.ref a)at m;rw[hm]at m;cases m;refine⟨f,fd,ps,_,rfl,F,hk,hb,G,M1,σ,h1,P,_,⟨r1,k.env.ext k.rel l,λds m M2 H2 vs W r2 i2 q2=>?_,k.Qw l⟩,g⟩;exact xW r2 i2 q2 (λd3 s u y w I L i3 N=>k.out d3 s u y w (l.trans (W.trans I)) L i3 N) λc s u y I L N=>k.exc c s u y (l.trans (W.trans I)) L N|_=>exact g.elim
noncomputable def vS(ks:List Str):Pv:=.tup (ks.map .str)
theorem kO:∀{ks:List Str},aO (Y.z G) M H (ks.map .str) (ks.map V.str)|[]=>by rw[fj,fj];unfold aO;trivial|k::ks=>by rw[aY,aY];unfold aO;exact⟨by unfold bR;rfl,kO⟩
def F9(tab:Str->Option (List Str)):O1:=λx h Q=>match x with|.p (.str z)=>iw (tab z) (λks=>Q (.p (vS ks)) h) (Q (.p .non) h)|_=>False
def RX(tab:Str->Option (List Str)):O1:=λx h Q=>match x with|.p (.str z)=>iw (tab z) (λks=>Q (.p (vS ks)) h) False|_=>False
def N5{env:Env}(h:cm e):ci [e] env=[(a7,eval e env)]:=by rw[c8 h];rfl
def So{n:Str}{ad:Addr}(T:CI X.w X.K ad tab)(I:Gl X n)(L:X.mg n=O (.ref ad))(N:PE X e (cJ (yx t X) E A))(P:(n==("__debug__":Str))=a7)(U:cm e)(W:(b5.endLine==dP.line)):PE X (.Call (.Attribute (.Name n p) "get" b5) [e] [] dP) (cJ (yx t X) E (s1 (F9 tab) A)):=(IQ T I L N P rfl (KW (by rw[bh,U];rfl) (show 1<30 by ext)) W (N5 U)).imp λτ H QV ⟨G,M,σ,h,S,Q,k,q⟩=>by
  refine⟨G,M,σ,h,S,_,⟨k.rel,k.env,λd l s u v y F i1 g=>?_,k.exc⟩,q⟩;change F9 tab d l _ at g;unfold F9 iw at g;split at g
  ·rename_i z;refine⟨z,eV i1,?_⟩;split at g;·rename_i ks m;rw[m];exact λb sq=>k.out _ l s u _ y F (by unfold cZ vS bR;exact⟨b,_,rfl,sq,kO⟩) g
   ·rename_i m;rw[m];exact k.out _ l s u _ y F nL g
  ·exact g.elim
def Zg{n:Str}{ad:Addr}(T:CI X.w X.K ad tab)(m:Gl X n)(s:X.mg n=O (.ref ad))(u:PE X e (cJ (yx t X) E A))(y:(n==("__debug__":Str))=a7)(F:nF e):PE X (.Subscript (.Name n p) e pos) (cJ (yx t X) E (s1 (RX tab) A)):=(Bx (X9 T) (e9 (v:=.ref ad) m s rfl y) u F).imp λτ H QV ⟨G,M,σ,h,I,Q,k,q⟩=>by
  refine⟨G,M,σ,h,I,_,⟨k.rel,k.env,λd l L N v P S U g=>?_,k.exc⟩,q⟩;change RX tab d l _ at g;unfold RX iw at g;split at g
  ·rename_i z;split at g;·rename_i ks W;exact⟨rfl,z,ks,eV U,W,λb sq=>k.out _ l L N _ P S (by unfold cZ vS bR;exact⟨b,_,rfl,sq,kO⟩) g⟩
   ·exact g.elim
  ·exact g.elim
noncomputable def lS:List Pv->Option (List Str)
 |[]=>O []|.str x::r=>match lS r with|some xs=>O (x::xs)|none=>af
 |_::_=>af
theorem zP:∀{xs:List Pv}{ws:List Str}{vs:List V},lS xs=O ws->aO (Y.z G) M H xs vs->vs=ws.map V.str|[],_,[],e,_=>by cases e;rfl|[],_,_::_,_,q=>by unfold aO at q;exact q.elim|_::_,_,[],_,q=>by unfold aO at q;exact q.elim|x::xs,ws,v::vs,e,q=>by unfold aO at q;cases x with
  |str z=>
   change(match lS xs with|some y=>O (z::y)|none=>af)=O ws at e;split at e;·rename_i y g;cases e;have l:v=.str z:=eV (show cZ (Y.z G) M H (.p (.str z)) v from q.1);rw[l,zP g q.2];rfl
   ·cases e|_=>cases e
def F8:O1:=λx h Q=>match j4 h x with|some xs=>iw (lS xs) (λw=>gd (aa5 ((dR w).length+1) 64) (Q (.p (.int (dR w).length)) h)) False|none=>False
def Sn{U:Pos}(F:X.calm)(I:Gl X "len")(K:X.mg "len"=af)(l:Gl X "set")(m:X.mg "set"=af)(L:PE X e (cJ (yx t X) E A))(s:cm e):PE X (.Call (.Name "len" p) [.Call (.Name "set" p2) [e] [] U] [] pos) (cJ (yx t X) E (s1 F8 A)):=(md HD I K Kf (lP (Vv (uC F) l m WM (lP L dF s) (by ext) (by ext) (by rw[bh,s];rfl)) dF rfl) (by ext) (by ext) rfl).imp λτ H QV ⟨G,M,σ,h,N,Q,k,q⟩=>by
  refine⟨G,M,σ,h,N,_,⟨k.rel,k.env,λd u P H1 v S w i1 g=>?_,k.exc⟩,q⟩;change F8 d u _ at g;unfold F8 iw at g;split at g
  ·rename_i xs ex;split at g;·rename_i W ew;obtain⟨c,g⟩:=bB g;obtain⟨a,vs,rfl,s1,i2⟩:=fO w i1 ex;rw[zP ew i2]at s1;refine⟨a,W,rfl,gN.of s1,bg c,λb y=>?_⟩;exact⟨b,dR W,rfl,bF,k.out _ u P _ _ (S.trans (Ext.add y)) (w.add y) ef g⟩
   ·exact g.elim
  ·exact g.elim
def My:O2:=λx y h Q=>match x,y with
 |.p (.int i),.p (.int j)=>gd (CV i j) (Q (.p (.int (i*j))) h)|x,.p (.int k)=>match j4 h x with|some xs=>gd (iz (xs.length*k.toNat)&&decide (-2^63<=k)&&decide (k<2^63)) (Q (.p (.lst (aa4 k.toNat xs).flatten)) h)|none=>False
 |_,_=>False
def VG:R2:=λx y H Q=>rI JT (λi j=>.int (i*j)) x y H Q\/JK x y H Q
def R7:jQ X (binaryOp .Mult) VG:=YU.or YW
theorem aO.rep{xs:List Pv}{vs:List V}(q:aO (Y.z G) M H xs vs):∀n:Nat,aO (Y.z G) M H (aa4 n xs).flatten (aa4 n vs).flatten|0=>by rw[FS,FS,G9,G9];unfold aO;trivial|n+1=>by rw[cH,cH,dY,dY];exact q.app (aO.rep q n)
def Lq:jf Y VG My:=λG M h H x y v u Q QV r i j q out=>by
 unfold My at q;split at q;·obtain⟨k,q⟩:=bB q;exact .inl ⟨_,_,d9 i,d9 j,PQ k,out _ h M H _ Ext.refl r ef q⟩
 ·split at q;·rename_i xs ex;obtain⟨c,q⟩:=bB q;simp only[aI,gP]at c;obtain⟨a,vs,l,s1,I⟩:=fO r i ex;exact .inr ⟨a,_,vs,l,d9 j,s1,c.1.2,c.2,by rw[<-I.len];exact dI c.1.1,λp g=>out _ h M _ _ (Ext.add g) (r.add g) (jM r g (I.rep _)) q⟩
  ·exact q.elim
 ·exact q.elim
def xR:List Pv->Option (List Pv×List Pv)
 |[]=>O ([],[])|.tup [k,v]::r=>match qt k,xR r with|some _,O (ks,vs)=>O (k::ks,v::vs)|_,_=>af
 |_::_=>af
def yJ:List Pv->List Pv->List Pv×List Pv->List Pv×List Pv|k::ks,v::vs,(K,g)=>yJ ks vs (sj k K,so k v K g)|_,_,r=>r
def Yx:ON:=λds h Q=>match ds with
 |[x]=>match j4 h x with|some xs=>iw (xR xs) (λp=>gd (aa5 p.1.length 100) (Q (.p (.dct (yJ p.1 p.2 ([],[])).1 (yJ p.1 p.2 ([],[])).2)) h)) False|none=>False
 |_=>False
theorem Nh:∀{xs ks us:List Pv}{vs:List V},xR xs=O (ks,us)->aO (Y.z G) M H xs vs->∃bK:List (b8×V),kG Y G M H ks us bK/\Paired (λt(l:b8×V)=>∃b,t=V.ref b/\eL Y.K H b [kV l.1,l.2]) vs bK:=by
 intro xs;induction xs with
 |nil=>intro _ _ vs e q;cases vs with|nil=>cases e;exact⟨[],kG.nil,.nil⟩|cons _ _=>unfold aO at q;exact q.elim
 |cons x xs Nh=>intro ks us vs e q;cases vs with|nil=>unfold aO at q;exact q.elim|cons v vs=>
  unfold aO at q;unfold xR at e;split at e;·rename_i g;cases g
  ·rename_i k w r g;cases g;split at e
   ·rename_i κ s U m y;cases e;obtain⟨bK,d,pp⟩:=Nh y q.2;obtain⟨b,W,rfl,sq,i⟩:=lZ (show cZ (Y.z G) M H (.p (.tup [k,w])) v from q.1);obtain⟨u,u2,rfl⟩:∃u u2,W=[u,u2]:=by have:=i.len;match W,this with|[u,u2],_=>exact⟨u,u2,rfl⟩
    unfold aO at i;obtain⟨F,I⟩:=i;unfold aO at I;have:=Yi m F;subst this;exact⟨(κ,u2)::bK,kG.cons.mpr ⟨⟨m,I.1⟩,d⟩,.cons ⟨b,rfl,sq⟩ pp⟩
   ·cases e
  ·cases e
theorem Fo:∀{ks us ks' us':List Pv}{m bK:List (b8×V)},kG Y G M H ks us m->kG Y G M H ks' us' bK->kG Y G M H (yJ ks us (ks',us')).1 (yJ ks us (ks',us')).2 (lK bK m)|[],[],_,_,[],_,_,d=>d|k::ks,u::us,ks',us',p::m,bK,d,g=>by obtain⟨⟨a,b⟩,c⟩:=kG.cons.mp d;show kG Y G M H (yJ ks us (sj k ks',so k u ks' us')).1 (yJ ks us (sj k ks',so k u ks' us')).2 (lK (vv bK p.1 p.2) m);exact Fo c (Qp a b g)|[],_::_,_,_,bK,_,h,_=>by have:=h.1.len;have:=h.2.len;simp at*;lia|_::_,[],_,_,bK,_,h,_=>by have:=h.1.len;have:=h.2.len;simp at*;lia|[],[],_,_,_::_,_,h,_=>by have:=h.1.len;simp at this|_::_,_::_,_,_,[],_,h,_=>by have:=h.1.len;simp at this
def Q4:rj Y (λxs H Q=>∃(l:Addr)(s:List V)(bK:List (b8×V)),xs=[.ref l]/\gN Y.K H l s/\bK.length<=100/\Paired (λt(m:b8×V)=>∃b,t=V.ref b/\eL Y.K H b [kV m.1,m.2]) s bK/\∀a,H a=af->Q (.ref a) (cQ H a (.dK (lK [] bK)))) Yx:=λG M h H xs vs Q QV r I q out=>by
 unfold Yx iw at q;split at q
 ·obtain⟨v,rfl,i⟩:=I.kQ;split at q
  ·rename_i xs ex;split at q
   ·rename_i P w;obtain⟨ks,us⟩:=P;obtain⟨c,q⟩:=bB q;obtain⟨a,W,rfl,s1,y⟩:=fO r i ex;obtain⟨bK,d,pp⟩:=Nh w y;have F:bK.length=ks.length:=by have:=d.1.len;rw[ak]at this;exact this.symm
    refine⟨a,W,bK,rfl,gN.of s1,by rw[F];exact bg c,pp,λb g=>?_⟩;have u:=Fo d kG.nil;refine out _ h M _ _ (Ext.add g) (r.add g) ?_ q;unfold cZ bR;exact⟨b,_,rfl,r.o9 g,bF,u.1.ext r (Ext.add g),u.2.ext r (Ext.add g)⟩
   ·exact q.elim
  ·exact q.elim
 ·exact q.elim
end
end F
namespace L2
variable{X:Cx}{pos p b5:Pos}{n m:Str}{C:Addr}{ps:List Str}{sp:Sp}
structure Aq(w:b7)(K:Frag)(mg:b')(fI:Nat->Str)(a:Addr)(tab:Str->Option (List Str)):Prop where
 ex:∃(es:Array fy)(n:Nat),K.lookup a=O ⟨.type "dict",af,.dict es n,#[]⟩/\KeysLit w.params es.toList/\∀x,match tab x with|some ks=>∃f,findBy ab5 es x=O (.ref f)/\mg (fI ks.length)=O (.ref f)|none=>findBy ab5 es x=af
 lo:(a==gt)=a7
section
variable{a:Addr}{tab:Str->Option (List Str)}{fI:Nat->Str}
def ab9(M:b')(fI:Nat->Str)(a:Addr)(tab:Str->Option (List Str)):R2:=λx y H Q=>x=.ref a/\∃k K,y=.str k/\tab k=O K/\∀f,M (fI K.length)=O (.ref f)->Q (.ref f) H
def Rq(T:Aq X.w X.K X.mg fI a tab):CF X (ab9 X.mg fI a tab):=by intro e slice P s σ H x y v u Q I r R h c;obtain⟨rfl,k,g,rfl,d,q⟩:=h;cases r;obtain⟨t,rfl⟩:=R;obtain⟨E,m,lk,b,look⟩:=T.ex;have hm:=jq (prog:=X.prog) (w:=X.w) I.l9 lk b;have l:=look k;rw[d]at l;obtain⟨f,F,M⟩:=l;exact fZ hm.typeIs iJ.lookup (qY (knd:=strKind X.prog X.w) (kE X.prog X.w k t) hm F ⟨rfl,⟨.ref f,H,I.tok _,rfl,q f M⟩⟩) c
def YR(T:Aq X.w X.K X.mg fI a tab):jQ X (compareOp .In) λx y H Q=>y=.ref a/\∃k,x=.str k/\Q (.bl (tab k).isSome) H:=by intro P s σ H x y v u Q I r R h;obtain⟨rfl,k,rfl,q⟩:=h;cases R;obtain⟨t,rfl⟩:=r;obtain⟨e,m,lk,b,look⟩:=T.ex;have hm:=jq (prog:=X.prog) (w:=X.w) I.l9 lk b;refine wpAny_in_of (knd:=strKind X.prog X.w) (kE X.prog X.w k t) T.lo hm ?_;refine⟨.bl (tab k).isSome,H,I.tok _,?_,q⟩;have l:=look k;cases c:tab k with|some d=>rw[c]at l;obtain⟨f,F,M⟩:=l;rw[F];rfl|none=>rw[c]at l;rw[l];rfl
end
section
variable{a b e:Expr}{es:List Expr}{t:TA}{tx:TE}{E:XK}{k:Nat}
def MN(x:PE X (.Subscript a b p) tx)(o:dQ k X.A)(u:eu (oP X.prog X.w) X E)(z:PA X (e::es) t)(d:(e::es).all cm):PE X (.Call (.Subscript a b p) (e::es) [] pos) λσ H Q=>tx σ H λv c=>∃(f:Addr)(g:dL)(ps:List Str)(sp:Sp),v=.ref f/\je X.prog X.w X.K X.mg X.base (oP X.prog X.w) k f g ps sp/\keepIn X.K (.ref f)=J/\Binds X.K g ps []/\t σ c λvs i=>sp vs i Q E:=by intro P s σ H Q I h;rw[bh,aI]at d;show bb _ _ (eval (.Subscript a b p) X.env>>=λf=>callWith pos f [] (db pos (ci (e::es) X.env)) (backToKw pos (hB [] X.env))) _ _ s;refine aa (dh (x P s σ H _ I h) λv s1 y=>?_);obtain⟨y,c,j,r,f,g,ps,sp,B,F,D,G,q⟩:=y;subst B;cases r;refine jw (h₀:=X.base) j.ok.mod.Pb D (dh (z pos P s1 σ c _ j q) λU s2 ⟨vs,i,l,R,L⟩=>⟨l.l9,?_⟩) (c8 d.1) (fF d.2);exact zD F o G .nil u l R (by rw[aM];exact L)
def RF{env:Env}(h:(b5.endLine==pos.line)):eval (.Call (.Attribute (.Name n p) m b5) [] [] pos) env=(do
   let o<-eval (.Name n p) env
   standAt b5.atName let(f,first)<-ft [o] (getMethod o m do return(<-importBound (.Name n p) env).getD J)callWith pos f first (db pos (ci [] env)) (backToKw pos (hB [] env))):=by
 have e:methodCallPos J (.Name n p) env b5 pos=pure pos:=by unfold methodCallPos;rw[h];rfl
 show(do
   let o<-eval (.Name n p) env
   standAt b5.atName let(f,first)<-ft [o] (getMethod o m do return(<-importBound (.Name n p) env).getD J)let c<-methodCallPos J (.Name n p) env b5 pos
   callWith c f first (db pos (ci [] env)) (backToKw pos (hB [] env)))=_;rw[e];rfl
def MT{T:TE}(D:wy X.prog X.w X.K X.mg X.base (oP X.prog X.w) k C m ps sp)(h:PE X (.Name n p) T)(c:ET X.K C)(H:dQ k X.A)(x:eu (oP X.prog X.w) X E)(l:(b5.endLine==pos.line)):PE X (.Call (.Attribute (.Name n p) m b5) [] [] pos) (Od C m sp [] E T BX):=IM D h c H x (RF l)
def IL{x:Str}(D:sT X.prog X.w X.K X.mg X.base k x C ps sp)(h:dQ (k+1) X.A)(H:Gl X x)(i:(x==("__debug__":Str))=a7):PE X (.Call (.Name x p) [] [] pos) (GU C sp [] E0 BX):=by obtain⟨f,g,F,M,c,d⟩:=D.ex;exact MR M F h H d c .nil Vt i
end
end L2
set_option genInjectivity false
namespace F
open L2
variable{k i c:Nat}{α:Type}{a:Bool}{b x:Expr}{P:Expr->Prop}{w:b7}{K:Frag}{mg:b'}{fI:Nat->Str}{tab:Str->Option (List Str)}{base:Heap}{nm:Str}{ca:Nat->Addr}{ps:List Str}{sp:Sp}{sc:Scope}
structure Gm where
 fn:Nat->Ct
 oS:List Nat
 gl:Nat->Pv
 A_:List Nat
 qO:Nat->Ct
 l8:List Nat
 tab:Nat->Str->Option (List Str)tok:List Nat
structure Sx where
 N:List Str
 sc:Scope
 fI:Nat->Str
 gnm:Nat->Str
 Z3:Nat->Str
 Cf:Nat->Str
 fl:Nat->List Str
 PH:List Str
 O5:List Nat
 xok:List Nat
 fr:Bool
noncomputable def f_(sc:Scope)(x:Str):Bool:=match sc.names.lookup x with|some .local=>J|some .cell=>J|some .free=>J|_=>a7
noncomputable def RA(sc:Scope)(x:Str):Bool:=match sc.names.lookup x with|some .local=>J|some .cell=>J|_=>a7
noncomputable def Bw(sc:Scope)(x:Str):Bool:=match sc.names.lookup x with|some .local=>J|_=>a7
noncomputable def Xo(sc:Scope)(x:Str):Bool:=match sc.names.lookup x with|some .globalImplicit=>J|_=>a7
def RY(x:Str):Bool:=bA x "__debug__"||bA x "__classdict__"||bA x "__name__"
def dH(x:Str):List Str->Bool|[]=>a7|y::r=>bA x y||dH x r
def Bu(x:Str):Nat->List Str->Bool|0,y::_=>bA x y|n+1,_::r=>Bu x n r|_,[]=>a7
theorem j8{x:Str}:∀{l:List Str},dH x l=J->x∈l
 |[],h=>by cases h|y::r,h=>by
  rcases(gp _ _).mp h with h|h;·rw[aT.mp h];exact aw
  ·exact aq _ (j8 h)
theorem lL{x:Str}:∀{n:Nat}{l:List Str},Bu x n l=J->l[n]?=O x|0,y::_,h=>by rw[aT.mp h];rfl|n+1,_::r,h=>by rw[dZ];exact lL (l:=r) h|0,[],h=>by cases h|_+1,[],h=>by cases h
noncomputable def lO(o:Option α)(f:α->Bool):Bool:=match o with|some a=>f a|none=>a7
def cw{o:Option α}{f:α->Bool}(h:lO o f):∃a,o=O a/\f a=true:=by cases o with|none=>cases h|some a=>exact⟨a,rfl,h⟩
def ag{b:Bool}(h:(a&&b)):a/\b=true:=(aI _ _).mp h
def iF(h:(!a)):a=false:=by cases a<;>first|rfl|cases h
noncomputable def l1:List α->Option α|[a]=>O a|_=>af
def fA:∀{l:List α}{a:α},l1 l=O a->l=[a]|[],_,h=>by cases h|[_],_,h=>by cases h;rfl|_::_::_,_,h=>by cases h
noncomputable def l2:List α->Option (α×α)|[a,b]=>O (a,b)|_=>af
def xG:∀{l:List α}{p:α×α},l2 l=O p->l=[p.1,p.2]|[],_,h=>by cases h|[_],_,h=>by cases h|[_,_],_,h=>by cases h;rfl|_::_::_::_,_,h=>by cases h
noncomputable def lc:List α->Option (α×List α)|a::r=>O (a,r)|[]=>af
def FU:∀{l:List α}{p:α×List α},lc l=O p->l=p.1::p.2|[],_,h=>by cases h|_::_,_,h=>by cases h;rfl
noncomputable def Bc:List α->Bool|[]=>J|_=>a7
def jL{l:List α}(h:Bc l):l=[]:=by cases l<;>first|rfl|cases h
noncomputable def sL(f:Str->Pos->Bool)(x:Expr):Bool:=aa3 x.ctorIdx 23&&match x with|.Name x p=>f x p|_=>a7
@[elab_as_elim]def iY{f:Str->Pos->Bool}(h:sL f x)(q:∀n p,f n p=J->P (.Name n p)):P x:=Expr.Name.elim (motive_1:=λx=>sL f x=J->P x) x (ax (ag h).1) (λn p h=>q n p h) h
noncomputable def Z8(f:Expr->Operator->Expr->Pos->Bool)(x:Expr):Bool:=aa3 x.ctorIdx 2&&match x with|.BinOp a o b p=>f a o b p|_=>a7
@[elab_as_elim]def Uj{f:Expr->Operator->Expr->Pos->Bool}(h:Z8 f x)(q:∀a o b p,f a o b p=J->P (.BinOp a o b p)):P x:=Expr.BinOp.elim (motive_1:=λx=>Z8 f x=J->P x) x (ax (ag h).1) (λa o b p h=>q a o b p h) h
noncomputable def ii(f:UnaryOp->Expr->Pos->Bool)(x:Expr):Bool:=aa3 x.ctorIdx 3&&match x with|.UnaryOp o a p=>f o a p|_=>a7
@[elab_as_elim]def EO{f:UnaryOp->Expr->Pos->Bool}(h:ii f x)(q:∀o a p,f o a p=J->P (.UnaryOp o a p)):P x:=Expr.UnaryOp.elim (motive_1:=λx=>ii f x=J->P x) x (ax (ag h).1) (λo a p h=>q o a p h) h
noncomputable def Jv(f:Expr->List CmpOp->List Expr->Pos->Bool)(x:Expr):Bool:=aa3 x.ctorIdx 15&&match x with|.Compare a o b p=>f a o b p|_=>a7
@[elab_as_elim]def uk{f:Expr->List CmpOp->List Expr->Pos->Bool}(h:Jv f x)(q:∀a o b p,f a o b p=J->P (.Compare a o b p)):P x:=Expr.Compare.elim (motive_1:=λx=>Jv f x=J->P x) x (ax (ag h).1) (λa o b p h=>q a o b p h) h
noncomputable def GX(f:BoolOp->List Expr->Pos->Bool)(x:Expr):Bool:=aa3 x.ctorIdx 0&&match x with|.BoolOp o e p=>f o e p|_=>a7
@[elab_as_elim]def B3{f:BoolOp->List Expr->Pos->Bool}(h:GX f x)(q:∀o es p,f o es p=J->P (.BoolOp o es p)):P x:=Expr.BoolOp.elim (motive_1:=λx=>GX f x=J->P x) x (ax (ag h).1) (λo es p h=>q o es p h) h
noncomputable def a_(f:Expr->Expr->Expr->Pos->Bool)(x:Expr):Bool:=aa3 x.ctorIdx 5&&match x with|.IfExp a b c p=>f a b c p|_=>a7
@[elab_as_elim]def Uo{f:Expr->Expr->Expr->Pos->Bool}(h:a_ f x)(q:∀a b c p,f a b c p=J->P (.IfExp a b c p)):P x:=Expr.IfExp.elim (motive_1:=λx=>a_ f x=J->P x) x (ax (ag h).1) (λa b c p h=>q a b c p h) h
noncomputable def OD(f:List Expr->Nat->Pos->Bool)(x:Expr):Bool:=aa3 x.ctorIdx 25&&match x with|.Tuple e k p=>f e k p|_=>a7
@[elab_as_elim]def um{f:List Expr->Nat->Pos->Bool}(h:OD f x)(q:∀es k p,f es k p=J->P (.Tuple es k p)):P x:=Expr.Tuple.elim (motive_1:=λx=>OD f x=J->P x) x (ax (ag h).1) (λes k p h=>q es k p h) h
noncomputable def b_(f:List Expr->Pos->Bool)(x:Expr):Bool:=aa3 x.ctorIdx 24&&match x with|.List e p=>f e p|_=>a7
@[elab_as_elim]def zY{f:List Expr->Pos->Bool}(h:b_ f x)(q:∀es p,f es p=J->P (.List es p)):P x:=Expr.List.elim (motive_1:=λx=>b_ f x=J->P x) x (ax (ag h).1) (λes p h=>q es p h) h
noncomputable def B4(f:Expr->Expr->Pos->Bool)(x:Expr):Bool:=aa3 x.ctorIdx 21&&match x with|.Subscript a i p=>f a i p|_=>a7
@[elab_as_elim]def nV{f:Expr->Expr->Pos->Bool}(h:B4 f x)(q:∀a i p,f a i p=J->P (.Subscript a i p)):P x:=Expr.Subscript.elim (motive_1:=λx=>B4 f x=J->P x) x (ax (ag h).1) (λa i p h=>q a i p h) h
noncomputable def Ur(f:Option Expr->Option Expr->Option Expr->Pos->Bool)(x:Expr):Bool:=aa3 x.ctorIdx 26&&match x with|.Slice a b c p=>f a b c p|_=>a7
@[elab_as_elim]def G1{f:Option Expr->Option Expr->Option Expr->Pos->Bool}(h:Ur f x)(q:∀a b c p,f a b c p=J->P (.Slice a b c p)):P x:=Expr.Slice.elim (motive_1:=λx=>Ur f x=J->P x) x (ax (ag h).1) (λa b c p h=>q a b c p h) h
noncomputable def jP(F:Expr->List Expr->List Keyword->Pos->Bool)(x:Expr):Bool:=aa3 x.ctorIdx 16&&match x with|.Call f e s p=>F f e s p|_=>a7
@[elab_as_elim]def eK{F:Expr->List Expr->List Keyword->Pos->Bool}(h:jP F x)(q:∀f es ks p,F f es ks p=J->P (.Call f es ks p)):P x:=Expr.Call.elim (motive_1:=λx=>jP F x=J->P x) x (ax (ag h).1) (λf es ks p h=>q f es ks p h) h
noncomputable def zX(F:Expr->Str->Pos->Bool)(x:Expr):Bool:=aa3 x.ctorIdx 20&&match x with|.Attribute o f p=>F o f p|_=>a7
@[elab_as_elim]def lV{F:Expr->Str->Pos->Bool}(h:zX F x)(q:∀o f p,F o f p=J->P (.Attribute o f p)):P x:=Expr.Attribute.elim (motive_1:=λx=>zX F x=J->P x) x (ax (ag h).1) (λo f p h=>q o f p h) h
noncomputable def GY(f:Expr->List Comprehension->Scope->Pos->Bool)(x:Expr):Bool:=aa3 x.ctorIdx 8&&match x with|.ListComp e g sc p=>f e g sc p|_=>a7
@[elab_as_elim]def OB{f:Expr->List Comprehension->Scope->Pos->Bool}(h:GY f x)(q:∀e g sc p,f e g sc p=J->P (.ListComp e g sc p)):P x:=Expr.ListComp.elim (motive_1:=λx=>GY f x=J->P x) x (ax (ag h).1) (λe g sc p h=>q e g sc p h) h
noncomputable def Jw(f:ag7->Nat->Pos->Bool)(x:Expr):Bool:=aa3 x.ctorIdx 19&&match x with|.Constant c k p=>f c k p|_=>a7
@[elab_as_elim]def lW{f:ag7->Nat->Pos->Bool}(h:Jw f x)(q:∀c k p,f c k p=J->P (.Constant c k p)):P x:=Expr.Constant.elim (motive_1:=λx=>Jw f x=J->P x) x (ax (ag h).1) (λc k p h=>q c k p h) h
def rl(S:Sx)(i:Nat):Expr->Bool:=sL λx _=>Bu x i S.N&&(f_ S.sc x&&!RY x)
def DM(S:Sx)(n:Str):Expr->Bool:=sL λx _=>bA x n&&(Xo S.sc x&&!RY x)
def UH:Pv->ag7->Bool
 |.int i,c=>match c with|.int j=>decide (i=j)|_=>a7
 |.bl i,c=>match c with|.bool j=>i==j|_=>a7
 |.str i,c=>match c with|.str j=>bA i j|_=>a7
 |.non,c=>match c with|.none=>J|_=>a7
 |_,_=>a7
def yC(p:Pv):Expr->Bool:=Jw λc _ _=>UH p c
noncomputable def pF:Expr->Bool|.Set _ _ _=>a7|_=>J
noncomputable def xJ:Expr->Bool|.Slice _ _ _ _=>a7|.Tuple _ _ _=>a7|_=>J
noncomputable def Bt:Expr->Bool|.Call _ [] _ _=>a7|_=>J
noncomputable def d_:Expr->Bool|.BoolOp _ _ _=>a7|.UnaryOp _ _ _=>a7|.Compare _ _ _ _=>a7|.IfExp _ _ _ _=>a7|_=>J
def CH(w:b7)(K:Frag)(mg:b')(fI:Nat->Str)(i:Nat)(ad:Addr)(tab:Str->Option (List Str)):Prop:=match aa5 100 i with|false=>CI w K ad tab|true=>Aq w K mg fI ad tab
def rh(P:cf)(w:b7)(K:Frag)(mg:b')(base:Heap)(k:Nat)(nm:Str)(ca:Nat->Addr)(c:Nat)(ps:List Str)(sp:Sp):Prop:=match aa5 100 c with|false=>sT P w K mg base k nm (ca c) ps sp|true=>wy P w K mg base (oP P w) k (ca (c/100-1)) nm ps sp
def Ol{ad:Addr}(h:aa5 100 i=a7)(T:CH w K mg fI i ad tab):CI w K ad tab:=by unfold CH at T;rw[h]at T;exact T
def Oj{ad:Addr}(h:aa5 100 i)(T:CH w K mg fI i ad tab):Aq w K mg fI ad tab:=by unfold CH at T;rw[h]at T;exact T
def DK{P:cf}(h:aa5 100 c=a7)(T:rh P w K mg base k nm ca c ps sp):sT P w K mg base k nm (ca c) ps sp:=by unfold rh at T;rw[h]at T;exact T
def XT{P:cf}(h:aa5 100 c)(T:rh P w K mg base k nm ca c ps sp):wy P w K mg base (oP P w) k (ca (c/100-1)) nm ps sp:=by unfold rh at T;rw[h]at T;exact T
theorem rh.mono{P:cf}{j:Nat}(T:rh P w K mg base j nm ca c ps sp)(h:j<=k):rh P w K mg base k nm ca c ps sp:=by
 unfold rh at*;split at T;·exact T.mono h
 ·exact T.mono h
structure rk(Γ:Gm)(t:Tb)(k:Nat)(S:Sx)(X:Cx)(E:XK):Prop where
 hN:X.N=S.N
 hs:X.env.scope=S.sc
 hc:X.calm=J
 hp:eu (oP X.prog X.w) X E
 hr:dQ (k+1) X.A
 bl:∀x∈S.PH,X.mg x=af
 fI:S.fI=t.fI
 fn:∀i∈Γ.oS,∃ps,mK X.prog X.w X.K X.mg X.base (k+1) (t.fI i) ps (iH (yx t X) (Γ.fn i))gl:∀i∈Γ.A_,∃u v,X.mg (S.gnm i)=O u/\RelV v u/\∀G M H,bR ((yx t X).z G) M H (Γ.gl i) v
 tab:∀i∈Γ.tok,∃ad,X.mg (S.Z3 i)=O (.ref ad)/\CH X.w X.K X.mg t.fI i ad (Γ.tab i)cls:∀c∈S.O5,uu X.K t c/\t.fl c=S.fl c
 qO:∀c∈Γ.l8,∃ps,rh X.prog X.w X.K X.mg X.base k (S.Cf c) t.ca c ps (iH (yx t X) (Γ.qO c))fx:S.fr=J->OX X/\jH X E
section
variable{Γ:Gm}{t:Tb}{S:Sx}{X:Cx}{E:XK}
def rk.hu(o:rk Γ t k S X E):X.A.units+64<cLine:=o.hr.units
def rk.hu1(o:rk Γ t k S X E):X.A.units+1<cLine:=ZE o.hr
def MD{x:Str}(h:RY x=a7):(x==("__debug__":Str))=a7/\(x==("__classdict__":Str))=a7/\x≠"__name__":=by unfold RY at h;simp only[Do]at h;rw[nU,nU];exact⟨h.1.1,h.1.2,λz=>by rw[aT.mpr z]at h;exact Bool.noConfusion h.2⟩
def g_{x:Str}(h:f_ sc x):v_ sc x:=by
 unfold f_ at h;unfold v_;split at h;·rename_i e;exact .inl e
 ·rename_i e;exact .inr (.inl e)
 ·rename_i e;exact .inr (.inr e)
 ·cases h
def DU{x:Str}(h:RA sc x):L2.Loc sc x:=by
 unfold RA at h;unfold L2.Loc;split at h;·rename_i e;exact .inl e
 ·rename_i e;exact .inr e
 ·cases h
def zr{x:Str}(h:Bw sc x):sc.names.lookup x=O .local:=by
 unfold Bw at h;split at h;·rename_i e;exact e
 ·cases h
def Xp(o:rk Γ t k S X E){x:Str}(h:Xo S.sc x):Gl X x:=by
 unfold Xo at h;unfold Gl;split at h;·rename_i e;show X.env.scope.names.lookup x=_;rw[o.hs];exact e
 ·cases h
def gY(o:rk Γ t k S X E){n:Str}(h:DM S n x):∃pos,x=.Name n pos/\Gl X n/\(n==("__debug__":Str))=a7/\n≠"__name__":=by refine iY h λy p h=>?_;obtain⟨H,h⟩:=ag h;obtain⟨d,e⟩:=ag h;have f:y=n:=aT.mp H;subst f;have z:=MD (iF e);exact⟨p,rfl,Xp o d,z.1,z.2.2⟩
def LF(o:rk Γ t k S X E)(h:rl S i x):PE X x (Jr i):=by refine iY h λy p h=>?_;obtain⟨H,h⟩:=ag h;obtain⟨d,e⟩:=ag h;have z:=MD (iF e);exact MW (by rw[o.hN];exact lL H) (by rw[o.hs];exact g_ d) z.1 z.2.1
def Ky{p:Pv}(h:yC p x):PE X x (cJ (yx t X) E (sC p)):=by
 refine lW h λc j q h=>?_;cases p<;>first|(cases h;done)|skip
 case non=>cases c<;>first|(cases h;done)|exact Ej MU λ_ _ _=>by unfold bR;rfl
 case bl=>cases c<;>first|(cases h;done)|(rw[nE h];exact Ej Vu λ_ _ _=>by unfold bR;rfl)
 case int=>cases c<;>first|(cases h;done)|(rw[aX h];exact Ej vp λ_ _ _=>by unfold bR;rfl)
 case str=>cases c<;>first|(cases h;done)|(rw[aT.mp h];exact Ej vq λ_ _ _=>by unfold bR;rfl)
def tY{o:CmpOp}(h:pF b):gb o b=false:=by cases b<;>first|rfl|cases h
def DQ(h:xJ b):nF b:=by intro o i;cases b<;>first|rfl|cases h
def tN{a:Expr}{f:Str}{env:Env}{w:Sem Value}(h:Bt a):ge a f env w=w:=by
 cases a<;>first|rfl|skip
 rename_i F args d p;cases args with|nil=>cases h|cons _ _=>cases F<;>rfl
def OG{e:Expr}{A:Sm}(h:d_ e)(H:PE X e (cJ (yx t X) E A)):PT X e (jj (yx t X) E A):=by cases e<;>first|exact SI H λ_=>rfl|cases h
end
variable(Γ:Gm)(t:Tb)
structure Em where
 m:Sm
 ck:Sx->Expr->Bool
 pe:∀{k S X E x},rk Γ t k S X E->ck S x->PE X x (cJ (yx t X) E m)
structure Tm where
 m:Sm
 ck:Sx->Expr->Bool
 pt:∀{k S X E x},rk Γ t k S X E->ck S x->PT X x (jj (yx t X) E m)
structure Bm(op:BoolOp)where
 m:Sm
 ck:Sx->List Expr->Bool
 pe:∀{k S X E xs},rk Γ t k S X E->ck S xs->∀pos,PE X (.BoolOp op xs pos) (cJ (yx t X) E m)
structure Wm(op:BoolOp)where
 m:Sm
 ck:Sx->List Expr->Bool
 pw:∀{k S X E xs},rk Γ t k S X E->ck S xs->∀pos,PW X (.BoolOp op xs pos) (jj (yx t X) E m)
structure Am where
 m:Sm
 ck:Sx->List Expr->Bool
 pa:∀{k S X E xs},rk Γ t k S X E->ck S xs->PA X xs (gF (yx t X) E m)/\xs.all cm=J
structure Jm where
 m:Sm
 ck:Sx->Expr->Expr->Bool
 pi:∀{k S X E tx x},rk Γ t k S X E->ck S tx x->PI X tx x (zR (yx t X) E (wM m))
end F
namespace F
open L2
variable{S:Sx}{op:BoolOp}{P:Expr->Prop}{x:Expr}{ng:Bool}{X:Cx}{E:XK}{A B:Sm}
def Mr(ng:Bool):O1:=λx h Q=>match x with|.p a=>Q (.p (.bl (Vg ng (Lj a)))) h|.r _=>Q (.p (.bl ng)) h
def At(o1 o:O2)(A B C:Sm):Sm:=λc σ h Q=>A c σ h λs a=>match s with
 |[x]=>B c σ a λY e=>match Y with
  |[y]=>o1 x y e λd H=>match d with|.p (.bl b)=>br b (C c σ H λZ f=>match Z with|[z]=>o y z f λd g=>Q [d] g|_=>False) (Q [.p (.bl a7)] H)|_=>False
  |_=>False
 |_=>False
structure Bo where
 o:O2
 op:Operator
 ok:∀t X,∃r,jQ X (binaryOp op) r/\jf (yx t X) r o
def cW:Bo:=⟨Yw,.Add,λ_ _=>⟨_,R4,Q0⟩⟩
def yi:Bo:=⟨YG,.Sub,λ_ _=>⟨_,YX,Ri⟩⟩
def Ho:Bo:=⟨My,.Mult,λ_ _=>⟨_,R7,Lq⟩⟩
def aeP:Bo:=⟨i9,.FloorDiv,λ_ _=>⟨_,R6,Q5⟩⟩
def J9:Bo:=⟨io,.Mod,λ_ _=>⟨_,YT,Rb⟩⟩
structure Co where
 o:O2
 op:CmpOp
 ok:∀t X,X.A.units+64<cLine->∃r,jQ X (compareOp op) r/\jf (yx t X) r o
def jZ:Co:=⟨su,.Eq,λ_ _ hu=>⟨_,YO hu,XY⟩⟩
def Kj:Co:=⟨FM,.NotEq,λ_ _ hu=>⟨_,YV hu,X4⟩⟩
def rp:Co:=⟨IR,.Lt,λ_ _ _=>⟨_,abL,X3⟩⟩
def O3:Co:=⟨rx,.LtE,λ_ _ _=>⟨_,YS,X2⟩⟩
def Fc:Co:=⟨x0,.Gt,λ_ _ _=>⟨_,abJ,XZ⟩⟩
def WO:Co:=⟨sK a7,.In,λ_ _ _=>⟨_,YQ,X0⟩⟩
def Ug{c:Nat}(h:aa5 c 4):c7 (kW c)=O (.type (kW c)):=by have H:c<=4:=bg h;match c,H with|0,_=>exact Kg|1,_=>exact CQ|2,_=>exact PK|3,_=>exact Az|4,_=>exact E8
section
variable{Γ:Gm}{t:Tb}
namespace Em
def v(i:Nat):Em Γ t:=⟨sV i,λS x=>rl S i x,λo h=>AC (LF o h)⟩
def c(p:Pv):Em Γ t:=⟨sC p,λ_ x=>yC p x,λ_ h=>Ky h⟩
def g(i:Nat):Em Γ t:=⟨sC (Γ.gl i),λS x=>gO i Γ.A_&&DM S (S.gnm i) x,λo h=>by obtain⟨H,h⟩:=ag h;obtain⟨p,rfl,a,d,_⟩:=gY o h;obtain⟨u,v,m,r,I⟩:=o.gl i (cC.mp H);exact Ej (e9 a m r d) I⟩
def f(i:Nat):Em Γ t:=⟨sC (.fn i),λS x=>gO i Γ.oS&&DM S (S.fI i) x,λo h=>by obtain⟨a,h⟩:=ag h;obtain⟨p,rfl,g,d,_⟩:=gY o h;obtain⟨s,f,b,F,H,k,c⟩:=o.fn i (cC.mp a);rw[<-o.fI]at H;exact Ej (e9 (v:=.ref f) g H rfl d) λ_ _ _=>by unfold bR;rw[o.fI]at H;exact⟨f,H,rfl⟩⟩
def ty(c:Nat):Em Γ t:=⟨sC (.ty c),λS x=>aa5 c 4&&(DM S (kW c) x&&dH (kW c) S.PH),λo h=>by obtain⟨H,h⟩:=ag h;obtain⟨a,b⟩:=ag h;obtain⟨p,rfl,g,d,hn⟩:=gY o a;exact Ej (Vx (o.bl _ (j8 b)) (Ug H) g hn d) λ_ _ _=>by unfold bR;rfl⟩
def b2(p:Bo)(A B:Em Γ t):Em Γ t:=⟨s2 p.o A.m B.m,λS=>Z8 λa o b _=>decide (o=p.op)&&(A.ck S a&&B.ck S b),λ{k S X E x}o h=>by refine Uj h λa op b q h=>?_;obtain⟨H,h⟩:=ag h;obtain⟨c,d⟩:=ag h;rw[aX H];obtain⟨r,R,e⟩:=p.ok t X;exact abS R e (A.pe o c) (B.pe o d)⟩
def neg(A:Em Γ t):Em Γ t:=⟨s1 YD A.m,λS=>ii λo a _=>decide (o=.USub)&&A.ck S a,λo h=>by refine EO h λop a q h=>?_;obtain⟨H,h⟩:=ag h;rw[aX H];exact abV Oz Rc (A.pe o h)⟩
end Em
def Θ(S:Sx)(op:CmpOp)(A B:Em Γ t):Expr->Bool:=Jv λa os bs _=>lO (l1 os) λo=>lO (l1 bs) λb=>decide (o=op)&&(pF b&&(A.ck S a&&B.ck S b))
@[elab_as_elim]def yA{op:CmpOp}{A B:Em Γ t}(h:Θ S op A B x)(k:∀a b p,gb op b=a7->A.ck S a->B.ck S b->P (.Compare a [op] [b] p)):P x:=by refine uk h λa os bs q h=>?_;obtain⟨o,e,h⟩:=cw h;obtain⟨b,c,h⟩:=cw h;obtain⟨H,h⟩:=ag h;obtain⟨d,h⟩:=ag h;obtain⟨f,g⟩:=ag h;have e3:=aX H;subst e3;rw[fA e,fA c];exact k a b q (tY d) f g
noncomputable def wv(ng:Bool):CmpOp:=bif ng then .IsNot else .Is
def ZB(S:Sx)(ng:Bool)(A:Em Γ t):Expr->Bool:=Jv λa os bs _=>lO (l1 os) λo=>lO (l1 bs) λb=>decide (o=wv ng)&&(Jw (λc _ _=>UH .non c) b&&A.ck S a)
def PD{c:ag7}(h:UH .non c):c=.none:=by cases c<;>first|rfl|cases h
@[elab_as_elim]def Rm{A:Em Γ t}(h:ZB S ng A x)(k:∀a j p q,A.ck S a=J->P (.Compare a [wv ng] [.Constant .none j p] q)):P x:=by refine uk h λa os bs q h=>?_;obtain⟨o,e,h⟩:=cw h;obtain⟨b,d,h⟩:=cw h;obtain⟨f,h⟩:=ag h;obtain⟨H,g⟩:=ag h;rw[fA e,fA d,aX f];refine lW H λc j p H=>?_;rw[PD H];exact k a j p q g
def XX{j:Nat}{p:Pos}(f:PE X x (cJ (yx t X) E A)):PC X (wv ng) x (.Constant .none j p) (cJ (yx t X) E (s1 (Mr ng) A)):=by
 have K:∀{τ H c},cJ (yx t X) E (s1 (Mr ng) A) τ H c->cJ (yx t X) E A τ H λv H1=>c (.bl (ng !=decide (v=.non))) H1:=by intro τ H c ⟨G,M,σ,h,l,Q,k,q⟩;refine⟨G,M,σ,h,l,_,⟨k.rel,k.env,λd h1 m H1 v g R i b=>?_,k.exc⟩,q⟩;cases d with|r n=>obtain⟨ad,_,rfl⟩:=i;refine k.out _ h1 m H1 _ g R ?_ b;rw[bN (λz=>by cases z),Bool.bne_false];exact gX|p d=>
   have b:Q [.p (.bl (Vg ng (Lj d)))] h1:=b;rw[D2]at b;refine k.out _ h1 m H1 _ g R ?_ b;have:Lj d=decide (v=.non):=by
    cases d<;>unfold cZ bR at i;case non=>rw[i];rfl
    case bl=>rw[i];rfl
    case int=>rw[i];rfl
    case str=>rw[i];rfl
    case ty=>rw[i];rfl
    case tup=>obtain⟨_,_,e,_⟩:=i;rw[e];rfl
    case lst=>obtain⟨_,_,e,_⟩:=i;rw[e];rfl
    case scr=>obtain⟨_,_,e,_⟩:=i;rw[e];rfl
    case dct=>obtain⟨_,_,e,_⟩:=i;rw[e];rfl
    case obj=>obtain⟨_,_,_,e,_⟩:=i;rw[e];rfl
    case fn=>obtain⟨_,_,e⟩:=i;rw[e];rfl
   rw[this];exact gX
 cases ng with|true=>exact λa s σ H Q I q=>Sa f a s σ H Q I (by have:=K q;simp only[pR]at this;exact this)|false=>exact λa s σ H Q I q=>Y0 f a s σ H Q I (by have:=K q;simp only[jR]at this;exact this)
def ω{C:Sm}{r g:R2}{o o':O2}(s:jf (yx t X) r o)(u:jf (yx t X) g o'){τ:tSt}{H:Hp}{QV:VK}(h:cJ (yx t X) E (At o o' A B C) τ H QV):Oa r g (cJ (yx t X) E A) (cJ (yx t X) E B) (cJ (yx t X) E C) τ H QV:=by
 obtain⟨G,M,σ,h,f,Q,k,q⟩:=h;refine⟨G,M,σ,h,f,_,⟨k.rel,k.env,λx U D H1 F e i K L=>?_,k.exc⟩,q⟩;refine⟨G,D,σ,U,f,_,k.on e i λy N T W v a j I Y=>?_,L⟩;refine s G T N W x y F v _ _ j (K.ext i a) I Y λd l m Z w b R i3 c=>?_;split at c;·rename_i n;refine⟨n,JU i3,?_⟩;cases n with|true=>rw[bx rfl];refine⟨G,m,σ,l,f,_,k.on (e.trans (a.trans b)) R λz h4 M4 H4 vz p r4 i4 q4=>?_,c⟩;exact u G M4 h4 H4 y z v vz _ _ r4 ((I.ext j b).ext R p) i4 q4 λd5 h5 M5 H5 w5 e5 r5 i5 q5=>k.out d5 h5 M5 H5 w5 (e.trans (a.trans (b.trans (p.trans e5)))) r5 i5 q5|false=>rw[bE aK];exact k.out _ l m Z _ (e.trans (a.trans b)) R gX c
 ·exact c.elim
def LI(S:Sx)(p q:CmpOp)(A B C:Em Γ t):Expr->Bool:=Jv λa os bs _=>lO (l2 os) λo=>lO (l2 bs) λb=>decide (o.1=p)&&decide (o.2=q)&&(pF b.2&&(A.ck S a&&(B.ck S b.1&&C.ck S b.2)))
@[elab_as_elim]def WV{p q:CmpOp}{A B C:Em Γ t}(h:LI S p q A B C x)(k:∀a b c ps,gb q c=a7->A.ck S a->B.ck S b->C.ck S c->P (.Compare a [p,q] [b,c] ps)):P x:=by refine uk h λa os bs ps h=>?_;obtain⟨o,e,h⟩:=cw h;obtain⟨b,f,h⟩:=cw h;obtain⟨g,h⟩:=ag h;obtain⟨H,d⟩:=ag g;obtain⟨i,h⟩:=ag h;obtain⟨j,h⟩:=ag h;obtain⟨l,m⟩:=ag h;rw[xG e,xG f,aX H,aX d];exact k a b.1 b.2 ps (tY i) j l m
def Eg{neg:Bool}{y:Expr}(hu:X.A.units+1<cLine)(h:PE X x (cJ (yx t X) E A))(H:PE X y (cJ (yx t X) E B)):PC X (bif neg then .NotIn else .In) x y (cJ (yx t X) E (s2 (ID neg) A B)):=by cases neg with|true=>exact Eh hu h H|false=>exact R9 hu h H
namespace Em
def cmp(c:Co)(A B:Em Γ t):Em Γ t:=⟨s2 c.o A.m B.m,λS=>Θ S c.op A B,λ{k S X E x}o h=>by refine yA h λa b p H d e=>?_;obtain⟨r,R,f⟩:=c.ok t X o.hu;exact Y5 R f (A.pe o d) (B.pe o e) H⟩
def din(ng:Bool)(A B:Em Γ t):Em Γ t:=⟨s2 (ID ng) A.m B.m,λS=>Θ S (bif ng then .NotIn else .In) A B,λo h=>by refine yA h λa b p H c d=>?_;exact abT (Eg o.hu1 (A.pe o c) (B.pe o d)) H⟩
def ch(c d:Co)(A B C:Em Γ t):Em Γ t:=⟨At c.o d.o A.m B.m C.m,λS=>LI S c.op d.op A B C,λ{k S X E x}o h=>by refine WV h λa b n p H e f g=>?_;obtain⟨r,R,i⟩:=c.ok t X o.hu;obtain⟨q,j,l⟩:=d.ok t X o.hu;exact(MO R j (A.pe o e) (B.pe o f) (C.pe o g) H).imp λ_ _ _=>ω i l⟩
end Em
namespace Tm
def val(A:Em Γ t):Tm Γ t:=⟨A.m,λS x=>d_ x&&A.ck S x,λo h=>OG (ag h).1 (A.pe o (ag h).2)⟩
def cmp(c:Co)(A B:Em Γ t):Tm Γ t:=⟨s2 c.o A.m B.m,λS=>Θ S c.op A B,λ{k S X E x}o h=>by refine yA h λa b p H d e=>?_;obtain⟨r,R,f⟩:=c.ok t X o.hu;exact SH R f (A.pe o d) (B.pe o e) H⟩
def isN(ng:Bool)(A:Em Γ t):Tm Γ t:=⟨s1 (Mr ng) A.m,λS=>ZB S ng A,λo h=>by refine Rm h λa j p q H=>?_;exact Zk (XX (A.pe o H)) (tY rfl)⟩
def not(A:Tm Γ t):Tm Γ t:=⟨U1 A.m,λS=>ii λo a _=>decide (o=.Not)&&A.ck S a,λo h=>by refine EO h λop a q h=>?_;obtain⟨H,h⟩:=ag h;rw[aX H];exact(Np (A.pt o h)).imp λ_ _ _=>Of⟩
end Tm
namespace Wm
def a1(A:Tm Γ t):Wm Γ t .And:=⟨A.m,λS s=>lO (l1 s) (A.ck S),λo h p=>by obtain⟨a,e,h⟩:=cw h;rw[fA e];exact SQ (A.pt o h)⟩
def o1(A:Tm Γ t):Wm Γ t .Or:=⟨A.m,λS s=>lO (l1 s) (A.ck S),λo h p=>by obtain⟨a,e,h⟩:=cw h;rw[fA e];exact Nu (A.pt o h)⟩
def l2c(xs:List Expr)(f:Expr->List Expr->Bool):Bool:=lO (lc xs) λp=>!Bc p.2&&f p.1 p.2
@[elab_as_elim]def za{xs:List Expr}{P:List Expr->Prop}{f:Expr->List Expr->Bool}(h:l2c xs f)(k:∀a b r,f a (b::r)=J->P (a::b::r)):P xs:=by obtain⟨⟨a,r⟩,e,h⟩:=cw h;obtain⟨H,h⟩:=ag h;rw[FU e];cases r with|nil=>cases H|cons b r=>exact k a b r h
def ac(A:Tm Γ t)(B:Wm Γ t .And):Wm Γ t .And:=⟨Th A.m B.m,λS s=>l2c s λa r=>A.ck S a&&B.ck S r,λo h p=>by refine za h λa b r h=>?_;exact(Zv (A.pt o (ag h).1) (B.pw o (ag h).2 p)).imp λ_ _ _=>Oe⟩
def oc(A:Tm Γ t)(B:Wm Γ t .Or):Wm Γ t .Or:=⟨l0 A.m B.m,λS s=>l2c s λa r=>A.ck S a&&B.ck S r,λo h p=>by refine za h λa b r h=>?_;exact(VD (A.pt o (ag h).1) (B.pw o (ag h).2 p)).imp λ_ _ _=>TX⟩
end Wm
def Tm.bo(B:Wm Γ t op):Tm Γ t:=⟨B.m,λS=>GX λo s _=>decide (o=op)&&B.ck S s,λo h=>by refine B3 h λa s p h=>?_;obtain⟨H,h⟩:=ag h;rw[aX H];exact(B.pw o h p).pt⟩
namespace Bm
def a1(A:Em Γ t):Bm Γ t .And:=⟨A.m,λS s=>lO (l1 s) (A.ck S),λo h p=>by obtain⟨a,e,h⟩:=cw h;rw[fA e];exact MV (A.pe o h)⟩
def o1(A:Em Γ t):Bm Γ t .Or:=⟨A.m,λS s=>lO (l1 s) (A.ck S),λo h p=>by obtain⟨a,e,h⟩:=cw h;rw[fA e];exact MV (A.pe o h)⟩
def ac(A:Em Γ t)(B:Bm Γ t .And):Bm Γ t .And:=⟨Th A.m B.m,λS s=>Wm.l2c s λa r=>A.ck S a&&B.ck S r,λo h p=>by refine Wm.za h λa b r h=>?_;exact(Y1 (A.pe o (ag h).1) (B.pe o (ag h).2 p)).imp λ_ _ _=>TY⟩
def oc(A:Em Γ t)(B:Bm Γ t .Or):Bm Γ t .Or:=⟨l0 A.m B.m,λS s=>Wm.l2c s λa r=>A.ck S a&&B.ck S r,λo h p=>by refine Wm.za h λa b r h=>?_;exact(abO (A.pe o (ag h).1) (B.pe o (ag h).2 p)).imp λ_ _ _=>Z0⟩
end Bm
namespace Em
def bo(B:Bm Γ t op):Em Γ t:=⟨B.m,λS=>GX λo s _=>decide (o=op)&&B.ck S s,λo h=>by refine B3 h λa s p h=>?_;obtain⟨H,h⟩:=ag h;rw[aX H];exact B.pe o h p⟩
def ife(T:Tm Γ t)(A B:Em Γ t):Em Γ t:=⟨ZK T.m A.m B.m,λS=>a_ λa b c _=>T.ck S a&&(A.ck S b&&B.ck S c),λo h=>by refine Uo h λa b c p h=>?_;obtain⟨H,h⟩:=ag h;obtain⟨d,e⟩:=ag h;exact Y8 (T.pt o H) (A.pe o d) (B.pe o e)⟩
end Em
namespace Am
def nil:Am Γ t:=⟨EE,λ_ s=>Bc s,λ_ h=>by rw[jL h];exact⟨Sq,rfl⟩⟩
def cons(A:Em Γ t)(B:Am Γ t):Am Γ t:=⟨VP A.m B.m,λS s=>lO (lc s) λp=>cm p.1&&(A.ck S p.1&&B.ck S p.2),λo h=>by obtain⟨⟨a,r⟩,e,h⟩:=cw h;obtain⟨H,h⟩:=ag h;obtain⟨b,c⟩:=ag h;rw[FU e];obtain⟨p,q⟩:=B.pa o c;exact⟨MZ (A.pe o b) p H,by rw[bh,H,q];rfl⟩⟩
abbrev u(A:Em Γ t):Am Γ t:=cons A nil
abbrev u2(A B:Em Γ t):Am Γ t:=cons A (u B)
abbrev u3(A B C:Em Γ t):Am Γ t:=cons A (u2 B C)
end Am
end
end F
namespace F
open L2
variable{X:Cx}{x:Expr}{P:Expr->Prop}{S:Sx}
def WL:c7 "min"=O (.builtin "min"):=by ext
def PL:c7 "dict"=O (.type "dict"):=by ext
def agx{j:Nat}{p q:Pos}:PE X (.UnaryOp .USub (.Constant (.int 1) j p) q) (tC (.int (-1))):=(Vy Oz vp).imp λ_ _ _ h=>⟨1,rfl,h⟩
structure Bi where
 o:ON
 nm:Str
 ok:∀{t X E A e es p pos},X.calm=J->Gl X nm->X.mg nm=af->PA X (e::es) (gF (yx t X) E A)->nm≠"__name__"->(nm==("__debug__":Str))=a7->(e::es).all cm->PE X (.Call (.Name nm p) (e::es) [] pos) (cJ (yx t X) E (sN o A))
def fe:Bi:=⟨mq,"len",λ_ h H a hn i d=>Gf HB Q9 h H Kf a hn i d⟩
def o8:Bi:=⟨Bv,"isinstance",λ_ h H a hn i d=>Gf HA Q7 h H cL a hn i d⟩
def HP:Bi:=⟨Mn,"all",λh H m a hn i d=>Gf (AD h) Q1 H m WK a hn i d⟩
noncomputable def uV:Bi:=⟨iW,"tuple",λ_ h H a hn i d=>xO wF Lv h H Az a hn i d⟩
def XV:Bi:=⟨Mx,"list",λ_ h H a hn i d=>xO yt Lp h H E8 a hn i d⟩
def Xg:Bi:=⟨Mp,"int",λ_ h H a hn i d=>xO Hy Ln h H CQ a hn i d⟩
def Lc:Bi:=⟨YC,"min",λh H m a hn i d=>Gf (HE h) Ra H m WL a hn i d⟩
def afe:Bi:=⟨MB,"str",λ_ h H a hn i d=>xO yu Lu h H Kg a hn i d⟩
def afd:Bi:=⟨Yx,"dict",λh H m a hn i d=>xO (rD h) Q4 H m PL a hn i d⟩
structure Mt where
 c:Nat
 o:OM
 nm:Str
 ok:∀{t X E A R ob a b4 b5 dP},PE X ob (cJ (yx t X) E A)->PA X (a::b4) (gF (yx t X) E R)->ge ob nm X.env (eval ob X.env)=eval ob X.env->(a::b4).all cm->(a::b4).length<30->(b5.endLine==dP.line)->PE X (.Call (.Attribute ob nm b5) (a::b4) [] dP) (cJ (yx t X) E (ZM c o A R))
noncomputable def j5:Mt:=⟨4,mn,"append",λh H b p l hn=>xQ (c:=4) cA jc jd jG Q3 h H b p l hn⟩
structure M0 where
 c:Nat
 o:OM
 nm:Str
 ok:∀{t X E A ob b5 dP},PE X ob (cJ (yx t X) E A)->ge ob nm X.env (eval ob X.env)=eval ob X.env->(b5.endLine==dP.line)->PE X (.Call (.Attribute ob nm b5) [] [] dP) (cJ (yx t X) E (ZM c o A EE))
section
variable{Γ:Gm}{t:Tb}
def abP{E:XK}{y:Expr}{A B:Sm}{pos:Pos}(h:PE X x (cJ (yx t X) E A))(H:PE X y (cJ (yx t X) E B))(s:nF y):PE X (.Subscript x y pos) (cJ (yx t X) E (s2 zk A B)):=(Bx X7 h H s).imp λ_ _ _=>sJ X1
structure Pm(Γ:Gm)(t:Tb)where
 m:Option Sm
 ck:Sx->Option Expr->Bool
 po:∀{k S X E x},rk Γ t k S X E->ck S x->PO X x (Jq (yx t X) E m)
noncomputable def Pm.no:Pm Γ t:=⟨af,λ_ x=>x.isNone,λ{k S X E x}_ h=>by cases x with|none=>exact M7|some x=>cases h⟩
def Pm.of(A:Em Γ t):Pm Γ t:=⟨O A.m,λS x=>lO x (A.ck S),λo h=>by obtain⟨a,e,h⟩:=cw h;rw[e];exact M8 (A.pe o h)⟩
noncomputable def FR:List Keyword->Bool|[]=>J|_=>a7
def iE{l:List Keyword}(h:FR l):l=[]:=by cases l<;>first|rfl|cases h
def y_(S:Sx)(n:Str)(A:Am Γ t):Expr->Bool:=jP λf e k _=>FR k&&(DM S n f&&(!Bc e&&A.ck S e))
@[elab_as_elim]def uE{k S X E}{n:Str}{A:Am Γ t}(o:rk Γ t k S X E)(h:y_ S n A x)(q:∀p pos e es,Gl X n->(n==("__debug__":Str))=a7->n≠"__name__"->PA X (e::es) (gF (yx t X) E A.m)->(e::es).all cm->P (.Call (.Name n p) (e::es) [] pos)):P x:=by refine eK h λf es K pos h=>?_;obtain⟨H,h⟩:=ag h;obtain⟨b,h⟩:=ag h;obtain⟨c,h⟩:=ag h;obtain⟨p,e,g,d,hn⟩:=gY o b;rw[iE H,e];cases es with|nil=>cases c|cons a es=>obtain⟨i,l⟩:=A.pa o h;exact q p pos a es g d hn i l
def pc(S:Sx)(A:Am Γ t):Expr->Bool:=b_ λe _=>A.ck S e
def ss(S:Sx)(A B:Em Γ t):Expr->Bool:=B4 λa i _=>xJ i&&(A.ck S a&&B.ck S i)
@[elab_as_elim]def NV{A B:Em Γ t}(h:ss S A B x)(q:∀a i p,nF i->A.ck S a->B.ck S i->P (.Subscript a i p)):P x:=by refine nV h λa i p h=>?_;obtain⟨H,h⟩:=ag h;obtain⟨b,c⟩:=ag h;exact q a i p (DQ H) b c
def EY{i:Int}{c:ag7}(h:UH (.int i) c):c=.int i:=by cases c<;>first|(rw[aX h];done)|cases h
def D0:Expr->Bool:=ii λo a _=>decide (o=.USub)&&Jw (λc _ _=>UH (.int 1) c) a
@[elab_as_elim]def RN(h:D0 x)(q:∀j p r,P (.UnaryOp .USub (.Constant (.int 1) j p) r)):P x:=by refine EO h λo a r h=>?_;obtain⟨H,h⟩:=ag h;rw[aX H];refine lW h λc j p h=>?_;rw[EY h];exact q j p r
def ri(S:Sx)(nm:Str)(o:Em Γ t)(f:List Expr->Bool):Expr->Bool:=jP λg e k q=>FR k&&(f e&&zX (λb m p=>bA m nm&&(p.endLine==q.line&&(Bt b&&o.ck S b))) g)
@[elab_as_elim]def Md{nm:Str}{o:Em Γ t}{f:List Expr->Bool}(h:ri S nm o f x)(q:∀b es b5 d,f es=J->o.ck S b->Bt b->(b5.endLine==d.line)->P (.Call (.Attribute b nm b5) es [] d)):P x:=by refine eK h λg es k r h=>?_;obtain⟨H,h⟩:=ag h;obtain⟨a,h⟩:=ag h;rw[iE H];refine lV h λb m p h=>?_;obtain⟨c,h⟩:=ag h;obtain⟨e,h⟩:=ag h;obtain⟨i,j⟩:=ag h;rw[aT.mp c];exact q b es p r a j i e
namespace Em
def tup(A:Am Γ t):Em Γ t:=⟨sN MC A.m,λS=>OD λe _ _=>A.ck S e,λo h=>um h λ_ _ _ h=>Zh (A.pa o h).1⟩
def lst(A:Am Γ t):Em Γ t:=⟨sN Mw A.m,λS=>pc S A,λo h=>zY h λ_ _ h=>Zb (A.pa o h).1⟩
def FW(A:Am Γ t):Em Γ t:=⟨sN Mu A.m,λS=>pc S A,λo h=>zY h λ_ _ h=>Za (A.pa o h).1⟩
def df(A:Am Γ t):Em Γ t:=⟨sN YB A.m,λS=>pc S A,λo h=>zY h λ_ _ h=>Y9 (A.pa o h).1⟩
def ix(A B:Em Γ t):Em Γ t:=⟨s2 zk A.m B.m,λS=>ss S A B,λo h=>NV h λ_ _ _ H a b=>abP (A.pe o a) (B.pe o b) H⟩
def dix(A B:Em Γ t):Em Γ t:=⟨s2 Yy A.m B.m,λS=>ss S A B,λo h=>NV h λ_ _ _ H a b=>Y6 o.hu1 (A.pe o a) (B.pe o b) H⟩
def sl(A:Em Γ t)(L U:Pm Γ t):Em Γ t:=⟨XM A.m L.m U.m,λS=>B4 λa i _=>A.ck S a&&Ur (λl u s _=>s.isNone&&(L.ck S l&&U.ck S u)) i,λo h=>by refine nV h λa i p h=>?_;obtain⟨H,h⟩:=ag h;refine G1 h λl u s q h=>?_;obtain⟨b,h⟩:=ag h;obtain⟨c,d⟩:=ag h;cases s with|none=>exact abU (A.pe o H) (L.po o c) (U.po o d)|some s=>cases b⟩
def rev(A:Em Γ t):Em Γ t:=⟨s1 RW A.m,λS=>B4 λa i _=>A.ck S a&&Ur (λl u s _=>l.isNone&&(u.isNone&&lO s D0)) i,λo h=>by refine nV h λa i p h=>?_;obtain⟨b,h⟩:=ag h;refine G1 h λl u s q h=>?_;obtain⟨c,h⟩:=ag h;obtain⟨d,H⟩:=ag h;obtain⟨f,e,H⟩:=cw H;rw[e];cases l with|some _=>cases c|none=>cases u with|some _=>cases d|none=>exact RN H λ_ _ _=>Zf (A.pe o b) agx⟩
def bi(b:Bi)(A:Am Γ t):Em Γ t:=⟨sN b.o A.m,λS x=>dH b.nm S.PH&&y_ S b.nm A x,λo h=>uE o (ag h).2 λ_ _ _ _ H d hn p l=>b.ok o.hc H (o.bl _ (j8 (ag h).1)) p hn d l⟩
def agl(A:Em Γ t):Em Γ t:=⟨s1 F8 A.m,λS=>jP λf E k _=>FR k&&(DM S "len" f&&(dH "len" S.PH&&(dH "set" S.PH&&lO (l1 E) (jP λg s l _=>FR l&&(DM S "set" g&&lO (l1 s) λe=>cm e&&A.ck S e))))),λo h=>by refine eK h λf E k p h=>?_;obtain⟨a,h⟩:=ag h;obtain⟨b,h⟩:=ag h;obtain⟨c,h⟩:=ag h;obtain⟨d,h⟩:=ag h;obtain⟨x,i,h⟩:=cw h;obtain⟨y,j,n,z,hn⟩:=gY o b;rw[iE a,fA i,j];refine eK h λg s l q h=>?_;obtain⟨r,h⟩:=ag h;obtain⟨u,h⟩:=ag h;obtain⟨x,v,h⟩:=cw h;obtain⟨B,w,H,cp,Q⟩:=gY o u;rw[iE r,fA v,w];exact Sn o.hc n (o.bl _ (j8 c)) H (o.bl _ (j8 d)) (A.pe o (ag h).2) (ag h).1⟩
def mt(m:Mt)(b:Em Γ t)(A:Am Γ t):Em Γ t:=⟨ZM m.c m.o b.m A.m,λS=>ri S m.nm b λe=>ad8 e.length 30&&(!Bc e&&A.ck S e),λo h=>Md h λk e s D H d f i=>by obtain⟨G,g⟩:=ag H;obtain⟨j,g⟩:=ag g;cases e with|nil=>cases j|cons a e=>obtain⟨p,l⟩:=A.pa o g;exact m.ok (b.pe o d) p (tN f) l (bg G) i⟩
def m0(m:M0)(a:Em Γ t):Em Γ t:=⟨ZM m.c m.o a.m EE,λS=>ri S m.nm a Bc,λo h=>Md h λf E A D H b d e=>by rw[jL H];exact m.ok (a.pe o b) (tN d) e⟩
def cl(i:Nat)(ρ:List Nat)(A:Am Γ t):Em Γ t:=⟨NO ρ (Γ.fn i) A.m,λS x=>gO i Γ.oS&&y_ S (S.fI i) A x,λ{k S X E x}o h=>by obtain⟨s,D⟩:=o.fn i (cC.mp (ag h).1);rw[<-o.fI]at D;exact uE o (ag h).2 λ_ _ _ _ H d hn p l=>Sl D o.hr o.hp H p d l⟩
def clv(ρ:List Nat)(i:Nat)(A:Am Γ t):Em Γ t:=⟨NQ Γ.fn Γ.oS ρ (sV i) A.m,λS=>jP λf e k _=>FR k&&(rl S i f&&(!Bc e&&A.ck S e)),λo h=>by refine eK h λf e k p h=>?_;obtain⟨b,h⟩:=ag h;obtain⟨H,h⟩:=ag h;obtain⟨c,h⟩:=ag h;rw[iE b];cases e with|nil=>cases c|cons a e=>obtain⟨d,l⟩:=A.pa o h;have z:=LF o H;revert z;refine iY H λx q _=>λz=>?_;exact MY o.fn o.hr o.hp (AC z) d l⟩
def tg(i:Nat)(A:Em Γ t):Em Γ t:=⟨s1 (F9 (Γ.tab i)) A.m,λS=>jP λg E k q=>FR k&&(!Nat.ble 100 i&&gO i Γ.tok&&zX (λf m p=>DM S (S.Z3 i) f&&(bA m "get"&&(p.endLine==q.line&&lO (l1 E) λe=>cm e&&A.ck S e))) g),λo h=>by refine eK h λg E k q h=>?_;obtain⟨a,h⟩:=ag h;obtain⟨H,h⟩:=ag h;rw[iE a];refine lV h λf m p h=>?_;obtain⟨b,h⟩:=ag h;obtain⟨c,h⟩:=ag h;obtain⟨d,h⟩:=ag h;obtain⟨e,j,h⟩:=cw h;obtain⟨u,l,n,r,hn⟩:=gY o b;obtain⟨ad,s,T⟩:=o.tab i (cC.mp (ag H).2);replace T:=Ol (iF (ag H).1) T;rw[aT.mp c,fA j,l];exact So T n s (A.pe o (ag h).2) r (ag h).1 d⟩
def ti(i:Nat)(A:Em Γ t):Em Γ t:=⟨s1 (RX (Γ.tab i)) A.m,λS=>B4 λf e _=>!Nat.ble 100 i&&gO i Γ.tok&&(DM S (S.Z3 i) f&&(xJ e&&A.ck S e)),λo h=>by refine nV h λf e p h=>?_;obtain⟨H,h⟩:=ag h;obtain⟨a,h⟩:=ag h;obtain⟨b,h⟩:=ag h;obtain⟨j,E,g,d,hn⟩:=gY o a;obtain⟨ad,c,T⟩:=o.tab i (cC.mp (ag H).2);replace T:=Ol (iF (ag H).1) T;rw[E];exact Zg T g c (A.pe o h) d (DQ b)⟩
def fld(c j:Nat)(A:Em Γ t):Em Γ t:=⟨s1 (nk c j) A.m,λS=>zX λa f _=>gO c S.O5&&(Bu f j (S.fl c)&&(Bt a&&A.ck S a)),λo h=>by refine lV h λa f p h=>?_;obtain⟨H,h⟩:=ag h;obtain⟨b,h⟩:=ag h;obtain⟨d,h⟩:=ag h;obtain⟨C,e⟩:=o.cls c (cC.mp H);exact Y7 C (by rw[e];exact lL b) (A.pe o h) (tN d)⟩
def new(c:Nat)(A:Am Γ t):Em Γ t:=⟨xL c (Γ.qO c) A.m,λS x=>!Nat.ble 100 c&&gO c Γ.l8&&y_ S (S.Cf c) A x,λ{k S X E x}o h=>by obtain⟨s,D⟩:=o.qO c (cC.mp (ag (ag h).1).2);replace D:=DK (iF (ag (ag h).1).1) D;exact uE o (ag h).2 λ_ _ _ _ H d hn p l=>Zd D o.hr H p d l⟩
end Em
namespace Jm
noncomputable def s(A:Em Γ t):Jm Γ t:=⟨s1 x1 A.m,λS _ x=>A.ck S x,λo h=>Sv (A.pe o h)⟩
def c(A:Em Γ t):Jm Γ t:=⟨s1 E_ A.m,λS T x=>sL (λ_ _=>A.ck S x) T,λo h=>by refine iY h λn p h=>?_;exact Sw (A.pe o h)⟩
def r(A:Am Γ t):Jm Γ t:=⟨sN RT A.m,λS _ x=>dH "range" S.PH&&jP (λf E k _=>FR k&&(DM S "range" f&&lO (l1 E) λ_=>A.ck S E)) x,λo h=>by obtain⟨H,h⟩:=ag h;refine eK h λf E k q h=>?_;obtain⟨b,h⟩:=ag h;obtain⟨c,h⟩:=ag h;obtain⟨e,a,h⟩:=cw h;obtain⟨p,d,g,i,hn⟩:=gY o c;rw[fA a]at h;rw[iE b,fA a,d];obtain⟨p,q⟩:=A.pa o h;rw[bh,aI]at q;exact Su g (o.bl _ (j8 H)) p q.1⟩
def Fa(S:Sx)(A:Am Γ t)(T x:Expr):Bool:=OD (λ_ _ _=>dH "zip" S.PH&&jP (λf e k _=>FR k&&(DM S "zip" f&&lO (l2 e) λ_=>A.ck S e)) x) T
@[elab_as_elim]def m_{k S X E}{A:Am Γ t}{P:Expr->Expr->Prop}{c:Expr}(o:rk Γ t k S X E)(h:Fa S A c x)(q:∀es k0 T p pos a b,Gl X "zip"->X.mg "zip"=af->PA X [a,b] (gF (yx t X) E A.m)->cm a->cm b->P (.Tuple es k0 T) (.Call (.Name "zip" p) [a,b] [] pos)):P c x:=by refine um h λes k0 T h=>?_;obtain⟨H,h⟩:=ag h;refine eK h λf s K pos h=>?_;obtain⟨g,h⟩:=ag h;obtain⟨i,h⟩:=ag h;obtain⟨e,d,h⟩:=cw h;obtain⟨p,j,n,u,hn⟩:=gY o i;rw[xG d]at h;rw[iE g,xG d,j];obtain⟨r,l⟩:=A.pa o h;rw[bh,bh,aI,aI]at l;exact q es k0 T p pos e.1 e.2 n (o.bl _ (j8 H)) r l.1 l.2.1
def z(A:Am Γ t):Jm Γ t:=⟨sN RU A.m,λS T x=>Fa S A T x,λo h=>m_ o h λ_ _ _ _ _ _ _ H a p b c=>Sy H a p b c⟩
end Jm
end
end F
namespace F
open L2
variable{X:Cx}{e i a:Expr}{S:Sx}{x:Stmt}{es:List Expr}{env:Env}{tg:Tg}{js:List Nat}{scope:Scope}{k l:Nat}{E:XK}{P:Stmt->Prop}{f':Expr->List Stmt->List Stmt->Pos->Bool}{p:Pos}
def _root_.L2.pY.imp{e:List Expr}{t t':TT}(h:pY X e t')(i:∀σ H Q,t σ H Q->t' σ H Q):pY X e t:=λb s σ H Q I q=>h b s σ H Q I (i σ H Q q)
structure Fm(Γ:Gm)(t:Tb)where
 m:Sm
 ck:Sx->List Expr->Bool
 pf:∀{k S X E xs},rk Γ t k S X E->ck S xs->pY X xs (jj (yx t X) E m)
noncomputable def BO(s scope:Scope):Scope:={scope with names:=scope.names.map λ(n,k)=>if k==.free&&s.kind==.function&&s.names.lookup n==O .cell then(n,.cell)else(n,k)}
noncomputable def agA(x:Expr):Option Str:=match x with|.Name n _=>O n|_=>af
def EI(x:Expr):List Str:=match x with|.Name n _=>[n]|.Tuple es _ _=>es.filterMap agA|_=>[]
def RL:List Str->Bool|[]=>J|x::r=>!dH x r&&RL r
theorem tR{x:Str}:∀{l:List Str},x∈l->dH x l=J
 |[],h=>by cases h|y::r,h=>by
  unfold dH;rcases aJ.mp h with h|h;·rw[aT.mpr h];rfl
  ·rw[tR h,Bool.or_true]
theorem mZ:∀{l:List Str},RL l=J->l.Nodup|[],_=>ig|x::r,h=>by refine cD.mpr ⟨λz=>?_,mZ (ag h).2⟩;have:=iF (ag h).1;rw[tR z]at this;cases this
def J_(S:Sx)(x:Str):Bool:=RA S.sc x&&(S.fr||Bw S.sc x)
def lw(S:Sx)(i:Nat):Expr->Bool:=sL λx _=>Bu x i S.N&&J_ S x
def Z4(S:Sx):List Nat->List Expr->Bool|[],[]=>J|i::I,e::es=>lw S i e&&Z4 S I es|_,_=>a7
def ij(S:Sx):Tg->Expr->Bool|.one i=>lw S i|.many I=>OD λes _ _=>Z4 S I es
def Vz{i:Nat}{x:Expr}(b:X.N=S.N)(s:X.env.scope=S.sc)(d:X.N.Nodup)(f:∀y,J_ S y=J->X.fn y\/X.env.scope.names.lookup y=O .local)(h:lw S i x):PG X x (kM i)/\∀env,gz [x] env=[(a7,assign x env)]:=by refine iY h λn p h=>?_;obtain⟨c,H⟩:=ag h;exact⟨zu d (by rw[b];exact lL c) (by rw[s];exact DU (ag H).1) (f n H),λ_=>rfl⟩
def Hn{x:Expr}(h:cm x):gz (x::es) env=(a7,assign x env)::gz es env:=by cases x<;>first|rfl|cases h
def Ot{i:Nat}{x:Expr}(h:lw S i x):cm x=true:=iY h λ_ _ _=>rfl
theorem Na{S:Sx}{X:Cx}(H:X.N=S.N)(s:X.env.scope=S.sc)(n:X.N.Nodup)(f:∀y,J_ S y=J->X.fn y\/X.env.scope.names.lookup y=O .local):∀{is:List Nat}{es:List Expr},Z4 S is es=J->UD X es (K0 is)/\(gz es X.env).length=is.length/\(gz es X.env).findIdx? (·.1)=af|[],[],_=>⟨SJ,rfl,rfl⟩|[],_::_,h=>by cases h|_::_,[],h=>by cases h|i::is,e::es,h=>by obtain⟨d,g⟩:=ag h;obtain⟨a,b,c⟩:=Na H s n f g;have z:=Hn (es:=es) (env:=X.env) (Ot d);refine⟨Nb (Vz H s n f d).1 a (by rw[z];rfl),by rw[z,ao,ao,b],?_⟩;rw[z,List.findIdx?_cons,c];rfl
def Gg{x:Expr}(d:X.calm)(H:X.N=S.N)(s:X.env.scope=S.sc)(n:X.N.Nodup)(f:∀y,J_ S y=J->X.fn y\/X.env.scope.names.lookup y=O .local)(h:ij S tg x):PG X x (kb X.K tg):=by cases tg with|one i=>exact(Vz H s n f h).1|many I=>refine um h λes k p h=>?_;obtain⟨a,b,c⟩:=Na H s n f h;exact Zm d a b c
def yN{x:Value}(h:pF e):hG e env x=pure x:=by cases e<;>first|rfl|cases h
section
variable{Γ:Gm}{t:Tb}
def Fm.no:Fm Γ t:=⟨sC (.bl J),λ_ s=>Bc s,λo h=>by rw[jL h];refine Nf.imp λτ H B G=>?_;obtain⟨G,M,σ,h,c,Q,k,q⟩:=G;obtain⟨b,e,z⟩:=k.out _ h M H Ext.refl k.rel q;cases e;exact z⟩
def Fm.one(T:Tm Γ t):Fm Γ t:=⟨T.m,λS s=>lO (l1 s) (T.ck S),λo h=>by obtain⟨a,e,h⟩:=cw h;rw[fA e];exact Ng (T.pt o h)⟩
noncomputable def sZ(js:List Nat)(N:List Str):List Str:=js.map λj=>N[j]?.getD ""
def P9{N:List Str}(h:js.all (λj=>ad8 j N.length)):js.map (λj=>N[j]?)=(sZ js N).map some:=by unfold sZ;rw[fi];refine List.map_congr_left λj H=>?_;have b:j<N.length:=bg (aS.mp h j H);rw[Function.comp_apply,aE b];rfl
def IN(N:List Str)(s scope:Scope):Bool:=decide (scope.kind=.function)&&(RL N&&(scope.names.all (λy=>y.2 !=.cell)&&(scope.names.all (λy=>y.2 !=.local||Bw scope y.1)&&scope.names.all λy=>y.2 !=.free||decide (s.names.lookup y.1=O .cell)&&!Bw (BO s scope) y.1)))
def lu{α:Type}{f:α->Bool}{l:List α}(h:l.all f):∀y∈l,f y=true:=aS.mp h
def Ti{N:List Str}{s:Scope}(d:X.env.scope=s)(h:IN N s scope):gG X N scope:=by
 obtain⟨g,h⟩:=ag h;obtain⟨j,h⟩:=ag h;obtain⟨m,h⟩:=ag h;obtain⟨o,f⟩:=ag h;have n:∀{a b:NameKind}{c:Bool},(a !=b||c)=J->a=b->c=true:=λ{a b c}z e=>by
  subst e;rcases(gp _ _).mp z with z|z;·rw[bne_self_eq_false]at z;cases z
  ·exact z
 refine De s d (aX g) (mZ j) (λy H z=>?_) (λy H z=>zr (n (lu o y H) z)) (λy H z=>aX (ag (n (lu f y H) z)).1) λy H z=>?_;·have:=lu m y H;rw[z]at this;cases this
 ·have q:=iF (ag (n (lu f y H) z)).2;unfold Bw at q;intro w;rw[show(BO s scope).names.lookup y.1=O .local from w]at q;cases q
def χ(js:List Nat)(S:Sx)(scope:Scope):Bool:=js.all (λj=>ad8 j S.N.length)&&(sZ js S.N).all λy=>scope.names.any λz=>bA z.1 y&&z.2==.free
def P1(h:χ js S scope):js.map (λj=>S.N[j]?)=(sZ js S.N).map O/\∀y∈sZ js S.N,(y,ac4)∈scope.names:=by obtain⟨H,b⟩:=ag h;refine⟨P9 H,λy c=>?_⟩;obtain⟨z,d,q⟩:=List.any_eq_true.mp (lu b y c);obtain⟨Z,f⟩:=z;obtain⟨Q,g⟩:=ag q;have m:Z=y:=aT.mp Q;have n:f=.free:=nE g;subst m n;exact d
def V0(S:Sx)(n:List Str)(scope:Scope):Sx:={S with N:=n,sc:=BO S.sc scope,fr:=a7}
def K_(o:rk Γ t k S X E)(N:List Str)(scope:Scope)(fp:List Addr)(b:bv)(c:Hp):rk Γ t k (V0 S N scope) (gC X N scope fp b c) λ_ _ _=>False where
 hN:=rfl;hs:=by show relabel scope X.env=BO S.sc scope;rw[<-o.hs];rfl
 hc:=o.hc;hp:=λd σ H s e f I h=>by obtain⟨a,C,g,_,_,q⟩:=h;exact q.elim
 hr:=o.hr;bl:=o.bl;fI:=o.fI;fn:=o.fn;gl:=o.gl;tab:=o.tab;cls:=o.cls;qO:=o.qO;fx:=λh=>by cases h
def tw(o:rk Γ t k S X E)(N:List Str)(scope:Scope)(fp:List Addr)(s:bv)(H:Hp):rk Γ t k (V0 S N scope) (iL X N scope fp s H E) E where
 hN:=rfl;hs:=by show relabel scope X.env=BO S.sc scope;rw[<-o.hs];rfl
 hc:=o.hc;hp:=Dd;hr:=o.hr;bl:=o.bl;fI:=o.fI;fn:=o.fn;gl:=o.gl;tab:=o.tab;cls:=o.cls;qO:=o.qO;fx:=λh=>by cases h
def C0(S:Sx)(n:Nat)(js:List Nat)(tg:Tg)(j:Sx->Expr->Expr->Bool)(F:Fm Γ t)(A:Sx->Expr->Bool):Expr->Bool:=GY λe G s _=>lO (l1 G) λg=>decide (g.is_async=0)&&(pF g.iter&&(aa3 (EI g.target).length n&&(T8 n tg&&(χ js S s&&(IN (EI g.target++sZ js S.N) S.sc s&&(ij (V0 S (EI g.target++sZ js S.N) s) tg g.target&&(j S g.target g.iter&&(F.ck (V0 S (EI g.target++sZ js S.N) s) g.ifs&&A (V0 S (EI g.target++sZ js S.N) s) e))))))))
@[elab_as_elim]def nJ{n:Nat}{j:Sx->Expr->Expr->Bool}{F:Fm Γ t}{A:Sx->Expr->Bool}{P:Expr->Prop}{x:Expr}(o:rk Γ t k S X E)(h:C0 S n js tg j F A x)(q:∀b T ix I e s p,gG X b s->(∀σ:tSt,σ.length=X.N.length->qZ X b s σ (p9 n js σ))->j S T ix->T8 n tg->(∀{c f},rk Γ t k (V0 S b s) c f->PG c T (kb c.K tg))->F.ck (V0 S b s) I->A (V0 S b s) e->(∀v,hG ix X.env v=pure v)->P (.ListComp e [⟨T,ix,I,0⟩] s p)):P x:=by
 refine OB h λe Y s p h=>?_;obtain⟨⟨T,ix,I,r⟩,u,h⟩:=cw h;rw[fA u];obtain⟨w,h⟩:=ag h;obtain⟨z,h⟩:=ag h;obtain⟨B,h⟩:=ag h;obtain⟨C,h⟩:=ag h;obtain⟨G,h⟩:=ag h;obtain⟨g,h⟩:=ag h;obtain⟨L,h⟩:=ag h;obtain⟨M,h⟩:=ag h;obtain⟨H,d⟩:=ag h;have Q:r=0:=aX w;subst Q;have m:(EI T).length=n:=ax B;obtain⟨R,U⟩:=P1 G;have D:(EI T++sZ js S.N).drop n=sZ js S.N:=by rw[<-m,List.drop_left]
 exact q _ T ix I e s p (Ti o.hs g) (aeW n js (by rw[ae,m];unfold sZ;rw[ak]) (by rw[D,o.hN];exact R) (by rw[D];exact U)) M C (λ{c f}oc=>Gg oc.hc oc.hN oc.hs (by rw[oc.hN];exact mZ (ag (ag g).2).1) (λy W=>.inr (by rw[oc.hs];exact zr (ag W).2)) L) H d λ_=>yN z
def Em.comp(n:Nat)(js:List Nat)(tg:Tg)(j:Jm Γ t)(F:Fm Γ t)(A:Em Γ t):Em Γ t:=⟨Gz n js tg (wM j.m) F.m A.m a7,λS x=>S.fr&&C0 S n js tg j.ck F A.ck x,λo h=>nJ o (ag h).2 λN T ix I e w p b c d g q r u v=>(vo (o.fx (ag h).1).1 (o.fx (ag h).1).2 b o.hc c (j.pi o d) (λf s H=>q (tw o _ _ f s H)) (λf s H=>F.pf (tw o _ _ f s H) r) (λf s H=>A.pe (tw o _ _ f s H) u) v).imp λ_ _ _=>yB (λ_ _ z=>by cases z) g⟩
noncomputable def OC(f':Option Expr->Pos->Bool)(x:Stmt):Bool:=aa3 x.ctorIdx 3&&match x with|.Return e p=>f' e p|_=>a7
@[elab_as_elim]def zZ{f':Option Expr->Pos->Bool}(h:OC f' x)(q:∀e p,f' e p=J->P (.Return e p)):P x:=Stmt.Return.elim (motive_2:=λx=>OC f' x=J->P x) x (ax (ag h).1) (λe p h=>q e p h) h
noncomputable def Ju(f':List Expr->Expr->Pos->Bool)(x:Stmt):Bool:=aa3 x.ctorIdx 5&&match x with|.Assign T e p=>f' T e p|_=>a7
@[elab_as_elim]def uj{f':List Expr->Expr->Pos->Bool}(h:Ju f' x)(q:∀T e p,f' T e p=J->P (.Assign T e p)):P x:=Stmt.Assign.elim (motive_2:=λx=>Ju f' x=J->P x) x (ax (ag h).1) (λT e p h=>q T e p h) h
noncomputable def Ul(f':Expr->Expr->List Stmt->List Stmt->Pos->Bool)(x:Stmt):Bool:=aa3 x.ctorIdx 9&&match x with|.For a b c d p=>f' a b c d p|_=>a7
@[elab_as_elim]def GZ{f':Expr->Expr->List Stmt->List Stmt->Pos->Bool}(h:Ul f' x)(q:∀a b c d p,f' a b c d p=J->P (.For a b c d p)):P x:=Stmt.For.elim (motive_2:=λx=>Ul f' x=J->P x) x (ax (ag h).1) (λa b c d p h=>q a b c d p h) h
noncomputable def Us(f':Expr->List Stmt->List Stmt->Pos->Bool)(x:Stmt):Bool:=aa3 x.ctorIdx 11&&match x with|.While a b c p=>f' a b c p|_=>a7
@[elab_as_elim]def G2(h:Us f' x)(q:∀a b c p,f' a b c p=J->P (.While a b c p)):P x:=Stmt.While.elim (motive_2:=λx=>Us f' x=J->P x) x (ax (ag h).1) (λa b c p h=>q a b c p h) h
noncomputable def Um(f':Expr->List Stmt->List Stmt->Pos->Bool)(x:Stmt):Bool:=aa3 x.ctorIdx 12&&match x with|.If a b c p=>f' a b c p|_=>a7
@[elab_as_elim]def G0(h:Um f' x)(q:∀a b c p,f' a b c p=J->P (.If a b c p)):P x:=Stmt.If.elim (motive_2:=λx=>Um f' x=J->P x) x (ax (ag h).1) (λa b c p h=>q a b c p h) h
noncomputable def c_(f':Option Expr->Option Expr->Pos->Bool)(x:Stmt):Bool:=aa3 x.ctorIdx 16&&match x with|.Raise a b p=>f' a b p|_=>a7
@[elab_as_elim]def Uq{f':Option Expr->Option Expr->Pos->Bool}(h:c_ f' x)(q:∀a b p,f' a b p=J->P (.Raise a b p)):P x:=Stmt.Raise.elim (motive_2:=λx=>c_ f' x=J->P x) x (ax (ag h).1) (λa b p h=>q a b p h) h
noncomputable def Z9(f':Expr->Pos->Bool)(x:Stmt):Bool:=aa3 x.ctorIdx 24&&match x with|.Expr a p=>f' a p|_=>a7
@[elab_as_elim]def Uk{f':Expr->Pos->Bool}(h:Z9 f' x)(q:∀a p,f' a p=J->P (.Expr a p)):P x:=Stmt.Expr.elim (motive_2:=λx=>Z9 f' x=J->P x) x (ax (ag h).1) (λa p h=>q a p h) h
noncomputable def Z7(f':Expr->Operator->Expr->Pos->Bool)(x:Stmt):Bool:=aa3 x.ctorIdx 7&&match x with|.AugAssign a o b p=>f' a o b p|_=>a7
@[elab_as_elim]def Ui{f':Expr->Operator->Expr->Pos->Bool}(h:Z7 f' x)(q:∀a o b p,f' a o b p=J->P (.AugAssign a o b p)):P x:=Stmt.AugAssign.elim (motive_2:=λx=>Z7 f' x=J->P x) x (ax (ag h).1) (λa o b p h=>q a o b p h) h
structure Oks(Γ:Gm)(t:Tb)(k:Nat)(S:Sx)(X:Cx)(E:XK):Prop where
 x:rk Γ t k S X E
 nd:X.N.Nodup
 hf:∀y,J_ S y=J->X.fn y\/X.env.scope.names.lookup y=O .local
 po:PassesOwn (bn X.prog X.w) X.A X.env X.xe
 kd:X.env.scope.kind=.function
 exc:∀c∈S.xok,X.mg (S.Cf c)=O (.ref (t.ca c))/\sU X.K (t.ca c)
structure Mm(Γ:Gm)(t:Tb)where
 m:Ss
 ck:Sx->Stmt->Bool
 ps:∀{k S X E st},Oks Γ t k S X E->ck S st->PS X st (fQ (yx t X) E m)
structure Ms(Γ:Gm)(t:Tb)where
 m:Ss
 ck:Sx->List Stmt->Bool
 ps:∀{k S X E st},Oks Γ t k S X E->ck S st->kH X st (fQ (yx t X) E m)
noncomputable def Xl(h:Hs)(k:Nat):Dv->Option Dv|.p x=>O (.p x)|.r i=>match aa5 k i with|false=>O (.r i)|true=>match h[i]? with|some (.lst s)=>O (.p (.lst s))|some (.dct K u)=>O (.p (.dct K u))|_=>af
noncomputable def r8(e:Expr):Bool:=match e with|.ListComp _ _ _ _=>a7|.SetComp _ _ _ _=>a7|.DictComp _ _ _ _ _=>a7|_=>J
def Ve{o:Option Expr}(h:r8 e):gZ e o l env=pure false:=by cases e<;>first|rfl|cases h
def ZV:gZ e (O (.Subscript a i p)) l env=pure false:=by cases e<;>rfl
def WB{f:Str}:gZ e (O (.Attribute a f p)) l env=pure false:=by cases e<;>rfl
noncomputable def Cc(e:Expr):Bool:=match e with|.Tuple _ _ _=>a7|.ListComp _ _ _ _=>a7|.SetComp _ _ _ _=>a7|.DictComp _ _ _ _ _=>a7|_=>J
def Vm{j:Nat}(h:Cc e):swapsWithSole [.Tuple es j p] e l env=pure a7/\swappedStores [.Tuple es j p] e env=pure none:=by cases e<;>first|exact⟨rfl,rfl⟩|cases h
def Xm{Z:Tx}{M:List Addr}{H:Hp}{h:Hs}{d x:Dv}{v:V}(r:bq Z M H h)(i:cZ Z M H d v)(e:Xl h k d=O x):cZ Z (M.take k) H x v:=by
 unfold Xl at e;split at e;·cases e;exact bR.mv (Mv.cut r k) i
 ·rename_i n;split at e;·rename_i b;cases e;refine i.cut r (cq ?_);exact Nat.lt_of_not_le λz=>by rw[eU z]at b;cases b
  ·rename_i b;obtain⟨a,c,rfl⟩:=i;have N:a∉M.take k/\a∉Z.G:=by
    refine⟨λz=>?_,r.dj a (aZ c)⟩;obtain⟨j,f⟩:=wt z;have g:j<k:=by have:=(ai.mp f).1;rw[c0]at this;lia
    rw[iZ g]at f;obtain⟨l1,s⟩:=ai.mp c;obtain⟨l2,u⟩:=ai.mp f;have:=(kC r.nd).mp (s.trans u.symm);have:=bg b;lia
   split at e;·rename_i o;cases e;obtain⟨w,m,q⟩:=r.ob n a _ c o;unfold cZ bR;exact⟨a,w,rfl,N,m,aO.mv (Mv.cut r k) q⟩
   ·rename_i o;cases e;obtain⟨B,m,q,y⟩:=r.ob n a _ c o;unfold cZ bR;exact⟨a,B,rfl,N,m,aO.mv (Mv.cut r k) q,aO.mv (Mv.cut r k) y⟩
   ·cases e
def Tj(S:Sx)(i:Nat)(f:Str->Pos->Expr->Bool):Stmt->Bool:=Ju λT e _=>lO (l1 T) (sL λx p=>Bu x i S.N&&(J_ S x&&f x p e))
@[elab_as_elim]def zH{k S X E}{i:Nat}{f:Str->Pos->Expr->Bool}{st:Stmt}(o:Oks Γ t k S X E)(h:Tj S i f st)(q:∀x p e pos,X.N[i]?=O x->L2.Loc X.env.scope x->X.fn x\/X.env.scope.names.lookup x=O .local->f x p e->P (.Assign [.Name x p] e pos)):P st:=by refine uj h λT e pos h=>?_;obtain⟨d,b,h⟩:=cw h;rw[fA b];refine iY h λx p h=>?_;obtain⟨c,h⟩:=ag h;obtain⟨H,h⟩:=ag h;exact q x p e pos (by rw[o.x.hN];exact lL c) (by rw[o.x.hs];exact DU (ag H).1) (o.hf x H) h
def Pz(f:Expr->Expr->Expr->Bool):Stmt->Bool:=Ju λT e _=>lO (l1 T) (B4 λa i _=>f a i e)
@[elab_as_elim]def ZU{f:Expr->Expr->Expr->Bool}{st:Stmt}(h:Pz f st)(q:∀a i p e pos,f a i e=J->P (.Assign [.Subscript a i p] e pos)):P st:=by refine uj h λT e pos h=>?_;obtain⟨c,b,h⟩:=cw h;rw[fA b];refine nV h λa i p h=>?_;exact q a i p e pos h
def PB{o:Expr}(h:xJ i):∀v,assign (.Subscript o i p) env v=(do
   let b<-ft [v] (eval o env)let I<-ft [v,b] (eval i env)standAt p
   ft [v,b,I] (setItem b I v)release [v,b,I] []):=by intro v;cases i<;>first|rfl|cases h
def TH:swapsWithSole [.Subscript a i p] e l env=pure false:=ZV (a:=a) (i:=i) (p:=p) (l:=l) (env:=env)
def ZX:swappedStores [.Subscript a i p] e env=pure none:=by cases e<;>rfl
namespace Mm
def ex(A:Em Γ t):Mm Γ t:=⟨EQ A.m,λS=>Z9 λe _=>r8 e&&A.ck S e,λo h=>Uk h λe p h=>Zi (A.pe o.x (ag h).2) (Ve (ag h).1)⟩
def ret(A:Em Γ t):Mm Γ t:=⟨Ji A.m,λS=>OC λe _=>lO e (A.ck S),λo h=>by refine zZ h λe p h=>?_;obtain⟨a,b,h⟩:=cw h;rw[b];exact SE (A.pe o.x h)⟩
def set(i:Nat)(A:Em Γ t):Mm Γ t:=⟨NT i A.m,λS=>Tj S i λ_ _ e=>r8 e&&A.ck S e,λo h=>zH o h λx p e s b c d H=>SF (λT f=>Nn o.nd b c f (Ve (ag H).1) d) (A.pe o.x (ag H).2)⟩
def unp(is:List Nat)(A:Em Γ t):Mm Γ t:=⟨Zp is A.m,λS=>Ju λT e _=>Cc e&&(A.ck S e&&lO (l1 T) (ij S (.many is))),λo h=>by refine uj h λT e pos h=>?_;obtain⟨H,h⟩:=ag h;obtain⟨b,h⟩:=ag h;obtain⟨f,c,h⟩:=cw h;rw[fA c];have g:=Gg o.x.hc o.x.hN o.x.hs o.nd o.hf h;revert g;refine um h λes j p _ g=>?_;exact SG (λn d=>Nj d g (Vm (l:=pos.line) H).1 (Vm (l:=0) H).2 rfl) (A.pe o.x b)⟩
def put(A B C:Em Γ t):Mm Γ t:=⟨Sr A.m B.m C.m,λS=>Pz λa i e=>xJ i&&(A.ck S e&&(B.ck S a&&C.ck S i)),λo h=>by refine ZU h λa i p e pos h=>?_;obtain⟨H,h⟩:=ag h;obtain⟨b,h⟩:=ag h;obtain⟨c,d⟩:=ag h;exact(Nj (A.pe o.x b) (Zl (B.pe o.x c) (C.pe o.x d) N0 (PB H)) (TH (l:=pos.line)) ZX rfl).imp λ_ _ _=>Zu⟩
def ql(c j:Nat)(A B:Em Γ t):Mm Γ t:=⟨VT c j A.m B.m,λS=>Ju λT e _=>lO (l1 T) (zX λa f _=>gO c S.O5&&(Bu f j (S.fl c)&&(A.ck S e&&B.ck S a))),λo h=>by refine uj h λT e pos h=>?_;obtain⟨r,b,h⟩:=cw h;rw[fA b];refine lV h λa f p h=>?_;obtain⟨H,h⟩:=ag h;obtain⟨d,h⟩:=ag h;obtain⟨g,n⟩:=ag h;obtain⟨C,q⟩:=o.x.cls c (cC.mp H);exact(Zq (B.pe o.x n) (A.pe o.x g) (WB (l:=pos.line))).imp λ_ _ _=>QL C (by rw[q];exact lL d)⟩
def raise(c:Nat)(A:Em Γ t):Mm Γ t:=⟨NS c A.m,λS=>c_ λe b _=>b.isNone&&(S.fr&&(gO c S.xok&&lO e (jP λf es K _=>FR K&&(DM S (S.Cf c) f&&lO (l1 es) λd=>cm d&&A.ck S d)))),λo h=>by refine Uq h λe b s h=>?_;obtain⟨H,h⟩:=ag h;obtain⟨j,h⟩:=ag h;obtain⟨n,h⟩:=ag h;obtain⟨G,q,g⟩:=cw h;rw[q];cases b with|some _=>cases H|none=>refine eK g λf es K I h=>?_;obtain⟨r,h⟩:=ag h;obtain⟨u,h⟩:=ag h;obtain⟨d,v,h⟩:=cw h;obtain⟨p,w,y,z,hn⟩:=gY o.x u;rw[iE r,fA v,w];obtain⟨fr,B⟩:=o.x.fx j;obtain⟨C,D⟩:=o.exc c (cC.mp n);exact IS (λT F=>Nm fr B o.x.hc y C D F (ag h).1 z) (A.pe o.x (ag h).2)⟩
def iff(T:Tm Γ t)(A B:Ms Γ t):Mm Γ t:=⟨ny T.m A.m B.m,λS=>Um λc a b _=>T.ck S c&&(A.ck S a&&B.ck S b),λo h=>by refine G0 h λc a b p h=>?_;obtain⟨H,h⟩:=ag h;obtain⟨d,f⟩:=ag h;exact Zj (T.pt o.x H) (A.ps o d) (B.ps o f)⟩
def fo(tg:Tg)(j:Jm Γ t)(B:Ms Γ t):Mm Γ t:=⟨XO tg (wM j.m) B.m,λS=>Ul λT ix b e _=>Bc e&&(pF ix&&(ij S tg T&&(j.ck S T ix&&B.ck S b))),λo h=>by refine GZ h λT ix b e p h=>?_;obtain⟨H,h⟩:=ag h;obtain⟨c,h⟩:=ag h;obtain⟨d,h⟩:=ag h;obtain⟨f,g⟩:=ag h;rw[jL H];exact(Nk o.po o.x.hc (j.pi o.x f) (Gg o.x.hc o.x.hN o.x.hs o.nd o.hf d) (B.ps o g) λ_=>yN c).imp λ_ _ _=>Xj⟩
end Mm
namespace Ms
def nil:Ms Γ t:=⟨FJ,λ_ l=>Bc l,λo h=>by rw[jL h];exact SA⟩
def one(A:Mm Γ t):Ms Γ t:=⟨A.m,λS l=>lO (l1 l) (A.ck S),λo h=>by obtain⟨a,e,h⟩:=cw h;rw[fA e];exact SD (A.ps o h)⟩
def seq(A:Mm Γ t)(B:Ms Γ t):Ms Γ t:=⟨ZN A.m B.m,λS l=>lO (lc l) λp=>A.ck S p.1&&B.ck S p.2,λo h=>by obtain⟨⟨a,r⟩,e,h⟩:=cw h;rw[FU e];exact M9 (A.ps o (ag h).1) (B.ps o (ag h).2)⟩
def cut(A:Mm Γ t)(B:Ms Γ t):Ms Γ t:=⟨VQ A.m B.m,λS l=>lO (lc l) λp=>A.ck S p.1&&B.ck S p.2,λo h=>by obtain⟨⟨a,r⟩,e,h⟩:=cw h;rw[FU e];exact Sz (A.ps o (ag h).1) (B.ps o (ag h).2)⟩
end Ms
end
end F
namespace F
open L2
variable{k i c:Nat}{C:Ct}{X:Cx}{E:XK}{τ:tSt}{H H':Hp}{Z:Tx}{M M':List Addr}{h h':Hs}{z:Bool}{Q:Dv->Hs->Prop}{QV:VK}{xc:XP}{b1:Str}{fn:Nat->Ct}{oS l8:List Nat}
section
variable{Γ:Gm}{t:Tb}
def N1{A:Sm}{D:Ends}(h:fQ (yx t X) E (NT i A) D τ H):BV (cJ (yx t X) E A) (kM i) D τ H:=by obtain⟨G,M,σ,h,N,k,q⟩:=h;exact⟨G,M,σ,h,N.xc,_,⟨k.rel,k.env,λd h' M' H' v e r i q=>k.nx _ h' M' H' _ e r ((k.env.ext k.rel e).set i) q,k.exc⟩,q⟩
def Gc(x:Str)(p:Pos):Expr->Bool:=GY λ_ _ s a=>p.line==a.line&&!s.names.any λ(n,k)=>n==x&&(k==.local||k==.cell)
def LK{env:Env}(h:env.scope.kind=.function):(env.blockKind==ScopeKind.function)=true:=by unfold Env.blockKind;rw[h];rfl
def Mm.setC(i n:Nat)(u:List Nat)(tg:Tg)(j:Jm Γ t)(F:Fm Γ t)(A:Em Γ t):Mm Γ t:=⟨NT i (Gz n u tg (wM j.m) F.m A.m a7),λS=>Tj S i λx p e=>Bw S.sc x&&(Gc x p e&&C0 S n u tg j.ck F A.ck e),λ{k S X E st}o h=>by
 refine zH o h λx p e P y B D I=>?_;obtain⟨K,g⟩:=ag I;obtain⟨G,L⟩:=ag g;revert G;refine nJ o.x L λN' tx ix N e v w U R b d T W Y h8 G=>?_;refine(Gq o.nd y B U o.x.hc R (j.pi o.x b) (λf s a=>T (K_ o.x _ _ f s a)) (λf s a=>F.pf (K_ o.x _ _ f s a) W) (λf s a=>A.pe (K_ o.x _ _ f s a) Y) h8 ?_ D).imp λ_ _ _ q=>yB (λ_ _ z=>by cases z) d (N1 q);obtain⟨l,r⟩:=ag (show(p.line==w.line&&!v.names.any λ(n,k)=>n==x&&(k==.local||k==.cell))=J from G);show pure (X.env.blockKind==.function&&X.env.kindOf x==O .local&&p.line==w.line&&!v.names.any λ(n,k)=>n==x&&(k==.local||k==.cell))=pure J;have hk:X.env.kindOf x=O .local:=by show X.env.scope.names.lookup x=_;rw[o.x.hs];exact zr K
 rw[LK o.kd,hk,l,r];rfl⟩
structure Gk(Γ:Gm)(t:Tb)(k:Nat)(S:Sx)(P:cf)(w:b7)(K:Frag)(mg:b')(base:Heap):Prop where
 bl:∀x∈S.PH,mg x=af
 fI:S.fI=t.fI
 fn:∀i∈Γ.oS,∃ps,mK P w K mg base (k+1) (t.fI i) ps (iH ⟨K,mg,t⟩ (Γ.fn i))gl:∀i∈Γ.A_,∃u v,mg (S.gnm i)=O u/\RelV v u/\∀G M H,bR ((⟨K,mg,t⟩:T0).z G) M H (Γ.gl i) v
 tab:∀i∈Γ.tok,∃ad,mg (S.Z3 i)=O (.ref ad)/\CH w K mg t.fI i ad (Γ.tab i)cls:∀c∈S.O5,uu K t c/\t.fl c=S.fl c
 qO:∀c∈Γ.l8,∃ps,rh P w K mg base k (S.Cf c) t.ca c ps (iH ⟨K,mg,t⟩ (Γ.qO c))exc:∀c∈S.xok,mg (S.Cf c)=O (.ref (t.ca c))/\sU K (t.ca c)
def P_(z:Bool)(k:Nat)(Q:Dv->Hs->Prop)(d:Dv)(h:Hs):Prop:=match z with|false=>Q d h|true=>match Xl h k d with|some x=>gd (bH k (h.take k)) (Q x (h.take k))|none=>False
def tz(z:Bool)(k:Nat)(xc:XP):XP:=λc h=>match z with|false=>xc c h|true=>gd (bH k (h.take k)) (xc c (h.take k))
noncomputable def gR(z:Bool)(k:Nat)(Q:Dv->Hs->Prop)(xc:XP):En:=⟨λ_ h=>P_ z k Q (.p .non) h,P_ z k Q,λ_ _=>False,λ_ _=>False,tz z k xc⟩
noncomputable def oY(n:Nat)(ds:List Dv):Es:=ds.map O++aa4 (n-ds.length) af
def vO{ds:List Dv}{vs:List V}(N:List Str)(i:cj Z M H ds vs):dw Z M H (oY N.length ds) (L2.start N vs):=by
 refine⟨by unfold oY L2.start;rw[ae,ae,ak,ak,bV,bV,i.len],λj d a=>?_⟩;unfold oY at a;unfold L2.start;by_cases b:j<ds.length;·rw[aW (by rw[ak];exact b),bM]at a;rw[aW (by rw[ak,<-i.len];exact b),bM];cases e:ds[j]? with|none=>rw[e]at a;cases a|some D=>rw[e]at a;cases a;obtain⟨v,f,g⟩:=i.get e;exact⟨v,by rw[f];rfl,g⟩
 ·rw[aP (by rw[ak];lia),fM]at a;split at a<;>cases a
def VO{d:Dv}{v:V}(R:bq Z M H h)(out:∀d h' M' H' v,Ext M H M' H'->bq Z M' H' h'->cZ Z M' H' d v->Q d h'->QV v H')(e:Ext M H M' H')(r:bq Z M' H' h')(i:cZ Z M' H' d v)(q:P_ z h.length Q d h'):QV v H':=by
 unfold P_ at q;split at q;·exact out d h' M' H' v e r i q
 ·split at q;·rename_i x a;obtain⟨c,q⟩:=bB q;exact out x _ _ H' v (e.cut (by rw[R.ln];exact aB _)) (r.cut _ c) (Xm r i a) q
  ·exact q.elim
def ac3{EV:Hp->Prop}(R:bq Z M H h)(out:∀h' M' H',Ext M H M' H'->bq Z M' H' h'->xc c h'->EV H')(e:Ext M H M' H')(r:bq Z M' H' h')(q:tz z h.length xc c h'):EV H':=by
 unfold tz at q;split at q;·exact out h' M' H' e r q
 ·obtain⟨a,q⟩:=bB q;exact out _ _ _ (e.cut (by rw[R.ln];exact aB _)) (r.cut _ a) q
noncomputable def Sx.at(S:Sx)(N:List Str)(sc:Scope)(fr:Bool):Sx:={S with N:=N,sc:=sc,fr:=fr}
def uR{G:List Addr}{σ:Es}(r:bq ((yx t X).z G) M H h)(v:dw ((yx t X).z G) M H σ τ)(out:∀d h' M' H' v,Ext M H M' H'->bq ((yx t X).z G) M' H' h'->cZ ((yx t X).z G) M' H' d v->Q d h'->QV v H')(a:∀c h' M' H',Ext M H M' H'->bq ((yx t X).z G) M' H' h'->xc c h'->E (.ref (t.ca c)) af H'):Wt ((yx t X).z G) E τ H {nx:=λ_ H'=>QV .non H',rt:=QV} M σ h (gR z h.length Q xc):=⟨r,v,λb h' M' H' f e R g q=>VO r out e R nL q,λd h' M' H' v e R i q=>VO r out e R i q,λ_ _ _ _ _ _ _ _ q=>q.elim,λ_ _ _ _ _ _ _ _ q=>q.elim,λc h' M' H' e R q=>ac3 (EV:=λH'=>E (.ref (t.ca c)) af H') r (a c) e R q⟩
variable{P:cf}{w:b7}{K:Frag}{mg:b'}{base:Heap}{x:Str}{st:Stmt}{ps N:List Str}{S:Sx}
def Gk.okx{fr:Bool}{s:Scope}(g:Gk Γ t k S X.prog X.w X.K X.mg X.base)(a:X.N=N)(b:X.env.scope=s)(d:X.calm)(p:eu (oP X.prog X.w) X E)(r:dQ (k+1) X.A)(f:fr->OX X/\jH X E):rk Γ t k (S.at N s fr) X E:=⟨a,b,d,p,r,g.bl,g.fI,g.fn,g.gl,g.tab,g.cls,g.qO,f⟩
def Ms.ae8(B:Ms Γ t)(z:Bool)(b:Src K mg x st ps)(F:dD N ps (aL st))(g:Gk Γ t k S P w K mg base)(l:B.ck (S.at N (aL st) J) (cb st)=J)(a:∀ds h Q xc,C ds h Q xc->ds.length=ps.length/\B.m (gR z h.length Q xc) (oY N.length ds) h):mK P w K mg base (k+2) x ps (iH ⟨K,mg,t⟩ C):=by refine b.YJ F (λv H Q E ⟨G,M,h,ds,q,xc,r,i,c,_,_⟩=>by rw[<-i.len];exact(a _ _ _ _ c).1) λf D A o s H v Q E d ⟨G,M,h,ds,q,xc,r,i,c,out,e⟩=>?_;refine⟨_,B.ps (Γ:=Γ) (t:=t) (k:=k) (S:=S.at N (aL st) J) (E:=E) ⟨Gk.okx g rfl rfl rfl (jH.pass pb rQ) d λ_=>⟨pb,rQ⟩,F.nd,λy _=>.inl rfl,Cw,F.kind,g.exc⟩ l,?_⟩;exact⟨G,M,_,h,_,uR r (vO N i) out e,(a _ _ _ _ c).2⟩
def Ms.ae6{a:Nat}(B:Ms Γ t)(z:Bool)(d:sX K (t.ca a) b1 st ps)(j:mg x=O (.ref (t.ca a)))(F:dD N ps (aL st))(g:Gk Γ t k S P w K mg base)(l:B.ck (S.at N (aL st) a7) (cb st)=J)(b:∀ds h Q xc,C ds h Q xc->ds.length=ps.length/\B.m (gR z h.length Q λ_ _=>False) (oY N.length ds) h):sT P w K mg base (k+2) x (t.ca a) ps (iH ⟨K,mg,t⟩ C):=by refine d.ok j F (λv H Q E ⟨G,M,h,ds,n,xc,r,i,c,_,_⟩=>by rw[<-i.len];exact(b _ _ _ _ c).1) λf D A o s H v Q E u ⟨G,M,h,ds,n,xc,r,i,c,out,L⟩=>?_;refine⟨_,B.ps (Γ:=Γ) (t:=t) (k:=k) (S:=S.at N (aL st) a7) (E:=λ_ _ _=>False) ⟨Gk.okx (X:=(oE CB P w K mg base N b1 (aL st) f D A o s H E).Vl) g rfl rfl rfl (λp σ H s e R I ⟨_,_,_,_,_,q⟩=>q.elim) u (λh=>by cases h),F.nd,λy _=>.inl rfl,tK,F.kind,g.exc⟩ l,?_⟩;exact⟨G,M,_,h,_,uR r (vO N i) out λ_ _ _ _ _ _ q=>q.elim,(b _ _ _ _ c).2⟩
def Ms.ae7{a:Addr}(B:Ms Γ t)(z:Bool)(d:sY K a x b1 st ps)(F:dD N ps (aL st))(g:Gk Γ t k S P w K mg base)(l:B.ck (S.at N (aL st) J) (cb st)=J)(b:∀ds h Q xc,C ds h Q xc->ds.length=ps.length/\B.m (gR z h.length Q xc) (oY N.length ds) h):wy P w K mg base (oP P w) (k+2) a x ps (iH ⟨K,mg,t⟩ C):=by refine d.YJ F (λv H Q E ⟨G,M,h,ds,q,xc,r,i,c,_,_⟩=>by rw[<-i.len];exact(b _ _ _ _ c).1) λf D A o s H v Q E j ⟨G,M,h,ds,q,xc,r,i,c,out,e⟩=>?_;refine⟨_,B.ps (Γ:=Γ) (t:=t) (k:=k) (S:=S.at N (aL st) J) (E:=E) ⟨Gk.okx g rfl rfl rfl (jH.pass pb rQ) j λ_=>⟨pb,rQ⟩,F.nd,λy _=>.inl rfl,Cw,F.kind,g.exc⟩ l,?_⟩;exact⟨G,M,_,h,_,uR r (vO N i) out e,(b _ _ _ _ c).2⟩
end
structure Wd where
 P:cf
 w:b7
 K:Frag
 mg:b'
 base:Heap
structure Lw where
 S:Sx
 ca:Nat->Addr
 gl:Nat->Pv
 A_:List Nat
 tab:Nat->Str->Option (List Str)tok:List Nat
 qO:Nat->Ct
noncomputable abbrev Lw.t(L:Lw):Tb:=⟨L.S.fI,L.ca,L.S.fl⟩
noncomputable abbrev Lw.g(L:Lw)(fn:Nat->Ct)(oS l8:List Nat):Gm:=⟨fn,oS,L.gl,L.A_,L.qO,l8,L.tab,L.tok⟩
abbrev Lw.y(L:Lw)(W:Wd):T0:=⟨W.K,W.mg,L.t⟩
structure Lk(L:Lw)(W:Wd):Prop where
 bl:∀x∈L.S.PH,W.mg x=af
 gl:∀i∈L.A_,∃u v,W.mg (L.S.gnm i)=O u/\RelV v u/\∀G M H,bR ((L.y W).z G) M H (L.gl i) v
 tab:∀i∈L.tok,∃ad,W.mg (L.S.Z3 i)=O (.ref ad)/\CH W.w W.K W.mg L.S.fI i ad (L.tab i)cls:∀c∈L.S.O5,uu W.K L.t c
 exc:∀c∈L.S.xok,W.mg (L.S.Cf c)=O (.ref (L.ca c))/\sU W.K (L.ca c)
def Dt(L:Lw)(W:Wd)(i k:Nat)(C:Ct):Prop:=∃p,mK W.P W.w W.K W.mg W.base k (L.S.fI i) p (iH (L.y W) C)
def Di(L:Lw)(W:Wd)(c k:Nat):Prop:=∃p,rh W.P W.w W.K W.mg W.base k (L.S.Cf c) L.ca c p (iH (L.y W) (L.qO c))
def Ao(L:Lw)(W:Wd)(fn:Nat->Ct)(k:Nat):List Nat->Prop|[]=>True|i::r=>Dt L W i k (fn i)/\Ao L W fn k r
def Hh(L:Lw)(W:Wd)(k:Nat):List Nat->Prop|[]=>True|i::r=>Di L W i k/\Hh L W k r
section
variable{L:Lw}{W:Wd}{j:Nat}{C':Ct}
theorem Ao.at{fn:Nat->Ct}:∀{l:List Nat},Ao L W fn k l->∀i∈l,Dt L W i k (fn i)|[],_,i,h=>by cases h|j::r,f,i,h=>(aJ.mp h).elim (λz=>by rw[z];exact f.1) λz=>Ao.at f.2 i z
theorem Hh.at:∀{l:List Nat},Hh L W k l->∀i∈l,Di L W i k|[],_,i,h=>by cases h|j::r,f,i,h=>(aJ.mp h).elim (λz=>by rw[z];exact f.1) λz=>Hh.at f.2 i z
def Dt.up(D:Dt L W i j C)(h:aa5 j k):Dt L W i k C:=let ⟨p,d⟩:=D;⟨p,d.mono (bg h)⟩
def Dt.le(D:Dt L W i j C)(h:j<=k):Dt L W i k C:=let ⟨p,d⟩:=D;⟨p,d.mono h⟩
def Di.le(D:Di L W i j)(h:j<=k):Di L W i k:=let ⟨p,d⟩:=D;⟨p,d.mono h⟩
theorem Dt.imp(D:Dt L W i k C)(h:∀ds h Q xc,C' ds h Q xc->C ds h Q xc):Dt L W i k C':=let ⟨p,d⟩:=D;⟨p,d.imp λv H Q E ⟨G,M,h',ds,q,xc,r,i,c,o,a⟩=>⟨G,M,h',ds,q,xc,r,i,h _ _ _ _ c,o,a⟩⟩
def Lk.gk(B:Lk L W)(f:Ao L W fn (k+1) oS)(a:Hh L W k l8):Gk (L.g fn oS l8) L.t k L.S W.P W.w W.K W.mg W.base:=⟨B.bl,rfl,f.at,B.gl,B.tab,λc b=>⟨B.cls c b,rfl⟩,a.at,B.exc⟩
def Lk.d{st:Stmt}(N ps:List Str)(z:Bool)(B:Lk L W)(b:Ms (L.g fn oS l8) L.t)(s:Src W.K W.mg (L.S.fI i) st ps)(F:dD N ps (aL st))(l:b.ck (L.S.at N (aL st) J) (cb st)=J)(f:Ao L W fn (k+1) oS)(a:Hh L W k l8)(e:∀ds h Q xc,C ds h Q xc->ds.length=ps.length/\b.m (gR z h.length Q xc) (oY N.length ds) h):Dt L W i (k+2) C:=⟨ps,b.ae8 z s F (B.gk f a) l e⟩
def Lk.mk1{st:Stmt}(N ps:List Str)(z:Bool)(B:Lk L W)(b:Ms (L.g fn oS l8) L.t)(s:sX W.K (L.ca c) b1 st ps)(x:W.mg (L.S.Cf c)=O (.ref (L.ca c)))(F:dD N ps (aL st))(a:aa5 100 c=a7)(l:b.ck (L.S.at N (aL st) a7) (cb st)=J)(f:Ao L W fn (k+1) oS)(d:Hh L W k l8)(e:∀ds h Q xc,L.qO c ds h Q xc->ds.length=ps.length/\b.m (gR z h.length Q λ_ _=>False) (oY N.length ds) h):Di L W c (k+2):=⟨ps,by unfold rh;rw[a];exact b.ae6 z s x F (B.gk f d) l e⟩
def Lk.agu{st:Stmt}(N ps:List Str)(z:Bool)(B:Lk L W)(b:Ms (L.g fn oS l8) L.t)(s:sY W.K (L.ca (c/100-1)) (L.S.Cf c) b1 st ps)(F:dD N ps (aL st))(a:aa5 100 c)(l:b.ck (L.S.at N (aL st) J) (cb st)=J)(f:Ao L W fn (k+1) oS)(d:Hh L W k l8)(e:∀ds h Q xc,L.qO c ds h Q xc->ds.length=ps.length/\b.m (gR z h.length Q xc) (oY N.length ds) h):Di L W c (k+2):=⟨ps,by unfold rh;rw[a];exact b.ae7 z s F (B.gk f d) l e⟩
end
end F
namespace F
open L2
variable{Q:List Pv->Hs->Prop}{h h1:Hs}{a c d:Bool}{b:Ss}{k i n:Nat}{α:Type}{xs:List Pv}{A:Es->Hs->KP->Prop}{ps:List Str}{L:Lw}{W:Wd}{C:Ct}{b1:Str}
def Fj{R:Hs->Prop}(H:bH k (h.take k))(q:R (h.take k)):WZ k R h:=ay H q
def nz(h:List α):h.take h.length=h:=fW (aB _)
def rH{xs:List α}{x:α}(h:xs[i]?=O x):xs=xs.take i++x::xs.drop (i+1):=by obtain⟨H,e⟩:=ai.mp h;rw[<-e,fV,uq]
def qX{xs:List α}{x:α}(h:xs[i]?=O x):xs.take (i+1)=xs.take i++[x]:=by obtain⟨H,e⟩:=ai.mp h;rw[<-e,List.take_append_getElem]
def tP{e:Pv->Option Es}{T:Es->Hs->KP->Prop}(g:Pv->Bool)(f:Pv->Pv)(r:bH h1.length h1)(step:∀y∈xs,match e y with|some j=>(∀R:KP,R [.p (.bl (g y))] h1->T j h1 R)/\(g y=J->∀R:KP,R [.p (f y)] h1->A j h1 R)|none=>False)(q:Q ((xs.filter g).map f) h1):Kv h1 xs e T A Q:=by
 unfold Kv;refine⟨λi l m=>m=h1/\l=((xs.take i).filter g).map f,⟨rfl,by rw[ik];rfl⟩,?_,?_⟩;·rintro i y l m o ⟨rfl,rfl⟩;have z:=step y (aZ o);cases s:e y with|none=>rw[s]at z;exact z|some j=>
   rw[s]at z;refine z.1 _ ?_;dsimp only;refine c6 (λH=>z.2 H _ ?_) λH=>?_;·exact Fj (by rw[nz];exact r) ⟨nz _,by rw[qX o,fU,aV,fL H];rfl⟩
   ·exact Fj (by rw[nz];exact r) ⟨nz _,by rw[qX o,fU,jD (by rw[H];exact aK)];simp⟩
 ·rintro l m ⟨rfl,rfl⟩;rw[nz];exact q
def gm{e:Pv->Option Es}(f:Pv->Pv)(j:bH h1.length h1)(step:∀y∈xs,match e y with|some g=>∀R:KP,R [.p (f y)] h1->A g h1 R|none=>False)(q:Q (xs.map f) h1):Kv h1 xs e (λ_ h R=>R [.p (.bl J)] h) A Q:=by refine tP (λ_=>J) f j (λy l=>?_) (by rw[G_.mpr λ_ _=>rfl];exact q);have z:=step y l;cases H:e y with|none=>rw[H]at z;exact z|some g=>rw[H]at z;exact⟨λR q=>q,λ_=>z⟩
def mU{a:Pv->Es->Option Es}{N:En}{σ:Es}(f:List Pv->List Pv->Es->Hs->Prop)(m:f [] xs σ h)(step:∀pre x post g h',xs=pre++x::post->f pre (x::post) g h'->match a x g with|some l=>b {N with nx:=Dg k (f (pre++[x]) post),ct:=Dg k (f (pre++[x]) post),bk:=Dg k N.nx} l h'|none=>False)(fin:∀g h',f xs [] g h'->N.nx g h'):QI k xs a b N σ h:=by
 unfold QI;refine⟨λi g h'=>f (xs.take i) (xs.drop i) g h',by dsimp only;rw[ik,ic];exact m,λi x g h' H j=>?_,λg h' j=>fin g h' (by dsimp only at j;rw[dN,qQ]at j;exact j)⟩;obtain⟨p,e⟩:=ai.mp H;have E:xs.drop i=x::xs.drop (i+1):=by rw[<-e,fV]
 have o:f (xs.take i) (x::xs.drop (i+1)) g h':=E▸j;have z:=step _ x _ g h' (rH H) o;rw[<-qX H]at z;exact z
section
variable{Q:Dv->Hs->Prop}{b:Bool}{X:Prop}
def km(q:Q (.p (.bl (a&&b))) h)(k:a->Q (.p (.bl b)) h->X):br a X (Q (.p (.bl a7)) h):=by cases a with|true=>exact k rfl q|false=>exact q
def μ(q:Q (.p (.bl (a||b))) h)(k:a=a7->Q (.p (.bl b)) h->X):br a (Q (.p (.bl J)) h) X:=by cases a with|true=>exact q|false=>exact k rfl q
def mM(q:Q (.p (.bl (a&&b))) h)(k:a->Q (.p (.bl b)) h->X):br (!a) (Q (.p (.bl a7)) h) X:=by cases a with|true=>exact k rfl q|false=>exact q
def p5{x y:Bool}{Y:Prop}(q:Q (.p (.bl (match a with|true=>x|false=>y))) h)(k:a->Q (.p (.bl x)) h->X)(K:a=a7->Q (.p (.bl y)) h->Y):br a X Y:=by cases a with|true=>exact k rfl q|false=>exact K rfl q
def PJ(q:Q (.p (.bl (!(a&&b)&&c))) h)(k:Q (.p (.bl c)) h->X):br a (br b (Q (.p (.bl a7)) h) X) X:=by cases a with
 |true=>cases b with|true=>exact q|false=>exact k q
 |false=>exact k q
def ι{A B:Prop}(h:c=a7)(b:B):br c A B:=by subst h;exact b
theorem E6{g:Pv->Bool}:∀{xs:List Pv},xn (xs.map λy=>.bl (g y))=O (xs.map g)|[]=>rfl|x::r=>by rw[aY,aY];unfold xn;rw[E6 (xs:=r)]
def rn{g:Pv->Bool}(q:Q (.p (.bl (xs.all g))) h):Mn [.p (.lst (xs.map λy=>.bl (g y)))] h Q:=by unfold Mn;refine cN (x:=xs.map g) E6 ?_;show Q (.p (.bl ((xs.map g).all id))) h;rw[mE];exact q
end
noncomputable def dX:Pv->Bool|.str _=>J|_=>a7
noncomputable def isInt:Pv->Bool|.int _=>J|_=>a7
noncomputable def Bd:Pv->Bool|.lst _=>J|_=>a7
noncomputable def sy:Pv->Bool|.tup _=>J|_=>a7
noncomputable def gD:Pv->Str|.str z=>z|_=>""
noncomputable def Lg:Pv->Int|.int i=>i|_=>0
noncomputable def rP:Pv->List Pv|.lst xs=>xs|_=>[]
noncomputable def w9:Pv->List Pv|.tup xs=>xs|_=>[]
def yM:Pv->Bool|.lst xs=>gI xs|_=>a7
def I_(i:Int):Pv->Bool|.int j=>qi j i|_=>a7
section
variable{P:Pv->Prop}{a:Pv}
@[elab_as_elim]def qH(h:dX a)(k:∀z,P (.str z)):P a:=by cases a<;>first|exact k _|cases h
@[elab_as_elim]def Lf(h:isInt a)(k:∀z,P (.int z)):P a:=by cases a<;>first|exact k _|cases h
@[elab_as_elim]def abh(h:Bd a)(k:∀z,P (.lst z)):P a:=by cases a<;>first|exact k _|cases h
@[elab_as_elim]def acU(h:sy a)(k:∀z,P (.tup z)):P a:=by cases a<;>first|exact k _|cases h
@[elab_as_elim]def QG(h:yM a)(k:∀z,gI z=J->P (.lst z)):P a:=by cases a<;>first|exact k _ h|cases h
@[elab_as_elim]def DN{i:Int}(h:I_ i a)(k:P (.int i)):P a:=by cases a<;>first|(rw[eD.mp h];exact k)|cases h
theorem uo:∀{xs ys:List Pv}{z:Pv},z∈kx xs ys->∃x y,x∈xs/\y∈ys/\z=.tup [x,y]
 |[],_,_,h=>by cases h|_::_,[],_,h=>by cases h|x::xs,y::ys,z,h=>by
  rcases aJ.mp h with h|h;·exact⟨x,y,aw,aw,h⟩
  ·obtain⟨a,b,h1,H,e⟩:=uo h;exact⟨a,b,aq _ h1,aq _ H,e⟩
end
def Vf{p:Prop}(h:a7):p:=Bool.noConfusion h
def pZ{b:Bool}(z:(a&&(b&&c))):a/\b/\c=true:=⟨(ag z).1,ag (ag z).2⟩
def kI{b:Bool}(z:(a&&(b&&(c&&d)))):a/\b/\c/\d=true:=⟨(ag z).1,pZ (ag z).2⟩
def aeO{b e:Bool}(z:(a&&(b&&(c&&(d&&e))))):a/\b/\c/\d/\e=true:=⟨(ag z).1,kI (ag z).2⟩
abbrev rC(ds:List Dv)(k:Nat->List Dv->Prop):Prop:=match ds with|.r i::r=>k i r|_=>False
abbrev pC(ds:List Dv)(k:Pv->List Dv->Prop):Prop:=match ds with|.p x::r=>k x r|_=>False
abbrev iC(ds:List Dv)(k:Int->List Dv->Prop):Prop:=match ds with|.p (.int x)::r=>k x r|_=>False
abbrev aC(h:Hs)(k:List Pv->Hs->Prop):Prop:=match h with|.lst x::r=>k x r|_=>False
abbrev mC(h:Hs)(k:Int->Hs->Prop):Prop:=match h with|.lst [.int x]::r=>k x r|_=>False
abbrev nC(l:List α)(A:Prop):Prop:=match l with|[]=>A|_=>False
section
variable{ds:List Dv}{G:List Dv->Prop}{F:Hs->Prop}
@[elab_as_elim]def Zy{k:Nat->List Dv->Prop}(c:rC ds k)(g:∀i r,k i r->G (.r i::r)):G ds:=by rcases ds with _|⟨_|_,_⟩<;>first|exact g _ _ c|exact c.elim
@[elab_as_elim]def j6{k:Pv->List Dv->Prop}(c:pC ds k)(g:∀i r,k i r->G (.p i::r)):G ds:=by rcases ds with _|⟨_|_,_⟩<;>first|exact g _ _ c|exact c.elim
@[elab_as_elim]def XQ{k:Int->List Dv->Prop}(c:iC ds k)(g:∀i r,k i r->G (.p (.int i)::r)):G ds:=by rcases ds with _|⟨x|_,_⟩<;>first|exact c.elim|(cases x<;>first|exact g _ _ c|exact c.elim)
@[elab_as_elim]def aeL{k:List Pv->Hs->Prop}(c:aC h k)(g:∀i r,k i r->F (.lst i::r)):F h:=by
 rcases h with _|⟨x,_⟩;·exact c.elim
 ·cases x<;>first|exact g _ _ c|exact c.elim
@[elab_as_elim]def agq{k:Int->Hs->Prop}(c:mC h k)(g:∀i r,k i r->F (.lst [.int i]::r)):F h:=by
 rcases h with _|⟨x,_⟩;·exact c.elim
 ·cases x with
  |lst xs=>rcases xs with _|⟨y,_|_⟩<;>first|exact c.elim|(cases y<;>first|exact g _ _ c|exact c.elim)
  |_=>exact c.elim
@[elab_as_elim]def kP{l:List α}{A:Prop}{G:List α->Prop}(c:nC l A)(g:A->G []):G l:=by cases l<;>first|exact g c|exact c.elim
end
def WT(p:Pv->Bool)(R:Pv->(Pv->Prop)->(Nat->Prop)->Prop):Ct:=λds h Q x=>pC ds λa r=>nC r (nC h (gd (p a) (R a (λy=>Q (.p y) []) λc=>x c [])))
abbrev Ps(p:Pv->Bool)(R:Pv->(Pv->Prop)->Prop):Ct:=WT p λa K _=>R a K
abbrev Hr(p:Pv->Bool)(f:Pv->Pv):Ct:=WT p λa K _=>K (f a)
def xB{p:Pv->Bool}{R:Pv->(Pv->Prop)->(Nat->Prop)->Prop}(H:∀a(Q:Dv->Hs->Prop)(x:XP),p a=J->R a (λy=>Q (.p y) []) (λc=>x c [])->b (gR J 0 Q x) (oY n [.p a]) []):∀ds h Q x,WT p R ds h Q x->ds.length=1/\b (gR J h.length Q x) (oY n ds) h:=by intro ds h Q x c;unfold WT at c;exact j6 c λX _ c=>kP c λc=>kP c λc=>⟨rfl,H X Q x (bB c).1 (bB c).2⟩
def υ(p:Pv->Pv->Bool)(R:Pv->Pv->(Pv->Prop)->(Nat->Prop)->Prop):Ct:=λds h Q x=>pC ds λa r=>pC r λB r=>nC r (nC h (gd (p a B) (R a B (λy=>Q (.p y) []) λc=>x c [])))
abbrev cR2(p:Pv->Pv->Bool)(R:Pv->Pv->(Pv->Prop)->Prop):Ct:=υ p λa B K _=>R a B K
def wh{p:Pv->Pv->Bool}{R:Pv->Pv->(Pv->Prop)->(Nat->Prop)->Prop}(H:∀a B(Q:Dv->Hs->Prop)(x:XP),p a B=J->R a B (λy=>Q (.p y) []) (λc=>x c [])->b (gR J 0 Q x) (oY n [.p a,.p B]) []):∀ds h Q x,υ p R ds h Q x->ds.length=2/\b (gR J h.length Q x) (oY n ds) h:=by intro ds h Q x c;unfold υ at c;exact j6 c λX _ c=>j6 c λe _ c=>kP c λc=>kP c λc=>⟨rfl,H X e Q x (bB c).1 (bB c).2⟩
def vy(p:Pv->Pv->Pv->Bool)(R:Pv->Pv->Pv->(Pv->Prop)->(Nat->Prop)->Prop):Ct:=λds h Q x=>pC ds λa r=>pC r λB r=>pC r λc r=>nC r (nC h (gd (p a B c) (R a B c (λy=>Q (.p y) []) λc=>x c [])))
abbrev ν(p:Pv->Pv->Pv->Bool)(f:Pv->Pv->Pv->Pv):Ct:=vy p λa B c K _=>K (f a B c)
def il{p:Pv->Pv->Pv->Bool}{R:Pv->Pv->Pv->(Pv->Prop)->(Nat->Prop)->Prop}(H:∀a B c(Q:Dv->Hs->Prop)(x:XP),p a B c=J->R a B c (λy=>Q (.p y) []) (λc=>x c [])->b (gR J 0 Q x) (oY n [.p a,.p B,.p c]) []):∀ds h Q x,vy p R ds h Q x->ds.length=3/\b (gR J h.length Q x) (oY n ds) h:=by intro ds h Q x c;unfold vy at c;exact j6 c λX _ c=>j6 c λe _ c=>j6 c λf _ c=>kP c λc=>kP c λc=>⟨rfl,H X e f Q x (bB c).1 (bB c).2⟩
def lv(p:Pv->Pv->Pv->Pv->Bool)(R:Pv->Pv->Pv->Pv->(Pv->Prop)->(Nat->Prop)->Prop):Ct:=λds h Q x=>pC ds λa r=>pC r λB r=>pC r λc r=>pC r λd r=>nC r (nC h (gd (p a B c d) (R a B c d (λy=>Q (.p y) []) λc=>x c [])))
abbrev x4(p:Pv->Pv->Pv->Pv->Bool)(f:Pv->Pv->Pv->Pv->Pv):Ct:=lv p λa B c d K _=>K (f a B c d)
def u6{p:Pv->Pv->Pv->Pv->Bool}{R:Pv->Pv->Pv->Pv->(Pv->Prop)->(Nat->Prop)->Prop}(H:∀a B c d(Q:Dv->Hs->Prop)(x:XP),p a B c d=J->R a B c d (λy=>Q (.p y) []) (λc=>x c [])->b (gR J 0 Q x) (oY n [.p a,.p B,.p c,.p d]) []):∀ds h Q x,lv p R ds h Q x->ds.length=4/\b (gR J h.length Q x) (oY n ds) h:=by intro ds h Q x c;unfold lv at c;exact j6 c λX _ c=>j6 c λe _ c=>j6 c λf _ c=>j6 c λg _ c=>kP c λc=>kP c λc=>⟨rfl,H X e f g Q x (bB c).1 (bB c).2⟩
def rb(p:Pv->Pv->Pv->Pv->Pv->Bool)(R:Pv->Pv->Pv->Pv->Pv->(Pv->Prop)->(Nat->Prop)->Prop):Ct:=λds h Q x=>pC ds λa r=>pC r λB r=>pC r λc r=>pC r λd r=>pC r λe r=>nC r (nC h (gd (p a B c d e) (R a B c d e (λy=>Q (.p y) []) λc=>x c [])))
abbrev cA5(p:Pv->Pv->Pv->Pv->Pv->Bool)(f:Pv->Pv->Pv->Pv->Pv->Pv):Ct:=rb p λa B c d e K _=>K (f a B c d e)
def hX5{p:Pv->Pv->Pv->Pv->Pv->Bool}{R:Pv->Pv->Pv->Pv->Pv->(Pv->Prop)->(Nat->Prop)->Prop}(H:∀a B c d e(Q:Dv->Hs->Prop)(x:XP),p a B c d e=J->R a B c d e (λy=>Q (.p y) []) (λc=>x c [])->b (gR J 0 Q x) (oY n [.p a,.p B,.p c,.p d,.p e]) []):∀ds h Q x,rb p R ds h Q x->ds.length=5/\b (gR J h.length Q x) (oY n ds) h:=by intro ds h Q x c;unfold rb at c;exact j6 c λX _ c=>j6 c λf _ c=>j6 c λg _ c=>j6 c λj _ c=>j6 c λl _ c=>kP c λc=>kP c λc=>⟨rfl,H X f g j l Q x (bB c).1 (bB c).2⟩
def PU:Ct:=λ_ _ _ _=>False
theorem Dt.no{L:Lw}{W:Wd}{i k:Nat}{st:Stmt}{ps:List Str}(r:Src W.K W.mg (L.S.fI i) st ps):Dt L W i k PU:=by obtain⟨f,F,e,m,g⟩:=r.ex;have no:∀v H Q E,¬iH (L.y W) PU v H Q E:=λv H Q E ⟨_,_,_,_,_,_,_,_,c,_,_⟩=>c;exact⟨ps,f,F,⟨λv H Q E q=>absurd q (no v H Q E),λA o s H args u v Q E _ _ _ _ q=>absurd q (no v H Q E)⟩,m,e.kp,g⟩
def O7:List (Nat×Ct)->Nat->Ct|[],_=>PU|(j,c)::r,i=>match aa3 i j with|true=>c|false=>O7 r i
def All(L:Lw)(W:Wd)(k:Nat):List (Nat×Ct)->Prop|[]=>True|(i,c)::r=>Dt L W i k c/\All L W k r
theorem All.at{L:Lw}{W:Wd}{k:Nat}:∀{l:List (Nat×Ct)},All L W k l->∀i∈l.map (·.1),Dt L W i k (O7 l i)|[],_,i,h=>by cases h|(j,c)::r,f,i,h=>by cases e:aa3 i j with
  |true=>
   have E:O7 ((j,c)::r) i=c:=by show(match aa3 i j with|true=>c|false=>O7 r i)=c;rw[e]
   rw[E,ax e];exact f.1|false=>
   have E:O7 ((j,c)::r) i=O7 r i:=by show(match aa3 i j with|true=>c|false=>O7 r i)=_;rw[e]
   rw[E];refine All.at f.2 i ((aJ.mp h).resolve_left λz=>?_);rw[show i=j from z,fX]at e;cases e
theorem Ao.of{L:Lw}{W:Wd}{k:Nat}{f:Nat->Ct}:∀{l:List Nat},(∀i∈l,Dt L W i k (f i))->Ao L W f k l|[],_=>trivial|_::_,h=>⟨h _ aw,Ao.of λi H=>h i (aq _ H)⟩
abbrev Lw.G(L:Lw)(l:List (Nat×Ct))(e:List Nat):Gm:=L.g (O7 l) (l.map (·.1)) e
def EH:List Str->List Str->Bool|[],[]=>J|x::r,y::q=>bA x y&&EH r q|_,_=>a7
theorem xV:∀{l m:List Str},EH l m=J->l=m|[],[],_=>rfl|[],_::_,h=>by cases h|_::_,[],h=>by cases h|x::r,y::q,h=>by rw[aT.mp (ag h).1,xV (ag h).2]
def US(N ps:List Str)(s:Scope):Bool:=s.kind==.function&&(!s.isCoroutine&&(!s.isGenerator&&(RL N&&(EH (N.take ps.length) ps&&(ps.all (RA s)&&s.names.all λy=>y.2 !=.free)))))
def mV{N:List Str}{sc:Scope}(h:US N ps sc):dD N ps sc:=by obtain⟨h1,h⟩:=ag h;obtain⟨H,h⟩:=ag h;obtain⟨e,h⟩:=ag h;obtain⟨f,h⟩:=ag h;obtain⟨g,h⟩:=ag h;obtain⟨j,l⟩:=ag h;exact⟨nE h1,iF H,iF e,mZ f,xV g,λx m=>DU (lu j x m),λy o z=>by have:=lu l y o;rw[z]at this;cases this⟩
noncomputable def Rv(s:Scope):List Str:=(s.names.filter λp=>match p.2 with|.local=>J|.cell=>J|_=>a7).map (·.1)
def Lk.eN{st:Stmt}(N:List Str)(z:Bool)(l:List (Nat×Ct))(e:List Nat)(B:Lk L W)(b:Ms (L.G l e) L.t)(s:Src W.K W.mg (L.S.fI i) st ps)(f:(US N ps (aL st)&&b.ck (L.S.at N (aL st) J) (cb st))=J)(H:All L W (k+1) l)(g:Hh L W k e)(j:∀ds h Q x,C ds h Q x->ds.length=ps.length/\b.m (gR z h.length Q x) (oY N.length ds) h):Dt L W i (k+2) C:=B.d N ps z b s (mV (ag f).1) (ag f).2 (Ao.of H.at) g j
def Lk.e{st:Stmt}(n:Nat)(z:Bool)(l:List (Nat×Ct))(f:List Nat)(B:Lk L W)(b:Ms (L.G l f) L.t)(s:Src W.K W.mg (L.S.fI i) st ps)(g:(aa3 (Rv (aL st)).length n&&(US (Rv (aL st)) ps (aL st)&&b.ck (L.S.at (Rv (aL st)) (aL st) J) (cb st)))=J)(H:All L W (k+1) l)(j:Hh L W k f)(o:∀ds h Q x,C ds h Q x->ds.length=ps.length/\b.m (gR z h.length Q x) (oY n ds) h):Dt L W i (k+2) C:=by have h:=ax (ag g).1;subst h;exact B.eN _ z l f b s (ag g).2 H j o
theorem Lk.qO{c:Nat}{st:Stmt}(N ps:List Str)(z:Bool)(l:List (Nat×Ct))(f:List Nat)(B:Lk L W)(b:Ms (L.G l f) L.t)(s:sX W.K (L.ca c) b1 st ps)(H:W.mg (L.S.Cf c)=O (.ref (L.ca c)))(e:(!Nat.ble 100 c&&(US N ps (aL st)&&b.ck (L.S.at N (aL st) a7) (cb st)))=J)(g:All L W (k+1) l)(j:Hh L W k f)(o:∀ds h Q x,L.qO c ds h Q x->ds.length=ps.length/\b.m (gR z h.length Q λ_ _=>False) (oY N.length ds) h):Di L W c (k+2):=B.mk1 N ps z b s H (mV (ag (ag e).2).1) (iF (ag e).1) (ag (ag e).2).2 (Ao.of g.at) j o
def Lk.Ci{c:Nat}{st:Stmt}(n:Nat)(z:Bool)(l:List (Nat×Ct))(g:List Nat)(B:Lk L W)(b:Ms (L.G l g) L.t)(s:sY W.K (L.ca (c/100-1)) (L.S.Cf c) b1 st ps)(f:(aa5 100 c&&(aa3 (Rv (aL st)).length n&&(US (Rv (aL st)) ps (aL st)&&b.ck (L.S.at (Rv (aL st)) (aL st) J) (cb st))))=J)(H:All L W (k+1) l)(j:Hh L W k g)(o:∀ds h Q x,L.qO c ds h Q x->ds.length=ps.length/\b.m (gR z h.length Q x) (oY n ds) h):Di L W c (k+2):=by have e:=ax (ag (ag f).2).1;subst e;exact B.agu _ ps z b s (mV (ag (ag (ag f).2).2).1) (ag f).1 (ag (ag (ag f).2).2).2 (Ao.of H.at) j o
end F
namespace F
open L2
variable{t:Tb}{X:Cx}{E:XK}{A T:Sm}{I:Ig}{C ct:Ct}{Y:T0}{M:List Addr}{H:Hp}{h:Hs}{a:Addr}{τ:tSt}{QV:VK}{j k0 c:Nat}{D:Ends}{x:Str}{ps:List Str}
def NR(C:Ct)(A:Sm):Sm:=λb σ h Q=>A b σ h λds e=>C ds e (λd f=>Q [d] f) b
abbrev Pw:=Hs->List Dv->Prop
abbrev Ig:=XP->Es->Hs->(Pw->Hs->Prop)->Prop
def JG(Y:T0)(G M:List Addr)(H:Hp)(d:It)(P:Pw):Prop:=∀g m e f s,(∀b∈g,b∈G\/H b=af)->Ext M H m e->bq (Y.z g) m e f->P f s->(∀(i:Nat)x,s[i]?=O x->d.go i e/\∀v o,d.k_ i e v o->Ext m e m o/\bq (Y.z g) m o f/\cZ (Y.z g) m o x v)/\d.stop s.length e
structure KnG(Y:T0)(G:List Addr)(E:XK)(τ:tSt)(H:Hp)(R:It->Hp->Prop)(M:List Addr)(σ:Es)(h:Hs)(xc:XP)(Q:Pw->Hs->Prop):Prop where
 rel:bq (Y.z G) M H h
 env:dw (Y.z G) M H σ τ
 out:∀P h' M' H' a,Ext M H M' H'->bq (Y.z G) M' H' h'->JG Y G M' H' a P->Q P h'->R a H'
 exc:∀C h' M' H',Ext M H M' H'->bq (Y.z G) M' H' h'->xc C h'->E (.ref (Y.t.ca C)) af H'
inductive Jp(Y:T0)(E:XK)(m:Ig)(τ:tSt)(H:Hp)(R:It->Hp->Prop):Prop|mk(G M:List Addr)(σ:Es)(h:Hs)(xc:XP)(Q:_)(k:KnG Y G E τ H R M σ h xc Q)(q:m xc σ h Q):Jp Y E m τ H R
@[irreducible]def QH(j:Nat)(P:Pw)(b:Ss)(N:En)(σ:Es)(h:Hs):Prop:=∃(s:List Dv)(W:Nat->Es->Hs->Prop),W 0 σ h/\(∀i d e,W i d e->P e s)/\(∀(i:Nat)x d e,s[i]?=O x->W i d e->b {N with nx:=W (i+1),ct:=W (i+1),bk:=N.nx} (d.set j (O x)) e)/\∀d e,W s.length d e->N.nx d e
def VS(j:Nat)(I:Ig)(b:Ss):Ss:=λN σ h=>I N.xc σ h λP d=>QH j P b N σ d
def GD(T:Sm)(b:Ss):Ss:=λN σ h=>∃W:Nat->Es->Hs->Prop,(∃m,W m σ h)/\∀m d i,W m d i->T N.xc d i λs k=>match s with|[.p (.bl c)]=>br c (b {N with nx:=λe g=>∃f,f<m/\W f e g,ct:=λe g=>∃f,f<m/\W f e g,bk:=N.nx} d k) (N.nx d k)|_=>False
def Λ(z:Bool)(acc:List Dv)(h:Hs)(Q:KP):Prop:=match z with
 |true=>match ud acc with|some s=>Q [.p (.lst s)] h|none=>False
 |false=>Q [.r h.length] (h++[.df acc])
@[irreducible]def P6(k:Hs)(P:Pw)(e:Dv->Es)(T A:Es->Hs->KP->Prop)(z:Bool)(Q:KP):Prop:=∃(s:List Dv)(W:Nat->List Dv->Hs->Prop),iz s.length=J/\W 0 [] k/\(∀i d f,W i d f->P f s)/\(∀(i:Nat)y d f,s[i]?=O y->W i d f->T (e y) f λbs g=>match bs with|[.p (.bl b)]=>br b (A (e y) g λl m=>match l with|[y]=>W (i+1) (d++[y]) m|_=>False) (W (i+1) d g)|_=>False)/\∀d f,W s.length d f->Λ z d f Q
def zF(n:Nat)(s:List Nat)(j:Nat)(I:Ig)(T A:Sm)(z x:Bool):Sm:=λb σ h Q=>I b σ h λP d=>P6 d P (λy=>(gH n s σ).set j (O y)) (T λc h=>x=J/\b c h) (A λc h=>x=J/\b c h) z Q
section
variable{st:Stmt}{b:Ss}{G:List Addr}
def Jo(h:cJ (yx t X) E (NR C A) τ H QV):gF (yx t X) E A τ H λvs p=>iH (yx t X) C vs p QV E:=by obtain⟨G,M,σ,s,o,Q,k,q⟩:=h;exact⟨G,M,σ,s,o,_,⟨k.rel,k.env,λd u y K v e R i z=>⟨G,y,u,d,_,o,R,i,z,λB f m g w l r F n=>k.out B f m g w (e.trans l) r F n,λc f m g l r n=>k.exc c f m g (e.trans l) r n⟩,k.exc⟩,q⟩
def Q2(I:Im):Ig:=λd σ h Q=>I d σ h λy e=>Q (λ_ s=>s=y.map .p) e
def UC.jg{d:It}{ys:List Pv}(j:UC Y G M H d ys):JG Y G M H d λ_ xs=>xs=ys.map .p:=λm n o q xs s e r p=>by subst p;obtain⟨a,b⟩:=j m n o q s e r;refine⟨λi x f=>?_,by rw[ak];exact b⟩;rw[bM]at f;cases l:ys[i]? with|none=>rw[l]at f;cases f|some y=>rw[l]at f;cases f;obtain⟨g,k⟩:=a i y l;exact⟨g,λv Q u=>k v Q u⟩
def aaY{I:Im}{R:It->Hp->Prop}(h:Jp (yx t X) E (Q2 I) τ H R):zR (yx t X) E I τ H R:=by obtain⟨G,M,σ,h,f,Q,k,q⟩:=h;exact⟨G,M,σ,h,f,_,⟨k.rel,k.env,λs g m i d e r j _ q=>k.out _ g m i d e r j.jg q,k.exc⟩,q⟩
def re(l:Nat):Pw:=λh s=>mY h (.r l)=O s
def L0(A:Sm):Ig:=λe σ h Q=>A e σ h λds d=>match ds with|[.r l]=>gd (mY d (.r l)).isSome (Q (re l) d)|_=>False
def aa9{l:Nat}(m:M[l]?=O a):JG Y G M H (ms Y.K a) (re l):=λB o F L N P e r p=>by have d:o[l]?=O a:=e.at m;obtain⟨n,Q,s,q,f,R,s1,g⟩:=tX (Y:=Y) (x:=.r l) (v:=.ref a) r ⟨a,d,rfl⟩ p;cases q;rw[d]at f;cases f;refine⟨λi x u=>?_,⟨s,.inl (.inl s1),by rw[g.len];exact aB _⟩⟩;obtain⟨v,k,z⟩:=g.get u;refine⟨⟨s,v,.inl (.inl s1),k⟩,λw S ⟨f,y⟩=>?_⟩;subst f;have hw:=y s (.inl (.inl s1));rw[k]at hw;cases hw;exact⟨Ext.refl,r,z⟩
def SM{tg e:Expr}(m:PE X e (cJ (yx t X) E A)):PI X tg e (Jp (yx t X) E (L0 A)):=(Nc m).imp λτ H R ⟨G,M,σ,h,o,Q,k,q⟩=>by refine⟨G,M,σ,h,o,_,⟨k.rel,k.env,λd g s u v w i y f=>?_,k.exc⟩,q⟩;cases d with|p _=>exact f.elim|r l=>obtain⟨c,f⟩:=bB (show gd (mY g (.r l)).isSome _ from f);obtain⟨L,ex⟩:=cF.mp c;obtain⟨n,a,z,B,F,K,s1,N⟩:=tX i y ex;cases B;exact⟨a,K,.inl ⟨⟨z,gN.of s1⟩,k.out (re l) g s u _ w i (aa9 (Y:=yx t X) F) f⟩⟩
def QJ(h:fQ (yx t X) E (VS j I b) D τ H):TM (Jp (yx t X) E I) (kM j) (fQ (yx t X) E b) D τ H:=by
 obtain⟨G,M,σ,h0,N,k,q⟩:=h;refine⟨G,M,σ,h0,N.xc,_,⟨k.rel,k.env,λP h1 M1 H1 e S r1 jo q=>?_,k.exc⟩,q⟩;unfold QH at q;obtain⟨s,W,w0,hP,U,fin⟩:=q;refine⟨λi m B L=>m=s.length-i/\i<=s.length/\∃l f h',Ext M1 H1 l L/\bq ((yx t X).z G) l L h'/\dw ((yx t X).z G) l L f B/\W i f h',⟨_,rfl,bG _,M1,σ,h1,Ext.refl,r1,k.env.ext k.rel S,w0⟩,?_⟩;rintro i _ B L ⟨rfl,hi,l,f,h',e2,r2,v2,w⟩;obtain⟨ja,jb⟩:=jo G l L h' s (λ_ z=>.inl z) e2 r2 (hP _ _ _ w);by_cases mz:i<s.length;·obtain⟨g,y⟩:=ja i s[i] (aE mz);refine .inr ⟨g,λZ H2=>∃F,F<s.length-i/\F=s.length-(i+1)/\i+1<=s.length/\∃l f h',Ext M1 H1 l H2/\bq ((yx t X).z G) l H2 h'/\dw ((yx t X).z G) l H2 f Z/\W (i+1) f h',λZ H2 ⟨F,hm,z⟩=>⟨F,hm,z⟩,λv oQ yl=>?_⟩;obtain⟨e3,r3,ip⟩:=y v oQ yl;have q:=U i s[i] f h' (aE mz) w;have O6:=e2.trans e3;have nx:∀n u p o r,Ext l oQ p o->bq ((yx t X).z G) p o u->dw ((yx t X).z G) p o n r->W (i+1) n u->∃F,F<s.length-i/\F=s.length-(i+1)/\i+1<=s.length/\∃l f h',Ext M1 H1 l o/\bq ((yx t X).z G) l o h'/\dw ((yx t X).z G) l o f r/\W (i+1) f h':=λn u p o r K R v5 Q=>⟨_,by lia,rfl,by lia,p,n,u,O6.trans K,R,v5,Q⟩;exact⟨G,l,_,h',{N with nx:=W (i+1),ct:=W (i+1),bk:=N.nx},⟨r3,(v2.ext r2 e3).set ip,nx,λd u p o v K R i5 Q=>k.rt d u p o v (S.trans (O6.trans K)) R i5 Q,λn u p o r K R v5 Q=>k.nx n u p o r (S.trans (O6.trans K)) R v5 Q,nx,λC u p o K R Q=>k.exc C u p o (S.trans (O6.trans K)) R Q⟩,q⟩
 ·have hx:i=s.length:=by lia
  subst hx;exact .inl ⟨jb,k.nx f h' l L B (S.trans e2) r2 v2 (fin f h' w)⟩
def x5(h:fQ (yx t X) E (GD T b) D τ H):Oi (jj (yx t X) E T) (fQ (yx t X) E b) D τ H:=by
 obtain⟨G,M,σ,h0,N,k,W,⟨m0,w0⟩,B⟩:=h;refine⟨λm s L=>∃g e h',Ext M H g L/\bq ((yx t X).z G) g L h'/\dw ((yx t X).z G) g L e s/\W m e h',⟨m0,M,σ,h0,Ext.refl,k.rel,k.env,w0⟩,?_⟩;rintro m s L ⟨g,e,h',e2,r2,v2,w⟩;refine⟨G,g,e,h',N.xc,_,⟨r2,v2,λd P F S e1 r1 U=>?_,λC P F S x r q=>k.exc C P F S (e2.trans x) r q⟩,B m e h' w⟩;split at U;·rename_i c hc;injection hc with hc;refine⟨c,hc,?_⟩;have e3:=e2.trans e1;cases c with|true=>rw[bx rfl];refine⟨λK Z=>∃f,f<m/\∃g e h',Ext M H g Z/\bq ((yx t X).z G) g Z h'/\dw ((yx t X).z G) g Z e K/\W f e h',λK Z z=>z,?_⟩;have nx:∀i p n l o,Ext F S n l->bq ((yx t X).z G) n l p->dw ((yx t X).z G) n l i o->(∃f,f<m/\W f i p)->∃f,f<m/\∃g e h',Ext M H g l/\bq ((yx t X).z G) g l h'/\dw ((yx t X).z G) g l e o/\W f e h':=λi p n l o u R v5 ⟨f,hm,q6⟩=>⟨f,hm,n,i,p,e3.trans u,R,v5,q6⟩;exact⟨G,F,e,P,{N with nx:=λy h2=>∃f,f<m/\W f y h2,ct:=λy h2=>∃f,f<m/\W f y h2,bk:=N.nx},⟨r1,v2.ext r2 e1,nx,λd p n l v u R i5 Q=>k.rt d p n l v (e3.trans u) R i5 Q,λi p n l o u R v5 Q=>k.nx i p n l o (e3.trans u) R v5 Q,nx,λC p n l u R Q=>k.exc C p n l (e3.trans u) R Q⟩,U⟩|false=>rw[bE aK];exact k.nx e P F S s e3 r1 (v2.ext r2 e1) U
 ·exact U.elim
end
section
variable{G:List Addr}
def yL:∀b,b∈M++[a]\/b∈G->b∈M\/b∈a::G\/H b=none:=λb d=>d.elim (λz=>(bf.mp z).elim .inl λz=>.inr (.inl (aQ.mp z▸aw))) λz=>.inr (.inl (aq _ z))
def cZ.fin{d:Dv}{v:V}(q:cZ (Y.z (a::G)) M H d v):cZ (Y.z G) (M++[a]) H d v:=by cases d with|p x=>exact bR.fr yL q|r i=>obtain⟨b,e,f⟩:=q;exact⟨b,by rw[aW (ai.mp e).1];exact e,f⟩
theorem cj.fin:∀{ds:List Dv}{vs:List V},cj (Y.z (a::G)) M H ds vs->cj (Y.z G) (M++[a]) H ds vs|[],[],_=>trivial|[],_::_,q=>q|_::_,[],q=>q|_::_,_::_,q=>⟨q.1.fin,cj.fin q.2⟩
theorem we.fin{b:Addr}{o:Ob}(z:we (Y.z (a::G)) M H b o):we (Y.z G) (M++[a]) H b o:=by cases o with|lst s=>obtain⟨v,e,q⟩:=z;exact⟨v,e,aO.fr yL q⟩|df s=>obtain⟨v,e,q⟩:=z;exact⟨v,e,q.fin⟩|dct k u=>obtain⟨B,e,q,Q⟩:=z;exact⟨B,e,aO.fr yL q,aO.fr yL Q⟩|ins C fs=>obtain⟨d,f,e,n,l,q⟩:=z;exact⟨d,f,e,n,l,q.fin⟩
theorem bq.fin{ds:List Dv}{ys:List V}(r:bq (Y.z (a::G)) M H h)(n:a∉G)(m:H a=O (.lst ys))(i:cj (Y.z (a::G)) M H ds ys):bq (Y.z G) (M++[a]) H (h++[.df ds]):=by
 have N:a∉M:=λz=>r.dj a z aw;refine⟨fk.mpr ⟨r.nd,by simp,λx f y p z=>?_⟩,λx f=>(bf.mp f).elim (λz y=>r.dj x z (aq _ y)) λz=>by rw[aQ.mp z];exact n,by rw[ae,ae,r.ln];rfl,λb q=>r.gs b (aq _ q),λj b o d e=>?_⟩;·rw[aQ.mp p]at z;subst z;exact N f
 ·by_cases g:j<M.length;·rw[aW g]at d;rw[aW (by rw[<-r.ln];exact g)]at e;exact(r.ob j b o d e).fin
  ·rw[aP (by lia)]at d;rw[aP (by rw[<-r.ln];lia),<-r.ln]at e;cases l:j-M.length with|zero=>rw[l]at d e;cases d;cases e;exact⟨ys,m,i.fin⟩|succ k=>rw[l]at d;cases d
end
def uI{n:Nat}{L:List Nat}{z x:Bool}{E1:XK}(hE:∀c H,x=J->E (.ref c) af H->E1 (.ref c) af H)(hj:j<n)(h:cJ (yx t X) E (zF n L j I T A z x) τ H QV):BW (Jp (yx t X) E I) (kM j) (jj (yx t X) E1 T) (cJ (yx t X) E1 A) (p9 n L) τ H QV:=by
 obtain⟨G,M,σ,h0,xc,Q,k,q⟩:=h;refine⟨G,M,σ,h0,xc,_,⟨k.rel,k.env,λP h1 M1 H1 e e1 r1 jo q=>?_,k.exc⟩,q⟩;unfold P6 at q;obtain⟨u,W,hz,w0,hP,turn,fin⟩:=q;have hz:=dI hz;intro s oG;obtain⟨naM,naG⟩:=r1.o9 oG;have ea:Ext M1 H1 M1 (cQ H1 s (.lst [])):=Ext.add oG;have v1:=k.env.ext k.rel e1;let Z:Tx:=(yx t X).z (s::G);have U4:s∈s::G:=aw;refine⟨λi m N ys R=>m=u.length-i/\i<=u.length/\R s=O (.lst ys)/\ys.length<=i/\∃F ds B,Ext M1 H1 F R/\bq Z F R B/\dw Z F R (gH n L σ) N/\cj Z F R ds ys/\W i ds B,⟨_,rfl,bG _,bF,bG _,M1,[],h1,ea,r1.JB oG,(AE v1 n L).JB oG r1,trivial,w0⟩,?_⟩;rintro i _ N ys R ⟨rfl,hi,ha,hly,F,ds,B,S,U,v2,p2,w⟩;refine⟨ha,?_⟩;obtain⟨ja,jb⟩:=jo (s::G) F R B u (y6 oG) S U (hP _ _ _ w);have nM:∀{M5 H5 h5},bq Z M5 H5 h5->s∉M5:=λr5 z=>r5.dj s z U4;by_cases mz:i<u.length
 ·obtain⟨g,y⟩:=ja i u[i] (aE mz);refine .inr ⟨g,by lia,λv oQ yl=>?_⟩;obtain⟨e3,r3,ip⟩:=y v oQ yl;have q:=turn i u[i] ds B (aE mz) w;have v4:dw Z F oQ ((gH n L σ).set j (O u[i])) (N.set j (O v)):=(v2.ext U e3).set ip;show jj (yx t X) E1 T (N.set j (O v)) oQ _;have gl:((gH n L σ).set j (O u[i])).length=(gH n L σ).length:=bp;have gg:∀i',n<=i'->((gH n L σ).set j (O u[i]))[i']?=(gH n L σ)[i']?:=λi' hi'=>aG (by lia);have ka:∀{M5 H5},Ext F oQ M5 H5->H5 s=O (.lst ys):=λK=>K.keep s _ (nM r3) (e3.keep s _ (nM U) ha);have p3:=p2.ext U e3;have ex:∀{M5 H5},Ext F oQ M5 H5->∀C u4 Pt JY,Ext M5 H5 Pt JY->bq Z Pt JY u4->x/\xc C u4->E1 (.ref (t.ca C)) af JY:=λK C u4 Pt JY x' r q=>hE _ _ q.1 (k.exc C u4 Pt JY ((e1.trans (S.trans e3)).trans (K.trans x')) r.dun q.2);refine⟨s::G,F,_,B,_,_,⟨r3,v4,λd h5 M5 H5 K r5 q5=>?_,ex Ext.refl⟩,q⟩;split at q5;·rename_i b hb;injection hb with hb;refine⟨b,hb,?_⟩;cases b with|true=>rw[bx rfl];refine⟨s::G,M5,_,h5,_,_,⟨r5,v4.ext r3 K,λd6 h6 M6 H6 v6 e6 r6 i6 q6=>?_,ex K⟩,q5⟩;have Qr:=K.trans e6;have Rt:=ka Qr;refine⟨Rt,u.length-(i+1),by lia,rfl,by lia,bF,by rw[ae];simp;lia,M6,ds++[d6],h6,?_,r6.chg rfl U4 Rt (nM r6),(rE gl gg (v4.ext r3 Qr)).chg rfl U4 Rt,((p3.ext r3 Qr).app (cj.one i6)).chg rfl U4 Rt,q6⟩;have Qq:=(S.trans e3).trans Qr;exact⟨Qq.pre,λb o hb ho=>by rw[bC (bS ho oG)];exact Qq.keep b o hb ho,Qq.new⟩|false=>rw[bE aK];exact⟨u.length-(i+1),by lia,rfl,by lia,ka K,by lia,M5,ds,h5,(S.trans e3).trans K,r5,rE gl gg (v4.ext r3 K),p3.ext r3 K,q5⟩
  ·exact q5.elim
 ·have hx:i=u.length:=by lia
  subst hx;refine .inl ⟨jb,?_⟩;have f:=fin ds B w
  cases z with|true=>
   change match ud ds with|some u=>Q [.p (.lst u)] B|none=>False at f;split at f;·rename_i ps ep;refine k.out _ B F R (.ref s) (e1.trans S) U.dun ?_ f;unfold cZ bR;exact⟨s,ys,rfl,⟨nM U,naG⟩,ha,aO.wk DJ (rS ep p2)⟩
   ·exact f.elim|false=>
   have f:Q [.r B.length] (B++[Ob.df ds]):=f;refine k.out (.r B.length) (B++[Ob.df ds]) (F++[s]) R (.ref s) (e1.trans ⟨?_,S.keep,λb hb hn=>?_⟩) (U.fin naG ha p2) ⟨s,?_,rfl⟩ f;·obtain⟨l,hl⟩:=S.pre;exact⟨l++[s],by rw[hl,aA]⟩
   ·rcases bf.mp hb with z|z;·exact S.new b z hn
    ·rw[aQ.mp z];exact oG
   ·rw[<-U.ln,aP (aB _),fY];rfl
def FX(c:Nat)(C:Ct)(i:Nat)(b:Hs)(d:XP)(Q:Dv->Hs->Prop):Prop:=match b[i]? with|some (.ins e _)=>gd (aa3 e c) (C [.r i] b Q d)|_=>False
def Ou(c:Nat)(C:Ct)(A:Sm):Sm:=λb σ h Q=>A b σ h λs e=>match s with|[.r i]=>FX c C i e b λd f=>Q [d] f|_=>False
def lm(c:Nat)(C:Ct)(A:Sm):Sm:=λe σ h Q=>A e σ h λds b=>C (.r b.length::ds) (b++[.ins c []]) (λd f=>gd (DO d) (Q [.r b.length] f)) λ_ _=>False
def p4(c j:Nat)(n:Int)(i:Nat)(b:Hs)(K:Hs->Prop):Prop:=match b[i]? with|some (.ins d fs)=>gd (aa3 d c&&aa5 (fs.length+1) 1000) (match fs[j]? with|some (.p (.int k))=>K (b.set i (.ins c (fs.set j (.p (.int (k+n))))))|_=>False)|_=>False
def VR(c j:Nat)(n:Int)(B:Sm):Ss:=λN σ h=>B N.xc σ h λs b=>match s with|[.r i]=>p4 c j n i b λd=>N.nx σ d|_=>False
section
variable{a:Expr}{b4:List Expr}{B:Sm}{pos p b5 dP:Pos}{G:List Addr}
theorem xH{f:Str}:∀{fv:List (Str×V)},f∉fv.map (·.1)->fv.lookup f=af|[],_=>rfl|(g,w)::fv,h=>by rw[aY,aJ,not_or]at h;rw[fN,show(f==g)=a7 from cu.mpr h.1];exact xH h.2
def abQ{n m:Str}(D:wy X.prog X.w X.K X.mg X.base (oP X.prog X.w) k0 (t.ca c) m ps (iH (yx t X) C))(S:PE X (.Name n p) (cJ (yx t X) E A))(U:uu X.K t c)(W:m∉t.fl c)(Z:dQ k0 X.A)(hp:eu (oP X.prog X.w) X E)(hl:(b5.endLine==dP.line)):PE X (.Call (.Attribute (.Name n p) m b5) [] [] dP) (cJ (yx t X) E (Ou c C A)):=(MT D S U.cl Z hp hl).imp λτ H QV ⟨G,M,σ,h,f,Q,k,q⟩=>by refine⟨G,M,σ,h,f,_,⟨k.rel,k.env,λd g M1 H1 v y F i1 b=>?_,k.exc⟩,q⟩;cases d with|p _=>exact b.elim|r i=>
  change match g[i]? with|some (.ins L _)=>gd (aa3 L c) (C [.r i] g (λd e=>Q [d] e) f)|_=>False at b;split at b;·rename_i L fs ho;obtain⟨ec,q9⟩:=bB b;clear b;obtain rfl:=ax ec;obtain⟨a,N,rfl⟩:=i1;obtain⟨dx,fv,s1,_,l1,P⟩:=F.at' N ho;refine⟨a,dx,fv,rfl,s1,xH λz=>W (by rw[l1]at z;exact ie z),?_⟩;exact⟨G,M1,g,[.r i],_,f,F,⟨⟨a,N,rfl⟩,trivial⟩,q9,λd2 e l o w s R P u=>k.out d2 e l o w (y.trans s) R P u,λc e l o s R u=>k.exc c e l o (y.trans s) R u⟩
  ·exact b.elim
def Vo{d:List Dv}{vs:List V}{Q:KP}{x b:Addr}(r:bq (Y.z G) M H h)(i:cj (Y.z G) M H d vs)(q:C (.r h.length::d) (h++[.ins c []]) (λd f=>gd (DO d) (Q [.r h.length] f)) λ_ _=>False)(out:∀d h' M' H' v,Ext M H M' H'->bq (Y.z G) M' H' h'->cZ (Y.z G) M' H' d v->Q [d] h'->QV v H')(P:H x=af)(N:H b=af)(R:b≠x):iH Y C (.ref x::(vs++[])) (cQ (cQ H b (.own x)) x (.ins (Y.t.ca c) b [])) (λv g=>v=.non/\QV (.ref x) g) E0:=by
 have n:cQ H b (.own x) x=none:=by rw[bC (bY R)];exact P
 have l:bq (Y.z G) M (cQ H b (.own x)) h:=r.add N;have m:Ext M H (M++[x]) (cQ (cQ H b (.own x)) x (.ins (Y.t.ca c) b [])):=(Ext.add N).trans (Ext.push l n);have S:=bq.push (o:=.ins c []) (u:=.ins (Y.t.ca c) b []) l n ⟨b,[],bF,by rw[bC R];exact bF,rfl,trivial⟩;have s:(M++[x])[h.length]?=O x:=by rw[<-r.ln,aP (aB _),fY];rfl
 rw[aM];refine⟨G,M++[x],h++[.ins c []],.r h.length::d,_,λ_ _=>False,S,⟨⟨x,s,rfl⟩,i.ext r m⟩,q,λy f F g w k K U e=>?_,λc f F g k K e=>e.elim⟩;obtain⟨L,e⟩:=bB e;have dn:y=.p .non:=by cases y with|r _=>cases L|p d=>cases d<;>first|rfl|cases L
 subst dn;exact⟨JV U,out (.r h.length) f F g (.ref x) (m.trans k) K ⟨x,k.at s,rfl⟩ e⟩
def abR(D:sT X.prog X.w X.K X.mg X.base k0 x (t.ca c) ps (iH (yx t X) ct))(r:dQ (k0+1) X.A)(g:Gl X x)(b:PA X (a::b4) (gF (yx t X) E A))(i:(x==("__debug__":Str))=a7)(U:(a::b4).all cm):PE X (.Call (.Name x p) (a::b4) [] pos) (cJ (yx t X) E (lm c ct A)):=(By D r g b i U).imp λτ H QV ⟨G,M,σ,h,e,Q,k,q⟩=>by refine⟨G,M,σ,h,e,_,⟨k.rel,k.env,λd W Z H1 v f R l m=>?_,k.exc⟩,q⟩;exact λx dx n N o=>Vo (Y:=yx t X) R l m (λs u y z w F L P S=>k.out s u y z w (f.trans F) L P S) n N o
def Ze(D:sT X.prog X.w X.K X.mg X.base k0 x (t.ca c) ps (iH (yx t X) ct))(r:dQ (k0+1) X.A)(g:Gl X x)(i:(x==("__debug__":Str))=a7):PE X (.Call (.Name x p) [] [] pos) (cJ (yx t X) E (lm c ct EE)):=(IL D r g i).imp λτ H QV ⟨G,M,σ,h,b,Q,k,q⟩=>λx e n N R=>Vo (Y:=yx t X) (d:=[]) (vs:=[]) k.rel trivial q k.out n N R
def QC{n:Int}{f:Str}(b:uu X.K t c)(l:(t.fl c)[j]?=O f)(h:fQ (yx t X) E (VR c j n B) D τ H):GA X.K (cJ (yx t X) E B) (tC (.int n)) QO f D τ H:=by obtain⟨G,M,σ,h,N,k,q⟩:=h;refine⟨G,M,σ,h,N.xc,_,⟨k.rel,k.env,λd U M1 H1 v W R i1 Q=>?_,k.exc⟩,q⟩;cases d with|p _=>exact Q.elim|r i=>
  change match U[i]? with|some (.ins m fs)=>gd (aa3 m c&&aa5 (fs.length+1) 1000) (match fs[j]? with|some (.p (.int k))=>N.nx σ (U.set i (.ins c (fs.set j (.p (.int (k+n))))))|_=>False)|_=>False at Q;split at Q
  ·rename_i m fs ho;obtain⟨s,Q⟩:=bB Q;obtain⟨s,c2⟩:=ag s;obtain rfl:=ax s;have hl:=bg c2;split at Q
   ·rename_i e Z;obtain⟨a,u,rfl⟩:=i1;have y:a∈M1:=aZ u;obtain⟨g,F,s1,s2,l1,L⟩:=R.at' u ho;obtain⟨w,g1,g2⟩:=L.get Z;have P:fs.length=F.length:=by have:=L.len;rw[ak]at this;exact this
    rw[P]at l1;have U3:j<F.length:=by rw[<-P];exact(ai.mp Z).1
    have S:g≠a:=λz=>by rw[z,s1]at s2;cases s2
    refine⟨a,_,g,F,w,rfl,s1,b.cl,b.na f (aZ l),nQ b.nd l1 l g1,e,n,d9 g2,rfl,g,F,s1,by lia,?_⟩;obtain⟨p1,p2,p3⟩:=zx (v:=.int (e+n)) b.nd l1 l U3;refine k.nx σ _ M1 _ τ (W.trans (Ext.put y)) (R.put (o:=.ins m (fs.set j (.p (.int (e+n))))) u ⟨g,_,bF,by rw[bC S];exact s2,?_,?_⟩) (k.env.ext k.rel (W.trans (Ext.put y))) Q;·rw[p1,l1,bp,P]
    ·rw[p2];exact(L.set (x:=.p (.int (e+n))) ef j).ext R (Ext.put y)
   ·exact Q.elim
  ·exact Q.elim
end
end F
namespace L2
def vf{X:Cx}:Ca X "list.extend" λx vs H Q=>∃l b xs Z,x=.ref l/\vs=[.ref b]/\H l=O (.lst xs)/\eL X.K H b Z/\xs.length+Z.length<=sizeLine/\Q .non (cQ H l (.lst (xs++Z))):=by
 intro p s σ H x vs v U Q I c d h;obtain⟨l,b,xs,Z,rfl,rfl,a,B,w,q⟩:=h;cases c;obtain⟨u,rfl,f⟩:=d.one;cases f;obtain⟨z,i,n,r,y,e⟩:=I.Bp a;obtain⟨j,R,⟨⟨oc,g,o,t⟩,E,k,n2,cp⟩,_⟩:=I.tuple B;have l1:=r.length;have l2:=R.length;have A:i.toArray.size+j.toArray.size<=sizeLine:=by rw[aD,aD];lia
 have m:¬(!i.toArray.isEmpty&&ad3 (i.toArray.size+j.toArray.size))=true:=by rw[vk A,nW];exact aK
 obtain rfl:oc=af3 "tuple":=k;obtain rfl:o=Data.seq j.toArray n2:=cp;refine eO pV ⟨_,e,rfl⟩ PySem.F.entry_list_extend (PySem.F.args_list_extend_2 _ _) (AY l i.toArray n b j.toArray n2 g t m (by rw[aD];lia) (by lia)) ⟨e,E,?_⟩;refine⟨.non,_,I.RD (its':=i++j) a e (by simp) (r.append R) ?_,rfl,q⟩;rw[ae];lia
end L2
namespace F
open L2
def Bg(h:Hs)(d:Dv):Option (List Dv):=match j4 h d with|some x=>O (x.map .p)|none=>mY h d
def oM:OM:=λx ds h Q=>match ds with
 |[]=>match x with
  |.r i=>match h[i]? with|some (.lst X)=>iw X[X.length-1]? (λy=>Q (.p y) (h.set i (.lst X.dropLast))) False|some (.df X)=>iw X[X.length-1]? (λy=>Q y (h.set i (.df X.dropLast))) False|_=>False
  |_=>False
 |_=>False
def Yz:OM:=λx ds h Q=>match x,ds with
 |.r i,[d]=>match h[i]? with
  |some (.lst X)=>match vM h d with|some y=>gd (iz (X.length+y.length)) (Q (.p .non) (h.set i (.lst (X++y))))|none=>False
  |_=>False
 |_,_=>False
def YF:OM:=λx ds h Q=>match x,ds with|.p (.str z),[.p (.str y)]=>Q (.p (.bl (ae0 z y))) h|_,_=>False
def YE:OM:=λx ds h Q=>match x,ds with|.p (.str z),[.p (.str y)]=>gd (!Nat.beq y.length 0&&(iz z.length&&(iz (ad4 z (ab3 z y 0 z.length (z.length+1)) y.length).length&&iz (ac9 z y).length))) (Q (.p (.lst ((ac9 z y).map .str))) h)|_,_=>False
def YA:OM:=λx ds h Q=>match x,ds with
 |.p (.str z),[d]=>match j4 h d with|some X=>iw (lS X) (λy=>gd (aa5 ((y.map (·.length)).sum+y.length*z.length) 16777216) (Q (.p (.str (ah5 z y))) h)) False|none=>False
 |_,_=>False
def Mq:ON:=λds h Q=>match ds with|[.p (.str z)]=>iw (ab2 z) (λn=>gd (aa5 z.length 640) (Q (.p (.int n)) h)) False|_=>False
def nh:O2:=λx y h Q=>match Bg h x,Bg h y with|some X,O Y=>gd (iz (X.length+Y.length)) (Q (.r h.length) (h++[.df (X++Y)]))|_,_=>False
section
variable{Y:T0}{G M:List Addr}{H:Hp}{h:Hs}
theorem aO.ds{Z:Tx}:∀{xs:List Pv}{vs:List V},aO Z M H xs vs->cj Z M H (xs.map .p) vs|[],[],_=>trivial|[],_::_,q=>by unfold aO at q;exact q.elim|_::_,[],q=>by unfold aO at q;exact q.elim|_::_,_::_,q=>by unfold aO at q;exact⟨q.1,aO.ds q.2⟩
def FT{x:Dv}{v:V}{xs:List Dv}(r:bq (Y.z G) M H h)(i:cZ (Y.z G) M H x v)(e:Bg h x=O xs):∃a vs,v=.ref a/\H a=O (.lst vs)/\cj (Y.z G) M H xs vs:=by
 unfold Bg at e;split at e;·rename_i s y;cases e;obtain⟨a,vs,E,s1,I⟩:=fO r i y;exact⟨a,vs,E,s1,I.ds⟩
 ·obtain⟨_,a,vs,_,_,E,s1,I⟩:=tX r i e;exact⟨a,vs,E,s1,I⟩
theorem aO.AX{Z:Tx}:∀{xs:List Pv}{vs:List V},aO Z M H xs vs->aO Z M H xs.dropLast vs.dropLast|[],[],q=>q|[],_::_,q=>by unfold aO at q;exact q.elim|_::_,[],q=>by unfold aO at q;exact q.elim|[_],[_],_=>by unfold aO;trivial|[_],_::_::_,q=>by unfold aO at q;have:=q.2;unfold aO at this;exact this.elim|_::_::_,[_],q=>by unfold aO at q;have:=q.2;unfold aO at this;exact this.elim|_::_::_,_::_::_,q=>by unfold aO at q;rw[U2,U2];unfold aO;exact⟨q.1,aO.AX q.2⟩
theorem cj.AX{Z:Tx}:∀{xs:List Dv}{vs:List V},cj Z M H xs vs->cj Z M H xs.dropLast vs.dropLast|[],[],q=>q|[],_::_,q=>q.elim|_::_,[],q=>q.elim|[_],[_],_=>trivial|[_],_::_::_,q=>q.2.elim|_::_::_,[_],q=>q.2.elim|_::_::_,_::_::_,q=>⟨q.1,cj.AX q.2⟩
def Rf:wz Y L1 oM:=λG M h H x X v k Q u r i m q out=>by
 unfold oM iw at q;split at q
 ·have t:k=[]:=by cases k with|nil=>rfl|cons _ _=>exact m.elim
  subst t;split at q
  ·rename_i n;obtain⟨a,d,l⟩:=i;have c:a∈M:=aZ d;split at q
   ·rename_i s e;split at q;·rename_i y E;obtain⟨W,f,b⟩:=r.at' d e;obtain⟨w,g,j⟩:=b.get E;refine⟨a,W,w,l,rfl,f,by rw[<-b.len];exact g,?_⟩;exact out (.p y) _ M _ w (Ext.put c) (r.put (o:=.lst s.dropLast) d ⟨_,bF,b.AX.ext r (Ext.put c)⟩) (j.ext r (Ext.put c)) q
    ·exact q.elim
   ·rename_i s e;split at q;·rename_i y E;obtain⟨W,f,b⟩:=r.at' d e;obtain⟨w,g,j⟩:=b.get E;refine⟨a,W,w,l,rfl,f,by rw[<-b.len];exact g,?_⟩;exact out y _ M _ w (Ext.put c) (r.put (o:=.df s.dropLast) d ⟨_,bF,b.AX.ext r (Ext.put c)⟩) (j.ext r (Ext.put c)) q
    ·exact q.elim
   ·exact q.elim
  ·exact q.elim
 ·exact q.elim
def Q6:wz Y (λx xs H Q=>zA x xs H Q\/∃l b f Z,x=.ref l/\xs=[.ref b]/\H l=O (.lst f)/\eL Y.K H b Z/\f.length+Z.length<=sizeLine/\Q .non (cQ H l (.lst (f++Z)))) Yz:=λG M h H x xs v C Q t r i y q out=>by
 unfold Yz at q;split at q
 ·rename_i n d;obtain⟨w,rfl,j⟩:=y.kQ;obtain⟨a,g,m⟩:=i;have p:a∈M:=aZ g;split at q
  ·rename_i A B;split at q
   ·rename_i Z e;obtain⟨c,q⟩:=bB q;have c:=dI c;obtain⟨W,s,k⟩:=r.at' g B;have fin:∀u,aO (Y.z G) M H Z u->t .non (cQ H a (.lst (W++u))):=λu I=>out _ _ M _ .non (Ext.put p) (r.put (o:=.lst (A++Z)) g ⟨_,bF,(k.app I).ext r (Ext.put p)⟩) nL q;unfold vM at e;split at e;·cases e;obtain⟨b,u,rfl,sq,I⟩:=lZ j;exact .inr ⟨a,b,W,u,m,rfl,s,sq,by rw[<-k.len,<-I.len];exact c,fin u I⟩
    ·obtain⟨b,u,rfl,sq,I⟩:=fO r j e;exact .inl ⟨a,b,W,u,m,rfl,s,sq,by rw[<-k.len,<-I.len];exact c,fin u I⟩
   ·exact q.elim
  ·exact q.elim
 ·exact q.elim
def Rh:wz Y (λx xs H Q=>∃(z y:Str),x=.str z/\xs=[.str y]/\Q (.bl (ae0 z y)) H) YF:=λG M h H x xs v s Q b r i a q out=>by
 unfold YF at q;split at q;·obtain⟨w,rfl,j⟩:=a.kQ;exact⟨_,_,eV i,by rw[eV j],out _ h M H _ Ext.refl r gX q⟩
 ·exact q.elim
def Rg:wz Y (λx xs H Q=>∃(z y:Str),x=.str z/\xs=[.str y]/\(y.length==0)=a7/\z.length<=sizeLine/\(ad4 z (ab3 z y 0 z.length (z.length+1)) y.length).length<=sizeLine/\(ac9 z y).length<=sizeLine/\∀l,H l=af->Q (.ref l) (cQ H l (.lst ((ac9 z y).map V.str)))) YE:=λG M h H x xs v s Q g r i b q out=>by
 unfold YE at q;split at q;·rename_i z y;obtain⟨w,rfl,j⟩:=b.kQ;obtain⟨c,q⟩:=bB q;obtain⟨C,d,e,f⟩:=kI c;have C:aa3 y.length 0=false:=iF C;exact⟨z,y,eV i,by rw[eV j],(cu.mpr λz=>by rw[z]at C;cases C),dI d,dI e,dI f,λl a=>out _ h M _ _ (Ext.add a) (r.add a) (jM r a (kO (Y:=Y))) q⟩
 ·exact q.elim
def Q8:wz Y (λx xs H Q=>∃(z:Str)(l:Addr)(ys:List Str),x=.str z/\xs=[.ref l]/\H l=O (.lst (ys.map V.str))/\(ys.map (·.length)).sum+ys.length*z.length<=16777216/\Q (.str (ah5 z ys)) H) YA:=λG M h H x xs v s Q d r i b q out=>by
 unfold YA iw at q;split at q
 ·obtain⟨w,rfl,j⟩:=b.kQ;split at q
  ·rename_i ys e;split at q;·rename_i W E;obtain⟨c,q⟩:=bB q;obtain⟨a,u,rfl,s1,I⟩:=fO r j e;rw[zP E I]at s1;exact⟨_,a,W,eV i,rfl,s1,bg c,out _ h M H _ Ext.refl r kf q⟩
   ·exact q.elim
  ·exact q.elim
 ·exact q.elim
def Lo:rj Y (λxs H Q=>∃(z:Str)(n:Int),xs=[.str z]/\ab2 z=O n/\z.length<=640/\Q (.int n) H) Mq:=λG M h H xs s Q a r I q out=>by
 unfold Mq iw at q;split at q
 ·obtain⟨v,rfl,i⟩:=I.kQ;split at q;·rename_i n hn;obtain⟨c,q⟩:=bB q;exact⟨_,n,by rw[eV i],hn,bg c,out _ h M H _ Ext.refl r ef q⟩
  ·exact q.elim
 ·exact q.elim
def Ll:jf Y Zz nh:=λG M h H x y v u Q g r i j q out=>by
 unfold nh at q;split at q;·rename_i X s ex E;obtain⟨c,q⟩:=bB q;obtain⟨a,f,rfl,s1,I⟩:=FT r i ex;obtain⟨b,U,rfl,s2,e⟩:=FT r j E;refine⟨a,b,f,U,rfl,rfl,s1,s2,by rw[<-I.len,<-e.len];exact dI c,λp d=>?_⟩;refine out (.r h.length) _ (M++[p]) _ _ (Ext.push r d) (r.push (o:=.df (X++s)) d ⟨_,bF,(I.app e).ext r (Ext.push r d)⟩) ⟨p,?_,rfl⟩ q;rw[<-r.ln,aP (aB _),fY];rfl
 ·exact q.elim
end
def ε:Bo:=⟨nh,.Add,λ_ _=>⟨_,MH,Ll⟩⟩
def aac:Bi:=⟨Mq,"int",λ_ h H a hn i d=>xO wD Lo h H CQ a hn i d⟩
def XJ:Mt:=⟨4,Yz,"extend",λh H b p l hn=>xQ (c:=4) cA pV Wf (Ca.or xI vf) Q6 h H b p l hn⟩
def L7:Mt:=⟨0,YF,"startswith",λh H b p l hn=>xQ (c:=0) jV PySem.F.slot_str_startswith PySem.F.type_str_startswith wQ Rh h H b p l hn⟩
def VA:Mt:=⟨0,YE,"split",λh H b p l hn=>xQ (c:=0) jV jW PySem.F.type_str_split Me Rg h H b p l hn⟩
def Yq:Mt:=⟨0,YA,"join",λh H b p l hn=>xQ (c:=0) jV PySem.F.slot_str_join PySem.F.type_str_join RI Q8 h H b p l hn⟩
noncomputable def Yr:M0:=⟨4,oM,"pop",λh H hn=>Zc (c:=4) (id:="list.pop") (Y2 cA PySem.F.slot_list_pop PySem.F.type_list_pop Ys h H hn) Rf⟩
structure Jg(Γ:Gm)(t:Tb)where
 m:Ig
 ck:Sx->Expr->Expr->Bool
 pi:∀{k S X E tx x},rk Γ t k S X E->ck S tx x->PI X tx x (Jp (yx t X) E m)
def NP(t:Str->Option (List Str))(f:Nat->Ct)(o:List Nat)(A R:Sm):Sm:=λx σ h Q=>A x σ h λX H=>match X with|[.p (.str z)]=>iw (t z) (λk=>gd (gO k.length o) (R x σ H λds a=>f k.length ds a (λd b=>Q [d] b) x)) False|_=>False
def agI(t:Str->Option (List Str)):O1:=λx h Q=>match x with|.p (.str z)=>Q (.p (.bl (t z).isSome)) h|_=>False
def ag5(b:Ss):Ss:=λN σ h=>∃W:Nat->Es->Hs->Prop,(∃m,W m σ h)/\∀m c d,W m c d->b {N with nx:=λa H=>∃M,M<m/\W M a H,ct:=λa H=>∃M,M<m/\W M a H,bk:=N.nx} c d
section
variable{Γ:Gm}{t:Tb}
noncomputable def Jg.p(j:Jm Γ t):Jg Γ t:=⟨Q2 (wM j.m),j.ck,λo h=>(j.pi o h).imp λ_ _ _=>aaY⟩
noncomputable def Jg.l(A:Em Γ t):Jg Γ t:=⟨L0 A.m,λS _ x=>A.ck S x,λo h=>SM (A.pe o h)⟩
def MX{X:Cx}{E:XK}{k:Nat}{n:Str}{ad:Addr}{g:Str->Option (List Str)}{N:Nat->Ct}{S:List Nat}{e a:Expr}{b:List Expr}{p q pos:Pos}{A R:Sm}(T:Aq X.w X.K X.mg t.fI ad g)(D:∀i∈S,∃ps,mK X.prog X.w X.K X.mg X.base k (t.fI i) ps (iH (yx t X) (N i)))(Y:dQ k X.A)(Z:eu (oP X.prog X.w) X E)(hg:Gl X n)(hm:X.mg n=O (.ref ad))(hd:(n==("__debug__":Str))=a7)(he:PE X e (cJ (yx t X) E A))(hs:nF e)(ha:PA X (a::b) (gF (yx t X) E R))(dU:(a::b).all cm):PE X (.Call (.Subscript (.Name n p) e q) (a::b) [] pos) (cJ (yx t X) E (NP g N S A R)):=(MN (Bx (Rq T) (e9 (v:=.ref ad) hg hm rfl hd) he hs) Y Z ha dU).imp λτ H QV ⟨G,M,σ,h,x,Q,k,q⟩=>by refine⟨G,M,σ,h,x,_,⟨k.rel,k.env,λd h1 M1 H1 v m r1 i1 j=>?_,k.exc⟩,q⟩;cases d with|r _=>exact j.elim|p d=>cases d with|str z=>have j:iw (g z) _ False:=j;obtain⟨P,hk,o⟩:=Gb j;obtain⟨c,l⟩:=bB o;obtain⟨ps,f,fd,F,s,u,hb⟩:=D P.length (cC.mp c);refine⟨rfl,z,P,eV i1,hk,λf' U=>?_⟩;rw[s]at U;cases U;refine⟨f,fd,ps,_,rfl,F,u,hb,G,M1,σ,h1,x,_,⟨r1,k.env.ext k.rel m,λds h2 M2 H2 vs W r2 i2 o=>?_,k.Qw m⟩,l⟩;exact⟨G,M2,h2,ds,_,x,r2,i2,o,λd3 y B C w I L i3 l=>k.out d3 y B C w (m.trans (W.trans I)) L i3 l,λc y B C I L l=>k.exc c y B C (m.trans (W.trans I)) L l⟩|_=>exact j.elim
namespace Em
def sf(i:Nat)(A:Am Γ t):Em Γ t:=⟨NR (Γ.fn i) A.m,λS x=>gO i Γ.oS&&y_ S (S.fI i) A x,λ{k S X E x}o h=>by obtain⟨s,D⟩:=o.fn i (cC.mp (ag h).1);rw[<-o.fI]at D;exact uE o (ag h).2 λ_ _ _ _ H d hn p P=>(zt D o.hr o.hp H p d P).imp λ_ _ _=>Jo⟩
def Ci(c:Nat)(a:Em Γ t):Em Γ t:=⟨Ou (c/100-1) (Γ.qO c) a.m,λS=>jP λg s K q=>aa5 100 c&&(gO c Γ.l8&&(gO (c/100-1) S.O5&&!dH (S.Cf c) (S.fl (c/100-1))))&&(FR K&&(Bc s&&zX (λb m p=>bA m (S.Cf c)&&(p.endLine==q.line&&(a.ck S b&&sL (λ_ _=>J) b))) g)),λ{k S X E x}o h=>by refine eK h λg s K q h=>?_;obtain⟨i,h⟩:=ag h;obtain⟨d,e,f,H⟩:=kI i;obtain⟨j,h⟩:=ag h;obtain⟨l,h⟩:=ag h;rw[iE j,jL l];refine lV h λb m p h=>?_;obtain⟨r,u,v,y⟩:=kI h;obtain⟨P,D⟩:=o.qO c (cC.mp e);replace D:=XT d D;obtain⟨C,A⟩:=o.cls _ (cC.mp f);rw[aT.mp r];have z:=a.pe o v;revert z;refine iY y λn B _ z=>?_;exact abQ (D.mono (Nat.le_succ k)) z C (λw=>by rw[A]at w;rw[tR w]at H;cases H) o.hr o.hp u⟩
def nw(c:Nat)(A:Am Γ t):Em Γ t:=⟨lm c (Γ.qO c) A.m,λS x=>!Nat.ble 100 c&&gO c Γ.l8&&y_ S (S.Cf c) A x,λ{k S X E x}o h=>by obtain⟨s,D⟩:=o.qO c (cC.mp (ag (ag h).1).2);replace D:=DK (iF (ag (ag h).1).1) D;exact uE o (ag h).2 λ_ _ _ _ H d hn p P=>abR D o.hr H p d P⟩
def nw0(c:Nat):Em Γ t:=⟨lm c (Γ.qO c) EE,λS=>jP λf s K _=>!Nat.ble 100 c&&gO c Γ.l8&&(FR K&&(Bc s&&DM S (S.Cf c) f)),λ{k S X E x}o h=>by refine eK h λf s K q h=>?_;obtain⟨H,h⟩:=ag h;obtain⟨a,b,d⟩:=pZ h;obtain⟨P,D⟩:=o.qO c (cC.mp (ag H).2);replace D:=DK (iF (ag H).1) D;obtain⟨p,e,g,i,hn⟩:=gY o d;rw[iE a,jL b,e];exact Ze D o.hr g i⟩
def clf(i:Nat)(A:Em Γ t)(R:Am Γ t):Em Γ t:=⟨NP (Γ.tab i) Γ.fn Γ.oS A.m R.m,λS=>jP λf s K _=>aa5 100 i&&gO i Γ.tok&&(FR K&&(!Bc s&&R.ck S s&&B4 (λa e _=>DM S (S.Z3 i) a&&(xJ e&&A.ck S e)) f)),λ{k S X E x}o h=>by refine eK h λf s K q h=>?_;obtain⟨d,h⟩:=ag h;obtain⟨g,j,l⟩:=pZ h;obtain⟨H,c⟩:=ag j;rw[iE g];refine nV l λa e p h=>?_;obtain⟨n,r,u⟩:=pZ h;obtain⟨C,v,w,y,hn⟩:=gY o n;obtain⟨ad,z,T⟩:=o.tab i (cC.mp (ag d).2);replace T:=Oj (ag d).1 T;rw[v];cases s with|nil=>cases H|cons b s=>obtain⟨P,B⟩:=R.pa o c;exact MX T o.fn o.hr o.hp w z y (A.pe o u) (DQ r) P B⟩
def Fi(n:Nat)(b:List Nat)(j:Nat)(a:Jg Γ t)(F:Fm Γ t)(A:Em Γ t)(z:Bool):Em Γ t:=⟨zF n b j a.m F.m A.m z a7,λS x=>S.fr&&C0 S n b (.one j) a.ck F A.ck x,λo h=>nJ o (ag h).2 λN T ix i e v p c d g k l q r u=>(vo (o.fx (ag h).1).1 (o.fx (ag h).1).2 c o.hc d (a.pi o g) (λf s H=>l (tw o _ _ f s H)) (λf s H=>F.pf (tw o _ _ f s H) q) (λf s H=>A.pe (tw o _ _ f s H) r) u).imp λ_ _ _=>uI (λ_ _ z=>by cases z) (aX k)⟩
def WY(n:Nat)(b:List Nat)(j:Nat)(a:Jg Γ t)(F:Fm Γ t)(A:Em Γ t)(z:Bool):Em Γ t:=⟨zF n b j a.m F.m A.m z J,λS x=>S.fr&&C0 S n b (.one j) a.ck F A.ck x,λo h=>nJ o (ag h).2 λN T ix i e v p c d g k l q r u=>(vo (o.fx (ag h).1).1 (o.fx (ag h).1).2 c o.hc d (a.pi o g) (λf s H=>l (tw o _ _ f s H)) (λf s H=>F.pf (tw o _ _ f s H) q) (λf s H=>A.pe (tw o _ _ f s H) r) u).imp λ_ _ _=>uI (λ_ _ _ z=>z) (aX k)⟩
end Em
def Tm.tin(i:Nat)(A:Em Γ t):Tm Γ t:=⟨s1 (agI (Γ.tab i)) A.m,λS=>Jv λa os bs _=>lO (l1 os) λo=>lO (l1 bs) λb=>decide (o=.In)&&(aa5 100 i&&gO i Γ.tok&&(DM S (S.Z3 i) b&&A.ck S a)),λ{k S X E x}o h=>by refine uk h λa os bs q h=>?_;obtain⟨F,e,h⟩:=cw h;obtain⟨b,j,h⟩:=cw h;obtain⟨c,g,l,n⟩:=kI h;obtain⟨P,s,u,w,hn⟩:=gY o l;obtain⟨ad,y,T⟩:=o.tab i (cC.mp (ag g).2);replace T:=Oj (ag g).1 T;rw[fA e,fA j,aX c,s];refine(uc (YR T) (A.pe o n) (e9 (v:=.ref ad) u y rfl w) (tY rfl)).imp λτ H K h=>?_;obtain⟨G,M,σ,h,B,Q,k,q⟩:=BZ h;refine⟨G,M,σ,h,B,_,⟨k.rel,k.env,λd c C D v e R I f=>?_,k.exc⟩,q⟩;cases d with|r _=>exact f.elim|p d=>cases d with|str z=>exact⟨rfl,z,eV I,k.out _ c C D _ e R gX f⟩|_=>exact f.elim⟩
namespace Mm
def foG(j:Nat)(a:Jg Γ t)(B:Ms Γ t):Mm Γ t:=⟨VS j a.m B.m,λS=>Ul λT ix b e _=>Bc e&&(pF ix&&(ij S (.one j) T&&(a.ck S T ix&&B.ck S b))),λo h=>by refine GZ h λT ix b e p h=>?_;obtain⟨H,h⟩:=ag h;obtain⟨c,h⟩:=ag h;obtain⟨d,h⟩:=ag h;obtain⟨f,g⟩:=ag h;rw[jL H];exact(Nk o.po o.x.hc (a.pi o.x f) (Gg o.x.hc o.x.hN o.x.hs o.nd o.hf d) (B.ps o g) λ_=>yN c).imp λ_ _ _=>QJ⟩
def whG(T:Tm Γ t)(B:Ms Γ t):Mm Γ t:=⟨GD T.m B.m,λS=>Us λc b e _=>Bc e&&(T.ck S c&&B.ck S b),λo h=>by refine G2 h λc b e p h=>?_;obtain⟨H,h⟩:=ag h;obtain⟨a,d⟩:=ag h;rw[jL H];exact(BB o.po (T.pt o.x a) (B.ps o d)).imp λ_ _ _=>x5⟩
def whT(B:Ms Γ t):Mm Γ t:=⟨ag5 B.m,λS=>Us λc b e _=>Bc e&&(yC (.bl J) c&&B.ck S b),λo h=>by
 refine G2 h λc b e p h=>?_;obtain⟨d,h⟩:=ag h;obtain⟨a,f⟩:=ag h;rw[jL d];have v:d_ c=true:=by revert a;exact λa=>lW a λ_ _ _ _=>rfl
 refine(BB o.po (OG v (Ky (p:=.bl J) a)) (B.ps o f)).imp λD τ H q=>x5 (T:=sC (.bl J)) ?_;obtain⟨G,M,σ,h,N,k,q⟩:=q;exact⟨G,M,σ,h,N,k,q⟩⟩
def aff(c j:Nat)(n:Int)(B:Em Γ t):Mm Γ t:=⟨VR c j n B.m,λS=>Z7 λa o b _=>decide (o=.Add)&&(Jw (λc _ _=>UH (.int n) c) b&&zX (λd f _=>gO c S.O5&&(Bu f j (S.fl c)&&B.ck S d)) a),λo h=>by refine Ui h λa r b P h=>?_;obtain⟨e,H,g⟩:=pZ h;rw[aX e];refine lV g λd f p h=>?_;obtain⟨i,k,l⟩:=pZ h;refine lW H λs u v H=>?_;rw[EY H];obtain⟨C,q⟩:=o.x.cls c (cC.mp i);exact(IV (B.pe o.x l) vp XS).imp λ_ _ _=>QC C (by rw[q];exact lL k)⟩
end Mm
end
end F
namespace L2
structure Ap(K:Frag)(mg:b')(x nm:Str)(st:Stmt)(ps:List Str):Prop where ex:∃(f:Addr)(fd:dL),JX K nm nm st f fd/\mg x=O (.ref f)/\Binds K fd ps []
def Ap.YJ{P:cf}{w:b7}{K:Frag}{m:b'}{b:Heap}{x nm:Str}{st:Stmt}{ps N:List Str}{k:Nat}{sp:Sp}(S:Ap K m x nm st ps)(F:dD N ps (aL st))(len:∀vs H Q E,sp vs H Q E->vs.length=ps.length)(c:∀(f:Addr)(d:Value)(A:cr)(o:List Env)(s:bv)(H:Hp)(vs:List V)(Q:VK)(E:XK),dQ k (A.deeper (envOfC nm (aL st) s.heap.objs.size f d))->sp vs H Q E->∃t,kH (oE (oP P w) P w K m b N nm (aL st) f d A o s H E) (cb st) t/\t {nx:=λ_ H'=>Q .non H',rt:=Q} (start N vs) H):mK P w K m b (k+1) x ps sp:=by obtain⟨f,g,a,h,e⟩:=S.ex;obtain⟨oc,i,kV,doc,p,n,d,C,T,rfl,lk,y⟩:=a.ex;exact⟨f,_,FA lk y F len λA o s H vs Q E r W=>c f d A o s H vs Q E r W,h,a.kp,e⟩
end L2
namespace F
open L2
variable{nm:Str}{ps:List Str}{k i:Nat}{C:Ct}{L:Lw}{W:Wd}
def Ms.aaa{Γ:Gm}{t:Tb}{P:cf}{w:b7}{K:Frag}{a:b'}{b:Heap}{x:Str}{st:Stmt}{N:List Str}{S:Sx}(B:Ms Γ t)(z:Bool)(j:Ap K a x nm st ps)(F:dD N ps (aL st))(g:Gk Γ t k S P w K a b)(l:B.ck (S.at N (aL st) J) (cb st)=J)(d:∀ds h Q X,C ds h Q X->ds.length=ps.length/\B.m (gR z h.length Q X) (oY N.length ds) h):mK P w K a b (k+2) x ps (iH ⟨K,a,t⟩ C):=by refine j.YJ F (λv H Q E ⟨G,M,h,ds,q,X,r,i,c,_,_⟩=>by rw[<-i.len];exact(d _ _ _ _ c).1) λf D A o s H v Q E n ⟨G,M,h,ds,q,X,r,i,c,out,e⟩=>?_;refine⟨_,B.ps (Γ:=Γ) (t:=t) (k:=k) (S:=S.at N (aL st) J) (E:=E) ⟨Gk.okx g rfl rfl rfl (jH.pass pb rQ) n λ_=>⟨pb,rQ⟩,F.nd,λy _=>.inl rfl,Cw,F.kind,g.exc⟩ l,?_⟩;exact⟨G,M,_,h,_,uR r (vO N i) out e,(d _ _ _ _ c).2⟩
def Lk.eA{st:Stmt}(n:Nat)(z:Bool)(l:List (Nat×Ct))(c:List Nat)(B:Lk L W)(b:Ms (L.G l c) L.t)(s:Ap W.K W.mg (L.S.fI i) nm st ps)(a:(aa3 (Rv (aL st)).length n&&(US (Rv (aL st)) ps (aL st)&&b.ck (L.S.at (Rv (aL st)) (aL st) J) (cb st)))=J)(H:All L W (k+1) l)(d:Hh L W k c)(e:∀ds h Q x,C ds h Q x->ds.length=ps.length/\b.m (gR z h.length Q x) (oY n ds) h):Dt L W i (k+2) C:=by have h:=ax (ag a).1;subst h;exact⟨ps,b.aaa z s (mV (ag (ag a).2).1) (B.gk (Ao.of H.at) d) (ag (ag a).2).2 e⟩
def Dt.Vi{st:Stmt}(r:Ap W.K W.mg (L.S.fI i) nm st ps):Dt L W i k PU:=by obtain⟨f,F,a,h,b⟩:=r.ex;have no:∀v H Q E,¬iH (L.y W) PU v H Q E:=λv H Q E ⟨_,_,_,_,_,_,_,_,c,_,_⟩=>c;exact⟨ps,f,F,⟨λv H Q E q=>absurd q (no v H Q E),λA o s H args u v Q E _ _ _ _ q=>absurd q (no v H Q E)⟩,h,a.kp,b⟩
end F
namespace F
open L2
variable{h:Hs}{j:Nat}{P:Pw}
section
variable{i l c:Nat}{x d y:Dv}{xs:List Pv}{ds fs yP:List Dv}{z:Pv}{Q:Dv->Hs->Prop}{K:Hs->Prop}{C:Ct}{xc:XP}{k n:Int}
def cM(e:KY c j h x=O d)(q:Q d h):nk c j x h Q:=by unfold nk;rw[e];exact q
def dM(e:h[i]?=O (.ins c fs)):KY c j h (.r i)=fs[j]?:=by
 show(match h[i]? with
  |some (.ins a fs)=>match aa3 a c with|true=>fs[j]?|false=>af
  |_=>af)=_;rw[e];show(match aa3 c c with|true=>fs[j]?|false=>af)=_;rw[fX]
def kr(e:h[i]?=O (.ins c fs))(H:aa5 (fs.length+1) 1000)(s:Tn j d fs=O yP)(q:K (h.set i (.ins c yP))):qA c j i d h K:=by unfold qA;rw[e];refine ay (by rw[fX,H];rfl) ?_;rw[s];exact q
def iV(e:h[i]?=O (.ins c fs))(q:C [.r i] h Q xc):FX c C i h xc Q:=by unfold FX;rw[e];exact ay (fX c) q
def WC(e:h[i]?=O (.ins c fs))(H:aa5 (fs.length+1) 1000)(a:fs[j]?=O (.p (.int k)))(q:K (h.set i (.ins c (fs.set j (.p (.int (k+n))))))):p4 c j n i h K:=by unfold p4;rw[e];refine ay (by rw[fX,H];rfl) ?_;rw[a];exact q
def RB(e:h[l]?=O (.lst xs)):j4 h (.r l)=O xs:=by show(match h[l]? with|some (.lst xs)=>O xs|_=>af)=_;rw[e]
def RC(e:h[l]?=O (.df ds)):j4 h (.r l)=none:=by show(match h[l]? with|some (.lst xs)=>O xs|_=>af)=_;rw[e]
def Bh(e:h[l]?=O (.df ds)):mY h (.r l)=O ds:=by show(match h[l]? with|some (.df xs)=>O xs|_=>af)=_;rw[e]
def iN(e:h[l]?=O (.lst xs))(q:Q (.p (.int xs.length)) h):mq [.r l] h Q:=by show(match j4 h (.r l)with|some xs=>Q (.p (.int xs.length)) h|none=>_);rw[RB e];exact q
def eE(e:h[l]?=O (.df ds))(q:Q (.p (.int ds.length)) h):mq [.r l] h Q:=by show(match j4 h (.r l)with|some xs=>Q (.p (.int xs.length)) h|none=>match mY h (.r l)with|some ds=>Q (.p (.int ds.length)) h|none=>False);rw[RC e,Bh e];exact q
def rK(e:h[l]?=O (.lst xs))(a:wB xs k=O z)(q:Q (.p z) h):zk (.r l) (.p (.int k)) h Q:=by show(match j4 h (.r l)with|some xs=>iw (wB xs k) (λz=>Q (.p z) h) False|none=>_);rw[RB e];exact cN a q
def lI(e:h[l]?=O (.df ds))(a:wB ds k=O d)(q:Q d h):zk (.r l) (.p (.int k)) h Q:=by show(match j4 h (.r l)with|some xs=>iw (wB xs k) (λz=>Q (.p z) h) False|none=>match mY h (.r l)with|some ds=>iw (wB ds k) (λd=>Q d h) False|none=>False);rw[RC e,Bh e];exact cN a q
def u7(a:wB xs k=O z)(q:Q (.p z) h):zk (.p (.tup xs)) (.p (.int k)) h Q:=cN (A:=λz=>Q (.p z) h) a q
def nP(q:Q (.p (.int xs.length)) h):mq [.p (.tup xs)] h Q:=q
def nH(e:h[l]?=O (.lst xs))(s:iz (xs.length+1))(q:Q (.p .non) (h.set l (.lst (xs++[z])))):mn (.r l) [.p z] h Q:=by show(match h[l]? with|some (.lst xs)=>gd (iz (xs.length+1)) (Q (.p .non) (h.set l (.lst (xs++[z]))))|some (.df xs)=>gd (iz (xs.length+1)) (Q (.p .non) (h.set l (.df (xs++[.p z]))))|_=>False);rw[e];exact ay s q
def ly(e:h[l]?=O (.df ds))(s:iz (ds.length+1))(q:Q (.p .non) (h.set l (.df (ds++[d])))):mn (.r l) [d] h Q:=by cases d<;>(unfold mn;simp only[e];exact ay s q)
def tZ(e:h[l]?=O (.df ds))(a:ds[ds.length-1]?=O d)(q:Q d (h.set l (.df ds.dropLast))):oM (.r l) [] h Q:=by show(match h[l]? with|some (.lst xs)=>iw xs[xs.length-1]? (λy=>Q (.p y) (h.set l (.lst xs.dropLast))) False|some (.df xs)=>iw xs[xs.length-1]? (λy=>Q y (h.set l (.df xs.dropLast))) False|_=>False);rw[e];exact cN a q
def Yb(e:h[l]?=O (.lst xs)):DR 4 h (.r l)=true:=by show((j4 h (.r l)).isSome||(mY h (.r l)).isSome)=J;rw[RB e];rfl
def JL(e:h[l]?=O (.df ds)):DR 4 h (.r l)=true:=by show((j4 h (.r l)).isSome||(mY h (.r l)).isSome)=J;rw[RC e,Bh e];rfl
def lU(e:h[l]?=O (.lst xs))(q:Q (.p (.tup xs)) h):iW [.r l] h Q:=by show(match j4 h (.r l)with|some xs=>Q (.p (.tup xs)) h|none=>False);rw[RB e];exact q
def zU(q:Q (.p (.tup xs)) h):iW [.p (.lst xs)] h Q:=q
def Rk(e:h[l]?=O (.lst xs))(q:Q (.p (.bl J)) h):Bv [.r l,.p (.ty 4)] h Q:=by show(match h[l]? with|some (.lst _)=>Q (.p (.bl J)) h|some (.df _)=>Q (.p (.bl J)) h|_=>False);rw[e];exact q
def Rl(e:Ik 4 z=O a7)(q:Q (.p (.bl a7)) h):Bv [.p z,.p (.ty 4)] h Q:=by show(match Ik 4 z with|some b=>Q (.p (.bl b)) h|none=>False);rw[e];exact q
def ye{a b:List Dv}(e:Bg h x=O a)(E:Bg h y=O b)(s:iz (a.length+b.length))(q:Q (.r h.length) (h++[.df (a++b)])):nh x y h Q:=by unfold nh;rw[e,E];exact ay s q
def wd(e:h[l]?=O (.df ds)):Bg h (.r l)=O ds:=by unfold Bg;rw[RC e];exact Bh e
def iK{H:Hs}{e:Dv->Es}{T A:Es->Hs->KP->Prop}{z:Bool}{Q:KP}(xs:List Dv)(a:List Dv->List Dv->Hs->Prop)(hz:iz xs.length)(m:a [] [] H)(o:∀pre acc h',a pre acc h'->P h' xs)(step:∀pre y post acc h',xs=pre++y::post->a pre acc h'->T (e y) h' λbs f=>match bs with|[.p (.bl b)]=>br b (A (e y) f λys r=>match ys with|[v]=>a (pre++[y]) (acc++[v]) r|_=>False) (a (pre++[y]) acc f)|_=>False)(fin:∀acc h',a xs acc h'->Λ z acc h' Q):P6 H P e T A z Q:=by unfold P6;refine⟨xs,λi acc h'=>a (xs.take i) acc h',hz,by dsimp only;rw[ik];exact m,λi acc h' j=>o _ _ _ j,λi y acc h' g j=>?_,λacc h' j=>fin acc h' (by dsimp only at j;rw[dN]at j;exact j)⟩;have q:=step _ y _ acc h' (rH g) j;rw[<-qX g]at q;exact q
def tQ{b:Ss}{N:En}{σ:Es}(xs:List Dv)(a:List Dv->List Dv->Es->Hs->Prop)(g:a [] xs σ h)(m:∀pre post f h',a pre post f h'->P h' xs)(step:∀pre x post f h',xs=pre++x::post->a pre (x::post) f h'->b {N with nx:=a (pre++[x]) post,ct:=a (pre++[x]) post,bk:=N.nx} (f.set j (O x)) h')(fin:∀f h',a xs [] f h'->N.nx f h'):QH j P b N σ h:=by
 unfold QH;refine⟨xs,λi f h'=>a (xs.take i) (xs.drop i) f h',by dsimp only;rw[ik,ic];exact g,λi f h' j=>m _ _ _ _ j,λi x f h' H j=>?_,λf h' j=>fin f h' (by dsimp only at j;rw[dN,qQ]at j;exact j)⟩;obtain⟨p,e⟩:=ai.mp H;have E:xs.drop i=x::xs.drop (i+1):=by rw[<-e,fV]
 have o:a (xs.take i) (x::xs.drop (i+1)) f h':=E▸j;have z:=step _ x _ f h' (rH H) o;rw[<-qX H]at z;exact z
end
end F
namespace W2
open L2 F
variable{ca:Nat->Addr}{W:Wd}{l m h:Hs}{k n i c w j:Nat}{o b o':Ob}{α:Type}{P:Pv->Prop}{x a:Pv}{xs r ws ps:List Pv}{z v:Str}{s:Rp}{f g:Pv->Bool}{X:Nat->Prop}{Y Z K:Prop}{js U be:List Nat}{ks:List Str}{fs:List Dv}
noncomputable def top(i:Nat):Stmt:=PySem.Challenge.pw_retrace_k14_whole_however_deep.main.body.getD i (.Pass ⟨0,0,0,0⟩)
def Xi:List String:=["has_word","value_kinds","row_kinds","parts_within","rows_of","add_rows_numbers","is_name","is_whole","is_number","is_value","is_value_within","is_part","program_of","check_variables","check_functions","check_rows","is_tuple_of","is_pair","is_box","is_list","is_function","names_of","own_names","are_unlike","are_rows","is_row","is_row_part","head_kinds","written","row_text","lines_text","words_text","add_function","add_rows_texts","add_if","add_try","read","word_rows","words_in","read_numbers","number_of","read_value","opened_value","read_word","read_part","read_box","read_list","read_def","read_own","read_else","read_catch","read_end","read_row","read_line","enter","innermost","rows_to_fill","_law_cell_at","_law_state","_law_next","_law_class","_law_value","_law_lines","_law_wrong","_law_read","law"]
noncomputable def afp:List Str:=["MOST_LETTERS","GREATEST","DEEPEST","NO_ROW","MOST_BOXES","MOST_LISTS","MOST_THINGS","MOST_FUNCTIONS","MOST_NAMES","DEEPEST_ROW","MOST_NUMBERS","MOST_FIGURES","BOXES","LISTS","FUNCTIONS","ROWS","AHEAD"]
noncomputable def gls:List Pv:=[.int 6,.int 999999,.int 4,.int (-1),.int 6,.int 3,.int 12,.int 4,.int 3,.int 5,.int 60,.int 6,.int 0,.int 1,.int 2,.int 3,.str "  "]
noncomputable def ahl:Nat->Str|0=>"VALUE_FORMS"|1=>"ROW_FORMS"|_=>"LINES"
noncomputable def ae1:Nat->Str|0=>"NoProgram"|1=>"NoRow"|2=>"TooLong"|3=>"Scope"|4=>"NoText"|5=>"Words"|6=>"Reader"|600=>"take"|601=>"are_left"|_=>"take_all"
noncomputable def WI:List Str:=["len","isinstance","all","zip","range","list","tuple","str","int","bool","set","dict","max","min"]
def i8(l:List α)(d:α)(i:Nat):α:=l.getD i d
def S0:Sx:=⟨[],aL (.Pass ⟨0,0,0,0⟩),λi=>ac5 (i8 Xi "" i),i8 afp "",ahl,ae1,λc=>match c with|3=>["boxes","lists","param_counts","may_return"]|5=>["words","place"]|6=>["section","boxes","lists","functions","rows","opened"]|_=>[],WI,[3,5,6],[0,1,2,4],J⟩
def lk{α:Type}(x:Str):List (Str×α)->Option α|[]=>af|(k,v)::r=>match bA x k with|true=>O v|false=>lk x r
noncomputable def iA:List (Str×List Str):=[("number",["number"]),("box",["box"]),("plus",["value","value"]),("minus",["value","value"]),("times",["value","value"]),("over",["value","value"]),("rest",["value","value"]),("less",["value","value"]),("same",["value","value"]),("not",["value"]),("item",["list","value"]),("size",["list"])]
noncomputable def fC:List (Str×List Str):=[("set",["box","value"]),("push",["list","value"]),("pop",["box","list"]),("put",["list","value","value"]),("ask",["box","door"]),("tell",["value"]),("if",["value","rows","rows"]),("while",["value","rows"]),("try",["rows","box","rows"]),("fail",["value"]),("call",["box","function","values"]),("return",["value"])]
noncomputable def Yp:List (Str×Nat):=[("box",45),("list",46),("def",47),("own",48),("else",49),("catch",50),("end",51)]
def ahj:Nat->Str->Option (List Str)|0,x=>lk x iA|1,x=>lk x fC|_,x=>(lk x Yp).map λn=>aa4 n ""
abbrev jC(h:Hs)(k:Nat->Hs->Prop):Prop:=match h with|.ins c []::r=>k c r|_=>False
@[elab_as_elim]def age{G:Hs->Prop}{k:Nat->Hs->Prop}(c:jC h k)(g:∀i r,k i r->G (.ins i []::r)):G h:=by
 rcases h with _|⟨x,_⟩;·exact c.elim
 ·cases x with
  |ins j xs=>cases xs<;>first|exact g _ _ c|exact c.elim
  |_=>exact c.elim
noncomputable def Xb:Pv->Bool|.str z=>!decide (z.cps.toList<("0":Str).cps.toList)&&!decide (("9":Str).cps.toList<z.cps.toList)|_=>a7
def pG(z:Str):Bool:=!(lJ 6 (z.length:Nat)||!(wZ z).all Xb)&&!(ae0 z "0"&&!bA z "0")
def gW:Pv->Bool|.str z=>aa5 z.length 1000000&&(!pG z||(ab2 z).isSome)|_=>a7
noncomputable def Wo(ws:List Pv)(k:Nat):Ob:=.ins 5 [.p (.lst ws),.p (.int k)]
inductive Wr(r:List Pv):Ob->Prop|mk(ws:List Pv)(k:Nat)(hk:k<=ws.length)(hr:ws.drop k=r)(hs:iz ws.length)(hg:ws.all gW):Wr r (Wo ws k)
inductive w_(f:List Pv->Option (Pv×List Pv)):Ct|ok{w:Nat}{h:Hs}{Q:Dv->Hs->Prop}{xc:XP}(o:Ob)(r r':List Pv)(x:Pv)(hw:h[w]?=O o)(wr:Wr r o)(e:f r=O (x,r'))(q:∀o',Wr r' o'->Q (.p x) (h.set w o')):w_ f [.r w] h Q xc|no{w:Nat}{h:Hs}{Q:Dv->Hs->Prop}{xc:XP}(o:Ob)(r:List Pv)(hw:h[w]?=O o)(wr:Wr r o)(e:f r=af)(q:xc 4 h):w_ f [.r w] h Q xc
noncomputable def UW:List Pv->Option (Pv×List Pv)|[]=>af|x::r=>O (x,r)
inductive cLf:Ct|mk{w:Nat}{h:Hs}{Q:Dv->Hs->Prop}{xc:XP}(o:Ob)(r:List Pv)(hw:h[w]?=O o)(wr:Wr r o)(q:Q (.p (.bl !r.isEmpty)) h):cLf [.r w] h Q xc
noncomputable def UU(r:List Pv):Option (Pv×List Pv):=O (.lst r,[])
inductive PX:Ct|mk{i:Nat}{ws:List Pv}{h:Hs}{Q:Dv->Hs->Prop}{xc:XP}(hi:h[i]?=O (.ins 5 []))(q:Q (.p .non) (h.set i (Wo ws 0))):PX [.r i,.p (.lst ws)] h Q xc
inductive WR:Ct|mk{i:Nat}{h:Hs}{Q:Dv->Hs->Prop}{xc:XP}(hi:h[i]?=O (.ins 6 []))(q:Q (.p .non) (h.set i (.ins 6 [.p (.int 0),.r h.length,.r (h.length+1),.r (h.length+2),.r (h.length+3),.r (h.length+4)])++[.lst [],.lst [],.lst [],.lst [],.df []])):WR [.r i] h Q xc
def XU:Nat->Ct|3=>λds h Q _=>rC ds λi r=>pC r λa r=>pC r λb r=>pC r λc r=>pC r λd r=>nC r (jC h λj g=>nC g (gd (aa3 i 0&&aa3 j 3) (Q (.p .non) [.ins 3 [.p a,.p b,.p c,.p d]])))|5=>PX|6=>WR|600=>w_ UW|601=>cLf|_=>w_ UU
def Lx(ca:Nat->Addr):Lw:=⟨S0,ca,i8 gls .non,[0,1,2,3,4,5,6,7,8,9,10,11,12,13,14,15,16],ahj,[0,1,100],XU⟩
mutual
def kL:Pv->Bool|.tup xs=>Dx xs|.lst xs=>Dx xs|.dct ks us=>Dx ks&&Dx us|.scr _=>a7|.obj _ _=>a7|.fn _=>a7|.ty _=>a7|_=>J
def Dx:List Pv->Bool|[]=>J|x::r=>kL x&&Dx r
end
mutual
def gQ:Pv->Nat|.tup xs=>1+fD xs|.lst xs=>1+fD xs|.dct ks us=>1+fD ks+fD us|.str z=>1+z.length|_=>1def fD:List Pv->Nat|[]=>0|x::r=>gQ x+fD r
end
noncomputable def oz:Nat:=1000000
def dz(x:Pv):Bool:=kL x&&aa5 (gQ x) oz
abbrev pO(f:Pv->Bool):Ct:=Hr dz λx=>.bl (f x)
@[elab_as_elim]def AS(H:dz x)(non:P .non)(bl:∀b,P (.bl b))(int:∀i,P (.int i))(str:∀z,dz (.str z)=J->P (.str z))(tup:∀xs,dz (.tup xs)=J->P (.tup xs))(lst:∀xs,dz (.lst xs)=J->P (.lst xs))(dct:∀ks us,dz (.dct ks us)=J->P (.dct ks us)):P x:=by cases x with|non=>exact non|bl b=>exact bl b|int b=>exact int b|str b=>exact str b H|tup b=>exact tup b H|lst b=>exact lst b H|dct a b=>exact dct a b H|_=>exact Vf H
def zJ:∀x:Pv,1<=gQ x|.non=>aB _|.bl _=>aB _|.int _=>aB _|.str _=>dq _ _|.tup _=>dq _ _|.lst _=>dq _ _|.dct _ _=>by show 1<=1+_+_;lia|.scr _=>aB _|.obj _ _=>aB _|.fn _=>aB _|.ty _=>aB _
theorem UO:∀{xs:List Pv}{x:Pv},Dx xs=J->x∈xs->kL x/\gQ x<=fD xs
 |[],_,_,h=>by cases h|y::r,x,h,H=>by
  obtain⟨d,e⟩:=ag (show(kL y&&Dx r)=J from h);show _/\_<=gQ y+fD r;rcases aJ.mp H with z|z;·subst z;exact⟨d,by lia⟩
  ·have:=UO e z;exact⟨this.1,by lia⟩
def eW(h:dz (.tup xs))(H:x∈xs):dz x=true:=by obtain⟨d,e⟩:=ag h;obtain⟨p,q⟩:=UO d H;have:gQ (.tup xs)=1+fD xs:=rfl;have:=ap.mp e;unfold dz;rw[p,ap.mpr (show gQ x<=oz by lia)];rfl
def ui(h:n<=oz):iz n=true:=gE (aH h (by ext))
def Xd(h:dz (.str z)):z.length<=oz:=by have:gQ (.str z)=1+z.length:=rfl;have:=ap.mp (ag h).2;lia
def xu(h:dz (.tup (a::r))):dz a=true:=eW h aw
noncomputable def yU:Pv->Bool|.tup (.str _::_)=>J|_=>a7
abbrev CU(l:List (Str×List Str)):Ct:=Ps dX λx K=>iw (lk (gD x) l) (λks=>K (vS ks)) (K .non)
structure Sg(K:Frag)(mg:b'):Prop where s14:Src K mg "has_word" (top 14) ["thing"]s15:Src K mg "value_kinds" (top 15) ["word"]s16:Src K mg "row_kinds" (top 16) ["word"]s17:Src K mg "parts_within" (top 18) ["row"]s20:Src K mg "rows_of" (top 21) ["program"]s21:Ap K mg "add_rows_numbers" "add_rows" (top 22) ["triples","rows","around"]s26:Src K mg "is_name" (top 28) ["thing"]s27:Src K mg "is_whole" (top 29) ["thing","least","most"]s28:Src K mg "is_number" (top 30) ["thing"]s29:Src K mg "is_value" (top 31) ["thing","boxes","lists"]s30:Src K mg "is_value_within" (top 32) ["thing","boxes","lists","depth"]s31:Src K mg "is_part" (top 33) ["kind","part","boxes","lists","depth"]s41:Src K mg "program_of" (top 43) ["boxes","lists","functions","rows"]s42:Src K mg "check_variables" (top 44) ["boxes","lists"]s43:Src K mg "check_functions" (top 45) ["functions","taken"]s44:Src K mg "check_rows" (top 46) ["program"]s45:Src K mg "is_tuple_of" (top 47) ["thing","most","is_one"]s46:Src K mg "is_pair" (top 48) ["thing"]s47:Src K mg "is_box" (top 49) ["thing"]s48:Src K mg "is_list" (top 50) ["thing"]s49:Src K mg "is_function" (top 51) ["thing"]s50:Src K mg "names_of" (top 52) ["things"]s51:Src K mg "own_names" (top 53) ["function"]s52:Src K mg "are_unlike" (top 54) ["names"]s53:Src K mg "are_rows" (top 55) ["rows","scope","depth"]s54:Src K mg "is_row" (top 56) ["row","scope","depth"]s55:Src K mg "is_row_part" (top 57) ["kind","part","scope","depth"]BJ:Src K mg "head_kinds" (top 17) ["word"]Nw:Src K mg "written" (top 60) ["program"]Ja:Src K mg "row_text" (top 61) ["row"]BK:Src K mg "lines_text" (top 62) ["lines"]BN:Src K mg "words_text" (top 63) ["parts"]wV:Src K mg "add_function" (top 64) ["lines","function"]me:Ap K mg "add_rows_texts" "add_rows" (top 65) ["lines","rows","ahead"]SR:Src K mg "add_if" (top 67) ["lines","row","ahead"]Nv:Src K mg "add_try" (top 68) ["lines","row","ahead"]abX:Src K mg "read" (top 77) ["text"]Ez:Src K mg "word_rows" (top 78) ["text"]Jb:Src K mg "words_in" (top 79) ["line"]wX:Src K mg "read_numbers" (top 80) ["words"]Er:Src K mg "number_of" (top 81) ["word"]BM:Src K mg "read_value" (top 82) ["words"]wW:Src K mg "opened_value" (top 83) ["words"]Ey:Src K mg "read_word" (top 84) ["kind","words"]Ew:Src K mg "read_part" (top 85) ["kind","words"]IW:Src K mg "read_box" (top 86) ["reader","words"]Eu:Src K mg "read_list" (top 87) ["reader","words"]M_:Src K mg "read_def" (top 88) ["reader","words"]N_:Src K mg "read_own" (top 89) ["reader","words"]Zx:Src K mg "read_else" (top 90) ["reader","words"]BL:Src K mg "read_catch" (top 91) ["reader","words"]IY:Src K mg "read_end" (top 92) ["reader","words"]IZ:Src K mg "read_row" (top 93) ["reader","word","words"]Et:Src K mg "read_line" (top 95) ["reader","words"]Zw:Src K mg "enter" (top 96) ["reader","section"]Ep:Src K mg "innermost" (top 97) ["reader","word","length"]wY:Src K mg "rows_to_fill" (top 98) ["reader"]wR:Src K mg "_law_cell_at" (top 100) ["_law_script","_law_k"]BG:Src K mg "_law_state" (top 101) ["_law_cell","_law_k"]El:Src K mg "_law_next" (top 102) ["_law_state_here","_law_size"]BE:Src K mg "_law_class" (top 103) ["_law_e"]BH:Src K mg "_law_value" (top 104) ["_law_deep","_law_kind"]BF:Src K mg "_law_lines" (top 105) ["_law_state_here","_law_deep","_law_value_here"]BI:Src K mg "_law_wrong" (top 106) ["_law_lines_here","_law_state_here"]Eo:Src K mg "_law_read" (top 107) ["_law_text"]
abbrev LX(ca:Nat->Addr)(W:Wd):Prop:=Lk (Lx ca) W
abbrev DX(ca:Nat->Addr)(W:Wd)(i k:Nat)(C:Ct):Prop:=Dt (Lx ca) W i k C
abbrev SX(W:Wd):Prop:=Sg W.K W.mg
def uM(B:LX ca W)(S:SX W):DX ca W 0 2 (pO yU):=by refine B.e (k:=0) 1 J [] [] (.one (.ret (.bo (Bm.ac (.bi o8 (.u2 (.v 0) (.ty 3))) (Bm.ac (.cmp Fc (.bi fe (.u (.v 0))) (.c (.int 0))) (Bm.a1 (.bi o8 (.u2 (.ix (.v 0) (.c (.int 0))) (.ty 0))))))))) S.s14 rfl trivial trivial (xB λx Q d H=>?_);refine AS H id (λ_=>id) (λ_=>id) (λ_ _=>id) (λxs H=>?_) (λ_ _=>id) λ_ _ _=>id;cases xs with|nil=>exact id|cons a r=>exact AS (xu H) id (λ_=>id) (λ_=>id) (λ_ _=>id) (λ_ _=>id) (λ_ _=>id) λ_ _ _=>id
def ko(B:LX ca W)(S:SX W):DX ca W 1 2 (CU iA):=by refine B.e (k:=0) 1 J [] [] (.one (.ret (.tg 0 (.v 0)))) S.s15 rfl trivial trivial (xB λx Q d H q=>?_);revert q;exact qH H λw q=>q
def si(B:LX ca W)(S:SX W):DX ca W 2 2 (CU fC):=by refine B.e (k:=0) 1 J [] [] (.one (.ret (.tg 1 (.v 0)))) S.s16 rfl trivial trivial (xB λx Q d H q=>?_);revert q;exact qH H λw q=>q
noncomputable def zn:Pv->Bool|.str z=>!decide (z.cps.toList<("a":Str).cps.toList)&&!decide (("z":Str).cps.toList<z.cps.toList)|_=>a7
def du:Pv->Bool|.str z=>aa5 1 z.length&&(aa5 z.length 6&&(wZ z).all zn)|_=>a7
def oZ(a b:Int):Pv->Bool|.int i=>rN a i&&rN i b|_=>a7
def oV:Pv->Bool:=oZ 0 999999
abbrev Kq:Ct:=ν (λx a b=>dz x&&(isInt a&&isInt b)) λx a b=>.bl (oZ (Lg a) (Lg b) x)
def Vs(f:Pv->Bool)(bs ls:List Pv)(k:Str)(p:Pv):Bool:=match bA k "number"with|true=>oV p|false=>match bA k "box"with|true=>du p&&FK p bs|false=>match bA k "list"with|true=>du p&&FK p ls|false=>f p
def Vq(f:Pv->Bool)(bs ls:List Pv):Pv->Bool|.tup [k,p]=>Vs f bs ls (gD k) p|_=>a7
def B6(f:Pv->Bool)(bs ls:List Pv)(r:List Pv):Option (List Str)->Bool|some ks=>qi ((r.length+1:Nat):Int) (1+((ks.map Pv.str).length:Nat))&&(kx (ks.map .str) r).all (Vq f bs ls)|none=>a7
def val:Nat->List Pv->List Pv->Pv->Bool|0,_,_,_=>a7|n+1,bs,L,.tup (.str w::r)=>B6 (val n bs L) bs L r (lk w iA)|_+1,_,_,_=>a7
abbrev UM(n:Nat):Ct:=cA5 (λk p b l d=>dX k&&(dz p&&(yM b&&(yM l&&I_ n d)))) λk p b l d=>.bl (Vs (val n (rP b) (rP l)) (rP b) (rP l) (gD k) p)
abbrev nI(n:Nat):Ct:=x4 (λx b l d=>dz x&&(yM b&&(yM l&&I_ n d))) λx b l d=>.bl (val n (rP b) (rP l) x)
abbrev yp:Ct:=ν (λx b l=>dz x&&(yM b&&yM l)) λx b l=>.bl (val 4 (rP b) (rP l) x)
def zf{p:Pv}(h:du p):uW p=true:=by cases p<;>first|rfl|cases h
def jF(B:LX ca W)(S:SX W):DX ca W 6 2 (pO du):=by refine B.e (k:=0) 1 J [] [] (.seq (.iff (.not (.val (.bi o8 (.u2 (.v 0) (.ty 0))))) (.one (.ret (.c (.bl a7)))) .nil) (.one (.ret (.bo (Bm.ac (.ch O3 O3 (.c (.int 1)) (.bi fe (.u (.v 0))) (.g 0)) (Bm.a1 (.bi HP (.u (.comp 1 [] (.one 0) (.c (.v 0)) .no (.ch O3 O3 (.c (.str "a")) (.v 0) (.c (.str "z")))))))))))) S.s26 rfl trivial trivial (xB λx Q t H=>?_);refine AS H id (λ_=>id) (λ_=>id) (λz H q=>?_) (λ_ _=>id) (λ_ _=>id) λ_ _ _=>id;have hz:=ui (Xd H);refine ay hz (km (Q:=Q) q λ_ q=>km (Q:=Q) q λ_ q=>ay hz ?_);refine gm (λy=>.bl (zn y)) rfl (λy p=>?_) (rn q);obtain⟨c,_,rfl⟩:=bL.mp p;exact λR q=>km (Q:=λd h=>R [d] h) q λ_ q=>q
def Dm(B:LX ca W)(S:SX W):DX ca W 7 2 Kq:=by refine B.e (k:=0) 3 J [] [] (.seq (.iff (.bo (Wm.oc (.val (.bi o8 (.u2 (.v 0) (.ty 2)))) (Wm.o1 (.not (.val (.bi o8 (.u2 (.v 0) (.ty 1)))))))) (.one (.ret (.c (.bl a7)))) .nil) (.one (.ret (.ch O3 O3 (.v 1) (.v 0) (.v 2))))) S.s27 rfl trivial trivial (il λx a b Q u H=>?_);obtain⟨d,p,t⟩:=pZ H;refine Lf p λa=>Lf t λb=>?_;exact AS d id (λ_=>id) (λi q=>km (Q:=Q) q λ_ q=>q) (λ_ _=>id) (λ_ _=>id) (λ_ _=>id) λ_ _ _=>id
def j7(B:LX ca W)(S:SX W):DX ca W 8 3 (pO oV):=by refine B.e (k:=1) 1 J [(7,Kq)] [] (.one (.ret (.cl 7 [] (.u3 (.v 0) (.c (.int 0)) (.g 1))))) S.s28 rfl ⟨Dm B S,trivial⟩ trivial (xB λx Q d H q=>?_);exact ay (by show(dz x&&J)=J;rw[H];rfl) q
def HI(B:LX ca W)(S:SX W)(n:Nat)(D:DX ca W 10 (2*n+3) (nI n)):DX ca W 11 (2*n+4) (UM n):=by
 refine B.e (k:=2*n+2) 5 J [(8,pO oV),(6,pO du),(10,nI n)] [] (.seq (.iff (.cmp jZ (.v 0) (.c (.str "number"))) (.one (.ret (.cl 8 [] (.u (.v 1))))) .nil) (.seq (.iff (.cmp jZ (.v 0) (.c (.str "box"))) (.one (.ret (.bo (Bm.ac (.cl 6 [] (.u (.v 1))) (Bm.a1 (.cmp WO (.v 1) (.v 2))))))) .nil) (.seq (.iff (.cmp jZ (.v 0) (.c (.str "list"))) (.one (.ret (.bo (Bm.ac (.cl 6 [] (.u (.v 1))) (Bm.a1 (.cmp WO (.v 1) (.v 3))))))) .nil) (.one (.ret (.cl 10 [] (.cons (.v 1) (.cons (.v 2) (.cons (.v 3) (.cons (.v 4) .nil)))))))))) S.s31 rfl ⟨(j7 B S).le (by lia),(jF B S).le (by lia),D.le (by lia),trivial⟩ trivial (hX5 λk p b l d Q F A=>?_);obtain⟨C,H,t,y,E⟩:=aeO A;refine qH C λk=>QG t λb t=>QG y λl y=>DN E λq=>?_;refine p5 (Q:=Q) q (λ_ q=>ay H q) λ_ q=>p5 (Q:=Q) q (λ_ q=>?_) λ_ q=>p5 (Q:=Q) q (λ_ q=>?_) λ_ q=>?_;·exact ay H (km (Q:=Q) q λc q=>ay (by rw[zf c];exact t) q)
 ·exact ay H (km (Q:=Q) q λc q=>ay (by rw[zf c];exact y) q)
 ·exact ay (by show(dz p&&(gI b&&(gI l&&qi n n)))=J;rw[H,t,y,eD.mpr rfl];rfl) q
def YP:Nat->Ct|0=>PU|n+1=>UM n
def xr(B:LX ca W)(S:SX W)(n:Nat)(D:DX ca W 11 (2*n+2) (YP n)):DX ca W 10 (2*n+3) (nI n):=by refine B.e (k:=2*n+1) 5 J [(0,pO yU),(1,CU iA),(11,YP n)] [] (.seq (.iff (.bo (Wm.oc (.cmp jZ (.v 3) (.c (.int 0))) (Wm.o1 (.not (.val (.cl 0 [] (.u (.v 0)))))))) (.one (.ret (.c (.bl a7)))) .nil) (.seq (.set 4 (.cl 1 [] (.u (.ix (.v 0) (.c (.int 0)))))) (.seq (.iff (.bo (Wm.oc (.isN a7 (.v 4)) (Wm.o1 (.cmp Kj (.bi fe (.u (.v 0))) (.b2 cW (.c (.int 1)) (.bi fe (.u (.v 4)))))))) (.one (.ret (.c (.bl a7)))) .nil) (.one (.ret (.bi HP (.u (.comp 2 [1,2,3] (.many [0,1]) (.z (.u2 (.v 4) (.sl (.v 0) (.of (.c (.int 1))) .no))) .no (.cl 11 [] (.cons (.v 0) (.cons (.v 1) (.cons (.v 2) (.cons (.v 3) (.cons (.b2 yi (.v 4) (.c (.int 1))) .nil)))))))))))))) S.s30 rfl ⟨(uM B S).le (by lia),(ko B S).le (by lia),D,trivial⟩ trivial (u6 λx b l d Q I t=>?_);obtain⟨H,A,C,E⟩:=kI t;cases n with|zero=>exact DN E λq=>q|succ n=>refine QG A λb A=>QG C λl C=>DN E λq=>ay H ?_;revert q;refine AS H id (λ_=>id) (λ_=>id) (λ_ _=>id) (λxs H=>?_) (λ_ _=>id) λ_ _ _=>id;cases xs with|nil=>exact id|cons a r=>
   refine AS (xu H) id (λ_=>id) (λ_=>id) (λw _=>?_) (λ_ _=>id) (λ_ _=>id) λ_ _ _=>id;refine λq=>MF (λks e=>?_) λe=>?_
   ·have q:Q (.p (.bl (B6 (val n b l) b l r (O ks)))) []:=e▸q;refine mM (Q:=Q) q λ_ q=>?_;refine gm (λy=>.bl (Vq (val n b l) b l y)) rfl (λy F=>?_) ?_;rotate_left;·exact rn q
    obtain⟨k,p,G,t,rfl⟩:=uo F;obtain⟨k,_,rfl⟩:=bL.mp G;exact λR q=>ay (by show(dz p&&(gI b&&(gI l&&qi ((n+1:Nat)-1) n)))=J;rw[eW H (aq _ t),A,C,eD.mpr (by lia)];rfl) q
   ·have q:Q (.p (.bl (B6 (val n b l) b l r af))) []:=e▸q;exact q
theorem AO(B:LX ca W)(S:SX W):∀n,DX ca W 10 (2*n+3) (nI n)|0=>xr B S 0 (Dt.no S.s31)|n+1=>xr B S (n+1) (HI B S n (AO B S n))
def Dl(B:LX ca W)(S:SX W)(D:DX ca W 10 11 (nI 4)):DX ca W 9 12 yp:=by refine B.e (k:=10) 3 J [(10,nI 4)] [] (.one (.ret (.cl 10 [] (.cons (.v 0) (.cons (.v 1) (.cons (.v 2) (.cons (.g 2) .nil))))))) S.s29 rfl ⟨D,trivial⟩ trivial (il λx b l Q u H q=>?_);exact ay (by obtain⟨d,H⟩:=ag H;obtain⟨p,t⟩:=ag H;show(dz x&&(yM b&&(yM l&&J)))=J;rw[d,p,t];rfl) q
noncomputable def z_:List (Nat×(Pv->Bool))->Nat->Pv->Bool|[],_=>λ_=>a7|(j,g)::r,i=>match aa3 i j with|true=>g|false=>z_ r i
def U6(l:List (Nat×(Pv->Bool))):Pv->Bool|.fn j=>gO j (l.map (·.1))|_=>a7
def gFn(l:List (Nat×(Pv->Bool))):Pv->Pv->Bool|.fn j=>z_ l j|_=>λ_=>a7
@[elab_as_elim]def fnC{l:List (Nat×(Pv->Bool))}(h:U6 l a)(k:∀j,gO j (l.map (·.1))=J->P (.fn j)):P a:=by cases a<;>first|exact k _ h|cases h
noncomputable def x_(l:List (Nat×(Pv->Bool))):List (Nat×Ct):=l.map λp=>(p.1,pO p.2)
def P4{l:List (Nat×(Pv->Bool))}:(x_ l).map (·.1)=l.map (·.1):=by unfold x_;rw[fi];rfl
theorem Kt:∀{l:List (Nat×(Pv->Bool))}{j:Nat},gO j (l.map (·.1))=J->O7 (x_ l) j=pO (z_ l j)|[],j,h=>by cases h|(i,g)::r,j,h=>by show(match aa3 j i with|true=>pO g|false=>O7 (x_ r) j)=pO (match aa3 j i with|true=>g|false=>z_ r j);have h:(aa3 j i||gO j (r.map (·.1)))=true:=h;cases e:aa3 j i with|true=>rfl|false=>rw[e]at h;exact Kt h
def _root_.F.Lk.eT{L:Lw}{C:Ct}{st:Stmt}(N ps:List Str)(z:Bool)(l:List (Nat×(Pv->Bool)))(B:Lk L W)(b:Ms (L.g (λi=>pO (z_ l i)) (l.map (·.1)) []) L.t)(q:Src W.K W.mg (L.S.fI i) st ps)(e:(US N ps (aL st)&&b.ck (L.S.at N (aL st) J) (cb st))=J)(u:All L W (k+1) (x_ l))(y:∀ds h Q p,C ds h Q p->ds.length=ps.length/\b.m (gR z h.length Q p) (oY N.length ds) h):Dt L W i (k+2) C:=B.d N ps z b q (mV (ag e).1) (ag e).2 (Ao.of λj H=>by have z:=u.at j (by rw[P4];exact H);rw[Kt (cC.mpr H)]at z;exact z) trivial y
def nA(m:Int)(g:Pv->Bool):Pv->Bool|.tup xs=>rN (xs.length:Nat) m&&xs.all g|_=>a7
abbrev Fd(l:List (Nat×(Pv->Bool))):Ct:=ν (λx m f=>dz x&&(isInt m&&U6 l f)) λx m f=>.bl (nA (Lg m) (gFn l f) x)
abbrev rq(i:Nat)(g:Pv->Bool):Ct:=Fd [(i,g)]
noncomputable def DP:Pv->Bool|.tup [_,_]=>J|_=>a7
def oU:Pv->Bool|.tup [a,b]=>du a&&oV b|_=>a7
def isList:Pv->Bool|.tup [a,b]=>du a&&nA 12 oV b|_=>a7
def iU:Pv->Bool|.tup [a,b,c,d]=>du a&&(nA 3 du b&&(nA 3 du c&&sy d))|_=>a7
noncomputable def eX:Pv->Pv|.tup (a::_)=>a|_=>.non
noncomputable def yT:Pv->Bool|.tup (_::_)=>J|_=>a7
def lF:Pv->List Pv|.tup xs=>xs.map eX|_=>[]
def Wz:Pv->Bool|.tup xs=>xs.all yT|_=>a7
abbrev uw:Ct:=Hr Wz λx=>.lst (lF x)
noncomputable def tE:Pv->List Pv|.tup [_,.tup b,.tup c,_]=>b++c|_=>[]
def DG:Pv->Bool|.tup [_,.tup b,.tup c,_]=>aa5 (b.length+c.length) oz|_=>a7
abbrev WS:Ct:=Hr DG λx=>.lst (tE x)
def oN(l:List Pv):List Str:=l.map gD
def Uh(l:List Pv):Bool:=RL (oN l)
def JF:Pv->Bool|.lst l=>l.all dX&&aa5 l.length 60|_=>a7
abbrev yo:Ct:=Hr JF λx=>.bl (Uh (rP x))
theorem nc:∀{l m:List Str},l.Nodup->(∀x∈l,x∈m)->l.length<=m.length|[],_,_,_=>bG _|x::r,m,h,k=>by have H:=k x aw;obtain⟨p,q⟩:=cD.mp h;have:=nc (l:=r) (m:=m.erase x) q λy d=>(Uf λe=>p (by rw[<-e];exact d)).mpr (k y (aq _ d));rw[Wc H]at this;have t:0<m.length:=X_ H;rw[ao];lia
theorem g6:∀{m:List Str},¬m.Nodup->∃x,x∈m/\x∈m.erase x
 |[],h=>absurd ig h|y::r,h=>by
  by_cases H:y∈r;·exact⟨y,aw,by rw[List.erase_cons_head];exact H⟩
  ·obtain⟨x,d,p⟩:=g6 (m:=r) λz=>h (cD.mpr ⟨H,z⟩);have N:y≠x:=λe=>H (by rw[e];exact d);refine⟨x,aq _ d,?_⟩;rw[List.erase_cons_tail (by simpa using N)];exact aq _ p
theorem F5:∀{l:List Str},RL l=J↔l.Nodup|[]=>⟨λ_=>ig,λ_=>rfl⟩|x::r=>by refine⟨mZ,λh=>?_⟩;obtain⟨H,d⟩:=cD.mp h;show(!dH x r&&RL r)=J;rw[F5.mpr d,bw.mpr λz=>H (j8 z)];rfl
def KZ(ws:List Str):(dR ws).length=ws.length↔ws.Nodup:=by
 obtain⟨N,M⟩:=sr ws;have le:=nc N λx H=>(M x).mp H;refine⟨λe=>?_,λh=>?_⟩
 ·refine Decidable.byContradiction λh=>?_;obtain⟨x,d,p⟩:=g6 h;have t:0<ws.length:=X_ d;have:(dR ws).length<=(ws.erase x).length:=nc N λy q=>by
   by_cases e:y=x;·rw[e];exact p
   ·exact(Uf e).mpr ((M y).mp q)
  rw[Wc d]at this;lia
 ·have G:=nc h λx H=>(M x).mpr H;lia
theorem GN:∀{l:List Pv},l.all dX=J->lS l=O (oN l)|[],_=>rfl|x::r,h=>by rw[bh]at h;obtain⟨H,d⟩:=ag h;revert H;refine qH (a:=x) (ag h).1 λz _=>?_;show(match lS r with|some ws=>O (z::ws)|none=>af)=_;rw[GN d];rfl
def iM(B:LX ca W)(S:SX W)(k:Nat)(l:List (Nat×(Pv->Bool)))(D:All (Lx ca) W (k+1) (x_ l)):DX ca W 16 (k+2) (Fd l):=by
 refine B.eT ["thing","most","is_one"] ["thing","most","is_one"] J l (.one (.ret (.bo (Bm.ac (.bi o8 (.u2 (.v 0) (.ty 3))) (Bm.ac (.cmp O3 (.bi fe (.u (.v 0))) (.v 1)) (Bm.a1 (.bi HP (.u (.comp 1 [2] (.one 0) (.s (.v 0)) .no (.clv [] 1 (.u (.v 0)))))))))))) S.s45 rfl D (il λx m f Q C p=>?_);obtain⟨H,d,e⟩:=pZ p;refine Lf d λm=>fnC e λj t=>?_;refine AS H id (λ_=>id) (λ_=>id) (λ_ _=>id) (λxs H q=>?_) (λ_ _=>id) λ_ _ _=>id;refine km (Q:=Q) q λ_ q=>?_;refine gm (λy=>.bl (z_ l j y)) rfl (λy A=>?_) ?_;·refine λR q=>ay t (ay (eW H A) q)
 ·exact rn q
def xp(B:LX ca W)(S:SX W):DX ca W 17 2 (pO DP):=by refine B.e (k:=0) 1 J [] [] (.one (.ret (.bo (Bm.ac (.bi o8 (.u2 (.v 0) (.ty 3))) (Bm.a1 (.cmp jZ (.bi fe (.u (.v 0))) (.c (.int 2)))))))) S.s46 rfl trivial trivial (xB λx Q d H=>?_);refine AS H id (λ_=>id) (λ_=>id) (λ_ _=>id) (λxs H=>?_) (λ_ _=>id) λ_ _ _=>id;rcases xs with _|⟨a,_|⟨b,_|⟨c,r⟩⟩⟩<;>exact id
def KD(B:LX ca W)(S:SX W):DX ca W 18 4 (pO oU):=by
 refine B.e (k:=2) 1 J [(17,pO DP),(6,pO du),(8,pO oV)] [] (.one (.ret (.bo (Bm.ac (.cl 17 [] (.u (.v 0))) (Bm.ac (.cl 6 [] (.u (.ix (.v 0) (.c (.int 0))))) (Bm.a1 (.cl 8 [] (.u (.ix (.v 0) (.c (.int 1))))))))))) S.s47 rfl ⟨(xp B S).up rfl,(jF B S).up rfl,j7 B S,trivial⟩ trivial (xB λx Q d H q=>ay H ?_);revert q;refine AS H id (λ_=>id) (λ_=>id) (λ_ _=>id) (λxs H=>?_) (λ_ _=>id) λ_ _ _=>id;rcases xs with _|⟨a,_|⟨b,_|⟨c,r⟩⟩⟩;·exact id
 ·exact id
 ·exact λq=>ay (xu H) (km (Q:=Q) q λ_ q=>ay (eW H (by simp)) q)
 ·exact id
def HH(B:LX ca W)(S:SX W)(d:DX ca W 16 4 (rq 8 oV)):DX ca W 19 5 (pO isList):=by
 refine B.e (k:=3) 1 J [(17,pO DP),(6,pO du),(8,pO oV),(16,rq 8 oV)] [] (.one (.ret (.bo (Bm.ac (.cl 17 [] (.u (.v 0))) (Bm.ac (.cl 6 [] (.u (.ix (.v 0) (.c (.int 0))))) (Bm.a1 (.cl 16 [] (.u3 (.ix (.v 0) (.c (.int 1))) (.g 6) (.f 8))))))))) S.s48 rfl ⟨(xp B S).up rfl,(jF B S).up rfl,(j7 B S).up rfl,d,trivial⟩ trivial (xB λx Q p H q=>ay H ?_);revert q;refine AS H id (λ_=>id) (λ_=>id) (λ_ _=>id) (λxs H=>?_) (λ_ _=>id) λ_ _ _=>id;rcases xs with _|⟨a,_|⟨b,_|⟨c,r⟩⟩⟩;·exact id
 ·exact id
 ·exact λq=>ay (xu H) (km (Q:=Q) q λ_ q=>ay (by show(dz b&&J)=J;rw[eW H (by simp)];rfl) q)
 ·exact id
def wH(B:LX ca W)(S:SX W)(p:DX ca W 16 3 (rq 6 du)):DX ca W 20 4 (pO iU):=by
 refine B.e (k:=2) 1 J [(6,pO du),(16,rq 6 du)] [] (.seq (.iff (.bo (Wm.oc (.not (.val (.bi o8 (.u2 (.v 0) (.ty 3))))) (Wm.oc (.cmp Kj (.bi fe (.u (.v 0))) (.c (.int 4))) (Wm.o1 (.not (.val (.cl 6 [] (.u (.ix (.v 0) (.c (.int 0))))))))))) (.one (.ret (.c (.bl a7)))) .nil) (.seq (.iff (.bo (Wm.oc (.not (.val (.cl 16 [] (.u3 (.ix (.v 0) (.c (.int 1))) (.g 8) (.f 6))))) (Wm.o1 (.not (.val (.cl 16 [] (.u3 (.ix (.v 0) (.c (.int 2))) (.g 8) (.f 6)))))))) (.one (.ret (.c (.bl a7)))) .nil) (.one (.ret (.bi o8 (.u2 (.ix (.v 0) (.c (.int 3))) (.ty 3))))))) S.s49 rfl ⟨(jF B S).up rfl,p,trivial⟩ trivial (xB λx Q y H=>?_);refine AS H id (λ_=>id) (λ_=>id) (λ_ _=>id) (λxs H=>?_) (λ_ _=>id) λ_ _ _=>id;rcases xs with _|⟨a,_|⟨b,_|⟨c,_|⟨d,_|⟨e,r⟩⟩⟩⟩⟩;·exact id
 ·exact id
 ·exact id
 ·exact id
 ·have h1:=eW (x:=b) H (by simp);have h2:=eW (x:=c) H (by simp);have t:=eW (x:=d) H (by simp);refine λq=>ay (xu H) ?_;refine mM (Q:=Q) q λ_ q=>ay (by show(dz b&&J)=J;rw[h1];rfl) ?_;refine mM (Q:=Q) q λ_ q=>ay (by show(dz c&&J)=J;rw[h2];rfl) ?_;refine mM (Q:=Q) q λ_ q=>?_;revert q;exact AS t id (λ_=>id) (λ_=>id) (λ_ _=>id) (λ_ _=>id) (λ_ _=>id) λ_ _ _=>id
 ·exact id
def lB(B:LX ca W)(S:SX W):DX ca W 21 2 uw:=by
 refine B.e (k:=0) 1 J [] [] (.one (.ret (.comp 1 [] (.one 0) (.s (.v 0)) .no (.ix (.v 0) (.c (.int 0)))))) S.s50 rfl trivial trivial (xB λx Q t H=>?_);cases x<;>first|(cases H;done)|skip
 rename_i xs;intro q;refine gm eX rfl (λy d=>?_) q;have hz:=aS.mp (show xs.all yT=J from H) y d;cases y<;>first|(cases hz;done)|skip
 rename_i p;cases p with|nil=>cases hz|cons a r=>exact λR q=>q
def sh(B:LX ca W)(S:SX W):DX ca W 22 2 WS:=by
 refine B.e (k:=0) 1 J [] [] (.one (.ret (.b2 cW (.bi XV (.u (.ix (.v 0) (.c (.int 1))))) (.bi XV (.u (.ix (.v 0) (.c (.int 2)))))))) S.s51 rfl trivial trivial (xB λx Q d H=>?_);unfold DG at H;split at H;·exact λq=>ay (ui (ap.mp H)) q
 ·cases H
def qe(B:LX ca W)(S:SX W):DX ca W 23 2 yo:=by
 refine B.e (k:=0) 1 J [] [] (.one (.ret (.cmp jZ (.agl (.v 0)) (.bi fe (.u (.v 0)))))) S.s52 rfl trivial trivial (xB λx Q y H=>?_);cases x<;>first|(cases H;done)|skip
 rename_i l;obtain⟨d,h2⟩:=ag H;intro q;have hn:(oN l).length=l.length:=ak _;obtain⟨N,M⟩:=sr (oN l);have le:=nc N λx t=>(M x).mp t;have h2:=ap.mp h2;refine cN (GN d) (ay (ap.mpr (by lia)) ?_);have E:qi ((dR (oN l)).length:Nat) (l.length:Nat)=Uh l:=by unfold Uh;rw[dG,eD,F5,<-KZ,hn];lia
 show Q (.p (.bl (qi ((dR (oN l)).length:Nat) (l.length:Nat)))) [];rw[E];exact q
structure Sc where
 bs:List Pv
 ls:List Pv
 ks:List Pv
 us:List Pv
 rt:Bool
noncomputable def Sc.pv(s:Sc):Pv:=.obj 3 [.lst s.bs,.lst s.ls,.dct s.ks s.us,.bl s.rt]
def Sc.ok(s:Sc):Bool:=gI s.bs&&(gI s.ls&&(s.ks.all dX&&(s.us.all isInt&&aa3 s.ks.length s.us.length)))
noncomputable def ksO:Pv->List Pv|.dct ks _=>ks|_=>[]
noncomputable def usO:Pv->List Pv|.dct _ u=>u|_=>[]
noncomputable def Li:Pv->Bool|.dct _ _=>J|_=>a7
noncomputable def XW:Pv->Bool|.bl _=>J|_=>a7
def blO:Pv->Bool|.bl b=>b|_=>a7
@[elab_as_elim]def ae5(h:Li a)(k:∀x y,P (.dct x y)):P a:=by cases a<;>first|exact k _ _|cases h
@[elab_as_elim]def blC(h:XW a)(k:∀x,P (.bl x)):P a:=by cases a<;>first|exact k _|cases h
noncomputable def HS:Pv->List Pv|.obj _ fs=>fs|_=>[]
noncomputable def Δ(c:Nat):Pv->Bool|.obj d _=>aa3 d c|_=>a7
@[elab_as_elim]def agJ(h:Δ c a)(k:∀fs,P (.obj c fs)):P a:=by cases a<;>first|(rw[ax h];exact k _)|cases h
noncomputable def l4:List α->Bool|[_,_,_,_]=>J|_=>a7
@[elab_as_elim]def l4C{P:List α->Prop}{l:List α}(h:l4 l)(k:∀a b c d,P [a,b,c,d]):P l:=by rcases l with _|⟨a,_|⟨b,_|⟨c,_|⟨d,_|⟨e,r⟩⟩⟩⟩⟩<;>first|exact k _ _ _ _|cases h
noncomputable def J4(l:List Pv)(i:Nat):Pv:=l.getD i .non
def scL(l:List Pv):Sc:=⟨rP (J4 l 0),rP (J4 l 1),ksO (J4 l 2),usO (J4 l 2),blO (J4 l 3)⟩
def j0(x:Pv):Sc:=scL (HS x)
def Pf(x:Pv):Bool:=Δ 3 x&&(l4 (HS x)&&(Bd (J4 (HS x) 0)&&(Bd (J4 (HS x) 1)&&(Li (J4 (HS x) 2)&&XW (J4 (HS x) 3)))&&(j0 x).ok))
@[elab_as_elim]def scC(h:Pf a)(k:∀s:Sc,s.ok=J->P s.pv):P a:=by obtain⟨e,h⟩:=ag h;revert h;refine agJ e λfs h=>?_;obtain⟨H,h⟩:=ag h;revert h;refine l4C (show l4 fs=J from H) λa b c d h=>?_;obtain⟨h,p⟩:=ag h;obtain⟨H,q,t,u⟩:=kI h;revert p;exact abh (show Bd a=J from H) λa=>abh (show Bd b=J from q) λb=>ae5 (show Li c=J from t) λx y=>blC (show XW d=J from u) λd h=>k ⟨a,b,x,y,d⟩ h
def vH{s:Sc}(h:s.ok):Pf s.pv=true:=h
def g8(f:Pv->Bool)(s:Sc)(k:Str)(p:Pv):Bool:=match bA k "rows"with|true=>f p|false=>match bA k "value"with|true=>val 4 s.bs s.ls p|false=>match bA k "values"with|true=>sy p&&(w9 p).all (val 4 s.bs s.ls)|false=>du p&&match bA k "box"with|true=>FK p s.bs|false=>match bA k "list"with|true=>FK p s.ls|false=>match bA k "function"with|true=>(lD p s.ks s.us).isSome|false=>bA k "door"
def Vp(f:Pv->Bool)(s:Sc):Pv->Bool|.tup [k,p]=>g8 f s (gD k) p|_=>a7
def WU(s:Sc):List Pv->Bool
 |[_,f,.tup d]=>match lD f s.ks s.us with|some c=>qi (d.length:Nat) (Lg c)|none=>a7
 |_=>a7
def Je(f:Pv->Bool)(s:Sc)(w:Str)(r:List Pv):Option (List Str)->Bool|some ks=>qi ((r.length+1:Nat):Int) (1+((ks.map Pv.str).length:Nat))&&(!(bA w "return"&&!s.rt)&&((kx (ks.map .str) r).all (Vp f s)&&(!bA w "call"||WU s r)))|none=>a7
noncomputable def cO(f:Pv->Bool):Pv->Bool|.tup xs=>xs.all f|_=>a7
@[elab_as_elim]def zT(h:cO f a)(k:∀xs,xs.all f=J->P (.tup xs)):P a:=by cases a<;>first|exact k _ h|cases h
def row:Nat->Sc->Pv->Bool|0,_,_=>a7|n+1,s,.tup (.str w::r)=>Je (cO (row n s)) s w r (lk w fC)|_+1,_,_=>a7
def rows(n:Nat)(s:Sc):Pv->Bool:=cO (row n s)
abbrev Km(n:Nat):Ct:=x4 (λk p s d=>dX k&&(dz p&&(Pf s&&I_ (5-n) d))) λk p s _=>.bl (g8 (rows n (j0 s)) (j0 s) (gD k) p)
abbrev PZ(n:Nat):Ct:=ν (λx s d=>dz x&&(Pf s&&I_ (6-n) d)) λx s _=>.bl (row n (j0 s) x)
abbrev AB(n:Nat):Ct:=ν (λx s d=>dz x&&(Pf s&&I_ (6-n) d)) λx s _=>.bl (rows n (j0 s) x)
theorem Fs{k:Pv}{p:Pv}:∀{ks us:List Pv},lD k ks us=O p->p∈us
 |[],_,h=>by cases h|_::_,[],h=>by cases h|d::ks,u::us,h=>by
  have h:(match DS d k with|true=>O u|false=>lD k ks us)=O p:=h;split at h;·cases h;exact aw
  ·exact aq _ (Fs h)
def pB{p:Pv}(h:du p):dX p=true:=by cases p<;>first|rfl|cases h
def Ds(B:LX ca W)(S:SX W)(D:DX ca W 9 12 yp)(n:Nat)(C:DX ca W 24 (3*n+12) (AB n)):DX ca W 26 (3*n+13) (Km n):=by
 refine B.e (k:=3*n+11) 4 J [(24,AB n),(9,yp),(6,pO du)] [] (.seq (.iff (.cmp jZ (.v 0) (.c (.str "rows"))) (.one (.ret (.cl 24 [] (.u3 (.v 1) (.v 2) (.b2 cW (.v 3) (.c (.int 1))))))) .nil) (.seq (.iff (.cmp jZ (.v 0) (.c (.str "value"))) (.one (.ret (.cl 9 [] (.u3 (.v 1) (.fld 3 0 (.v 2)) (.fld 3 1 (.v 2)))))) .nil) (.seq (.iff (.cmp jZ (.v 0) (.c (.str "values"))) (.one (.ret (.bo (Bm.ac (.bi o8 (.u2 (.v 1) (.ty 3))) (Bm.a1 (.bi HP (.u (.comp 1 [2] (.one 0) (.s (.v 1)) .no (.cl 9 [] (.u3 (.v 0) (.fld 3 0 (.v 1)) (.fld 3 1 (.v 1)))))))))))) .nil) (.seq (.iff (.not (.val (.cl 6 [] (.u (.v 1))))) (.one (.ret (.c (.bl a7)))) .nil) (.seq (.iff (.cmp jZ (.v 0) (.c (.str "box"))) (.one (.ret (.cmp WO (.v 1) (.fld 3 0 (.v 2))))) .nil) (.seq (.iff (.cmp jZ (.v 0) (.c (.str "list"))) (.one (.ret (.cmp WO (.v 1) (.fld 3 1 (.v 2))))) .nil) (.seq (.iff (.cmp jZ (.v 0) (.c (.str "function"))) (.one (.ret (.din a7 (.v 1) (.fld 3 2 (.v 2))))) .nil) (.one (.ret (.cmp jZ (.v 0) (.c (.str "door")))))))))))) S.s55 rfl ⟨C,D.le (by lia),(jF B S).le (by lia),trivial⟩ trivial (u6 λk p s d Q M E=>?_);obtain⟨G,H,t,I⟩:=kI E;refine qH G λk=>scC t λs t=>DN I λq=>?_;have hs:=t;obtain⟨F,A,N,t⟩:=kI t;refine p5 (Q:=Q) q (λ_ q=>?_) λ_ q=>p5 (Q:=Q) q (λ_ q=>?_) λ_ q=>p5 (Q:=Q) q (λ_ q=>?_) λ_ q=>?_;·refine ay ?_ q;show(dz p&&(Pf s.pv&&qi (5-n+1) (6-n)))=J;rw[H,vH hs,eD.mpr (by lia)];rfl
 ·refine ay ?_ q;show(dz p&&(gI s.bs&&gI s.ls))=J;rw[H,F,A];rfl
 ·revert q;refine AS H id (λ_=>id) (λ_=>id) (λ_ _=>id) (λxs H q=>?_) (λ_ _=>id) λ_ _ _=>id;refine gm (λy=>.bl (val 4 s.bs s.ls y)) rfl (λy L=>λR q=>?_) ?_;·refine ay ?_ q;show(dz y&&(gI s.bs&&gI s.ls))=J;rw[eW H L,F,A];rfl
  ·exact rn q
 ·refine ay H (mM (Q:=Q) q λc q=>?_);have fl:=zf c;revert q;refine qH (pB c) λp q=>?_;refine p5 (Q:=Q) q (λ_ q=>ay F q) λ_ q=>p5 (Q:=Q) q (λ_ q=>ay A q) λ_ q=>p5 (Q:=Q) q (λ_ q=>q) λ_ q=>q
def RS{b:Bool}(h:(!b)=a7):b=true:=by cases b<;>first|rfl|cases h
def uL(B:LX ca W)(S:SX W)(n:Nat)(D:DX ca W 25 (3*n+11) (PZ n)):DX ca W 24 (3*n+12) (AB n):=by
 refine B.e (k:=3*n+10) 4 J [(25,PZ n)] [] (.seq (.iff (.not (.val (.bi o8 (.u2 (.v 0) (.ty 3))))) (.one (.ret (.c (.bl a7)))) .nil) (.seq (.fo (.one 3) (.s (.v 0)) (.one (.iff (.not (.val (.cl 25 [] (.u3 (.v 3) (.v 1) (.v 2))))) (.one (.ret (.c (.bl a7)))) .nil))) (.one (.ret (.c (.bl J)))))) S.s53 rfl ⟨D,trivial⟩ trivial (il λx s d Q C u=>?_);obtain⟨H,t,y⟩:=pZ u;refine scC t λs t=>DN y ?_;refine AS H id (λ_=>id) (λ_=>id) (λ_ _=>id) (λxs H q=>?_) (λ_ _=>id) λ_ _ _=>id;refine mU (λpre post σ h=>h=[]/\(∃v,σ=[O (.p (.tup xs)),O (.p s.pv),O (.p (.int (6-n))),v])/\xs.all (row n s)=post.all (row n s)) ⟨rfl,⟨_,rfl⟩,rfl⟩ (λpre x post σ h e j=>?_) λσ h j=>?_
 ·obtain⟨rfl,⟨v,rfl⟩,j⟩:=j;have A:x∈xs:=by rw[e];simp
  refine ay (by show(dz x&&(Pf s.pv&&qi (6-n) (6-n)))=J;rw[eW H A,vH t,eD.mpr rfl];rfl) ?_;rw[bh]at j;have q:Q (.p (.bl (xs.all (row n s)))) []:=q;rw[j]at q;exact mM (Q:=Q) q λc _=>⟨rfl,⟨_,rfl⟩,by rw[j,show row n s x=J from c];rfl⟩
 ·obtain⟨rfl,⟨v,rfl⟩,j⟩:=j;have q:Q (.p (.bl (xs.all (row n s)))) []:=q;rw[j]at q;exact q
def ο:Nat->Ct|0=>PU|n+1=>Km n
def xq(B:LX ca W)(S:SX W)(n:Nat)(D:DX ca W 26 (3*n+10) (ο n)):DX ca W 25 (3*n+11) (PZ n):=by refine B.e (k:=3*n+9) 4 J [(0,pO yU),(2,CU fC),(26,ο n)] [] (.seq (.iff (.bo (Wm.oc (.cmp Fc (.v 2) (.g 9)) (Wm.o1 (.not (.val (.cl 0 [] (.u (.v 0)))))))) (.one (.ret (.c (.bl a7)))) .nil) (.seq (.set 3 (.cl 2 [] (.u (.ix (.v 0) (.c (.int 0)))))) (.seq (.iff (.bo (Wm.oc (.isN a7 (.v 3)) (Wm.o1 (.cmp Kj (.bi fe (.u (.v 0))) (.b2 cW (.c (.int 1)) (.bi fe (.u (.v 3)))))))) (.one (.ret (.c (.bl a7)))) .nil) (.seq (.iff (.bo (Wm.ac (.cmp jZ (.ix (.v 0) (.c (.int 0))) (.c (.str "return"))) (Wm.a1 (.not (.val (.fld 3 3 (.v 1))))))) (.one (.ret (.c (.bl a7)))) .nil) (.seq (.iff (.not (.val (.bi HP (.u (.comp 2 [1,2] (.many [0,1]) (.z (.u2 (.v 3) (.sl (.v 0) (.of (.c (.int 1))) .no))) .no (.cl 26 [] (.cons (.v 0) (.cons (.v 1) (.cons (.v 2) (.cons (.v 3) .nil)))))))))) (.one (.ret (.c (.bl a7)))) .nil) (.one (.ret (.bo (Bm.oc (.cmp Kj (.ix (.v 0) (.c (.int 0))) (.c (.str "call"))) (Bm.o1 (.cmp jZ (.bi fe (.u (.ix (.v 0) (.c (.int 3))))) (.dix (.fld 3 2 (.v 1)) (.ix (.v 0) (.c (.int 2))))))))))))))) S.s54 rfl ⟨(uM B S).le (by lia),(si B S).le (by lia),D,trivial⟩ trivial (il λx s d Q xc A=>?_);obtain⟨t,H,F⟩:=pZ A;cases n with|zero=>exact DN F λq=>q|succ n=>refine scC H λs H=>DN F λq=>?_;refine c6 (λc=>absurd (eF.mp c) (by show ¬(5:Int)<6-(n+1:Nat);lia)) λ_=>ay t ?_;revert q;refine AS t id (λ_=>id) (λ_=>id) (λ_ _=>id) (λxs t=>?_) (λ_ _=>id) λ_ _ _=>id;cases xs with|nil=>exact id|cons a r=>
   refine AS (xu t) id (λ_=>id) (λ_=>id) (λw _=>?_) (λ_ _=>id) (λ_ _=>id) λ_ _ _=>id;refine λq=>MF (λks e=>?_) λe=>?_
   ·have q:Q (.p (.bl (Je (rows n s) s w r (O ks)))) []:=e▸q;refine mM (Q:=Q) q λc q=>?_;refine PJ (Q:=Q) q λq=>?_;refine gm (λy=>.bl (Vp (rows n s) s y)) rfl (λy G=>?_) (rn ?_);·obtain⟨k,p,I,A,rfl⟩:=uo G;obtain⟨k,_,rfl⟩:=bL.mp I;refine λR q=>ay ?_ q;show(dz p&&(Pf s.pv&&qi (6-(n+1:Nat)) (5-n)))=J;rw[eW t (aq _ A),vH H,eD.mpr (by lia)];rfl
    refine mM (Q:=Q) q λL M=>μ (Q:=Q) M λN T=>?_;have hw:w="call":=aT.mp (RS N);subst hw;have e:O (["box","function","values"]:List Str)=O ks:=e;cases e;have c:=eD.mp (show qi ((r.length+1:Nat):Int) (1+(3:Nat))=J from c);have hr:r.length=3:=by lia
    obtain⟨x,f,v,rfl⟩:∃x f v,r=[x,f,v]:=by rcases r with _|⟨x,_|⟨f,_|⟨v,_|⟨z,r⟩⟩⟩⟩<;>first|exact⟨_,_,_,rfl⟩|(simp at hr;done)
    obtain⟨_,C,E,_⟩:=kI L;have C:(du f&&(lD f s.ks s.us).isSome)=true:=C;have E:(sy v&&(w9 v).all (val 4 s.bs s.ls))=true:=E;obtain⟨cn,C⟩:=ag C;obtain⟨u,hu⟩:=cF.mp C;obtain⟨f1,f2,f3,H⟩:=kI H;have hi:=aS.mp (ag H).1 u (Fs hu);revert T hu;refine qH (pB cn) λf=>acU (ag E).1 λv=>Lf hi λu q hu=>?_;refine cN hu ?_;have q:Q (.p (.bl (match lD (.str f) s.ks s.us with|some c=>qi (v.length:Nat) (Lg c)|none=>a7))) []:=q;rw[hu]at q;exact q
   ·have q:Q (.p (.bl (Je (rows n s) s w r af))) []:=e▸q;exact q
theorem AJ(B:LX ca W)(S:SX W)(D:DX ca W 9 12 yp):∀n,DX ca W 25 (3*n+11) (PZ n)|0=>xq B S 0 (Dt.no S.s55)|n+1=>xq B S (n+1) (Ds B S D n (uL B S n (AJ B S D n)))
def sA:Pv->Bool|.tup [k,_]=>bA (gD k) "rows"|_=>a7
noncomputable def Jk:Pv->Pv|.tup [_,p]=>p|_=>.non
def pz(r:List Pv):Option (List Str)->List Pv|some ks=>((kx (ks.map .str) r).filter sA).map Jk|none=>[]
def jK:Pv->List Pv|.tup (.str w::r)=>pz r (lk w fC)|_=>[]
def yO:Pv->Bool|.tup (.str w::_)=>(lk w fC).isSome|_=>a7
abbrev Kk:Ct:=Hr yO λx=>.lst (jK x)
def jr:Nat->Pv->Bool|0,_=>a7|n+1,x=>yO x&&(jK x).all (cO (jr n))
noncomputable def sum(f:Pv->Nat):List Pv->Nat|[]=>0|x::r=>f x+sum f r
def zQ(f:Pv->Nat):Pv->Nat|.tup xs=>sum f xs|_=>0
def jA:Nat->Pv->Nat|0,_=>0|n+1,x=>1+sum (zQ (jA n)) (jK x)
def c9(n:Nat):Pv->Nat:=zQ (jA n)
theorem lT{f:Pv->Nat}:∀{l r:List Pv},sum f (l++r)=sum f l+sum f r|[],r=>by show sum f r=0+sum f r;lia|x::l,r=>by show f x+sum f (l++r)=f x+sum f l+sum f r;rw[lT];lia
def CT(n:Nat):Ct:=λds h Q _=>rC ds λi r=>pC r λx r=>pC r λ_ r=>nC r (aC h λt g=>nC g (gd (aa3 i 0&&(cO (jr n) x&&aa5 (t.length+c9 n x) oz)) (∀u:List Pv,u.length=t.length+c9 n x->Q (.p .non) [.lst u])))
def afu{m:Nat}{b:Ss}(H:∀xs a t(Q:Dv->Hs->Prop)(d:XP),xs.all (jr m)=J->t.length+c9 m (.tup xs)<=oz->(∀u:List Pv,u.length=t.length+c9 m (.tup xs)->Q (.p .non) [.lst u])->b (gR J 1 Q d) (oY n [.r 0,.p (.tup xs),.p a]) [.lst t]):∀ds h Q d,CT m ds h Q d->ds.length=3/\b (gR J h.length Q d) (oY n ds) h:=by intro ds h Q d c;unfold CT at c;refine Zy c λi _ c=>j6 c λx _ c=>j6 c λ_ _ c=>kP c λc=>aeL c λt _ c=>kP c λc=>?_;obtain⟨e,c⟩:=bB c;obtain⟨y,q,e⟩:=pZ e;rw[ax y];refine⟨rfl,?_⟩;revert c e;refine zT q λxs q c e=>?_;exact H xs _ _ Q d q (ap.mp e) c
def uO(B:LX ca W)(S:SX W):DX ca W 3 2 Kk:=by
 refine B.e (k:=0) 1 J [] [] (.one (.ret (.comp 2 [] (.many [0,1]) (.z (.u2 (.ti 1 (.ix (.v 0) (.c (.int 0)))) (.sl (.v 0) (.of (.c (.int 1))) .no))) (.one (.cmp jZ (.v 0) (.c (.str "rows")))) (.v 1)))) S.s17 rfl trivial trivial (xB λx Q u H=>?_);unfold yO at H;split at H;·rename_i w r;obtain⟨ks,e⟩:=cF.mp H;intro q;have q:Q (.p (.lst (pz r (lk w fC)))) []:=q;rw[e]at q;refine cN e (tP sA Jk rfl (λy d=>?_) q);obtain⟨k,p,t,A,rfl⟩:=uo d;obtain⟨k,_,rfl⟩:=bL.mp t;exact⟨λR q=>q,λ_ R q=>q⟩
 ·cases H
def Wl:Nat->Ct|0=>PU|n+1=>CT n
def Kz(B:LX ca W)(S:SX W)(n:Nat)(D5:DX ca W 5 (n+2) (Wl n)):DX ca W 5 (n+3) (CT n):=by
 refine B.eA (k:=n+1) 6 J [(3,Kk),(5,Wl n)] [] (.one (.fo (.one 3) (.s (.v 1)) (.seq (.set 4 (.bi fe (.u (.v 0)))) (.seq (.ex (.mt j5 (.v 0) (.u (.tup (.u3 (.v 4) (.v 3) (.v 2)))))) (.one (.fo (.one 5) (.s (.cl 3 [] (.u (.v 3)))) (.one (.ex (.cl 5 [0] (.u3 (.v 0) (.v 5) (.v 4))))))))))) S.s21 rfl ⟨(uO B S).le (by lia),D5,trivial⟩ trivial (afu λxs a D Q xc h1 H q=>?_);have H:D.length+sum (jA n) xs<=oz:=H;refine mU (λpre post σ h=>(∃A,h=[.lst A]/\A.length=D.length+sum (jA n) pre)/\∃E F d,σ=[O (.r 0),O (.p (.tup xs)),O (.p a),E,F,d]) ⟨⟨D,rfl,rfl⟩,_,_,_,rfl⟩ (λpre x post σ h e j=>?_) λσ h j=>?_
 ·obtain⟨⟨t,rfl,l1⟩,E,F,d,rfl⟩:=j;have hx:x∈xs:=by rw[e];simp
  have C:=aS.mp h1 x hx;cases n with|zero=>exact Vf C|succ n=>
   have ok:(yO x&&(jK x).all (cO (jr n)))=true:=C;obtain⟨YH,G⟩:=ag ok;rw[e,lT]at H;have H:D.length+(sum (jA (n+1)) pre+(jA (n+1) x+sum (jA (n+1)) post))<=oz:=H;have I:jA (n+1) x=1+sum (zQ (jA n)) (jK x):=rfl;refine ay (ui (by lia)) ?_;refine ay YH ?_;refine mU (λL R σ h=>(∃A,h=[.lst A]/\A.length=t.length+1+sum (zQ (jA n)) L)/\∃d,σ=[O (.r 0),O (.p (.tup xs)),O (.p a),O (.p x),O (.p (.int (t.length:Nat))),d]) ⟨⟨_,rfl,by rw[ae];rfl⟩,_,rfl⟩ (λL y R σ h e2 j=>?_) λσ h j=>?_
   ·obtain⟨⟨T,rfl,l2⟩,d,rfl⟩:=j;have hy:y∈jK x:=by rw[e2];simp
    have M:=aS.mp G y hy;rw[e2,lT]at I;have I:jA (n+1) x=1+(sum (zQ (jA n)) L+(c9 n y+sum (zQ (jA n)) R)):=I;refine ay (by show(cO (jr n) y&&aa5 (T.length+c9 n y) oz)=J;rw[M,ap.mpr (by lia)];rfl) λN l3=>?_;refine⟨⟨N,rfl,?_⟩,_,rfl⟩;rw[lT,l3,l2];show _=_+(_+(c9 n y+0));lia
   ·obtain⟨⟨T,rfl,l2⟩,d,rfl⟩:=j;refine⟨⟨T,rfl,?_⟩,_,_,_,rfl⟩;rw[lT,l2,l1];show _=_+(_+(jA (n+1) x+0));lia
 ·obtain⟨⟨t,rfl,l1⟩,E,F,d,rfl⟩:=j;exact q _ l1
theorem uK(B:LX ca W)(S:SX W):∀n,DX ca W 5 (n+3) (CT n)|0=>Kz B S 0 (Dt.Vi S.s21)|n+1=>Kz B S (n+1) (uK B S n)
theorem Fu{k:Str}:∀{ks:List Pv},ks.all dX=J->dH k (oN ks)=a7->AU (.str k) ks=a7|[],_,_=>rfl|x::r,h,n=>by rw[bh]at h;obtain⟨H,d⟩:=ag h;revert n;refine qH H λz n=>?_;have n:(bA k z||dH k (oN r))=false:=n;obtain⟨N,p⟩:=Do.mp n;show(bA z k||AU (.str k) r)=a7;rw[Fu d p,Wa];exact bw.mpr λe=>by rw[aT.mpr (aT.mp e).symm]at N;cases N
theorem A4{k:Str}:∀{a b:List Str},dH k (a++b)=(dH k a||dH k b)|[],_=>rfl|x::r,b=>by show(bA k x||dH k (r++b))=(bA k x||dH k r||dH k b);rw[A4,Bool.or_assoc]
theorem AR:∀{ks us ks' us':List Pv},ks.length=us.length->ks.all dX->ks'.all dX->RL (oN ks)->(∀x∈oN ks,dH x (oN ks')=a7)->yJ ks us (ks',us')=(ks'++ks,us'++us)
 |[],[],ks',us',_,_,_,_,_=>by rw[aM,aM];rfl|[],_::_,_,_,h,_,_,_,_=>by cases h|_::_,[],_,_,h,_,_,_,_=>by cases h|k::ks,u::us,ks',us',A,p,q,H,d=>by
  rw[bh]at p;obtain⟨G,B⟩:=ag p;revert H d;refine qH G λz H d=>?_;have H:(!dH z (oN ks)&&RL (oN ks))=true:=H;obtain⟨N,C⟩:=ag H;have t:=Fu q (d z aw);show yJ ks us (sj (.str z) ks',so (.str z) u ks' us')=_;have E:sj (.str z) ks'=ks'++[.str z]:=by unfold sj;rw[t]
  have D:so (.str z) u ks' us'=us'++[u]:=by unfold so;rw[t]
  rw[E,D,AR (ks:=ks) (us:=us) (by simpa using A) B (by rw[cy,q];rfl) C λx y=>?_];·simp
  ·have:oN (ks'++[Pv.str z])=oN ks'++[z]:=by unfold oN;rw[aV];rfl
   rw[this,A4,d x (aq _ y)];show(bA x z||a7)=a7;rw[Wa];exact bw.mpr λe=>by have:=aT.mp e;rw[<-this]at N;rw[tR y]at N;cases N
def uH(f:Pv):Pv:=.int ((w9 (J4 (w9 f) 1)).length:Nat)
def MK(f:Pv):Pv:=.tup [eX f,uH f]
theorem Gp:∀{fs:List Pv},(fs.map eX).all dX=J->xR (fs.map MK)=O (fs.map eX,fs.map uH)|[],_=>rfl|x::r,h=>by rw[aY,bh]at h;obtain⟨H,d⟩:=ag h;show(match qt (eX x),xR (r.map MK)with|some _,O (ks,e)=>O (eX x::ks,uH x::e)|_,_=>af)=_;rw[Gp d];have:qt (eX x)=O (.inr (gD (eX x))):=qH H λz=>rfl;rw[this];rfl
@[elab_as_elim]def iI{m:Int}(h:nA m g a)(k:∀xs,(xs.length:Int)<=m->xs.all g->P (.tup xs)):P a:=by
 cases a<;>first|(cases h;done)|skip
 exact k _ (el.mp (ag h).1) (ag h).2
def Vh(x:Pv):Bool:=yT x&&dX (eX x)
def zg(h:oU x):Vh x=true:=by
 unfold oU at h;split at h;·exact(pB (ag h).1:dX _=J)
 ·cases h
def vh(h:isList x):Vh x=true:=by
 unfold isList at h;split at h;·exact(pB (ag h).1:dX _=J)
 ·cases h
def F6(h:iU x):Vh x=true:=by
 unfold iU at h;split at h;·exact(pB (ag h).1:dX _=J)
 ·cases h
def fq(i:∀x,f x=J->g x)(h:xs.all f):xs.all g=true:=aS.mpr λx H=>i x (aS.mp h x H)
def jB(h:xs.all Vh):xs.all yT=true:=fq (λ_ h=>(ag h).1) h
def iO(h:xs.all Vh):(xs.map eX).all dX=true:=by rw[mE];exact fq (λ_ h=>(ag h).2) h
theorem rW:∀{l:List Pv},l.all dX=J->gI l=J|[],_=>rfl|x::r,h=>by rw[bh]at h;obtain⟨H,d⟩:=ag h;show(uW x&&gI r)=J;rw[rW d];exact qH H λ_=>rfl
def FC(h:iU x):DG x/\(tE x).all dX/\(tE x).length<=6:=by
 unfold iU at h;split at h
 ·rename_i a b c d;obtain⟨_,H,e,h⟩:=kI h;refine iI H λb l1 B=>iI e λc l2 C=>?_;refine⟨ap.mpr (aH (show b.length+c.length<=6 by lia) (by ext)),?_,?_⟩;·show(b++c).all dX=J;rw[cy,fq (λ_=>pB) B,fq (λ_=>pB) C];rfl
  ·show(b++c).length<=6;rw[ae];lia
 ·cases h
def xS(g:Pv):Pv:=J4 (w9 g) 3
@[elab_as_elim]def QM(h:iU x)(k:∀a b c d,(b.length:Int)<=3->P (.tup [a,.tup b,.tup c,d])):P x:=by
 unfold iU at h;split at h;·rename_i a b c d;obtain⟨_,H,e,h⟩:=kI h;exact iI H λb l1 B=>iI e λc l2 C=>k a b c d l1
 ·cases h
def nD(b l:Pv):Bool:=nA 6 oU b&&(nA 3 isList l&&Uh (lF b++lF l))
def lG(t:List Pv)(f:Pv):Bool:=nA 4 iU f&&(Uh (lF f)&&(w9 f).all λg=>Uh (t++tE g))
def zG(b l f:Pv)(o:List Pv)(rt:Bool):Sc:=⟨lF b++o,lF l,lF f,(w9 f).map uH,rt⟩
def vF(b l f r:Pv):Bool:=((w9 f).all λg=>rows 5 (zG b l f (tE g) J) (xS g))&&rows 5 (zG b l f [] a7) r
def rX(g:Pv):Nat:=1+c9 5 (xS g)
def vU(f r:Pv):Nat:=sum rX (w9 f)+c9 5 r
def kK{a b:Bool}{X:Prop}(q:br (a&&b) Y Z)(k:a->br b Y Z->X):br (!a) Z X:=by cases a with|true=>exact k rfl q|false=>exact q
def E7{a:Bool}(q:br a Y Z):br (!a) Z Y:=by cases a<;>exact q
noncomputable def JO(c:Bool)(n:Nat)(o:Option Nat):Option Nat:=match c with|true=>o|false=>O n
def ER{c:Bool}{o:Option Nat}(q:iw (JO c n o) X K)(k:c->iw o X K->Y):br c Y (X n):=by cases c with|true=>exact k rfl q|false=>exact q
def e_{c:Bool}{o:Option Nat}(q:iw (JO (!c) n o) X K)(k:iw o X K->Y):br c (X n) Y:=by cases c with|true=>exact q|false=>exact k q
def xb(b l f r:Pv):Option Nat:=JO (nD b l) 0 (JO (lG (lF b++lF l) f) 0 (JO (sy r) 0 (JO (vF b l f r) 1 (JO (!lJ 60 (vU f r:Nat)) 2 af))))
abbrev Kp:Ct:=υ (λb l=>dz b&&dz l) λb l K X=>br (nD b l) (K .non) (X 0)
def XG:Pv->Bool|.lst l=>l.all dX&&aa5 l.length 9|_=>a7
@[elab_as_elim]def agv(h:XG x)(k:∀l,l.all dX=J->l.length<=9->P (.lst l)):P x:=by
 cases x<;>first|(cases h;done)|skip
 exact k _ (ag h).1 (ap.mp (ag h).2)
abbrev Ki:Ct:=υ (λf t=>dz f&&XG t) λf t K X=>br (lG (rP t) f) (K .non) (X 0)
def vr{l:List Pv}(H:l.all dX)(d:l.length<=60):JF (.lst l)=true:=by show(l.all dX&&aa5 l.length 60)=J;rw[H,ap.mpr d];rfl
def qg(B:LX ca W)(S:SX W)(t:DX ca W 16 6 (Fd [(18,oU),(19,isList)]))(D:DX ca W 18 4 (pO oU))(d:DX ca W 19 5 (pO isList)):DX ca W 13 7 Kp:=by
 refine B.e (k:=5) 2 J [(16,Fd [(18,oU),(19,isList)]),(21,uw),(23,yo),(18,pO oU),(19,pO isList)] [] (.seq (.iff (.not (.val (.cl 16 [] (.u3 (.v 0) (.g 4) (.f 18))))) (.one (.raise 0 (.c (.str "boxes are a tuple of 0 to 6 pairs of a name and a number")))) .nil) (.seq (.iff (.not (.val (.cl 16 [] (.u3 (.v 1) (.g 5) (.f 19))))) (.one (.raise 0 (.c (.str "lists are a tuple of 0 to 3 pairs of a name and a tuple of 0 to 12 numbers")))) .nil) (.one (.iff (.not (.val (.cl 23 [] (.u (.b2 cW (.cl 21 [] (.u (.v 0))) (.cl 21 [] (.u (.v 1)))))))) (.one (.raise 0 (.c (.str "two boxes or lists have one name")))) .nil)))) S.s42 rfl ⟨t,(lB B S).up rfl,(qe B S).up rfl,D.up rfl,d.up rfl,trivial⟩ trivial (wh λb l Q q H c=>?_);obtain⟨y,A⟩:=ag H;have c:br (nD b l) (Q (.p .non) []) (q 0 []):=c;refine ay (by show(dz b&&J)=J;rw[y];rfl) (kK (a:=nA 6 oU b) (Z:=q 0 []) c λC c=>?_);refine ay (by show(dz l&&J)=J;rw[A];rfl) (kK (a:=nA 3 isList l) (Z:=q 0 []) c λE c=>?_);revert c;refine iI C λb l1 F=>iI E λl l2 b2 c=>?_;have n1:=fq (λ_=>zg) F;have n2:=fq (λ_=>vh) b2;have L:(b.map eX++l.map eX).length<=9:=by rw[ae,ak,ak];lia
 refine ay (jB n1) (ay (jB n2) (ay (ui (aH (by rw[ae]at L;exact L) (by ext))) (ay (vr (l:=b.map eX++l.map eX) (by rw[cy,iO n1,iO n2];rfl) (by lia)) ?_)));exact E7 c
def qf(B:LX ca W)(S:SX W)(y:DX ca W 16 5 (rq 20 iU))(D:DX ca W 20 4 (pO iU)):DX ca W 14 6 Ki:=by
 refine B.e (k:=4) 3 J [(16,rq 20 iU),(21,uw),(22,WS),(23,yo),(20,pO iU)] [] (.seq (.iff (.not (.val (.cl 16 [] (.u3 (.v 0) (.g 7) (.f 20))))) (.one (.raise 0 (.c (.str "functions are a tuple of 0 to 4 tuples of a name, params, owns and rows")))) .nil) (.seq (.iff (.not (.val (.cl 23 [] (.u (.cl 21 [] (.u (.v 0))))))) (.one (.raise 0 (.c (.str "two functions have one name")))) .nil) (.one (.fo (.one 2) (.s (.v 0)) (.one (.iff (.not (.val (.cl 23 [] (.u (.b2 cW (.v 1) (.cl 22 [] (.u (.v 2)))))))) (.one (.raise 0 (.c (.str "a param or an own has another one's name, or a box's or a list's")))) .nil)))))) S.s43 rfl ⟨y,(lB B S).up rfl,(sh B S).up rfl,(qe B S).up rfl,D.up rfl,trivial⟩ trivial (wh λf t Q d H c=>?_);obtain⟨A,C⟩:=ag H;have c:br (lG (rP t) f) (Q (.p .non) []) (d 0 []):=c;revert c;refine agv C λt T G c=>?_;refine ay (by show(dz f&&J)=J;rw[A];rfl) (kK (a:=nA 4 iU f) (Z:=d 0 []) c λE c=>?_);revert c;refine iI E λf l1 q c=>?_;have n1:=fq (λ_=>F6) q;refine ay (jB n1) (ay (vr (l:=f.map eX) (iO n1) (by rw[ak];lia)) (kK (a:=Uh (f.map eX)) (Z:=d 0 []) c λI c=>?_));refine mU (λpre post σ h=>h=[]/\(∃v,σ=[O (.p (.tup f)),O (.p (.lst t)),v])/\br (post.all λg=>Uh (t++tE g)) (Q (.p .non) []) (d 0 [])) ⟨rfl,⟨_,rfl⟩,c⟩ (λpre x post σ h e j=>?_) λσ h j=>?_;·obtain⟨rfl,⟨v,rfl⟩,j⟩:=j;obtain⟨o1,F,L⟩:=FC (aS.mp q x (by rw[e];simp));refine ay o1 (ay (ui (aH (show t.length+(tE x).length<=15 by lia) (by ext))) (ay (vr (by rw[cy,T,F];rfl) (by rw[ae];lia)) ?_));rw[bh]at j;exact kK (a:=Uh (t++tE x)) (Z:=d 0 []) j λ_ j=>⟨rfl,⟨_,rfl⟩,j⟩
 ·obtain⟨rfl,⟨v,rfl⟩,j⟩:=j;exact j
theorem ES{f:Pv->Bool}{g:Pv->Bool}(i:∀k p,f (.tup [.str k,p])=J->bA k "rows"=J->g p):∀{ks:List Str}{r:List Pv},(kx (ks.map .str) r).all f=J->(((kx (ks.map .str) r).filter sA).map Jk).all g=J|[],_,_=>rfl|_::_,[],_=>rfl|k::ks,p::r,h=>by have h:(f (.tup [.str k,p])&&(kx (ks.map .str) r).all f)=true:=h;obtain⟨d,H⟩:=ag h;show(((Pv.tup [.str k,p]::kx (ks.map .str) r).filter sA).map Jk).all g=J;cases e:bA k "rows"with|true=>rw[fL (show sA (.tup [.str k,p])=J from e)];show(g p&&_)=J;rw[i k p d e];exact ES i H|false=>rw[jD (by show ¬bA k "rows"=J;rw[e];exact aK)];exact ES i H
def NL{s:Sc}(h:row (n+1) s x):∃w r,x=.tup (.str w::r)/\Je (cO (row n s)) s w r (lk w fC)=true:=by cases x with
 |tup xs=>cases xs with|nil=>exact Vf h|cons a r=>cases a with|str w=>exact⟨w,r,rfl,h⟩|_=>exact Vf h
 |_=>exact Vf h
theorem NM{s:Sc}:∀{n:Nat}{x:Pv},row n s x=J->jr n x=J|0,_,h=>by cases h|n+1,x,h=>by obtain⟨w,r,E,h⟩:=NL h;rw[E];show((lk w fC).isSome&&(pz r (lk w fC)).all (cO (jr n)))=J;cases e:lk w fC with|none=>rw[e]at h;cases h|some ks=>rw[e]at h;obtain⟨_,_,h,_⟩:=kI h;refine ES (λk p H d=>?_) h;have H:g8 (cO (row n s)) s k p=true:=H;unfold g8 at H;rw[d]at H;exact zT H λxs q=>fq (λy t=>NM t) q
def Gy{s:Sc}(h:rows n s x):cO (jr n) x=true:=zT h λxs H=>fq (λy d=>NM d) H
theorem N7{f:Pv->Nat}(i:∀x,f x<=gQ x):∀xs,sum f xs<=fD xs|[]=>aB _|x::r=>oi (i x) (N7 i r)
theorem OT{f:Pv->Nat}(i:∀x,f x<=gQ x):∀(ks:List Str)(r:List Pv),sum f (((kx (ks.map .str) r).filter sA).map Jk)<=fD r|[],_=>bG _|_::_,[]=>aB _|k::ks,p::r=>by show sum f (((Pv.tup [.str k,p]::kx (ks.map .str) r).filter sA).map Jk)<=gQ p+fD r;have h1:=OT i ks r;have h2:=i p;cases e:bA k "rows"with|true=>rw[fL (show sA (.tup [.str k,p])=J from e)];show f p+_<=_;lia|false=>rw[jD (by show ¬bA k "rows"=J;rw[e];exact aK)];lia
def GP{f:Pv->Nat}(i:∀x,f x<=gQ x)(x:Pv):zQ f x<=gQ x:=by cases x with|tup xs=>have:=N7 i xs;show sum f xs<=1+fD xs;lia|_=>exact bG _
def Ld{f:Pv->Nat}(i:∀x,f x<=gQ x)(x:Pv):1+sum f (jK x)<=gQ x:=by
 have h0:=zJ x;unfold jK;split;·rename_i w r;show 1+sum f (pz r (lk w fC))<=1+(gQ (.str w)+fD r);cases lk w fC with|none=>show 1+0<=_;lia|some ks=>have H:sum f (pz r (O ks))<=fD r:=OT i ks r;lia
 ·show 1+0<=_;lia
theorem Fh:∀(n:Nat)(x:Pv),jA n x<=gQ x|0,_=>bG _|n+1,x=>Ld (GP (Fh n)) x
def Kx(n:Nat)(x:Pv):c9 n x<=gQ x:=GP (Fh n) x
def T9{g:Pv}(h:iU g):rX g<=gQ g:=by refine QM h λa b c d _=>?_;have:=Kx 5 d;show 1+c9 5 d<=1+(gQ a+(gQ (.tup b)+(gQ (.tup c)+(gQ d+0))));lia
theorem GQ{f:Pv->Nat}{g:Pv->Bool}(i:∀x,g x=J->f x<=gQ x):∀{xs:List Pv},xs.all g=J->sum f xs<=fD xs|[],_=>aB _|x::r,h=>by rw[bh]at h;exact oi (i x (ag h).1) (GQ i (ag h).2)
def A0(g:Pv):Bool:=iU g&&cO (jr 5) (xS g)
def ro:Pv->Bool|.tup [_,_,f,r]=>sy f&&((w9 f).all A0&&(cO (jr 5) r&&aa5 (vU f r) oz))|_=>a7
def aho:Pv->Nat|.tup [_,_,f,r]=>vU f r|_=>0
@[elab_as_elim]def prC(h:ro x)(k:∀b l f r,f.all A0=J->cO (jr 5) r->sum rX f+c9 5 r<=oz->P (.tup [b,l,.tup f,r])):P x:=by
 unfold ro at h;split at h;·obtain⟨e,H,p,d⟩:=kI h;revert H d;exact acU e λf H d=>k _ _ f _ H p (ap.mp d)
 ·cases h
abbrev yn:Ct:=Ps ro λx K=>∀t:List Pv,t.length=aho x->K (.lst t)
def WW:Pv->Bool|.tup [b,l,f,r]=>dz (.tup [b,l,f,r])&&(nD b l&&(lG (lF b++lF l) f&&sy r))|_=>a7
def Te:Pv->Bool|.tup [b,l,f,r]=>vF b l f r|_=>a7
@[elab_as_elim]def aeZ(h:WW x)(k:∀b l f r,dz (.tup [b,l,f,r])=J->nD b l->lG (lF b++lF l) f->sy r->P (.tup [b,l,f,r])):P x:=by
 unfold WW at h;split at h;·obtain⟨H,d,e,p⟩:=kI h;exact k _ _ _ _ H d e p
 ·cases h
abbrev WN:Ct:=WT WW λx K X=>br (Te x) (K .non) (X 1)
abbrev Kl:Ct:=lv (λb l f r=>dz (.tup [b,l,f,r])) λb l f r K X=>iw (xb b l f r) X (K (.tup [b,l,f,r]))
def VU{b l f o:List Pv}{rt:Bool}(N:b.all Vh)(d:l.all Vh)(e:f.all Vh)(h:o.all dX):(zG (.tup b) (.tup l) (.tup f) o rt).ok=true:=by show(gI (b.map eX++o)&&(gI (l.map eX)&&((f.map eX).all dX&&((f.map uH).all isInt&&aa3 (f.map eX).length (f.map uH).length))))=J;rw[rW (by rw[cy,iO N,h];rfl),rW (iO d),iO e,show(f.map uH).all isInt=J by rw[mE];exact aS.mpr λ_ _=>rfl,ak,ak,fX];rfl
def HJ(B:LX ca W)(S:SX W)(D:DX ca W 5 8 (CT 5)):DX ca W 4 9 yn:=by
 refine B.e (k:=7) 4 J [(5,CT 5)] [] (.seq (.set 1 (.FW .nil)) (.seq (.fo (.one 2) (.s (.ix (.v 0) (.c (.int 2)))) (.seq (.set 3 (.bi fe (.u (.v 1)))) (.seq (.ex (.mt j5 (.v 1) (.u (.tup (.u3 (.v 3) (.tup (.u2 (.c (.str "def")) (.ix (.v 2) (.c (.int 0))))) (.g 3)))))) (.one (.ex (.cl 5 [0] (.u3 (.v 1) (.ix (.v 2) (.c (.int 3))) (.v 3)))))))) (.seq (.ex (.cl 5 [0] (.u3 (.v 1) (.ix (.v 0) (.c (.int 3))) (.g 3)))) (.one (.ret (.v 1)))))) S.s20 rfl ⟨D,trivial⟩ trivial (xB λx Q N E=>?_);refine prC E λb l f r F I H q=>?_;have q:∀t:List Pv,t.length=sum rX f+c9 5 r->Q (.p (.lst t)) []:=q;refine mU (λpre post σ h=>(∃t,h=[.lst t]/\t.length=sum rX pre)/\∃y A,σ=[O (.p (.tup [b,l,.tup f,r])),O (.r 0),y,A]) ⟨⟨[],rfl,rfl⟩,_,_,rfl⟩ (λpre x post σ h e j=>?_) λσ h j=>?_;·obtain⟨⟨t,rfl,l1⟩,y,A,rfl⟩:=j;obtain⟨M,G⟩:=ag (aS.mp F x (by rw[e];simp):A0 x);rw[e,lT]at H;have H:sum rX pre+(1+c9 5 (xS x)+sum rX post)+c9 5 r<=oz:=H;revert G H;refine QM M λa C c d _ G H=>?_;have H:sum rX pre+(1+c9 5 d+sum rX post)+c9 5 r<=oz:=H;have R:rX (.tup [a,.tup C,.tup c,d])=1+c9 5 d:=rfl;refine ay (ui (by lia)) ?_;refine ay (by show(cO (jr 5) d&&aa5 ((t++[_]).length+c9 5 d) oz)=J;rw[show cO (jr 5) d=J from G,ae,ap.mpr (by show t.length+1+c9 5 d<=oz;lia)];rfl) λT L=>?_;refine⟨⟨T,rfl,?_⟩,_,_,rfl⟩;rw[ae]at L;rw[lT,L,l1];show _+1+_=_+(rX (.tup [a,.tup C,.tup c,d])+0);lia
 ·obtain⟨⟨t,rfl,l1⟩,y,A,rfl⟩:=j;refine ay (by show(cO (jr 5) r&&aa5 (t.length+c9 5 r) oz)=J;rw[I,ap.mpr (by lia)];rfl) λT L=>?_;exact q T (by rw[L,l1])
def Qh(B:LX ca W)(S:sX W.K (ca 3) "Scope.__init__" (gn (top 42) 0) ["self","boxes","lists","param_counts","may_return"])(d:W.mg "Scope"=O (.ref (ca 3))):Di (Lx ca) W 3 2:=by refine Lk.qO (c:=3) (k:=0) ["self","boxes","lists","param_counts","may_return"] ["self","boxes","lists","param_counts","may_return"] J [] [] B (.seq (.ql 3 0 (.v 1) (.v 0)) (.seq (.ql 3 1 (.v 2) (.v 0)) (.seq (.ql 3 2 (.v 3) (.v 0)) (.one (.ql 3 3 (.v 4) (.v 0)))))) S d rfl trivial trivial λds h Q e c=>?_;change XU 3 ds h Q e at c;unfold XU at c;refine Zy c λi _ c=>j6 c λ_ _ c=>j6 c λ_ _ c=>j6 c λ_ _ c=>j6 c λ_ _ c=>kP c λc=>age c λj _ c=>kP c λc=>?_;obtain⟨H,c⟩:=bB c;obtain⟨H,p⟩:=ag H;rw[ax H,ax p];exact⟨rfl,c⟩
def yD(B:LX ca W)(S:SX W)(N:DX ca W 24 27 (AB 5))(T:Di (Lx ca) W 3 2):DX ca W 15 28 WN:=by
 refine B.eN (k:=26) ["program","boxes","lists","functions","rows","param_counts","function","scope"] J [(21,uw),(22,WS),(24,AB 5)] [3] (.seq (.unp [1,2,3,4] (.v 0)) (.seq (.set 5 (.bi afd (.u (.comp 1 [] (.one 0) (.s (.v 3)) .no (.tup (.u2 (.ix (.v 0) (.c (.int 0))) (.bi fe (.u (.ix (.v 0) (.c (.int 1))))))))))) (.seq (.fo (.one 6) (.s (.v 3)) (.seq (.set 7 (.new 3 (.cons (.b2 cW (.cl 21 [] (.u (.v 1))) (.cl 22 [] (.u (.v 6)))) (.cons (.cl 21 [] (.u (.v 2))) (.cons (.v 5) (.cons (.c (.bl J)) .nil)))))) (.one (.iff (.not (.val (.cl 24 [] (.u3 (.ix (.v 6) (.c (.int 3))) (.v 7) (.c (.int 1)))))) (.one (.raise 1 (.c (.str "a row of a function is none")))) .nil)))) (.one (.iff (.not (.val (.cl 24 [] (.u3 (.v 4) (.new 3 (.cons (.cl 21 [] (.u (.v 1))) (.cons (.cl 21 [] (.u (.v 2))) (.cons (.v 5) (.cons (.c (.bl a7)) .nil))))) (.c (.int 1)))))) (.one (.raise 1 (.c (.str "a row of the program is none")))) .nil))))) S.s44 rfl ⟨(lB B S).up rfl,(sh B S).up rfl,N,trivial⟩ ⟨T.le (by lia),trivial⟩ (xB λp Q t hp c=>?_);revert c;refine aeZ hp λb l f r I h1 H h3 c=>?_;have D:dz f=true:=eW I (by simp);have d2:dz r=true:=eW I (by simp);obtain⟨v1,v2,_⟩:=pZ h1;obtain⟨f1,F,H⟩:=pZ H;have c:br (vF b l f r) (Q (.p .non) []) (t 1 []):=c;revert c F H D;refine iI v1 λb lb ab=>iI v2 λl ll al=>iI f1 λf lf A D F H c=>?_;have n1:=fq (λ_=>zg) ab;have n2:=fq (λ_=>vh) al;have n3:=fq (λ_=>F6) A;refine gm MK rfl (λy hy=>?_) ?_;·have z:=aS.mp A y hy;refine QM z λa b c d _=>?_;exact λR q=>q
 refine cN (Gp (iO n3)) ?_;refine ay (ap.mpr (by show(f.map eX).length<=100;rw[ak];lia)) ?_;have e1:=AR (ks:=f.map eX) (us:=f.map uH) (ks':=[]) (us':=[]) (by rw[ak,ak]) (iO n3) rfl F λ_ _=>rfl;rw[gu,gu]at e1;dsimp only;rw[e1];refine mU (λpre post σ h=>h=[]/\(∃C E,σ=[O (.p (.tup [.tup b,.tup l,.tup f,r])),O (.p (.tup b)),O (.p (.tup l)),O (.p (.tup f)),O (.p r),O (.p (.dct (f.map eX) (f.map uH))),C,E])/\br ((post.all λg=>rows 5 (zG (.tup b) (.tup l) (.tup f) (tE g) J) (xS g))&&rows 5 (zG (.tup b) (.tup l) (.tup f) [] a7) r) (Q (.p .non) []) (t 1 [])) ⟨rfl,⟨_,_,rfl⟩,c⟩ (λpre x post σ h e j=>?_) λσ h j=>?_
 ·obtain⟨rfl,⟨C,E,rfl⟩,j⟩:=j;have L:x∈f:=by rw[e];simp
  have z:=aS.mp A x L;obtain⟨o1,G,M⟩:=FC z;have dx:=eW D L;rw[bh,Bool.and_assoc]at j;have sk:=VU (rt:=J) n1 n2 n3 G;revert o1 G M dx j sk;refine QM z λa p o d _ j o1 G M dx sk=>?_;refine ay (jB n1) (ay o1 (ay (ui (aH (show(b.map eX).length+(tE (.tup [a,.tup p,.tup o,d])).length<=12 by rw[ak];lia) (by ext))) (ay (jB n2) ?_)));refine ay (by show(dz d&&(Pf (zG (.tup b) (.tup l) (.tup f) (tE (.tup [a,.tup p,.tup o,d])) J).pv&&J))=J;rw[eW dx (by simp),vH sk];rfl) ?_;exact kK (a:=rows 5 (zG (.tup b) (.tup l) (.tup f) (tE (.tup [a,.tup p,.tup o,d])) J) d) (Z:=t 1 []) j λ_ j=>⟨rfl,⟨_,_,rfl⟩,j⟩
 ·obtain⟨rfl,⟨C,E,rfl⟩,j⟩:=j;have sk:=VU (o:=[]) (rt:=a7) n1 n2 n3 rfl;have es:zG (.tup b) (.tup l) (.tup f) [] a7=⟨b.map eX,l.map eX,f.map eX,f.map uH,a7⟩:=by unfold zG;rw[aM];rfl
  rw[es]at sk j;refine ay (jB n1) (ay (jB n2) ?_);refine ay (by show(dz r&&(Pf (Sc.pv ⟨b.map eX,l.map eX,f.map eX,f.map uH,a7⟩)&&J))=J;rw[d2,vH sk];rfl) ?_;exact E7 j
def yG(B:LX ca W)(S:SX W)(D:DX ca W 13 7 Kp)(d:DX ca W 14 6 Ki)(t:DX ca W 15 28 WN)(N:DX ca W 4 9 yn):DX ca W 12 29 Kl:=by
 refine B.e (k:=27) 5 J [(13,Kp),(14,Ki),(15,WN),(4,yn),(21,uw)] [] (.seq (.ex (.cl 13 [] (.u2 (.v 0) (.v 1)))) (.seq (.ex (.cl 14 [] (.u2 (.v 2) (.b2 cW (.cl 21 [] (.u (.v 0))) (.cl 21 [] (.u (.v 1))))))) (.seq (.iff (.not (.val (.bi o8 (.u2 (.v 3) (.ty 3))))) (.one (.raise 0 (.c (.str "the program's rows are no tuple")))) .nil) (.seq (.set 4 (.tup (.cons (.v 0) (.cons (.v 1) (.cons (.v 2) (.cons (.v 3) .nil)))))) (.seq (.ex (.cl 15 [] (.u (.v 4)))) (.seq (.iff (.cmp Fc (.bi fe (.u (.cl 4 [] (.u (.v 4))))) (.g 10)) (.one (.raise 2 (.c (.str "the program has more than 60 numbers")))) .nil) (.one (.ret (.v 4))))))))) S.s41 rfl ⟨D.up rfl,d.up rfl,t,N.up rfl,(lB B S).up rfl,trivial⟩ trivial (u6 λb l f r Q G H q=>?_);have q:iw (xb b l f r) (λc=>G c []) (Q (.p (.tup [b,l,f,r])) []):=q;have y:dz b=true:=eW H (by simp);have A:dz l=true:=eW H (by simp);have d3:dz f=true:=eW H (by simp);have I:dz r=true:=eW H (by simp);refine ay (by show(dz b&&dz l)=J;rw[y,A];rfl) (ER (c:=nD b l) q λC q=>?_);have E:=C;obtain⟨v1,v2,_⟩:=pZ C;revert q E H y A;refine iI v1 λb lb ab=>iI v2 λl ll al H y A q C=>?_;have n1:=fq (λ_=>zg) ab;have n2:=fq (λ_=>vh) al;refine ay (jB n1) (ay (jB n2) (ay (ui (aH (show(b.map eX).length+(l.map eX).length<=9 by rw[ak,ak];lia) (by ext))) ?_));refine ay (by show(dz f&&((b.map eX++l.map eX).all dX&&aa5 (b.map eX++l.map eX).length 9))=J;rw[d3,cy,iO n1,iO n2,ap.mpr (by rw[ae,ak,ak];lia)];rfl) (ER (c:=lG (b.map eX++l.map eX) f) q λF q=>?_);revert q H;refine AS I (λ_=>id) (λ_ _=>id) (λ_ _=>id) (λ_ _ _=>id) (λr I H q=>?_) (λ_ _ _=>id) λ_ _ _ _=>id;have q:iw (JO (vF (.tup b) (.tup l) f (.tup r)) 1 (JO (!lJ 60 (vU f (.tup r):Nat)) 2 af)) (λc=>G c []) (Q (.p (.tup [.tup b,.tup l,f,.tup r])) []):=q;refine ay (by show(dz (.tup [.tup b,.tup l,f,.tup r])&&(nD (.tup b) (.tup l)&&(lG (lF (.tup b)++lF (.tup l)) f&&J)))=J;rw[H,C,show lG (lF (.tup b)++lF (.tup l)) f=J from F];rfl) (ER (c:=vF (.tup b) (.tup l) f (.tup r)) q λc3 q=>?_);obtain⟨f1,F⟩:=ag F;obtain⟨R,r2⟩:=ag c3;revert q R H;refine iI f1 λf lf L H q R=>?_;have g1:f.all A0=true:=aS.mpr λg M=>by show(iU g&&cO (jr 5) (xS g))=J;rw[aS.mp L g M,Gy (aS.mp R g M)];rfl
 have tl:vU (.tup f) (.tup r)<=oz:=by have e1:sum rX f<=fD f:=GQ (λx h=>T9 h) L;have e2:=Kx 5 (.tup r);have e3:=ap.mp (ag H).2;have e4:gQ (.tup [.tup b,.tup l,.tup f,.tup r])=1+(gQ (.tup b)+(gQ (.tup l)+(1+fD f+(gQ (.tup r)+0)))):=rfl;show sum rX f+c9 5 (.tup r)<=oz;lia
 refine ay (by show(f.all A0&&(cO (jr 5) (.tup r)&&aa5 (vU (.tup f) (.tup r)) oz))=J;rw[g1,Gy r2,ap.mpr tl];rfl) λT lt=>?_;have lt:T.length=vU (.tup f) (.tup r):=lt;show br (lJ 60 (T.length:Nat)) _ _;rw[lt];exact e_ q λq=>q
def dg(H:h[w]?=O o):(h.set w o')[w]?=O o':=cB (ai.mp H).1
def Tp(H:h[w]?=O o):h.set w o=h:=by
 refine List.ext_getElem? λi=>?_;by_cases e:w=i;·subst e;rw[dg H,H]
 ·rw[aG e]
def G7(d:ws.drop k=x::r):ws[k]?=O x/\k+1<=ws.length/\ws.drop (k+1)=r:=by
 have H:(ws.drop k)[0]?=O x:=by rw[d];rfl
 rw[List.getElem?_drop]at H;have H:ws[k]?=O x:=H;refine⟨H,(ai.mp H).1,?_⟩;rw[<-List.drop_drop,d];rfl
def h_(d:k<=ws.length)(H:ws.drop k=[]):k=ws.length:=by have:=List.drop_eq_nil_iff.mp H;lia
def Rw(d:k<=ws.length)(H:ws.drop k=r):lJ k (ws.length:Nat)=!r.isEmpty:=by cases r with|nil=>rw[h_ d H];exact bw.mpr λz=>by have:=eF.mp z;lia|cons x r=>exact eF.mpr (by have:=(G7 H).2.1;lia)
def W4(B:LX ca W)(S:sY W.K (ca 5) "are_left" "Words.are_left" (gn (top 75) 1) ["self"]):Di (Lx ca) W 601 2:=by refine B.Ci (k:=0) 1 a7 [] [] (.one (.ret (.cmp rp (.fld 5 1 (.v 0)) (.bi fe (.u (.fld 5 0 (.v 0))))))) S rfl trivial trivial λds h Q d c=>?_;change cLf ds h Q d at c;cases c with|mk o r H e q=>obtain⟨ws,k,p,t,y,A⟩:=e;rw[<-Rw p t]at q;exact⟨rfl,cM (dM H) (cM (dM H) q)⟩
def W9(B:LX ca W)(S:sY W.K (ca 5) "take" "Words.take" (gn (top 75) 2) ["self"])(D:Di (Lx ca) W 601 2):Di (Lx ca) W 600 4:=by refine B.Ci (k:=2) 1 a7 [] [601] (.seq (.iff (.not (.val (.Ci 601 (.v 0)))) (.one (.raise 4 (.c (.str "a row lacks words")))) .nil) (.seq (.aff 5 1 1 (.v 0)) (.one (.ret (.ix (.fld 5 0 (.v 0)) (.b2 yi (.fld 5 1 (.v 0)) (.c (.int 1)))))))) S rfl trivial ⟨D,trivial⟩ λds h Q C c=>?_;change w_ UW ds h Q C at c;cases c with
 |@ok w _ _ _ o r R x H u e q=>cases r with|nil=>cases e|cons y r=>cases e;refine⟨rfl,?_⟩;obtain⟨ws,k,A,d,p,t⟩:=u;obtain⟨E,F,G⟩:=G7 d;refine iV H (.mk _ _ H ⟨ws,k,A,d,p,t⟩ (WC H rfl rfl (cM (dM (dg H)) (cM (dM (dg H)) ?_))));exact cN (show wB ws ((k:Int)+1-1)=O x by rw[show(k:Int)+1-1=((k:Nat):Int)by lia];exact E) (q (Wo ws (k+1)) ⟨ws,k+1,F,G,p,t⟩)
 |no o r H u e q=>cases r with|cons y r=>cases e|nil=>refine⟨rfl,?_⟩;obtain⟨ws,k,A,d,p,t⟩:=u;exact iV H (.mk _ _ H ⟨ws,k,A,d,p,t⟩ q)
def W8(B:LX ca W)(S:sY W.K (ca 5) "take_all" "Words.take_all" (gn (top 75) 3) ["self"]):Di (Lx ca) W 602 2:=by refine B.Ci (k:=0) 2 a7 [] [] (.seq (.set 1 (.sl (.fld 5 0 (.v 0)) (.of (.fld 5 1 (.v 0))) .no)) (.seq (.ql 5 1 (.bi fe (.u (.fld 5 0 (.v 0)))) (.v 0)) (.one (.ret (.v 1))))) S rfl trivial trivial λds h Q p c=>?_;change w_ UU ds h Q p at c;cases c with|@ok w _ _ _ o r R x H d e q=>cases e;refine⟨rfl,?_⟩;obtain⟨ws,k,C,t,y,A⟩:=d;subst t;exact cM (dM H) (cM (dM H) (cM (dM H) (kr H rfl rfl (q (Wo ws ws.length) ⟨ws,ws.length,aB _,qQ,y,A⟩))))|no o r H d e q=>cases e
def W6(B:LX ca W)(S:sX W.K (ca 5) "Words.__init__" (gn (top 75) 0) ["self","words"])(d:W.mg "Words"=O (.ref (ca 5))):Di (Lx ca) W 5 2:=by refine Lk.qO (c:=5) (k:=0) ["self","words"] ["self","words"] a7 [] [] B (.seq (.ql 5 0 (.v 1) (.v 0)) (.one (.ql 5 1 (.c (.int 0)) (.v 0)))) S d rfl trivial trivial λds h Q t c=>?_;change PX ds h Q t at c;cases c with|@mk i ws _ _ _ H q=>refine⟨rfl,kr H rfl rfl (kr (dg H) rfl rfl ?_)⟩;have e:(h.set i (.ins 5 [.p (.lst ws)])).set i (Wo ws 0)=h.set i (Wo ws 0):=Cu ..;rw[<-e]at q;exact q
def To(H:h[i]?=O o):(h++l).set i o'=h.set i o'++l:=by rw[JR,bx (ai.mp H).1]
def bW(H:h[i]?=O o):(h++l)[i]?=O o:=by rw[aW (ai.mp H).1];exact H
def hJ{a:Ob}(H:h[i]?=O o):(h.set i a++l).set i b=h.set i b++l:=by rw[To (dg H),Cu]
def W5(B:LX ca W)(S:sX W.K (ca 6) "Reader.__init__" (gn (top 76) 0) ["self"])(d:W.mg "Reader"=O (.ref (ca 6))):Di (Lx ca) W 6 2:=by refine Lk.qO (c:=6) (k:=0) ["self"] ["self"] a7 [] [] B (.seq (.ql 6 0 (.g 12) (.v 0)) (.seq (.ql 6 1 (.FW .nil) (.v 0)) (.seq (.ql 6 2 (.FW .nil) (.v 0)) (.seq (.ql 6 3 (.FW .nil) (.v 0)) (.seq (.ql 6 4 (.FW .nil) (.v 0)) (.one (.ql 6 5 (.df .nil) (.v 0)))))))) S d rfl trivial trivial λds h Q e c=>?_;change WR ds h Q e at c;cases c with|@mk i _ _ _ H q=>have G:=dg (o':=.ins 6 [.p (.int 0)]) H;have L:∀a,(h.set i a).length=h.length:=λa=>bp;refine⟨rfl,kr H rfl rfl (kr (bW G) rfl rfl ?_)⟩;rw[hJ H,L];have t:=dg (o':=.ins 6 [.p (.int 0),.r h.length]) H;refine kr (bW (bW t)) rfl rfl ?_;rw[aA,hJ H,ae,L];have u:=dg (o':=.ins 6 [.p (.int 0),.r h.length,.r (h.length+1)]) H;refine kr (bW (bW u)) rfl rfl ?_;rw[aA,hJ H,ae,L];have y:=dg (o':=.ins 6 [.p (.int 0),.r h.length,.r (h.length+1),.r (h.length+2)]) H;refine kr (bW (bW y)) rfl rfl ?_;rw[aA,hJ H,ae,L];have A:=dg (o':=.ins 6 [.p (.int 0),.r h.length,.r (h.length+1),.r (h.length+2),.r (h.length+3)]) H;refine kr (bW (bW A)) rfl rfl ?_;rw[aA,hJ H,ae,L];exact q
def Yv(x:Pv)(K:Pv->Prop)(X:Nat->Prop):Prop:=br (pG (gD x)) (iw (ab2 (gD x)) (λn=>K (.int n)) False) (X 4)
abbrev PV:Ct:=WT (λx=>dX x&&aa5 (gD x).length oz) Yv
def mS(B:LX ca W)(S:SX W):DX ca W 40 2 PV:=by
 refine B.e (k:=0) 1 J [] [] (.seq (.iff (.bo (Wm.oc (.cmp Fc (.bi fe (.u (.v 0))) (.g 11)) (Wm.o1 (.not (.val (.bi HP (.u (.comp 1 [] (.one 0) (.c (.v 0)) .no (.ch O3 O3 (.c (.str "0")) (.v 0) (.c (.str "9"))))))))))) (.one (.raise 4 (.c (.str "a number has one to six figures and nothing else")))) .nil) (.seq (.iff (.bo (Wm.ac (.val (.mt L7 (.v 0) (.u (.c (.str "0"))))) (Wm.a1 (.cmp Kj (.v 0) (.c (.str "0")))))) (.one (.raise 4 (.c (.str "a number has no 0 ahead")))) .nil) (.one (.ret (.bi aac (.u (.v 0))))))) S.Er rfl trivial trivial (xB λx Q t A=>?_);obtain⟨C,H⟩:=ag A;revert H;refine qH C λz H q=>?_;have hz:=ui (ap.mp H);have q:br (pG z) (iw (ab2 z) (λn=>Q (.p (.int n)) []) False) (t 4 []):=q;unfold pG at q;refine ay hz (c6 (λe=>?_) λe=>?_);·have e:lJ 6 (z.length:Nat)=true:=e;rw[e]at q;exact q
 ·have e:lJ 6 (z.length:Nat)=false:=e;rw[e]at q;refine ay hz ?_;refine gm (λy=>.bl (Xb y)) rfl (λy D=>?_) (rn ?_);·obtain⟨c,_,rfl⟩:=bL.mp D;exact λR q=>km (Q:=λd h=>R [d] h) q λ_ q=>q
  ·revert q;cases(wZ z).all Xb with|false=>exact λq=>q|true=>
    have fin:iw (ab2 z) (λn=>Q (.p (.int n)) []) False->iw (ab2 z) (λn=>gd (aa5 z.length 640) (Q (.p (.int n)) [])) False:=λq=>by obtain⟨n,E,q⟩:=Gb q;refine cN E (ay (ap.mpr ?_) q);have:=bw.mp e;rw[ne_eq,eF]at this;lia
    intro q;revert q;show br (!(ae0 z "0"&&!bA z "0")) _ _->br (ae0 z "0") (br (!bA z "0") (t 4 []) _) _;cases ae0 z "0"with|false=>exact fin|true=>cases bA z "0"with|false=>exact λq=>q|true=>exact fin
theorem Wr.all(h:Wr r o):r.all gW=true:=by obtain⟨ws,k,p,H,q,d⟩:=h;subst H;exact aS.mpr λx e=>aS.mp d x (Op e)
@[elab_as_elim]def gWC(h:gW x)(k:∀z,aa5 z.length 1000000=J->(pG z=J->(ab2 z).isSome=J)->P (.str z)):P x:=by
 cases x<;>first|(cases h;done)|skip
 rename_i z;obtain⟨d,H⟩:=ag (show(aa5 z.length 1000000&&(!pG z||(ab2 z).isSome))=J from h);exact k z d λe=>by rw[e]at H;exact H
inductive ym(f:Str->List Pv->Option (Pv×List Pv)):Ct|ok{w:Nat}{k:Str}{h:Hs}{Q:Dv->Hs->Prop}{xc:XP}(o:Ob)(r r':List Pv)(x:Pv)(hw:h[w]?=O o)(wr:Wr r o)(e:f k r=O (x,r'))(q:∀o' l,Wr r' o'->Q (.p x) (h.set w o'++l)):ym f [.p (.str k),.r w] h Q xc|no{w:Nat}{k:Str}{h:Hs}{Q:Dv->Hs->Prop}{xc:XP}(o:Ob)(r:List Pv)(hw:h[w]?=O o)(wr:Wr r o)(e:f k r=af)(q:∀o' l,xc 4 (h.set w o'++l)):ym f [.p (.str k),.r w] h Q xc
inductive PY(R:List Pv->Option (Pv×List Pv)->Prop):Ct|mk{w:Nat}{h:Hs}{Q:Dv->Hs->Prop}{xc:XP}(o:Ob)(r:List Pv)(oo:Option (Pv×List Pv))(hw:h[w]?=O o)(wr:Wr r o)(e:R r oo)(q:∀x r',oo=O (x,r')->∀o' l,Wr r' o'->Q (.p x) (h.set w o'++l))(q':oo=af->∀o' l,xc 4 (h.set w o'++l)):PY R [.r w] h Q xc
inductive CY:Ct|ok{w:Nat}{h:Hs}{Q:Dv->Hs->Prop}{xc:XP}(o:Ob)(v:Str)(r:List Pv)(hw:h[w]?=O o)(wr:Wr (.str v::r) o)(e:(lk v iA).isSome)(q:∀o',Wr r o'->Q (.r h.length) (h.set w o'++[.lst [.str v]])):CY [.r w] h Q xc|no{w:Nat}{h:Hs}{Q:Dv->Hs->Prop}{xc:XP}(o:Ob)(r:List Pv)(hw:h[w]?=O o)(wr:Wr r o)(e:r=[]\/∃v r',r=.str v::r'/\lk v iA=af)(q:∀o' l,xc 4 (h.set w o'++l)):CY [.r w] h Q xc
def pH(r:List Pv)(z:Str):Option (Pv×List Pv):=match pG z with
 |true=>match ab2 z with|some n=>O (.int n,r)|none=>af
 |false=>af
def o6(k:Str):List Pv->Option (Pv×List Pv)|[]=>af|x::r=>match bA k "number"with|true=>pH r (gD x)|false=>O (x,r)
def CP{P:Hs->Prop}(H:h[w]?=O o)(q:∀o' l,P (h.set w o'++l)):P h:=by have q:=q o [];rw[aM,Tp H]at q;exact q
def zh{P:Hs->Prop}(q:∀l,P (h.set w o++l)):P (h.set w o):=by have q:=q [];rw[aM]at q;exact q
def AN(B:LX ca W)(S:SX W)(I:Di (Lx ca) W 600 4):DX ca W 43 6 (ym o6):=by refine B.e (k:=4) 2 a7 [(40,PV)] [600] (.seq (.iff (.cmp jZ (.v 0) (.c (.str "number"))) (.one (.ret (.cl 40 [] (.u (.Ci 600 (.v 1)))))) .nil) (.one (.ret (.Ci 600 (.v 1))))) S.Ey rfl ⟨(mS B S).up rfl,trivial⟩ ⟨I,trivial⟩ λds h Q T c=>?_;cases c with
 |@ok w k _ _ _ o r R x H d e q=>refine⟨rfl,?_⟩;cases r with|nil=>cases e|cons y r=>
  have G:=(ag (show(gW y&&r.all gW)=J from d.all)).1;have e:(match bA k "number"with|true=>pH r (gD y)|false=>O (y,r))=O (x,R):=e;obtain⟨ws,C,D,F,L,M⟩:=id d;refine c6 (λE=>iV H (.ok _ _ _ _ H d rfl λo' p=>?_)) λE=>iV H (.ok _ _ _ _ H d rfl λo' p=>?_)
  ·have E:bA k "number"=true:=E;rw[E]at e;have e:pH r (gD y)=O (x,R):=e;revert e;refine gWC G λz t hn e=>ay (by show(J&&aa5 z.length oz)=J;exact t) ?_;have e:pH r z=O (x,R):=e;unfold pH at e;split at e
   ·rename_i N;split at e;·rename_i n A;cases e;show br (pG z) (iw (ab2 z) _ False) _;rw[N];exact cN A (zh λl=>q o' l p)
    ·cases e
   ·cases e
  ·have E:bA k "number"=false:=E;rw[E]at e;cases e;exact zh λl=>q o' l p
 |@no w k _ _ _ o r H d e q=>refine⟨rfl,?_⟩;obtain⟨ws,C,D,F,L,M⟩:=id d;cases r with|nil=>exact c6 (λ_=>iV H (.no _ _ H d rfl (CP H q))) λ_=>iV H (.no _ _ H d rfl (CP H q))|cons y r=>
  have G:=(ag (show(gW y&&r.all gW)=J from d.all)).1;have e:(match bA k "number"with|true=>pH r (gD y)|false=>O (y,r))=none:=e;refine c6 (λE=>iV H (.ok _ _ _ _ H d rfl λo' p=>?_)) λE=>?_
  ·have E:bA k "number"=true:=E;rw[E]at e;have e:pH r (gD y)=none:=e;revert e;refine gWC G λz t hn e=>ay (by show(J&&aa5 z.length oz)=J;exact t) ?_;have e:pH r z=none:=e;show br (pG z) (iw (ab2 z) _ False) _;unfold pH at e;split at e
   ·rename_i N;have:=hn N;split at e;·cases e
    ·rename_i A;rw[A]at this;cases this
   ·rename_i N;rw[N];exact zh λl=>q o' l
  ·have E:bA k "number"=false:=E;rw[E]at e;cases e
def uN(B:LX ca W)(S:SX W)(I:Di (Lx ca) W 600 4):DX ca W 42 6 CY:=by refine B.e (k:=4) 2 a7 [(1,CU iA)] [600] (.seq (.set 1 (.Ci 600 (.v 0))) (.seq (.iff (.isN a7 (.cl 1 [] (.u (.v 1)))) (.one (.raise 4 (.c (.str "a value begins with another word")))) .nil) (.one (.ret (.FW (.u (.v 1))))))) S.wW rfl ⟨(ko B S).up rfl,trivial⟩ ⟨I,trivial⟩ λds h Q F c=>?_;cases c with|@ok w _ _ _ o v r H d e q=>refine⟨rfl,?_⟩;obtain⟨ws,t,y,A,C,D⟩:=id d;refine iV H (.ok _ _ _ _ H d rfl λo' p=>ay rfl ?_);obtain⟨ks,E⟩:=cF.mp e;refine cN E ?_;have q:=q o' p;rw[<-bp (i:=w) (a:=o')]at q;exact q|@no w _ _ _ o r H d e q=>
  refine⟨rfl,?_⟩;obtain⟨ws,t,y,A,C,D⟩:=id d;rcases e with rfl|⟨v,R,rfl,e⟩;·exact iV H (.no _ _ H d rfl (CP H q))
  ·refine iV H (.ok _ _ _ _ H d rfl λo' p=>ay rfl ?_);show iw (lk v iA) _ _;rw[e];exact zh λl=>q o' l
inductive RV:Nat->List Pv->List (List Pv)->List Pv->Option (Pv×List Pv)->Prop|JM{w v:Str}{ps r:List Pv}{ks:List Str}{st:List (List Pv)}{o:Option (Pv×List Pv)}{m:Nat}(e:lk w iA=O ks)(k:ks[ps.length]?=O ("value":Str))(ev:(lk v iA).isSome)(t:RV m [.str v] ((.str w::ps)::st) r o):RV (m+1) (.str w::ps) st (.str v::r) o|agR{w:Str}{ps r:List Pv}{ks:List Str}{st:List (List Pv)}(e:lk w iA=O ks)(k:ks[ps.length]?=O ("value":Str))(n:r=[]\/∃v r',r=.str v::r'/\lk v iA=af):RV 0 (.str w::ps) st r af|R_{w kd:Str}{x:Pv}{ps r r':List Pv}{ks:List Str}{st:List (List Pv)}{o:Option (Pv×List Pv)}{m:Nat}(e:lk w iA=O ks)(k:ks[ps.length]?=O kd)(nv:bA kd "value"=a7)(f:o6 kd r=O (x,r'))(t:RV m (.str w::ps++[x]) st r' o):RV (m+1) (.str w::ps) st r o|j_{w kd:Str}{ps r:List Pv}{ks:List Str}{st:List (List Pv)}(e:lk w iA=O ks)(k:ks[ps.length]?=O kd)(nv:bA kd "value"=a7)(f:o6 kd r=af):RV 0 (.str w::ps) st r af|fin{w:Str}{ps r:List Pv}{ks:List Str}(e:lk w iA=O ks)(l:ps.length=ks.length):RV 0 (.str w::ps) [] r (O (.tup (.str w::ps),r))|pop{w:Str}{ps p2 r:List Pv}{ks:List Str}{st:List (List Pv)}{o:Option (Pv×List Pv)}{m:Nat}(e:lk w iA=O ks)(l:ps.length=ks.length)(t:RV m (p2++[.tup (.str w::ps)]) st r o):RV (m+1) (.str w::ps) (p2::st) r o
inductive sW:List Pv->Option (Pv×List Pv)->Prop|go{v:Str}{r:List Pv}{o:Option (Pv×List Pv)}{m:Nat}(ev:(lk v iA).isSome)(t:RV m [.str v] [] r o):sW (.str v::r) o|no{r:List Pv}(n:r=[]\/∃v r',r=.str v::r'/\lk v iA=af):sW r af
inductive SK(l:Hs):List Nat->List (List Pv)->Prop|nil:SK l [] []|cons{j:Nat}{js:List Nat}{p:List Pv}{ps:List (List Pv)}(e:l[j]?=O (.lst p))(n1:j≠1)(n:j∉js)(t:SK l js ps):SK l (j::js) (p::ps)
theorem SK.set:∀{js:List Nat}{ps:List (List Pv)},i∉js->SK l js ps->SK (l.set i o) js ps:=by intro js ps h k;induction k with|nil=>exact .nil|cons e N n t I=>exact .cons (by rw[aG (by intro z;subst z;exact h aw)];exact e) N n (I λz=>h (aq _ z))
def SK.acw:∀{js:List Nat}{ps:List (List Pv)},SK l js ps->SK (l.set 1 o) js ps:=by intro js ps k;induction k with|nil=>exact .nil|cons e N n t I=>exact .cons (by rw[aG (bY N)];exact e) N n I
def SK.app:∀{js:List Nat}{ps:List (List Pv)},SK l js ps->SK (l++m) js ps:=by intro js ps k;induction k with|nil=>exact .nil|cons e N n t I=>exact .cons (bW e) N n I
def SK.lt:∀{js:List Nat}{ps:List (List Pv)},SK l js ps->l.length∉js:=by intro js ps k;induction k with|nil=>simp|cons e N n t I=>exact λz=>(aJ.mp z).elim λz=>by have:=(ai.mp e).1;lia I
noncomputable def uf(n:Nat)(js:List Nat):List Dv:=js.map λj=>.r (n+j)
def jO:uf n (js++[j])=uf n js++[.r (n+j)]:=by unfold uf;rw[aV];rfl
def kj:(uf n js).length=js.length:=ak ..
inductive VJ(h:Hs)(w N:Nat)(o:Option (Pv×List Pv))(m:Nat):Es->Hs->Prop|mk(ow:Ob)(l:Hs)(r top:List Pv)(st:List (List Pv))(jt:Nat)(js:List Nat)(v2 v3 v4:Option Dv)(wr:Wr r ow)(l1:l[1]?=O (.df (uf h.length (js.reverse++[jt]))))(hz:js.length+1+r.length<=N)(hs:∀p∈st,p.length<=2)(sk:SK l (jt::js) (top::st))(rv:RV m top st r o):VJ h w N o m [O (.r w),O (.r (h.length+1)),v2,v3,v4] (h.set w ow++l)
def B5{w:Str}(e:lk w iA=O ks):ks.length<=2:=by
 have y:∀{t:List (Str×List Str)},(∀p∈t,p.2.length<=2)->lk w t=O ks->ks.length<=2:=by intro t;induction t with|nil=>intro _ e;cases e|cons p t I=>
   intro h e;have e:(match bA w p.1 with|true=>O p.2|false=>lk w t)=O ks:=e;split at e;·cases e;exact h p aw
   ·exact I (λq H=>h q (aq _ H)) e
 exact y (by ext) e
def OP{k:Str}{R:List Pv}(e:o6 k r=O (x,R)):R.length+1=r.length:=by cases r with|nil=>cases e|cons y r=>
  have e:(match bA k "number"with|true=>pH r (gD y)|false=>O (y,r))=O (x,R):=e;split at e
  ·unfold pH at e;split at e
   ·split at e;·cases e;rfl
    ·cases e
   ·cases e
  ·cases e;rfl
def gU:(h.set w o++l)[h.length+j]?=l[j]?:=by rw[aP (by rw[bp];lia),bp];congr 1;lia
def qD{q:Ob}:(h.set w o++l).set (h.length+j) q=h.set w o++l.set j q:=by rw[JR,bE (by rw[bp];lia),bp];congr 2;lia
def qu(xs:List α)(x:α):wB (xs++[x]) (-1)=O x:=by show(match aa5 1 (xs++[x]).length with|true=>(xs++[x])[(xs++[x]).length-1]?|false=>af)=_;rw[show aa5 1 (xs++[x]).length=J from ap.mpr (by rw[ae];simp),ae];simp
def qv(xs:List α)(x:α):(xs++[x])[(xs++[x]).length-1]?=O x:=by rw[ae];simp
def F7{P:Prop}{w:Str}(H:ps.length<ks.length)(z:rN ((Pv.str w::ps).length:Nat) ((ks.map Pv.str).length:Nat)=a7):P:=by have:=bw.mp z;rw[Ne,el,ao,ak]at this;lia
def Vj{P:Prop}{w:Str}(H:ps.length=ks.length)(z:rN ((Pv.str w::ps).length:Nat) ((ks.map Pv.str).length:Nat)):P:=by rw[el,ao,ak]at z;lia
def tW{w k:Str}(e:ks[ps.length]?=O k):wB (ks.map Pv.str) (((Pv.str w::ps).length:Nat)-1:Int)=O (.str k):=by rw[ao,show((ps.length+1:Nat):Int)-1=((ps.length:Nat):Int)by lia];show(ks.map Pv.str)[ps.length]?=_;rw[bM,e];rfl
seal zk mq mn oM iW in
def yI(B:LX ca W)(S:SX W)(D42:DX ca W 42 6 CY)(t_:DX ca W 43 6 (ym o6)):DX ca W 41 7 (PY sW):=by refine B.e (k:=5) 5 a7 [(1,CU iA),(42,CY),(43,ym o6)] [] (.seq (.set 1 (.df (.u (.sf 42 (.u (.v 0)))))) (.one (.whT (.seq (.set 2 (.ix (.v 1) (.neg (.c (.int 1))))) (.seq (.set 3 (.cl 1 [] (.u (.ix (.v 2) (.c (.int 0)))))) (.one (.iff (.cmp O3 (.bi fe (.u (.v 2))) (.bi fe (.u (.v 3)))) (.seq (.set 4 (.ix (.v 3) (.b2 yi (.bi fe (.u (.v 2))) (.c (.int 1))))) (.one (.iff (.cmp jZ (.v 4) (.c (.str "value"))) (.one (.ex (.mt j5 (.v 1) (.u (.sf 42 (.u (.v 0))))))) (.one (.ex (.mt j5 (.v 2) (.u (.sf 43 (.u2 (.v 4) (.v 0)))))))))) (.seq (.ex (.m0 Yr (.v 1))) (.seq (.iff (.cmp jZ (.bi fe (.u (.v 1))) (.c (.int 0))) (.one (.ret (.bi uV (.u (.v 2))))) .nil) (.one (.ex (.mt j5 (.ix (.v 1) (.neg (.c (.int 1)))) (.u (.bi uV (.u (.v 2)))))))))))))))) S.BM rfl ⟨(ko B S).up rfl,D42,t_,trivial⟩ trivial λds h Q xc c=>?_;cases c with|@mk w _ _ _ o r oo F A e q q'=>refine⟨rfl,?_⟩;cases e with|no n=>exact .no _ _ F A n (q' rfl)|@go v r _ m ev t=>
 have hN:∃N,N<=sizeLine/\r.length+1<=N:=by obtain⟨ws,k,hk,hr,R,hg⟩:=A;refine⟨ws.length,dI R,?_⟩;have:=bU ag0 hr;rw[qS,ao]at this;lia
 obtain⟨N,hN,hN1⟩:=hN;refine .ok _ _ _ F A ev λo' ku=>ay rfl ?_;refine ad5 (VJ h w N oo) (af0 ⟨m,?_⟩ λm σ' h' d=>?_)
 ·have z:=VJ.mk (h:=h) (w:=w) (N:=N) (o:=oo) (m:=m) o' [.lst [.str v],.df [.r (h.length+0)]] r [.str v] [] 0 [] af af af ku rfl (by rw[JQ];lia) (λp I=>by cases I) (.cons rfl (by ext) (by simp) .nil) t;have e1:(h.set w o'++[Ob.lst [.str v]]).length=h.length+1:=by rw[ae,bp];rfl
  have e2:h.set w o'++[.lst [.str v],.df [.r (h.length+0)]]=h.set w o'++[.lst [.str v]]++[Ob.df [.r h.length]]:=by rw[aA];rfl
  rw[<-e1,e2]at z;exact z
 ·cases d with|mk ow l r top st jt js v2 v3 v4 A l1 hz R sk rv=>have yZ:(h.set w ow++l)[w]?=O ow:=bW (dg F);have sk0:=sk;cases sk with|cons e n1 n M=>
  have D:=gU (h:=h) (w:=w) (o:=ow) (l:=l) (j:=1);rw[l1,jO]at D;have G:=gU (h:=h) (w:=w) (o:=ow) (l:=l) (j:=jt);rw[e]at G;have lt1:1<l.length:=(ai.mp l1).1;refine lI D (qu _ _) ?_
  cases rv with|@JM T v0 ps r0 ks _ _ m0 E y ev0 t0=>
   have H:ps.length<ks.length:=(ai.mp y).1;refine rK G rfl (ay rfl (ay rfl (cN E ?_)));refine iN G (nP (c6 (λ_=>?_) λz=>F7 H z));refine iN G (u7 (tW y) ?_);refine ay (JL D) (CY.ok (h:=h.set w ow++l) _ _ _ yZ A ev0 λo' ku=>?_);rw[hJ F,aA,ae,bp];refine ly (gU.trans (bW l1)) (gE ?_) ?_;·rw[kj,ae,cg];rw[ao]at hz;show js.length+1+1<=_;lia
   ·rw[qD];have hn:l.length≠1:=by lia
    refine⟨m0,eG _,.mk o' _ r0 [.str v0] ((.str T::ps)::st) l.length (jt::js) _ _ _ ku ?_ (by rw[ao]at hz⊢;lia) (λp I=>?_) (.cons ?_ hn (SK.lt sk0) (SK.acw (SK.app sk0))) t0⟩;·rw[dg (bW l1),<-jO,de]
    ·rcases aJ.mp I with rfl|I;·have:=B5 E;rw[ao];lia
     ·exact R p I
    ·rw[aG (bY hn),aP (aB _),fY];rfl|@agR T ps _ ks _ E y nn=>have H:ps.length<ks.length:=(ai.mp y).1;refine rK G rfl (ay rfl (ay rfl (cN E ?_)));refine iN G (nP (c6 (λ_=>?_) λz=>F7 H z));refine iN G (u7 (tW y) ?_);refine ay (JL D) (CY.no (h:=h.set w ow++l) _ _ yZ A nn λo' l'=>?_);rw[hJ F,aA];exact q' rfl o' (l++l')|@R_ T kd x ps _ r' ks _ _ m0 E y nv f t0=>
   have H:ps.length<ks.length:=(ai.mp y).1;refine rK G rfl (ay rfl (ay rfl (cN E ?_)));refine iN G (nP (c6 (λ_=>?_) λz=>F7 H z));refine iN G (u7 (tW y) ?_);refine c6 (λz=>by have z:bA kd "value"=true:=z;rw[nv]at z;cases z) λ_=>?_;refine ay (Yb G) (ym.ok (h:=h.set w ow++l) _ _ _ _ yZ A f λo' l' ku=>?_);rw[hJ F,aA];refine nH (gU.trans (bW e)) (gE ?_) ?_;·have:=B5 E;rw[ao];exact aH (show ps.length+1+1<=100 by lia) (by ext)
   ·rw[qD];have hx:=OP f;refine⟨m0,eG _,.mk o' _ r' _ st jt js _ _ _ ku ?_ (by lia) R (.cons (dg (bW e)) n1 n (SK.set n (SK.app M))) t0⟩;rw[aG n1];exact bW l1|@j_ T kd ps _ ks _ E y nv f=>have H:ps.length<ks.length:=(ai.mp y).1;refine rK G rfl (ay rfl (ay rfl (cN E ?_)));refine iN G (nP (c6 (λ_=>?_) λz=>F7 H z));refine iN G (u7 (tW y) ?_);refine c6 (λz=>by have z:bA kd "value"=true:=z;rw[nv]at z;cases z) λ_=>?_;refine ay (Yb G) (ym.no (h:=h.set w ow++l) _ _ yZ A f λo' l'=>?_);rw[hJ F,aA];exact q' rfl o' (l++l')|@fin T ps _ ks E H=>refine rK G rfl (ay rfl (ay rfl (cN E ?_)));refine iN G (nP (c6 (λz=>Vj H z) λ_=>?_));cases M;refine ay (JL D) (tZ (h:=h.set w ow++l) D (qv _ _) ?_);rw[qD,hZ];refine eE (gU.trans (dg l1)) (lU (gU.trans ((aG (bY n1)).trans e)) ?_);exact q _ _ rfl ow _ A|@pop T ps p2 _ ks st _ m0 E H t0=>refine rK G rfl (ay rfl (ay rfl (cN E ?_)));refine iN G (nP (c6 (λz=>Vj H z) λ_=>?_));cases M with|@cons j2 js _ _ e2 n2 n3 sk2=>
   have nj:jt≠j2:=λz=>n (z▸aw);refine ay (JL D) (tZ (h:=h.set w ow++l) D (qv _ _) ?_);rw[qD,hZ];have L:=dg (o':=.df (uf h.length (j2::js).reverse)) l1;have e':=(aG (a:=Ob.df (uf h.length (j2::js).reverse)) (bY n1)).trans e;have C:=(aG (a:=Ob.df (uf h.length (j2::js).reverse)) (bY n2)).trans e2;have g2:=gU (h:=h) (w:=w) (o:=ow) (l:=l.set 1 (.df (uf h.length (j2::js).reverse))) (j:=1);rw[L,de,jO]at g2;refine eE (gU.trans L) (c6 (λz=>?_) λ_=>?_);·have z:qi ((uf h.length (j2::js).reverse).length:Nat) 0=true:=z;rw[eD,kj,cg,ao]at z;lia
   ·rw[de,jO]at L e' C⊢;refine lI g2 (qu _ _) (ay (Yb (gU.trans C)) (lU (gU.trans e') (nH (gU.trans C) (gE ?_) ?_)));·have:=R p2 aw;exact aH (show p2.length+1<=100 by lia) (by ext)
    ·rw[qD];refine⟨m0,eG _,.mk ow _ r _ st j2 js _ _ _ A ?_ (by rw[ao]at hz;lia) (λp I=>R p (aq _ I)) (.cons (dg C) n2 n3 (SK.set n3 (SK.acw sk2))) t0⟩;rw[aG n2,L,jO]
inductive Pc where|p(x:Pv)|l(xs:List Pv)
structure Rp where
 sec:Int
 bs:List Pv
 ls:List Pv
 fs:List Pv
 rs:List Pv
 ops:List (List Pc×List Pv)
inductive CS(l:Hs):List Nat->List Dv->List Pc->Prop|nil:CS l [] [] []|p{V:List Nat}{ds:List Dv}{cs:List Pc}{x:Pv}(t:CS l V ds cs):CS l V (.p x::ds) (.p x::cs)|l{V:List Nat}{ds:List Dv}{cs:List Pc}{k:Nat}{xs:List Pv}(e:l[k]?=O (.lst xs))(t:CS l V ds cs):CS l (k::V) (.r (6+k)::ds) (.l xs::cs)
inductive OK(l:Hs):List Nat->List Nat->List (List Pc×List Pv)->Prop|nil:OK l [] [] []|cons{U V be:List Nat}{ops:List (List Pc×List Pv)}{i j:Nat}{ds:List Dv}{pre:List Pc}{rows:List Pv}(e:l[i]?=O (.df (ds++[.r (6+j)])))(f:l[j]?=O (.lst rows))(cs:CS l V ds pre)(n1:i∉U)(n2:j∉U)(n3:j∉V)(hp:pre.length<=3)(hr:rows.length<=100000)(t:OK l U be ops):OK l (i::j::(V++U)) (i::be) ((pre,rows)::ops)
def Ck(be:List Nat):List Dv:=uf 6 be.reverse
def hR(s:Rp)(be:List Nat)(l:Hs):Hs:=.ins 6 [.p (.int s.sec),.r 1,.r 2,.r 3,.r 4,.r 5]::.lst s.bs::.lst s.ls::.lst s.fs::.lst s.rs::.df (Ck be)::l
theorem CS.set:∀{V:List Nat}{ds:List Dv}{cs:List Pc},k∉V->CS l V ds cs->CS (l.set k o) V ds cs:=by intro V ds cs h c;induction c with|nil=>exact .nil|p t I=>exact .p (I h)|l e t I=>exact .l (by rw[aG (by intro z;subst z;exact h aw)];exact e) (I λz=>h (aq _ z))
def CS.app:∀{V:List Nat}{ds:List Dv}{cs:List Pc},CS l V ds cs->CS (l++m) V ds cs:=by intro V ds cs c;induction c with|nil=>exact .nil|p t I=>exact .p I|l e t I=>exact .l (bW e) I
theorem OK.set:∀{U be:List Nat}{ops:List (List Pc×List Pv)},k∉U->OK l U be ops->OK (l.set k o) U be ops:=by intro U be ops h c;induction c with|nil=>exact .nil|cons e f C N d p H q t I=>exact .cons (by rw[aG (by intro z;subst z;exact h aw)];exact e) (by rw[aG (by intro z;subst z;exact h (aq _ aw))];exact f) (CS.set (λz=>h (aq _ (aq _ (cP _ z)))) C) N d p H q (I λz=>h (aq _ (aq _ (aR _ z))))
theorem OK.app:∀{U be:List Nat}{ops:List (List Pc×List Pv)},OK l U be ops->OK (l++m) U be ops:=by intro U be ops c;induction c with|nil=>exact .nil|cons e f C N d p H q t I=>exact .cons (bW e) (bW f) (CS.app C) N d p H q I
def CS.lt:∀{V:List Nat}{ds:List Dv}{cs:List Pc},CS l V ds cs->∀i∈V,i<l.length:=by intro V ds cs c;induction c with|nil=>exact λ_ h=>nomatch h|p t I=>exact I|l e t I=>exact λi h=>(aJ.mp h).elim (λz=>by rw[z];exact(ai.mp e).1) (I i)
theorem OK.lt:∀{U be:List Nat}{ops:List (List Pc×List Pv)},OK l U be ops->∀i∈U,i<l.length:=by intro U be ops c;induction c with|nil=>exact λ_ h=>nomatch h|cons e f C N d p H q t I=>exact λi h=>(aJ.mp h).elim (λz=>by rw[z];exact(ai.mp e).1) λh=>(aJ.mp h).elim (λz=>by rw[z];exact(ai.mp f).1) λh=>(bf.mp h).elim (C.lt i) (I i)
structure gB(U:List Nat)(w:Nat)(l:Hs)(U':List Nat)(l':Hs):Prop where
 k:∀j o,j∉U->j≠w->l[j]?=O o->l'[j]?=O o
 u:∀j∈U',j∈U\/l.length<=j
 n:l.length<=l'.length
def gB.trans{d p:List Nat}{l1 l2:Hs}(a:gB U w l d l1)(b:gB d w l1 p l2):gB U w l p l2:=⟨λj o H q e=>b.k j o (λz=>(a.u j z).elim H λz=>by have:=(ai.mp e).1;lia) q (a.k j o H q e),λj h=>(b.u j h).elim (a.u j) λz=>.inr (aH a.n z),aH a.n b.n⟩
inductive Pq(s:Rp)(l:Hs):List Nat->Nat->Prop|top{be:List Nat}(hi:be=[]):Pq s l be 4|row{be:List Nat}{i j:Nat}{ds:List Dv}(e:l[i]?=O (.df (ds++[.r (6+j)]))):Pq s l (i::be) (6+j)
inductive Kh:Ct|ok{s:Rp}{l:Hs}{be:List Nat}{k:Int}{Q:Dv->Hs->Prop}{xc:XP}(hi:be=[])(e:lJ k s.sec=a7)(q:Q (.p .non) (hR {s with sec:=k} be l)):Kh [.r 0,.p (.int k)] (hR s be l) Q xc
inductive Fb:Ct|ok{s:Rp}{l:Hs}{be:List Nat}{n:Nat}{Q:Dv->Hs->Prop}{xc:XP}(e:Pq s l be n)(q:Q (.r n) (hR s be l)):Fb [.r 0] (hR s be l) Q xc
def sx:(hR s be l)[0]?=O (.ins 6 [.p (.int s.sec),.r 1,.r 2,.r 3,.r 4,.r 5]):=rfl
def sv:(hR s be l)[1]?=O (.lst s.bs):=rfl
def rr:(hR s be l)[2]?=O (.lst s.ls):=rfl
def hr4:(hR s be l)[4]?=O (.lst s.rs):=rfl
def JI:(hR s be l)[5]?=O (.df (Ck be)):=rfl
def Gd{P:Prop}(H:be=[])(z:lJ 0 ((Ck be).length:Nat)):P:=by subst H;exact Vf z
def wK:(hR s (i::be) l)[5]?=O (.df (uf 6 be.reverse++[.r (6+i)])):=by rw[<-jO,<-de];rfl
def YZ{P:Prop}{x:Dv}(z:lJ 0 ((uf 6 be++[x]).length:Nat)=a7):P:=by have:=bw.mp z;rw[Ne,eF,ae]at this;have e:[x].length=1:=rfl;lia
def eY(e:l[j]?=O o):(hR s be l)[6+j]?=O o:=by rw[show 6+j=j+6 by lia];exact e
def rT:(hR s be l).set (6+j) o=hR s be (l.set j o):=by rw[show 6+j=j+6 by lia];rfl
seal nk qA FX p4 zk mq mn oM iW in
def yE(B:LX ca W)(S:SX W):DX ca W 54 2 Kh:=by refine B.e (k:=0) 2 a7 [] [] (.seq (.iff (.bo (Wm.oc (.cmp Fc (.bi fe (.u (.fld 6 5 (.v 0)))) (.c (.int 0))) (Wm.o1 (.cmp rp (.v 1) (.fld 6 0 (.v 0)))))) (.one (.raise 4 (.c (.str "a row stands where it may not")))) .nil) (.one (.ql 6 0 (.v 1) (.v 0)))) S.Zw rfl trivial trivial λds h Q d c=>?_;cases c with|@ok s l be k _ _ H e q=>refine⟨rfl,cM (dM sx) (eE JI (c6 (λz=>Gd H z) λ_=>cM (dM sx) (c6 (λz=>?_) λ_=>kr sx rfl rfl q)))⟩;have z:lJ k s.sec=true:=z;rw[e]at z;cases z
seal nk qA FX p4 zk mq mn oM iW in
def KC(B:LX ca W)(S:SX W):DX ca W 56 2 Fb:=by refine B.e (k:=0) 1 a7 [] [] (.seq (.iff (.cmp Fc (.bi fe (.u (.fld 6 5 (.v 0)))) (.c (.int 0))) (.one (.ret (.ix (.ix (.fld 6 5 (.v 0)) (.neg (.c (.int 1)))) (.neg (.c (.int 1)))))) .nil) (.one (.ret (.fld 6 4 (.v 0))))) S.wY rfl trivial trivial λds h Q d c=>?_;cases c with|@ok s l be n _ _ e q=>cases e with|top H=>exact⟨rfl,cM (dM sx) (eE JI (c6 (λz=>Gd H z) λ_=>cM (dM sx) q))⟩|@row be i j ds e=>exact⟨rfl,cM (dM sx) (eE wK (c6 (λ_=>cM (dM sx) (lI wK (qu _ _) (lI (eY e) (qu _ _) q))) λz=>YZ z))⟩
inductive cPt:Ct|mk{w:Nat}{h:Hs}{Q:Dv->Hs->Prop}{xc:XP}(o:Ob)(r:List Pv)(oo:Option (Pv×List Pv))(hw:h[w]?=O o)(wr:Wr r o)(e:sW r oo)(q:∀x r',oo=O (x,r')->∀o' l,Wr r' o'->Q (.p x) (h.set w o'++l))(q':oo=af->∀o' l,xc 4 (h.set w o'++l)):cPt [.p (.str "value"),.r w] h Q xc
def oK(x:Pv):Pv:=match ab2 (gD x)with|some n=>.int n|none=>.non
def IC(x:Pv):Bool:=gW x&&pG (gD x)
inductive PR:Ct|mk{w:Nat}{h:Hs}{Q:Dv->Hs->Prop}{xc:XP}(o:Ob)(r:List Pv)(hw:h[w]?=O o)(wr:Wr r o)(e:r.all IC)(q:∀o',Wr [] o'->Q (.p (.tup (r.map oK))) (h.set w o')):PR [.r w] h Q xc
inductive Hu(T:Rp->List Pv->Option (Rp×List Pv)->Prop):Ct|mk{s:Rp}{U be:List Nat}{l:Hs}{w:Nat}{o:Ob}{r:List Pv}{oo:Option (Rp×List Pv)}{Q:Dv->Hs->Prop}{xc:XP}(ok:OK l U be s.ops)(hw:l[w]?=O o)(wr:Wr r o)(e:T s r oo)(q:∀s' r',oo=O (s',r')->∀U' ir l' o',OK l' U' ir s'.ops->l'[w]?=O o'->Wr r' o'->gB U w l U' l'->Q (.p .non) (hR s' ir l'))(q':oo=af->∀h',xc 4 h'):Hu T [.r 0,.r (6+w)] (hR s be l) Q xc
inductive JS:Rp->List Pv->Option (Rp×List Pv)->Prop|mk{s:Rp}{x y:Pv}{r:List Pv}(e1:s.ops=[])(e2:lJ 0 s.sec=a7)(e3:IC y)(e4:s.bs.length<=100):JS s (x::y::r) (O ({s with sec:=0,bs:=s.bs++[.tup [x,oK y]]},r))
inductive JZ:Rp->List Pv->Option (Rp×List Pv)->Prop|mk{s:Rp}{x:Pv}{r:List Pv}(e1:s.ops=[])(e2:lJ 1 s.sec=a7)(e3:r.all IC)(e4:s.ls.length<=100):JZ s (x::r) (O ({s with sec:=1,ls:=s.ls++[.tup [x,.tup (r.map oK)]]},[]))
noncomputable def BD:Dv->Pv|.p x=>x|.r _=>.non
def ac2(h:Wr r o):iz r.length=true:=by obtain⟨ws,k,e,H,d,p⟩:=h;subst H;refine gE (aH ?_ (dI d));rw[qS];lia
theorem Gv:∀r:List Pv,ud (r.map λx=>Dv.p (oK x))=O (r.map oK)|[]=>rfl|x::r=>by show(match ud (r.map λx=>Dv.p (oK x))with|some xs=>O (oK x::xs)|none=>af)=_;rw[Gv r];rfl
def Mj{K:Pv->Prop}(h:IC (.str z))(q:K (oK (.str z))):Yv (.str z) K X:=by
 obtain⟨d,H⟩:=ag h;have H:pG z=true:=H;unfold Yv;show br (pG z) (iw (ab2 z) (λn=>K (.int n)) False) (X 4);rw[H];have:=(ag (show(aa5 z.length 1000000&&(!pG z||(ab2 z).isSome))=J from d)).2;rw[H]at this;have this:(ab2 z).isSome=true:=this;obtain⟨n,E⟩:=cF.mp this;have e:oK (.str z)=.int n:=by show(match ab2 z with|some n=>Pv.int n|none=>.non)=_;rw[E]
 rw[e]at q;exact cN E q
@[elab_as_elim]def Vn(h:IC x)(k:∀z,aa5 z.length oz=J->IC (.str z)->P (.str z)):P x:=by
 cases x<;>first|(cases h;done)|skip
 rename_i z;exact k z (ag (ag h).1).1 h
def OK.RP(h:OK l U be []):U=[]/\be=[]:=by cases h;exact⟨rfl,rfl⟩
theorem gB.set:gB U w l U (l.set w o):=⟨λj o' _ h e=>by rw[aG (bY h)];exact e,λ_ h=>.inl h,by rw[bp];exact aB _⟩
def CS.wn(H:l[w]?=O (.ins c fs)):∀{V:List Nat}{ds:List Dv}{cs:List Pc},CS l V ds cs->w∉V:=by intro V ds cs c;induction c with|nil=>simp|p t I=>exact I|l e t I=>exact λz=>(aJ.mp z).elim (λz=>by rw[<-z,H]at e;cases e) I
theorem OK.wn(H:l[w]?=O (.ins c fs)):∀{U be:List Nat}{ops:List (List Pc×List Pv)},OK l U be ops->w∉U:=by intro U be ops c;induction c with|nil=>simp|cons e f C N d p q u t I=>exact λz=>(aJ.mp z).elim (λz=>by rw[<-z,H]at e;cases e) λz=>(aJ.mp z).elim (λz=>by rw[<-z,H]at f;cases f) λz=>(bf.mp z).elim (CS.wn H C) I
def AM(B:LX ca W)(S:SX W)(I:Di (Lx ca) W 601 2)(D:DX ca W 41 7 (PY sW))(t:DX ca W 43 6 (ym o6)):DX ca W 44 8 cPt:=by refine B.e (k:=6) 3 a7 [(41,PY sW),(43,ym o6)] [601] (.seq (.iff (.cmp jZ (.v 0) (.c (.str "value"))) (.one (.ret (.sf 41 (.u (.v 1))))) .nil) (.seq (.iff (.cmp jZ (.v 0) (.c (.str "values"))) (.seq (.set 2 (.FW .nil)) (.seq (.whG (.val (.Ci 601 (.v 1))) (.one (.ex (.mt j5 (.v 2) (.u (.sf 41 (.u (.v 1)))))))) (.one (.ret (.bi uV (.u (.v 2))))))) .nil) (.one (.ret (.sf 43 (.u2 (.v 0) (.v 1))))))) S.Ew rfl ⟨D,t.up rfl,trivial⟩ ⟨I.le (by ext),trivial⟩ λds h Q A c=>?_;cases c with|mk o r d H p e q y=>exact⟨rfl,.mk o r d H p e q y⟩
seal nk qA FX p4 zk mq mn oM iW in
def uP(B:LX ca W)(S:SX W)(I:Di (Lx ca) W 602 2):DX ca W 39 4 PR:=by refine B.e (k:=2) 1 a7 [(40,PV)] [602] (.one (.ret (.bi uV (.u (.Fi 1 [] 0 (.p (.s (.Ci 602 (.v 0)))) .no (.cl 40 [] (.u (.v 0))) J))))) S.wX rfl ⟨(mS B S).up rfl,trivial⟩ ⟨I,trivial⟩ λds h Q R c=>?_;cases c with|@mk w _ _ _ o r C t e q=>
  refine⟨rfl,?_⟩;obtain⟨ws,T,hk,hr,hs,hg⟩:=id t;refine iV C (.ok _ _ _ _ C t rfl λo' D=>?_);refine iK (r.map .p) (λpre A H=>A=pre.map (λd=>.p (oK (BD d)))/\H=h.set w o') ?_ ⟨rfl,rfl⟩ (λpre A H j=>rfl) (λpre y post A H E j=>?_) λA H j=>?_;·rw[ak];exact ac2 t
  ·obtain⟨rfl,rfl⟩:=j;obtain⟨x,F,rfl⟩:=bL.mp (show y∈r.map .p by rw[E];simp);have G:=aS.mp e x F;revert E;refine Vn G λz L M E=>ay (by show(J&&aa5 z.length oz)=J;exact L) (Mj M ?_);exact⟨by rw[aV];rfl,rfl⟩
  ·obtain⟨rfl,rfl⟩:=j;have q:=q o' D;have N:ud ((r.map Dv.p).map λd=>.p (oK (BD d)))=O (r.map oK):=by rw[fi];exact Gv r
   show(match ud ((r.map Dv.p).map λd=>.p (oK (BD d)))with|some xs=>_|none=>False);rw[N];exact zU q
seal nk qA FX p4 zk mq mn oM iW in
def Dp(B:LX ca W)(S:SX W)(I:Di (Lx ca) W 600 4):DX ca W 45 6 (Hu JS):=by refine B.e (k:=4) 3 a7 [(54,Kh),(40,PV)] [600] (.seq (.ex (.sf 54 (.u2 (.v 0) (.g 12)))) (.seq (.set 2 (.Ci 600 (.v 1))) (.one (.ex (.mt j5 (.fld 6 1 (.v 0)) (.u (.tup (.u2 (.v 2) (.cl 40 [] (.u (.Ci 600 (.v 1)))))))))))) S.IW rfl ⟨(yE B S).up rfl,(mS B S).up rfl,trivial⟩ ⟨I,trivial⟩ λds h Q xc c=>?_;cases c with|@mk s U be l w o r oo _ _ ok H t e q q'=>cases e with|@mk x y r E D F G=>refine⟨rfl,?_⟩;rw[E]at ok;obtain⟨rfl,A⟩:=ok.RP;refine .ok A D ?_;obtain⟨ws,kk,hk,hr,hs,hg⟩:=id t;refine iV (eY H) (.ok _ _ _ _ (eY H) t rfl λo1 C=>?_);rw[rT];have d:=dg (o':=o1) H;obtain⟨L,M,_,_,_,_⟩:=id C;refine cM (dM sx) (ay (Yb sv) (iV (eY d) (.ok _ _ _ _ (eY d) C rfl λN p=>?_)));rw[rT];revert q;refine Vn F λz R T q=>ay (by show(J&&aa5 z.length oz)=J;exact R) (Mj T ?_);refine nH sv (gE (aH (Nat.succ_le_succ G) (by ext))) ?_;refine q _ _ rfl [] be _ N ?_ (dg d) p (by rw[Cu];exact gB.set);rw[A];show OK _ [] [] s.ops;rw[E];exact .nil
seal nk qA FX p4 zk mq mn oM iW in
def AL(B:LX ca W)(S:SX W)(I:Di (Lx ca) W 600 4)(D:DX ca W 39 4 PR):DX ca W 46 6 (Hu JZ):=by refine B.e (k:=4) 3 a7 [(54,Kh),(39,PR)] [600] (.seq (.ex (.sf 54 (.u2 (.v 0) (.g 13)))) (.seq (.set 2 (.Ci 600 (.v 1))) (.one (.ex (.mt j5 (.fld 6 2 (.v 0)) (.u (.tup (.u2 (.v 2) (.sf 39 (.u (.v 1))))))))))) S.Eu rfl ⟨(yE B S).up rfl,D.up rfl,trivial⟩ ⟨I,trivial⟩ λds h Q M c=>?_;cases c with|@mk s U be l w o r N _ _ ok H p e q R=>cases e with|@mk x r E A C F=>refine⟨rfl,?_⟩;rw[E]at ok;obtain⟨rfl,t⟩:=ok.RP;refine .ok t A ?_;obtain⟨ws,T,hk,hr,hs,hg⟩:=id p;refine iV (eY H) (.ok _ _ _ _ (eY H) p rfl λo1 G=>?_);rw[rT];have y:=dg (o':=o1) H;refine cM (dM sx) (ay (Yb rr) (.mk _ _ (eY y) G C λL d=>?_));rw[rT];refine nH rr (gE (aH (Nat.succ_le_succ F) (by ext))) ?_;refine q _ _ rfl [] be _ L ?_ (dg y) d (by rw[Cu];exact gB.set);rw[t];show OK _ [] [] s.ops;rw[E];exact .nil
def A6(x:Pv):Pv:=match lk (gD x) fC with|some ks=>vS (ks.takeWhile λk=>!bA k "rows")|none=>.non
abbrev p6:Ct:=Hr (λx=>dX x&&(lk (gD x) fC).isSome) A6
noncomputable def kJ(s:Rp):Rp:=match s.ops with|[]=>{s with sec:=3}|_=>s
noncomputable def vT(s:Rp):List Pv:=match s.ops with|[]=>s.rs|(_,rows)::_=>rows
noncomputable def CK(s:Rp)(x:Pv):Rp:=match s.ops with|[]=>{s with rs:=s.rs++[x]}|(pre,rows)::t=>{s with ops:=(pre,rows++[x])::t}
noncomputable def YY(s:Rp)(pre:List Pc):Rp:={s with ops:=(pre,[])::s.ops}
def p0(s:Rp):(kJ s).ops=s.ops:=by
 unfold kJ;split;·rfl
 ·rfl
def yf(s:Rp):vT (kJ s)=vT s:=by
 unfold kJ;split;·rename_i h;unfold vT;rw[h]
 ·rfl
inductive wA:Str->Rp->List Pv->Option (Rp×List Pv)->Prop|tell{s:Rp}{x:Pv}{r r':List Pv}(e1:lJ 3 s.sec=a7)(t:sW r (O (x,r')))(hz:(vT s).length<100000):wA "tell" s r (O (CK (kJ s) (.tup [.str "tell",x]),r'))|ifw{v:Str}{s:Rp}{x:Pv}{r r':List Pv}(hv:v="if"\/v="while")(e1:lJ 3 s.sec=a7)(t:sW r (O (x,r')))(hz:s.ops.length<100000):wA v s r (O (YY (kJ s) [.p (.str v),.p x],r'))|Ub{s:Rp}{r:List Pv}(e1:lJ 3 s.sec=a7)(hz:s.ops.length<100000):wA "try" s r (O (YY (kJ s) [.p (.str "try")],r))|no{s:Rp}{r:List Pv}(e1:lJ 3 s.sec=a7)(t:sW r af):wA "tell" s r af
inductive π:Ct|mk{v:Str}{s:Rp}{U be:List Nat}{l:Hs}{w:Nat}{o:Ob}{r:List Pv}{oo:Option (Rp×List Pv)}{Q:Dv->Hs->Prop}{xc:XP}(ok:OK l U be s.ops)(hw:l[w]?=O o)(wr:Wr r o)(e:wA v s r oo)(q:∀s' r',oo=O (s',r')->∀U' ir l' o',OK l' U' ir s'.ops->l'[w]?=O o'->Wr r' o'->gB U w l U' l'->Q (.p .non) (hR s' ir l'))(q':oo=af->∀h',xc 4 h'):π [.r 0,.p (.str v),.r (6+w)] (hR s be l) Q xc
def OK.len:∀{U be:List Nat}{ops:List (List Pc×List Pv)},OK l U be ops->be.length=ops.length:=by intro U be ops c;induction c with|nil=>rfl|cons e f C N d p H q t I=>rw[ao,ao,I]
def wA.ev{d:Option (Rp×List Pv)}(h:wA v s r d):(∃ks,lk v fC=O ks)/\lJ 3 s.sec=false:=by cases h with|tell e t H=>exact⟨⟨_,rfl⟩,e⟩|ifw p e t H=>exact⟨by rcases p with rfl|rfl<;>exact⟨_,rfl⟩,e⟩|Ub e H=>exact⟨⟨_,rfl⟩,e⟩|no e t=>exact⟨⟨_,rfl⟩,e⟩
structure Fld(s:Rp)(U be:List Nat)(l:Hs)(n:Nat)(x:Pv):Prop where
 fl:Pq s l be n
 at':(hR s be l)[n]?=O (.lst (vT s))to:(vT s).length<100000->∃l',(hR s be l).set n (.lst (vT s++[x]))=hR (CK s x) be l'/\OK l' U be (CK s x).ops/\(∀j o,j∉U->l[j]?=O o->l'[j]?=O o)/\l'.length=l.length
def Fz(x:Pv)(ok:OK l U be s.ops):∃n,Fld s U be l n x:=by obtain⟨S,bs,L,fs,R,d⟩:=s;cases ok with|nil=>exact⟨4,⟨.top rfl,rfl,λ_=>⟨l,rfl,.nil,λ_ _ _ e=>e,rfl⟩⟩⟩|@cons U V be d i j ds pre rows e f C q N p H A t=>
  refine⟨6+j,⟨.row e,eY f,λu=>⟨l.set j (.lst (rows++[x])),rT,?_,λk o y e=>?_,bp⟩⟩⟩
  ·have I:j≠i:=λz=>by rw[z,e]at f;cases f
   exact .cons (by rw[aG I];exact e) (dg f) (CS.set p C) q N p H (by rw[ae];exact u) (OK.set N t)
  ·rw[aG (by intro z;subst z;exact y (aq _ aw))];exact e
def NI:Ck (i::be)=Ck be++[.r (6+i)]:=by unfold Ck;rw[de,jO]
theorem Φ{l:Hs}:∀xs:List Pv,CS l [] (xs.map .p) (xs.map .p)|[]=>.nil|_::xs=>.p (Φ xs)
def Ed(H:xs.length<=3)(ok:OK l U be s.ops):OK (l++[.lst [],.df [.r (6+l.length)],.df (xs.map .p++[.r (6+l.length)])]) ((l.length+2)::l.length::([]++U)) ((l.length+2)::be) (YY s (xs.map .p)).ops:=by
 have lt:=ok.lt;refine .cons (ds:=xs.map .p) ?_ ?_ (Φ xs) (λz=>?_) (λz=>?_) (by simp) (by rw[ak];exact H) (bG _) ok.app;·rw[aP (by lia),show l.length+2-l.length=2 by lia];rfl
 ·rw[aP (by lia),fY];rfl
 ·have:=lt _ z;lia
 ·have:=lt _ z;lia
def gB.JM{U:List Nat}{w:Nat}{l:Hs}{m:Hs}:gB U w l ((l.length+2)::l.length::([]++U)) (l++m):=⟨λj o _ _ e=>bW e,λj h=>by
 rcases aJ.mp h with rfl|h;·exact .inr (by lia)
 rcases aJ.mp h with rfl|h;·exact .inr (by lia)
 exact .inl h,by rw[ae];lia⟩
def gB.app:gB U w l U (l++m):=⟨λj o _ _ e=>bW e,λ_ h=>.inl h,by rw[ae];lia⟩
def jJ:(h++[o])[h.length]?=O o:=by rw[aP (aB _),fY];rfl
def yR:(hR s be l).length=6+l.length:=by show l.length+6=_;lia
def vm{xs:List Dv}:hR s be l++[.lst []]++[.df [.r (hR s be l).length]]++[.df (xs++[.r (hR s be l).length])]=hR s be (l++[.lst [],.df [.r (6+l.length)],.df (xs++[.r (6+l.length)])]):=by rw[yR,aA,aA];rfl
def zm{a:Ob}:(hR s be l++[a]++[b]).length=6+(l.length+2):=by rw[ae,ae,yR];show 6+l.length+1+1=_;lia
def zp:(hR s be l).set 5 (.df (Ck be++[.r (6+i)]))=hR s (i::be) l:=by unfold hR;rw[NI];rfl
def Ef{ops:List (List Pc×List Pv)}(ok:OK l U be ops)(h:ops.length<100000):(Ck be).length+1<=sizeLine:=by unfold Ck;rw[kj,cg,ok.len];exact aH h (by ext)
inductive CJ(s:Rp)(be:List Nat)(l:Hs)(w:Nat)(x:Pv)(r':List Pv):List Dv->List Dv->Hs->Prop|JB:CJ s be l w x r' [] [] (hR s be l)|fin(o':Ob)(m:Hs)(wr:Wr r' o'):CJ s be l w x r' [.p (.str "value")] [.p x] (hR s be (l.set w o'++m))
seal nk qA FX p4 zk mq mn oM iW nh in
def Dr(B:LX ca W)(S:SX W)(B9:DX ca W 27 4 p6)(T:DX ca W 44 8 cPt):DX ca W 52 10 π:=by refine B.e (k:=8) 5 a7 [(2,CU fC),(54,Kh),(27,p6),(44,cPt),(56,Fb)] [] (.seq (.iff (.isN a7 (.cl 2 [] (.u (.v 1)))) (.one (.raise 4 (.c (.str "a row begins with another word")))) .nil) (.cut (.iff (.cmp jZ (.bi fe (.u (.fld 6 5 (.v 0)))) (.c (.int 0))) (.one (.ex (.sf 54 (.u2 (.v 0) (.g 15))))) .nil) (.seq (.set 3 (.cl 27 [] (.u (.v 1)))) (.seq (.set 4 (.b2 cW (.lst (.u (.v 1))) (.WY 1 [2] 0 (.p (.s (.v 3))) .no (.sf 44 (.u2 (.v 0) (.v 1))) J))) (.one (.iff (.cmp jZ (.v 3) (.cl 2 [] (.u (.v 1)))) (.one (.ex (.mt j5 (.sf 56 (.u (.v 0))) (.u (.bi uV (.u (.v 4))))))) (.one (.ex (.mt j5 (.fld 6 5 (.v 0)) (.u (.b2 ε (.v 4) (.df (.u (.FW .nil)))))))))))))) S.IZ rfl ⟨(si B S).up rfl,(yE B S).up rfl,B9.up rfl,T.up rfl,(KC B S).up rfl,trivial⟩ trivial λds h Q xc c=>?_;cases c with|@mk v s U be l w o r oo _ _ ok C G e q q'=>
 refine⟨rfl,?_⟩;obtain⟨⟨ks,ek⟩,e0⟩:=e.ev;refine ay rfl (cN ek ?_);refine ad5 (λσ h=>σ=oY 5 [.r 0,.p (.str v),.r (6+w)]/\h=hR (kJ s) be l) (af0 ?_ ?_)
 ·refine cM (dM sx) (eE JI (c6 (λz=>?_) λz=>⟨rfl,?_⟩))
  ·have L:be=[]:=by have z:qi ((Ck be).length:Nat) 0=true:=z;unfold Ck at z;rw[eD,kj,cg]at z;exact dm.mp (by lia)
   have M:s.ops=[]:=dm.mp (by rw[<-ok.len,L];rfl);refine .ok L e0 ⟨rfl,?_⟩;unfold kJ;rw[M]
  ·have L:be ≠[]:=λL=>by subst L;exact Vf (show a7=J from z.symm)
   have M:kJ s=s:=by
    unfold kJ;split;·rename_i M;exact absurd (dm.mp (by rw[ok.len,M];rfl)) L
    ·rfl
   rw[M];rfl
 rintro _ _ ⟨rfl,rfl⟩;have wn:w∉U:=by obtain⟨ws,kk,_,_,_,_⟩:=id G;exact OK.wn C ok
 have I:OK l U be (kJ s).ops:=by rw[p0];exact ok
 cases e with
 |@tell _ x _ N E t D=>
  refine iK [.p (.str "value")] (CJ (kJ s) be l w x N) rfl .JB (λ_ _ _ _=>rfl) (λpre y post A H E j=>?_) λA H j=>?_;·cases j with|JB=>cases E;refine .mk _ _ _ (eY C) G t (λx' R e o' m d=>?_) (λz=>by cases z);cases e;rw[rT];exact .fin o' m d|fin o' m d=>cases E
  ·cases j with|fin o' m d=>
   have R0:OK (l.set w o'++m) U be (kJ s).ops:=(OK.set wn I).app;obtain⟨n,F⟩:=Fz (.tup [.str "tell",x]) R0;refine .ok F.fl (ay (Yb F.at') (zU (nH F.at' (gE ?_) ?_)));·rw[yf];exact aH D (by ext)
   ·obtain⟨l',e2,ok5,k5,n5⟩:=F.to (by rw[yf];exact D);have qq:=q _ _ rfl U be l' o' ok5 (k5 w o' wn (bW (dg C))) d (gB.set.trans (gB.app.trans ⟨λj o h1 _=>k5 j o h1,λ_ h=>.inl h,by rw[n5];exact aB _⟩));rw[<-e2]at qq;exact qq
 |@ifw _ _ x _ N hv E t D=>
  rcases hv with rfl|rfl
  ·refine iK [.p (.str "value")] (CJ (kJ s) be l w x N) rfl .JB (λ_ _ _ _=>rfl) (λpre y post A H E j=>?_) λA H j=>?_;·cases j with|JB=>cases E;refine .mk _ _ _ (eY C) G t (λx' R e o' m d=>?_) (λz=>by cases z);cases e;rw[rT];exact .fin o' m d|fin o' m d=>cases E
   ·cases j with|fin o' m d=>refine cM (dM sx) (ay (JL JI) ?_);refine ye (h:=hR (kJ s) be (l.set w o'++m)++[.lst []]++[.df [.r (hR (kJ s) be (l.set w o'++m)).length]]) (x:=.p (.lst [.str "if",x])) (a:=[.p (.str "if"),.p x]) (b:=[.r (hR (kJ s) be (l.set w o'++m)).length]) (by rfl) (wd jJ) (by rfl) ?_;rw[vm,zm];refine ly JI (gE (Ef I (by rw[p0];exact D))) ?_;rw[zp];exact q _ _ rfl _ _ _ o' (Ed (xs:=[.str "if",x]) (show 2<=3 by ext) (OK.set wn I).app) (bW (bW (dg C))) d (gB.set.trans (gB.app.trans gB.JM))
  ·refine iK [.p (.str "value")] (CJ (kJ s) be l w x N) rfl .JB (λ_ _ _ _=>rfl) (λpre y post A H E j=>?_) λA H j=>?_;·cases j with|JB=>cases E;refine .mk _ _ _ (eY C) G t (λx' R e o' m d=>?_) (λz=>by cases z);cases e;rw[rT];exact .fin o' m d|fin o' m d=>cases E
   ·cases j with|fin o' m d=>refine cM (dM sx) (ay (JL JI) ?_);refine ye (h:=hR (kJ s) be (l.set w o'++m)++[.lst []]++[.df [.r (hR (kJ s) be (l.set w o'++m)).length]]) (x:=.p (.lst [.str "while",x])) (a:=[.p (.str "while"),.p x]) (b:=[.r (hR (kJ s) be (l.set w o'++m)).length]) (by rfl) (wd jJ) (by rfl) ?_;rw[vm,zm];refine ly JI (gE (Ef I (by rw[p0];exact D))) ?_;rw[zp];exact q _ _ rfl _ _ _ o' (Ed (xs:=[.str "while",x]) (show 2<=3 by ext) (OK.set wn I).app) (bW (bW (dg C))) d (gB.set.trans (gB.app.trans gB.JM))
 |@Ub _ _ E D=>
  refine iK [] (λpre A H=>A=[]/\H=hR (kJ s) be l) rfl ⟨rfl,rfl⟩ (λ_ _ _ _=>rfl) (λpre y post A H E j=>?_) λA H j=>?_;·cases pre<;>cases E
  ·obtain⟨rfl,rfl⟩:=j;refine cM (dM sx) (ay (JL JI) ?_);refine ye (h:=hR (kJ s) be l++[.lst []]++[.df [.r (hR (kJ s) be l).length]]) (x:=.p (.lst [.str "try"])) (a:=[.p (.str "try")]) (b:=[.r (hR (kJ s) be l).length]) (by rfl) (wd jJ) (by rfl) ?_;rw[vm,zm];refine ly JI (gE (Ef I (by rw[p0];exact D))) ?_;rw[zp];exact q _ _ rfl _ _ _ o (Ed (xs:=[.str "try"]) (by ext) I) (bW C) G gB.JM|@no _ _ E t=>
  refine iK [.p (.str "value")] (λpre A H=>pre=[]/\A=[]/\H=hR (kJ s) be l) rfl ⟨rfl,rfl,rfl⟩ (λ_ _ _ _=>rfl) (λpre y post A H E j=>?_) λA H j=>?_;·obtain⟨rfl,rfl,rfl⟩:=j;cases E;exact .mk _ _ _ (eY C) G t (λx' R e=>by cases e) λ_ o' m=>⟨rfl,q' rfl _⟩
  ·cases j.1
def K4:hR s be l++m=hR s be (l++m):=rfl
inductive PN:Ct|ok{s:Rp}{i:Nat}{be:List Nat}{l:Hs}{v:Str}{ds:List Dv}{n:Int}{Q:Dv->Hs->Prop}{xc:XP}(e:l[i]?=O (.df (.p (.str v)::ds)))(hn:n=(ds.length+1:Nat))(q:Q (.r (6+i)) (hR s (i::be) l)):PN [.r 0,.p (.str v),.p (.int n)] (hR s (i::be) l) Q xc|no{s:Rp}{be:List Nat}{l:Hs}{v:Str}{n:Int}{Q:Dv->Hs->Prop}{xc:XP}(hi:be=[])(q:∀h',xc 4 h'):PN [.r 0,.p (.str v),.p (.int n)] (hR s be l) Q xc
def Dz{P:Prop}{x:Dv}(z:qi ((uf 6 be++[x]).length:Nat) 0):P:=by rw[eD,ae]at z;have e:[x].length=1:=rfl;lia
def Fy{P:Prop}(H:be=[])(z:qi ((Ck be).length:Nat) 0=a7):P:=by subst H;exact Vf z.symm
def abu{P:Prop}(z:Vg J (bA v v)):P:=by rw[aT.mpr rfl]at z;cases z
def Yt{P:Prop}{a b:Int}(e:a=b)(z:Vg J (qi a b)):P:=by rw[eD.mpr e]at z;cases z
inductive Hg:Rp->List Pv->Option (Rp×List Pv)->Prop|ok{s:Rp}{x:Pv}{r rows:List Pv}{t:List (List Pc×List Pv)}(e:s.ops=([.p (.str "try")],rows)::t):Hg s (x::r) (O ({s with ops:=([.p (.str "try"),.l rows,.p x],[])::t},r))|no{s:Rp}{r:List Pv}(e:s.ops=[]):Hg s r af
seal nk qA FX p4 zk mq mn oM iW nh in
def AI(B:LX ca W)(S:SX W):DX ca W 55 2 PN:=by refine B.e (k:=0) 4 a7 [] [] (.seq (.iff (.cmp jZ (.bi fe (.u (.fld 6 5 (.v 0)))) (.c (.int 0))) (.one (.raise 4 (.c (.str "a row stands where it may not")))) .nil) (.seq (.set 3 (.ix (.fld 6 5 (.v 0)) (.neg (.c (.int 1))))) (.seq (.iff (.bo (Wm.oc (.cmp Kj (.ix (.v 3) (.c (.int 0))) (.v 1)) (Wm.o1 (.cmp Kj (.bi fe (.u (.v 3))) (.v 2))))) (.one (.raise 4 (.c (.str "a row stands where it may not")))) .nil) (.one (.ret (.v 3)))))) S.Ep rfl trivial trivial λds h Q d c=>?_;cases c with|@ok s i be l v ds n _ _ e hn q=>refine⟨rfl,cM (dM sx) (eE wK (c6 (λz=>Dz z) λ_=>cM (dM sx) (lI wK (qu _ _) (lI (eY e) rfl (c6 (λz=>abu z) λ_=>?_)))))⟩;refine eE (eY e) (c6 (λz=>Yt (by rw[hn,ao]) z) λ_=>q)|@no s be l v n _ _ H q=>exact⟨rfl,cM (dM sx) (eE JI (c6 (λz=>q _) λz=>Fy H z))⟩
seal nk qA FX p4 zk mq mn oM iW nh in
def yH(B:LX ca W)(S:SX W)(I:Di (Lx ca) W 600 4):DX ca W 50 6 (Hu Hg):=by refine B.e (k:=4) 3 a7 [(55,PN)] [600] (.seq (.set 2 (.sf 55 (.u3 (.v 0) (.c (.str "try")) (.c (.int 2))))) (.seq (.ex (.mt j5 (.v 2) (.u (.Ci 600 (.v 1))))) (.one (.ex (.mt j5 (.v 2) (.u (.FW .nil))))))) S.BL rfl ⟨(AI B S).up rfl,trivial⟩ ⟨I,trivial⟩ λds h Q xc c=>?_;cases c with|@mk s U be l w o r oo _ _ ok H d e q M=>refine⟨rfl,?_⟩;cases e with|no e=>rw[e]at ok;exact .no ok.RP.2 (M rfl)|@ok x r rows t e=>
  have wn:w∉U:=by obtain⟨ws,R,_,_,_,_⟩:=id d;exact OK.wn H ok
  rw[e]at ok;cases ok with|@cons U V be T i j ds pre rows E f C N n2 n3 hp hr t=>cases C with|p C=>cases C with|nil=>
  refine .ok E rfl ?_;have y:w≠i:=λz=>wn (z▸aw);have wj:w≠j:=λz=>wn (z▸aq _ aw);have wU:w∉U:=λz=>wn (aq _ (aq _ z));have D:i≠j:=λz=>by rw[z,f]at E;cases E
  have li:=(ai.mp E).1;have lj:=(ai.mp f).1;obtain⟨ws,R,_,_,_,_⟩:=id d;refine ay (JL (eY E)) (iV (eY H) (.ok _ _ _ _ (eY H) d rfl λo1 JP=>?_));rw[rT];have F:(l.set w o1)[i]?=O (.df [.p (.str "try"),.r (6+j)]):=by rw[aG y];exact E
  refine ly (eY F) rfl ?_;rw[rT];have e3:=dg (o':=.df ([.p (.str "try"),.r (6+j)]++[.p x])) F;have L:((l.set w o1).set i (.df ([.p (.str "try"),.r (6+j)]++[.p x]))).length=l.length:=by rw[bp,bp]
  refine ay (JL (eY e3)) ?_;refine ly (bW (eY e3)) rfl ?_;have A:(hR s (i::be) ((l.set w o1).set i (.df ([.p (.str "try"),.r (6+j)]++[.p x])))).length=6+l.length:=by rw[yR,L]
  rw[K4,rT,A];refine q _ _ rfl (i::l.length::([j]++U)) (i::be) _ o1 (.cons (ds:=[.p (.str "try"),.r (6+j),.p x]) (dg (bW e3)) ?_ (.p (.l ?_ (.p .nil))) N λz=>by have:=t.lt _ z;lia λz=>by have:=aQ.mp z;lia (aB _) (bG _) (OK.set N (OK.app (OK.set N (OK.set wU t))))) ?_ JP ⟨λk o h1 h2 ek=>?_,λk h=>?_,?_⟩;·rw[aG (by lia),<-L];exact jJ
  ·rw[aG D];refine bW ?_;rw[aG D,aG wj];exact f
  ·rw[aG (bY y)];refine bW ?_;rw[aG (bY y)];exact dg H
  ·have G:i≠k:=λz=>h1 (z▸aw);rw[aG G];refine bW ?_;rw[aG G,aG (bY h2)];exact ek
  ·rcases aJ.mp h with rfl|h;·exact .inl aw
   rcases aJ.mp h with rfl|h;·exact .inr (aB _)
   rcases aJ.mp h with rfl|h;·exact .inl (aq _ aw)
   ·exact .inl (aq _ (aq _ h))
  ·rw[bp,ae,L];lia
noncomputable def HW:Pc->Pv|.p x=>x|.l xs=>.tup xs
noncomputable def RR:Option Bool->Bool|some a7=>J|_=>a7
def ww:Pc->Bool|.p x=>RR (Ik 4 x)|.l _=>J
def qk(v:Str)(n:Nat):List Pv:=match bA v "if"&&aa3 n 3 with|true=>[.tup []]|false=>[]
inductive CD:Rp->List Pv->Option (Rp×List Pv)->Prop|ok{s:Rp}{v:Str}{pre:List Pc}{r rows:List Pv}{t:List (List Pc×List Pv)}(e:s.ops=(.p (.str v)::pre,rows)::t)(h1:(bA v "try"&&aa3 (pre.length+2) 2)=a7)(h2:bA v "def"=a7)(hc:pre.all ww)(hz:(vT {s with ops:=t}).length<100000):CD s r (O (CK {s with ops:=t} (.tup (.str v::(pre.map HW++.tup rows::qk v (pre.length+2)))),r))|no0{s:Rp}{r:List Pv}(e:s.ops=[]):CD s r af|noT{s:Rp}{r rows:List Pv}{v:Str}{t:List (List Pc×List Pv)}(hv:v="try")(e:s.ops=([.p (.str v)],rows)::t):CD s r af
inductive FZ(l:Hs):List Dv->List Pv->Prop|nil:FZ l [] []|p{x:Pv}{ds:List Dv}{xs:List Pv}(h:RR (Ik 4 x))(t:FZ l ds xs):FZ l (.p x::ds) (x::xs)|l{k:Nat}{ys:List Pv}{ds:List Dv}{xs:List Pv}(e:l[k]?=O (.lst ys))(t:FZ l ds xs):FZ l (.r (6+k)::ds) (.tup ys::xs)
def FZ.γ:∀{a b:List Dv}{x y:List Pv},FZ l a x->FZ l b y->FZ l (a++b) (x++y):=by intro a b x y h q;induction h with|nil=>exact q|p h t I=>exact .p h I|l e t I=>exact .l e I
def FZ.of:∀{V:List Nat}{ds:List Dv}{cs:List Pc},CS l V ds cs->cs.all ww->FZ l ds (cs.map HW):=by intro V ds cs c h;induction c with|nil=>exact .nil|p t I=>exact .p (ag h).1 (I (ag h).2)|l e t I=>exact .l e (I (ag h).2)
def FZ.len:∀{a:List Dv}{x:List Pv},FZ l a x->a.length=x.length:=by intro a x h;induction h with|nil=>rfl|p h t I=>rw[ao,ao,I]|l e t I=>rw[ao,ao,I]
theorem FZ.at{l:Hs}:∀{a b:List Dv}{y:Dv}{x:List Pv},FZ l (a++y::b) x->∃z,x[a.length]?=O z/\(y=.p z/\RR (Ik 4 z)=J\/∃k ys,y=.r (6+k)/\l[k]?=O (.lst ys)/\z=.tup ys):=by
 intro a;induction a with
 |nil=>intro b y x g;have g:FZ l (y::b) x:=g;cases g with|p h t=>exact⟨_,rfl,.inl ⟨rfl,h⟩⟩|l e t=>exact⟨_,rfl,.inr ⟨_,_,rfl,e,rfl⟩⟩
 |cons d a I=>intro b y x g;have g:FZ l (d::(a++y::b)) x:=g;cases g with|p h t=>exact I t|l e t=>exact I t
def FZ.mono(h:∀(k:Nat)(ys:List Pv),l[k]?=O (Ob.lst ys)->m[k]?=O (Ob.lst ys)):∀{a:List Dv}{x:List Pv},FZ l a x->FZ m a x:=by intro a x z;induction z with|nil=>exact .nil|p q t I=>exact .p q I|l e t I=>exact .l (h _ _ e) I
def Gn:(hR s (i::be) l).set 5 (.df (uf 6 be.reverse))=hR s be l:=rfl
theorem VC:∀r:List Pv,ud (r.map Dv.p)=O r|[]=>rfl|x::r=>by show(match ud (r.map Dv.p)with|some xs=>O (x::xs)|none=>af)=_;rw[VC r]
inductive EJ(s:Rp)(U:List Nat)(l:Hs)(w i:Nat)(v:Str)(xs:List Pv):Es->Hs->Prop|mk(U' be:List Nat)(l':Hs)(ds:List Dv)(ok:OK l' U' be s.ops)(e:l'[i]?=O (.df ds))(fz:FZ l' ds (.str v::xs))(hz:iz ds.length)(kp:gB U w l U' l')(hw:l'[w]?=l[w]?):EJ s U l w i v xs [O (.r 0),O (.r (6+w)),O (.r (6+i)),af] (hR s be l')
seal nk qA FX p4 zk mq mn oM iW nh Bv in
def Dq(B:LX ca W)(S:SX W):DX ca W 51 6 (Hu CD):=by refine B.e (k:=4) 4 a7 [(56,Fb)] [] (.seq (.iff (.cmp jZ (.bi fe (.u (.fld 6 5 (.v 0)))) (.c (.int 0))) (.one (.raise 4 (.c (.str "an end has no row that it belongs to")))) .nil) (.seq (.set 2 (.m0 Yr (.fld 6 5 (.v 0)))) (.cut (.iff (.bo (Wm.ac (.cmp jZ (.ix (.v 2) (.c (.int 0))) (.c (.str "try"))) (Wm.a1 (.cmp jZ (.bi fe (.u (.v 2))) (.c (.int 2)))))) (.one (.raise 4 (.c (.str "a catch lacks")))) .nil) (.cut (.iff (.bo (Wm.ac (.cmp jZ (.ix (.v 2) (.c (.int 0))) (.c (.str "if"))) (Wm.a1 (.cmp jZ (.bi fe (.u (.v 2))) (.c (.int 3)))))) (.one (.ex (.mt j5 (.v 2) (.u (.FW .nil))))) .nil) (.seq (.set 3 (.bi uV (.u (.Fi 1 [] 0 (.l (.v 2)) .no (.ife (.val (.bi o8 (.u2 (.v 0) (.ty 4)))) (.bi uV (.u (.v 0))) (.v 0)) J)))) (.one (.iff (.cmp jZ (.ix (.v 3) (.c (.int 0))) (.c (.str "def"))) (.one (.ex (.mt j5 (.fld 6 3 (.v 0)) (.u (.sl (.v 3) (.of (.c (.int 1))) .no))))) (.one (.ex (.mt j5 (.sf 56 (.u (.v 0))) (.u (.v 3)))))))))))) S.IY rfl ⟨(KC B S).up rfl,trivial⟩ trivial λds h Q xc c=>?_;cases c with|@mk s U be l w o r oo _ _ ok L wr e q q'=>refine⟨rfl,?_⟩;cases e with
 |no0 e=>rw[e]at ok;exact cM (dM sx) (eE JI (c6 (λz=>q' rfl _) λz=>Fy ok.RP.2 z))|@noT _ rows v t hv e=>rw[e]at ok;cases ok with|@cons U V be ops i j ds pre rows E f G n1 n2 n3 hp hr t=>cases G with|p G=>cases G with|nil=>
  refine cM (dM sx) (eE wK (c6 (λz=>Dz z) λ_=>cM (dM sx) (ay (JL wK) (tZ wK (qv _ _) ?_))));rw[hZ,Gn];refine ad5 (λ_ _=>False) (af0 ?_ λ_ _ z=>z.elim);refine lI (eY E) rfl (c6 (λ_=>eE (eY E) ?_) λz=>?_);·exact q' rfl _
  ·have z:bA v "try"=false:=z;rw[hv]at z;cases z
 |@ok v pre _ rows t e I h2 hc hz=>
  have wn:w∉U:=by obtain⟨ws,kk,_,_,_,_⟩:=id wr;exact OK.wn L ok
  rw[e]at ok;cases ok with|@cons T V be ops i j ds _ rows E f G n1 n2 n3 hp hr t0=>cases G with|@p _ ds _ _ G=>
  have H_:pre.length<=2:=Nat.le_of_succ_le_succ hp;have f0:=FZ.of G hc;have dl:ds.length=pre.length:=by rw[f0.len,ak]
  have M:FZ l (.p (.str v)::ds++[.r (6+j)]) (.str v::(pre.map HW++[.tup rows])):=.p rfl (FZ.γ f0 (.l f .nil));have wi:w≠i:=λz=>wn (z▸aw);have li:=(ai.mp E).1;refine cM (dM sx) (eE wK (c6 (λz=>Dz z) λ_=>cM (dM sx) (ay (JL wK) (tZ wK (qv _ _) ?_))));rw[hZ,Gn];refine ad5 (λσ h=>σ=[O (.r 0),O (.r (6+w)),O (.r (6+i)),af]/\h=hR {s with ops:=t} be l) (af0 ?_ ?_);·refine lI (eY E) rfl (c6 (λd=>eE (eY E) (c6 (λA=>?_) λ_=>⟨rfl,rfl⟩)) λ_=>⟨rfl,rfl⟩);have d:bA v "try"=true:=d;have A:qi (((.p (.str v)::ds++[Dv.r (6+j)]).length:Nat):Int) 2=true:=A;rw[eD,ae,ao,dl]at A;have e3:[Dv.r (6+j)].length=1:=rfl;rw[d,show aa3 (pre.length+2) 2=J by rw[show pre.length+2=2 by lia];rfl]at I;cases I
  rintro _ _ ⟨rfl,rfl⟩;refine ad5 (EJ {s with ops:=t} (i::j::(V++T)) l w i v (pre.map HW++.tup rows::qk v (pre.length+2))) (af0 ?_ ?_)
  ·have N:(.p (.str v)::ds++[Dv.r (6+j)]).length=pre.length+2:=by rw[ae,ao,dl];rfl
   have no:qk v (pre.length+2)=[]->EJ {s with ops:=t} (i::j::(V++T)) l w i v (pre.map HW++.tup rows::qk v (pre.length+2)) [O (.r 0),O (.r (6+w)),O (.r (6+i)),af] (hR {s with ops:=t} be l):=λee=>by rw[ee];exact .mk T be l _ t0 E M (by rw[N];exact gE (aH (show pre.length+2<=100 by lia) (by ext))) ⟨λ_ _ _ _ e=>e,λk h=>.inl (aq _ (aq _ (aR _ h))),aB _⟩ rfl
   refine lI (eY E) rfl (c6 (λd=>eE (eY E) (c6 (λA=>?_) λA=>no ?_)) λd=>no ?_)
   ·have d:bA v "if"=true:=d;have A:qi (((.p (.str v)::ds++[Dv.r (6+j)]).length:Nat):Int) 3=true:=A;rw[eD,N]at A;have ee:qk v (pre.length+2)=[.tup []]:=by unfold qk;rw[d,show pre.length+2=3 by lia];rfl
    refine ay (JL (eY E)) (ly (bW (eY E)) (by rw[N];exact gE (aH (show pre.length+2+1<=100 by lia) (by ext))) ?_);have ln2:(hR {s with ops:=t} be l).length=6+l.length:=yR;rw[K4,rT,ln2,ee];have kl:∀(k:Nat)(ys:List Pv),l[k]?=O (Ob.lst ys)->((l++[Ob.lst []]).set i (Ob.df (Dv.p (.str v)::ds++[Dv.r (6+j)]++[Dv.r (6+l.length)])))[k]?=O (Ob.lst ys):=λk ys D=>by rw[aG λz=>by rw[<-z,E]at D;cases D];exact bW D
    refine .mk T be _ _ (OK.set n1 t0.app) (dg (bW E)) ?_ (by rw[ae,N];exact gE (aH (show pre.length+2+1<=100 by lia) (by ext))) ⟨λk o I _ D=>?_,λk h=>.inl (aq _ (aq _ (aR _ h))),by rw[bp,ae];lia⟩ ?_
    ·have:=FZ.γ (FZ.mono kl M) (.l (k:=l.length) (ys:=[]) (by rw[aG (by lia)];exact jJ) .nil);have e4:Pv.str v::(pre.map HW++[.tup rows])++[.tup []]=Pv.str v::(pre.map HW++[.tup rows,.tup []]):=by rw[fK,aA];rfl
     rw[e4]at this;exact this
    ·rw[aG (show i≠k from λz=>I (z▸aw))];exact bW D
    ·rw[aG (bY wi),L];exact bW L
   ·have A:qi (((.p (.str v)::ds++[Dv.r (6+j)]).length:Nat):Int) 3=false:=A;unfold qk;rw[show aa3 (pre.length+2) 3=a7 from bw.mpr λz=>by have:=ax z;have z3:=bw.mp A;rw[Ne,eD,N]at z3;lia,nW]
   ·have d:bA v "if"=false:=d;unfold qk;rw[d];rfl
  rintro _ _ ⟨U',ir,l',ds',D8,e',H,hz',y9,yZ⟩;refine ay (by rw[Bh (eY e')];rfl) (iK ds' (λR C h'=>h'=hR {s with ops:=t} ir l'/\C=((Pv.str v::(pre.map HW++.tup rows::qk v (pre.length+2))).take R.length).map .p) hz' ⟨rfl,rfl⟩ (λR C h' j=>?_) (λR y post C h' E j=>?_) λC h' j=>?_);·obtain⟨rfl,_⟩:=j;exact Bh (eY e')
  ·obtain⟨rfl,rfl⟩:=j;rw[E]at H;obtain⟨z,ez,cz⟩:=FZ.at H;have tk:((Pv.str v::(pre.map HW++.tup rows::qk v (pre.length+2))).take R.length).map Dv.p++[.p z]=((Pv.str v::(pre.map HW++.tup rows::qk v (pre.length+2))).take (R++[y]).length).map .p:=by rw[ae,show[y].length=1 from rfl,qX ez,aV];rfl
   rcases cz with ⟨rfl,hn⟩|⟨k,ys,rfl,D,rfl⟩
   ·refine Rl ?_ ⟨rfl,tk⟩;unfold RR at hn;split at hn;·assumption
    ·cases hn
   ·exact Rk (eY D) (lU (eY D) ⟨rfl,tk⟩)
  ·obtain⟨rfl,rfl⟩:=j;have fl:=H.len;rw[fl,dN];show(match ud ((Pv.str v::(pre.map HW++.tup rows::qk v (pre.length+2))).map Dv.p)with|some xs=>_|none=>False);rw[VC];refine zU (u7 rfl (c6 (λz=>?_) λ_=>?_));·have z:bA v "def"=true:=z;rw[h2]at z;cases z
   ·obtain⟨n,F⟩:=Fz (.tup (.str v::(pre.map HW++.tup rows::qk v (pre.length+2)))) D8;refine .ok F.fl (ay (Yb F.at') (nH F.at' (gE (aH hz (by ext))) ?_));obtain⟨l2,e2,ok2,k2,n2⟩:=F.to hz;have wU:w∉U':=λz=>(y9.u w z).elim wn λz=>by have:=(ai.mp L).1;lia
    have qq:=q _ _ rfl U' ir l2 o ok2 (k2 w o wU (yZ.trans L)) wr (y9.trans ⟨λj o I _=>k2 j o I,λ_ h=>.inl h,by rw[n2];exact aB _⟩);rw[<-e2]at qq;exact qq
inductive Sub:Str->Rp->List Pv->Option (Rp×List Pv)->Prop|box{s:Rp}{r:List Pv}{oo:Option (Rp×List Pv)}(t:JS s r oo):Sub "box" s r oo|list{s:Rp}{r:List Pv}{oo:Option (Rp×List Pv)}(t:JZ s r oo):Sub "list" s r oo|cat{s:Rp}{r:List Pv}{oo:Option (Rp×List Pv)}(t:Hg s r oo):Sub "catch" s r oo|fin{s:Rp}{r:List Pv}{oo:Option (Rp×List Pv)}(t:CD s r oo):Sub "end" s r oo|row{v:Str}{s:Rp}{r:List Pv}{oo:Option (Rp×List Pv)}(t:wA v s r oo):Sub v s r oo
noncomputable def afb:Option (Rp×List Pv)->Option Rp|some (s,[])=>O s|_=>af
inductive pX:Rp->List Pv->Option Rp->Prop|mk{v:Str}{s:Rp}{r:List Pv}{oo:Option (Rp×List Pv)}(e:Sub v s r oo):pX s (.str v::r) (afb oo)
inductive cLine:Ct|mk{s:Rp}{U be:List Nat}{l:Hs}{w:Nat}{o:Ob}{r:List Pv}{oo:Option Rp}{Q:Dv->Hs->Prop}{xc:XP}(ok:OK l U be s.ops)(hw:l[w]?=O o)(wr:Wr r o)(e:pX s r oo)(q:∀s',oo=O s'->∀U' ir l',OK l' U' ir s'.ops->gB U w l U' l'->Q (.p .non) (hR s' ir l'))(q':oo=af->∀h',xc 4 h'):cLine [.r 0,.r (6+w)] (hR s be l) Q xc
inductive LJ(U:List Nat)(l:Hs)(w:Nat)(v:Str)(oo:Option (Rp×List Pv)):Es->Hs->Prop|mk(s:Rp)(r:List Pv)(U' ir:List Nat)(l':Hs)(o:Ob)(e:oo=O (s,r))(ok:OK l' U' ir s.ops)(hw:l'[w]?=O o)(wr:Wr r o)(kp:gB U w l U' l'):LJ U l w v oo [O (.r 0),O (.r (6+w)),O (.p (.str v))] (hR s ir l')
seal nk qA FX p4 zk mq mn oM iW nh Bv in
def AK(B:LX ca W)(S:SX W)(I0:Di (Lx ca) W 600 4)(I1:Di (Lx ca) W 601 2)(N:DX ca W 45 6 (Hu JS))(T:DX ca W 46 6 (Hu JZ))(D50:DX ca W 50 6 (Hu Hg))(D51:DX ca W 51 6 (Hu CD))(D52:DX ca W 52 10 π):DX ca W 53 12 cLine:=by refine B.e (k:=10) 3 a7 [(45,Hu JS),(46,Hu JZ),(50,Hu Hg),(51,Hu CD),(52,π)] [600,601] (.seq (.set 2 (.Ci 600 (.v 1))) (.cut (.iff (.tin 100 (.v 2)) (.one (.ex (.clf 100 (.v 2) (.u2 (.v 0) (.v 1))))) (.one (.ex (.sf 52 (.u3 (.v 0) (.v 2) (.v 1)))))) (.one (.iff (.val (.Ci 601 (.v 1))) (.one (.raise 4 (.c (.str "a row has more words than it may have")))) .nil)))) S.Et rfl ⟨N.up rfl,T.up rfl,D50.up rfl,D51.up rfl,D52.up rfl,trivial⟩ ⟨I0.le (by ext),I1.le (by ext),trivial⟩ λds h Q xc c=>?_;cases c with|@mk s U be l w o r oo _ _ ok M wr e q E=>cases e with|@mk v _ r oo e=>
 refine⟨rfl,?_⟩;obtain⟨ws,kk,_,_,_,_⟩:=id wr;have wn:=OK.wn M ok;refine iV (eY M) (.ok _ _ _ _ (eY M) wr rfl λo1 F=>?_);rw[rT];have H:=OK.set (o:=o1) wn ok;have G:=dg (o':=o1) M;refine ad5 (LJ U l w v oo) (af0 ?_ ?_);·cases e with|box t=>exact .mk H G F t (λd R e A I L o' D y u C=>.mk d R A I L o' e D y u (gB.set.trans C)) λe=>E (by rw[e];rfl)|list t=>exact .mk H G F t (λd R e A I L o' D y u C=>.mk d R A I L o' e D y u (gB.set.trans C)) λe=>E (by rw[e];rfl)|cat t=>exact .mk H G F t (λd R e A I L o' D y u C=>.mk d R A I L o' e D y u (gB.set.trans C)) λe=>E (by rw[e];rfl)|fin t=>exact .mk H G F t (λd R e A I L o' D y u C=>.mk d R A I L o' e D y u (gB.set.trans C)) λe=>E (by rw[e];rfl)|row t=>have go:π [.r 0,.p (.str v),.r (6+w)] (hR s be (l.set w o1)) (λ_ h1=>LJ U l w v oo [O (.r 0),O (.r (6+w)),O (.p (.str v))] h1) xc:=.mk H G F t (λd R e A I L o' D y u C=>.mk d R A I L o' e D y u (gB.set.trans C)) λe=>E (by rw[e];rfl);cases t with|tell _ _ _=>exact go|ifw hv _ _ _=>rcases hv with rfl|rfl<;>exact go|Ub _ _=>exact go|no _ _=>exact go
 ·rintro _ _ ⟨d,R,A,I,L,o',e',D,y,u,C⟩;subst e';obtain⟨ws',kk',_,_,_,_⟩:=id u;refine iV (eY y) (.mk _ _ (eY y) u ?_);cases R with|nil=>exact q d rfl A I L D C|cons x R=>exact E rfl _
def UV:Pv->Bool|.str z=>!bA z ""|_=>a7
def jk(z:Str):List Pv:=((ac9 z " ").map Pv.str).filter UV
def Rx(n:Nat)(x:Pv):Bool:=dX x&&aa5 (gD x).length n
noncomputable def mx:Pv->Bool|.lst (.str z::_)=>!Txt.startswith z "#"|_=>a7
def dk(t:Str):List Pv:=((ac9 t "\n").map λz=>Pv.lst (jk z)).filter mx
def Cm:Pv->Ob|.lst ws=>Wo ws 0|_=>.lst []
noncomputable def EC(n:Nat):List Dv:=(ab6 n).map λk=>.r k
def NZ{a:Ob}:(h++[a]).set h.length b=h++[b]:=by rw[JR,bE (cS _),fY];rfl
inductive P0:Ct|mk{t:Str}{Q:Dv->Hs->Prop}{xc:XP}(ht:t.length<=900000)(q:Q (.r (dk t).length) ((dk t).map Cm++[.df (EC (dk t).length)])):P0 [.p (.str t)] [] Q xc
def BU{y:Str}(H:y.length=1)(hz:z.length<=900000):(!Nat.beq y.length 0&&(iz z.length&&(iz (ad4 z (ab3 z y 0 z.length (z.length+1)) y.length).length&&iz (ac9 z y).length)))=true:=by have h1:=L3 z y;have h2:=Jy z (ab3 z y 0 z.length (z.length+1)) y.length;have d:=L4 z y 0 z.length (z.length+1);rw[H]at h2⊢;rw[ui (show z.length<=oz from aH hz (by ext)),ui (show(ac9 z y).length<=oz from aH h1 (by show z.length+2<=1000000;lia)),ui (show(ad4 z (ab3 z y 0 z.length (z.length+1)) 1).length<=oz by rw[h2];show _<=1000000;lia)];rfl
def Dw(B:LX ca W)(S:SX W):DX ca W 38 2 (Hr (Rx 900000) λx=>.lst (jk (gD x))):=by
 refine B.e (k:=0) 1 J [] [] (.one (.ret (.comp 1 [] (.one 0) (.s (.mt VA (.v 0) (.u (.c (.str " "))))) (.one (.cmp Kj (.v 0) (.c (.str "")))) (.v 0)))) S.Jb rfl trivial trivial (xB λx Q A d=>?_);obtain⟨p,H⟩:=ag d;revert H;refine qH p λz H q=>?_;refine ay (BU rfl (ap.mp H)) ?_;refine tP UV id rfl (λy t=>?_) ?_;·obtain⟨w,_,rfl⟩:=bL.mp t;exact⟨λR q=>q,λ_ R q=>q⟩
 ·rw[sw];exact q
def AQ(B:LX ca W)(S:SX W)(I:Di (Lx ca) W 5 2):DX ca W 37 4 P0:=by refine B.e (k:=2) 2 a7 [(38,Hr (Rx 900000) λx=>.lst (jk (gD x)))] [5] (.seq (.setC 1 1 [] (.one 0) (.s (.mt VA (.v 0) (.u (.c (.str "\n"))))) .no (.cl 38 [] (.u (.v 0)))) (.one (.ret (.Fi 1 [] 0 (.p (.s (.v 1))) (.one (.bo (Wm.ac (.cmp Fc (.bi fe (.u (.v 0))) (.c (.int 0))) (Wm.a1 (.not (.val (.mt L7 (.ix (.v 0) (.c (.int 0))) (.u (.c (.str "#")))))))))) (.nw 5 (.u (.v 0))) a7)))) S.Ez rfl ⟨(Dw B S).up rfl,trivial⟩ ⟨I,trivial⟩ λds h Q xc c=>?_;cases c with|@mk t Q _ C q=>
 refine⟨rfl,ay (BU rfl C) ?_⟩;have F:∀z∈ac9 t "\n",z.length<=900000:=λz D=>aH (PyProof.Rows.part_short D) C;refine gm (λy=>.lst (jk (gD y))) rfl (λy G=>?_) ?_;·obtain⟨w,M,rfl⟩:=bL.mp G;exact λR q=>ay (show Rx 900000 (.str w)=J by unfold Rx;rw[show aa5 (gD (.str w)).length 900000=J from ap.mpr (F w M)];rfl) q
 ·rw[fi];refine iK (((ac9 t "\n").map λz=>Pv.lst (jk z)).map Dv.p) (λpre A H=>H=((pre.map BD).filter mx).map Cm/\A=EC ((pre.map BD).filter mx).length) ?_ ⟨rfl,rfl⟩ (λpre A H j=>rfl) (λpre y post A H E j=>?_) λA H j=>?_;·rw[ak,ak];have:=L3 t "\n";exact ui (aH this (by show _<=1000000;lia))
  ·obtain⟨rfl,rfl⟩:=j;obtain⟨p,N,rfl⟩:=bL.mp (show y∈((ac9 t "\n").map λz=>Pv.lst (jk z)).map Dv.p by rw[E];simp);obtain⟨z,D,rfl⟩:=bL.mp N;clear E;have no:mx (.lst (jk z))=a7->((pre.map BD).filter mx).map Cm=(((pre++[Dv.p (.lst (jk z))]).map BD).filter mx).map Cm/\EC ((pre.map BD).filter mx).length=EC (((pre++[Dv.p (.lst (jk z))]).map BD).filter mx).length:=λe=>by rw[aV,fU,show([Dv.p (.lst (jk z))].map BD).filter mx=[]from jD (by show ¬mx (.lst (jk z))=J;rw[e];exact aK),aM];exact⟨rfl,rfl⟩
   have d:mx (.lst (jk z))->((pre.map BD).filter mx).map Cm++[Wo (jk z) 0]=(((pre++[Dv.p (.lst (jk z))]).map BD).filter mx).map Cm/\EC ((pre.map BD).filter mx).length++[.r (((pre.map BD).filter mx).map Cm).length]=EC (((pre++[Dv.p (.lst (jk z))]).map BD).filter mx).length:=λe=>by rw[aV,fU,show([Dv.p (.lst (jk z))].map BD).filter mx=[.lst (jk z)]from fL e,aV,ae,ak];exact⟨rfl,by show _=EC (_+1);unfold EC;rw[List.range_succ,aV];rfl⟩
   have st:∀x∈jk z,∃w,x=Pv.str w:=λx T=>by obtain⟨w,_,rfl⟩:=bL.mp (gq.mp T).1;exact⟨w,rfl⟩
   revert no d st;cases jk z with|nil=>exact λno _ _=>no rfl|cons x ws=>intro no d st;obtain⟨w,rfl⟩:=st x aw;refine c6 (λe=>PX.mk jJ ?_) λe=>no e;rw[NZ];exact d e
  ·obtain⟨rfl,rfl⟩:=j;have e3:(((ac9 t "\n").map λz=>Pv.lst (jk z)).map Dv.p).map BD=(ac9 t "\n").map λz=>Pv.lst (jk z):=by rw[fi];exact sw _
   rw[e3];have L:((dk t).map Cm).length=(dk t).length:=ak ..;rw[<-L]at q;rw[L]at q;have q:Q (.r ((dk t).map Cm).length) ((dk t).map Cm++[.df (EC (dk t).length)]):=by rw[L];exact q
   exact q
inductive Run:Rp->List Pv->Option Rp->Prop|nil{s:Rp}:Run s [] (O s)|cons{s s':Rp}{r:List Pv}{rs:List Pv}{o:Option Rp}(e:pX s r (O s'))(t:Run s' rs o):Run s (.lst r::rs) o|no{s:Rp}{r:List Pv}{rs:List Pv}(e:pX s r af):Run s (.lst r::rs) af
noncomputable def s0:Rp:=⟨0,[],[],[],[],[]⟩
def rF(o:Option Rp)(K:Pv->Prop)(X:Nat->Prop):Prop:=match o with|none=>X 4|some s=>match s.ops with|[]=>gd (dz (.tup [.tup s.bs,.tup s.ls,.tup s.fs,.tup s.rs])) (iw (xb (.tup s.bs) (.tup s.ls) (.tup s.fs) (.tup s.rs)) X (K (.tup [.tup s.bs,.tup s.ls,.tup s.fs,.tup s.rs])))|_=>X 4
def yQ:Pv->Bool|.lst ws=>ws.all gW&&aa5 ws.length oz|_=>a7
inductive Ko:Ct|mk{t:Str}{o:Option Rp}{Q:Dv->Hs->Prop}{xc:XP}(ht:t.length<=900000)(hg:(dk t).all yQ)(e:Run s0 (dk t) o)(q:rF o (λx=>Q (.p x) []) λc=>xc c []):Ko [.p (.str t)] [] Q xc
def RH{os:Hs}:RG [] n [] os h=h++os.map (JC [] n):=by cases os with|nil=>rw[fj,aM];rfl|cons _ _=>rfl
theorem Mc{n:Nat}:∀{rows:List Pv},rows.all yQ=J->(rows.map Cm).map (JC [] n)=rows.map Cm|[],_=>rfl|.lst ws::rows,h=>by rw[aY,aY,Mc (ag h).2];rfl|.non::_,h=>by cases h|.bl _::_,h=>by cases h|.int _::_,h=>by cases h|.str _::_,h=>by cases h|.tup _::_,h=>by cases h|.scr _::_,h=>by cases h|.dct _ _::_,h=>by cases h|.obj _ _::_,h=>by cases h|.fn _::_,h=>by cases h|.ty _::_,h=>by cases h
def acb{m:Nat}:(EC m).map (UJ [] n)=uf n (ab6 m):=by unfold EC uf;rw[fi];rfl
def hr3:(hR s be l)[3]?=O (.lst s.fs):=rfl
def ZI{rows:List Pv}(h:rows.all yQ)(H:k<rows.length):∃ws,rows[k]?=O (.lst ws)/\yQ (.lst ws)=true:=by have e:=aE H;have g:=aS.mp h _ (iB H);revert e g;cases rows[k]<;>first|(intro e g;cases g;done)|exact λe g=>⟨_,e,g⟩
inductive RJ(t:Str)(rows:List Pv)(o:Option Rp):List Dv->List Dv->Es->Hs->Prop|mk(pre post:List Dv)(s:Rp)(U be:List Nat)(l:Hs)(v:Option Dv)(ok:OK l U be s.ops)(hN:l[rows.length]?=O (.df (uf 6 (ab6 rows.length))))(nN:rows.length∉U)(hk:∀k ws,pre.length<=k->rows[k]?=O (.lst ws)->l[k]?=O (Wo ws 0)/\k∉U)(e:Run s (rows.drop pre.length) o):RJ t rows o pre post [O (.p (.str t)),O (.r 0),v] (hR s be l)
seal nk qA FX p4 zk mq mn oM iW nh Bv in
def W7(B:LX ca W)(S:SX W)(I6:Di (Lx ca) W 6 2)(M:DX ca W 37 4 P0)(R:DX ca W 53 12 cLine)(T:DX ca W 12 29 Kl):DX ca W 36 30 Ko:=by refine B.e (k:=28) 3 J [(37,P0),(53,cLine),(12,Kl)] [6] (.seq (.set 1 (.nw0 6)) (.seq (.foG 2 (.l (.cl 37 [] (.u (.v 0)))) (.one (.ex (.sf 53 (.u2 (.v 1) (.v 2)))))) (.seq (.iff (.cmp Fc (.bi fe (.u (.fld 6 5 (.v 1)))) (.c (.int 0))) (.one (.raise 4 (.c (.str "an end lacks")))) .nil) (.one (.ret (.cl 12 [] (.cons (.bi uV (.u (.fld 6 1 (.v 1)))) (.cons (.bi uV (.u (.fld 6 2 (.v 1)))) (.cons (.bi uV (.u (.fld 6 3 (.v 1)))) (.cons (.bi uV (.u (.fld 6 4 (.v 1)))) .nil)))))))))) S.abX rfl ⟨M.up rfl,R.up rfl,T,trivial⟩ ⟨I6.le (by ext),trivial⟩ λds h Q xc c=>?_;cases c with|@mk t o Q xc ht hg e q=>
 refine⟨rfl,.mk rfl (.mk ht ?_)⟩;rw[RH,aV,Mc hg];have y:((dk t).map Cm++[Ob.df (uf 6 (ab6 (dk t).length))])[(dk t).length]?=O (.df (uf 6 (ab6 (dk t).length))):=by have:=jJ (h:=(dk t).map Cm) (o:=Ob.df (uf 6 (ab6 (dk t).length)));rw[ak]at this;exact this
 have e0:[Ob.df (EC (dk t).length)].map (JC [] 6)=[Ob.df (uf 6 (ab6 (dk t).length))]:=by show[Ob.df ((EC (dk t).length).map (UJ [] 6))]=_;rw[acb]
 refine ay ?_ (tQ (uf 6 (ab6 (dk t).length)) (RJ t (dk t) o) ?_ (λpre post A h' j=>?_) (λpre x post A h' e1 j=>?_) λA h' j=>?_);·show(mY (hR s0 [] ((dk t).map Cm++[Ob.df (EC (dk t).length)].map (JC [] 6))) (.r (6+(dk t).length))).isSome=J;rw[e0,Bh (eY y)];rfl
 ·show RJ t (dk t) o [] _ [O (.p (.str t)),O (.r 0),af] (hR s0 [] ((dk t).map Cm++[Ob.df (EC (dk t).length)].map (JC [] 6)));rw[e0];refine .mk [] _ s0 [] [] _ af .nil y (by simp) (λk ws _ d=>⟨?_,by simp⟩) e;refine bW ?_;rw[bM,d];rfl
 ·cases j with|mk s U be l v ok N D d e=>exact Bh (eY N)
 ·have mz:pre.length<(dk t).length:=by have:=bU ag0 e1;rw[kj,d7,ae,ao]at this;lia
  have hx:x=.r (6+pre.length):=by
   have H:(pre++x::post)[pre.length]?=O x:=by rw[aP (aB _),fY];rfl
   rw[<-e1]at H;unfold uf at H;rw[bM,x8 mz]at H;cases H;rfl
  subst hx;cases j with|mk s U be l v ok N D d e=>
  obtain⟨ws,C,G⟩:=ZI hg mz;have ed:(dk t).drop pre.length=.lst ws::(dk t).drop (pre.length+1):=by obtain⟨hl,E⟩:=ai.mp C;rw[<-E,fV]
  rw[ed]at e;obtain⟨hw,wU⟩:=d pre.length ws (aB _) C;have wr:Wr ws (Wo ws 0):=⟨ws,0,bG _,rfl,ui (ap.mp (ag G).2),(ag G).1⟩;have wN:(dk t).length≠pre.length:=by lia
  cases e with|@cons _ s' _ _ _ E t'=>
   refine .mk ok hw wr E (λs2 es U' ir l' D8 F=>?_) (λe=>by cases e);cases es;refine .mk _ _ s' U' ir l' _ D8 (F.k _ _ D wN N) (λz=>(F.u _ z).elim D λz=>by have:=(ai.mp N).1;lia) (λk ws' H h2=>?_) (by rw[ae];exact t');have H:pre.length+1<=k:=by rw[ae]at H;exact H
   obtain⟨h3,h4⟩:=d k ws' (by lia) h2;exact⟨F.k _ _ h4 (by lia) h3,λz=>(F.u _ z).elim h4 λz=>by have:=(ai.mp h3).1;lia⟩|no E=>exact .mk ok hw wr E (λs2 es=>by cases es) λ_ h'=>q
 ·cases j with|mk s U be l v ok N D d e=>
  rw[kj,d7,qQ]at e;cases e;have I:=ok.len;have q:match s.ops with|[]=>gd (dz (.tup [.tup s.bs,.tup s.ls,.tup s.fs,.tup s.rs])) (iw (xb (.tup s.bs) (.tup s.ls) (.tup s.fs) (.tup s.rs)) (λc=>xc c []) (Q (.p (.tup [.tup s.bs,.tup s.ls,.tup s.fs,.tup s.rs])) []))|_=>xc 4 []:=q;refine cM (dM sx) (eE JI (c6 (λz=>?_) λz=>?_));·have z:lJ 0 ((Ck be).length:Nat)=true:=z;unfold Ck at z;rw[eF,kj,cg,I]at z;cases L:s.ops with|nil=>rw[L]at z;exact absurd z (by ext)|cons a b=>rw[L]at q;exact q
  ·have z:lJ 0 ((Ck be).length:Nat)=false:=z;have L:s.ops=[]:=by have z:=bw.mp z;unfold Ck at z;rw[Ne,eF,kj,cg,I]at z;exact dm.mp (by lia)
   rw[L]at q;refine cM (dM sx) (lU sv (cM (dM sx) (lU rr (cM (dM sx) (lU hr3 (cM (dM sx) (lU hr4 ?_)))))));exact q
def dr(ks:List Str):List Str:=ks.takeWhile λk=>!bA k "rows"
def eZ{k:Str}:dr (k::ks)=match bA k "rows"with|true=>[]|false=>k::dr ks:=by unfold dr;rw[List.takeWhile_cons];cases bA k "rows"<;>rfl
theorem hD:∀{ks:List Str},("rows":Str)∈ks->ks[(dr ks).length]?=O "rows"/\(∀m,m<(dr ks).length->ks[m]?≠O "rows")/\ks.take (dr ks).length=dr ks|[],h=>by cases h|k::ks,h=>by rw[eZ];cases c:bA k "rows"with|true=>rw[aT.mp c];exact⟨rfl,λm H=>absurd H (Nat.not_lt_zero _),rfl⟩|false=>
   have n:k≠"rows":=λz=>by rw[aT.mpr z]at c;cases c
   have e:("rows":Str)∈ks:=(aJ.mp h).elim (λz=>absurd z.symm n) id;obtain⟨a,b,d⟩:=hD e;refine⟨a,λm H=>?_,bU (List.cons k) d⟩;cases m with|zero=>exact λz=>n (cU z)|succ m=>exact b m (Y_ H)
theorem g5:∀{ks:List Str},("rows":Str)∉ks->dr ks=ks|[],_=>rfl|k::ks,h=>by rw[eZ];cases c:bA k "rows"with|true=>exact absurd (aT.mp c) λz=>h (by rw[z];exact aw)|false=>exact bU (List.cons k) (g5 λz=>h (aq _ z))
def af8(x:Str)(ws:List Str):U5 (.str x) (ws.map V.str)=decide (x∈ws):=by
 unfold U5;rw[dG,List.any_eq_true,decide_eq_true_iff];constructor
 ·rintro⟨y,H,e⟩;obtain⟨z,d,rfl⟩:=bL.mp H;have E:(z==x)=true:=e;have p:z=x:=by simpa using E
  exact p▸d
 ·intro h;refine⟨.str x,bL.mpr ⟨x,h,rfl⟩,?_⟩;show(x==x)=J;simp
def Xh(N:List Str):(N.map V.str).all mT=true:=by rw[aS];intro v H;obtain⟨x,_,rfl⟩:=bL.mp H;rfl
def Qc(xs:List V)(j:Nat):mR xs af (O (j:Int))=xs.take j:=by
 unfold mR;rw[HT.vG,HT.GB,ic,Nat.sub_zero];rcases Nat.le_total j xs.length with h|h;·rw[jn h]
 ·rw[Hc h,fW (aB _),fW h]
def UL{p:Pv->Bool}{f:Pv->Pv}{ds:List Dv}{Q:Dv->Hs->Prop}{d:XP}(c:Hr p f ds h Q d):∃a,ds=[.p a]/\h=[]/\gd (p a) (Q (.p (f a)) []):=by unfold Hr WT at c;exact j6 c λx _ c=>kP c λc=>kP c λc=>⟨x,rfl,rfl,c⟩
def GG:dD ["word","kinds"] ["word"] (aL (top 17)):=mV (by ext)
section
variable{aF:Addr}
seal L2.PE L2.PS L2.kH L2.PT L2.PW L2.PA L2.PG L2.UD L2.PI L2.PO L2.pY L2.PC L2.jQ L2.dJ L2.CF L2.Hj L2.J1 L2.Wx in
def W3(mF:W.mg "ROW_FORMS"=O (.ref aF))(T:Ar W.w W.K aF λx=>lk x fC)(S:SX W):DX ca W 27 4 p6:=by
 refine⟨["word"],S.BJ.YJ GG (λvs H Q E ⟨G,M,h,ds,D,xc,r,i,c,_,_⟩=>?_) λf dW A u s H vs Q E hr wL=>?_⟩;·obtain⟨x,rfl,rfl,c⟩:=UL c;rw[<-i.len];rfl
 obtain⟨G,M,h,ds,D,xc,r,i,c,out,exc⟩:=wL;obtain⟨x,rfl,rfl,I⟩:=UL c;obtain⟨y,B⟩:=bB I;clear c I;obtain⟨y,C⟩:=ag y;revert B C i;refine qH y λe i B C=>?_;cases d:lk e fC with|none=>rw[show lk (gD (.str e)) fC=af from d]at C;cases C|some ks=>
 have q:D (.p (vS (dr ks))) []:=by
  have:A6 (.str e)=vS (dr ks):=by unfold A6;rw[show lk (gD (.str e)) fC=O ks from d];rfl
  rw[<-this];exact B
 obtain⟨v,rfl,L⟩:=i.kQ;cases(show v=.str e by unfold F.cZ bR at L;exact L);refine⟨_,g9 (Gs 1 GG.nd (Bx (Rr T) (e9 (v:=.ref aF) rfl mF rfl) (pv 0))) (g9 (Nl (uc xM vq (pv 1) (by rfl)) (iP (pI (Bz GJ (pv 1) Gi (Gj (vn PySem.F.plainAttrs_tuple We PySem.F.type_tuple_index IB (pv 1) (lP vq dF)))))) zw) (iP (pI (pv 1)))),?_⟩;refine⟨_,rfl,rfl,e,ks,rfl,d,λb t=>?_⟩;refine⟨_,rfl,b,_,rfl,.inr t.sq,rfl,Xh ks,_,rfl,?_⟩;rw[show(if a7=J then !U5 (.str "rows") (ks.map V.str)else U5 (.str "rows") (ks.map V.str))=decide (("rows":Str)∈ks)from af8 _ _];refine agd (λc=>?_) λc=>?_;·obtain⟨r1,r2,r3⟩:=hD (aX c);refine⟨_,rfl,_,rfl,t.ty,b,ks,"rows",(dr ks).length,rfl,rfl,t.sq,r1,r2,_,rfl,b,_,rfl,t.sq,λp H' N R=>?_⟩;rw[Qc,<-List.map_take,r3]at R;exact out _ [] M H' _ (gS N) (kR r N) (by unfold F.cZ vS bR;exact⟨p,_,rfl,R,kO⟩) q
 ·have c':("rows":Str)∉ks:=λz=>c (cq z);rw[g5 c']at q;exact⟨_,rfl,out _ [] M H _ (gS (jh.refl H)) r (by unfold F.cZ vS bR;exact⟨b,_,rfl,t.sq,kO⟩) q⟩
end
mutual
def wo:Pv->List Str|.tup xs=>OO xs|.str z=>[z]|.int i=>[toString i]|_=>[]def OO:List Pv->List Str|[]=>[]|x::r=>wo x++OO r
end
mutual
def L_:Pv->Bool|.tup xs=>R1 xs|.str _=>J|.int i=>decide (i.natAbs.log2<1920)|_=>a7
def R1:List Pv->Bool|[]=>J|x::r=>L_ x&&R1 r
end
noncomputable def oH(ws:List Str):Str:=ah5 " " ws
noncomputable def szJ(z:Str)(ws:List Str):Bool:=aa5 ((ws.map (·.length)).sum+ws.length*z.length) 16777216
def Ea(x:Pv):Bool:=L_ x&&(aa5 (gQ x) 500000&&szJ " " (wo x))
theorem Ga:∀{xs ys:List Pv},R1 xs=J->R1 ys->R1 (xs++ys)=J|[],_,_,h=>h|x::xs,ys,h,k=>by obtain⟨H,d⟩:=ag (show(L_ x&&R1 xs)=J from h);show(L_ x&&R1 (xs++ys))=J;rw[H,Ga d k];rfl
theorem G6:∀{xs ys:List Pv},OO (xs++ys)=OO xs++OO ys|[],_=>rfl|x::xs,ys=>by show wo x++OO (xs++ys)=wo x++OO xs++OO ys;rw[G6,aA]
theorem vJ:∀{xs ys:List Pv},fD (xs++ys)=fD xs+fD ys|[],_=>(sM _).symm|x::xs,ys=>by show gQ x+fD (xs++ys)=gQ x+fD xs+fD ys;rw[vJ,Nat.add_assoc]
theorem vc:∀l:List Pv,l.length<=fD l|[]=>aB _|y::r=>by have:=zJ y;have:=vc r;show r.length+1<=gQ y+fD r;lia
inductive WJ(x:Pv)(m:Nat):Es->Hs->Prop|mk(ws:List Str)(st:List Pv)(v:Option Dv)(e:wo x=ws++OO st)(o:R1 st)(z:ws.length+fD st<=500000)(hm:m=fD st):WJ x m [O (.p x),O (.r 0),O (.r 1),v] [.lst (ws.map .str),.lst st.reverse]
theorem Po:∀{ws:List Str},lS (ws.map .str)=O ws|[]=>rfl|w::ws=>by show(match lS (ws.map .str)with|some r=>O (w::r)|none=>af)=_;rw[Po]
abbrev kt:Ct:=Hr Ea λx=>.str (oH (wo x))
def lC(B:LX ca W)(S:SX W):DX ca W 31 2 kt:=by refine B.e (k:=0) 4 J [] [] (.seq (.set 1 (.FW .nil)) (.seq (.set 2 (.FW (.u (.v 0)))) (.seq (.whG (.cmp Fc (.bi fe (.u (.v 2))) (.c (.int 0))) (.seq (.set 3 (.m0 Yr (.v 2))) (.one (.iff (.val (.bi o8 (.u2 (.v 3) (.ty 3)))) (.one (.ex (.mt XJ (.v 2) (.u (.rev (.v 3)))))) (.one (.ex (.mt j5 (.v 1) (.u (.bi afe (.u (.v 3))))))))))) (.one (.ret (.mt Yq (.c (.str " ")) (.u (.v 1)))))))) S.BN rfl trivial trivial (xB λx Q G A q=>?_);obtain⟨D,A⟩:=ag A;obtain⟨E,F⟩:=ag A;refine ad5 (WJ x) (af0 ⟨gQ x,.mk [] [x] af (aM _).symm (by show(L_ x&&J)=J;rw[D];rfl) (by show 0+(gQ x+0)<=_;have:=ap.mp E;lia) rfl⟩ λm σ h d=>?_);cases d with|mk ws st v e o z H=>
 refine c6 (λc=>?_) λc=>?_;·cases st with|nil=>cases c|cons y st=>rw[de];refine cN (qv _ _) ?_;rw[hZ];obtain⟨o1,C⟩:=ag (show(L_ y&&R1 st)=J from o);have ls:=vc st;have z:ws.length+(gQ y+fD st)<=500000:=z;have H:m=gQ y+fD st:=H;have sp:=zJ y;have add:∀(u:Str)(v:Option Dv),wo y=[u]->∃M,M<m/\WJ x M [O (.p x),O (.r 0),O (.r 1),v] [.lst (ws.map .str++[.str u]),.lst st.reverse]:=λu v hu=>⟨fD st,by lia,by rw[show ws.map Pv.str++[.str u]=(ws++[u]).map Pv.str by rw[aV];rfl];refine .mk (ws++[u]) st v ?_ C (by rw[ae];show ws.length+1+_<=_;lia) rfl;rw[e];show ws++(wo y++OO st)=_;rw[hu,aA]⟩;have t:iz ((ws.map Pv.str).length+1)=true:=ui (by rw[ak];show _<=1000000;lia);cases y with|str u=>exact ay t (add u _ rfl)|int i=>exact ay o1 (ay t (add _ _ rfl))|tup xs=>have z:ws.length+(1+fD xs+fD st)<=500000:=z;have H:m=1+fD xs+fD st:=H;have L:=vc xs;refine ay (ui (by rw[cg,cg];show _<=1000000;lia)) ?_;refine⟨fD xs+fD st,by lia,?_⟩;rw[<-List.reverse_append];exact .mk ws (xs++st) _ (by rw[e,G6];rfl) (Ga o1 C) (by rw[vJ];lia) (by rw[vJ])|_=>cases o1
 ·cases st with|cons y st=>have c:lJ 0 (((y::st).reverse.length:Nat):Int)=false:=c;have:=bw.mp c;rw[Ne,eF,cg,ao]at this;exact absurd (by lia) this|nil=>
   rw[show OO []=[]from rfl,aM]at e;refine cN Po (ay ?_ ?_);·rw[<-e];exact F
   ·rw[<-e];exact q
end W2
namespace F
open L2
def Mo:OM:=λx ds h Q=>match x,ds with
 |.r i,[d]=>match h[i]? with
  |some (.df X)=>match vM h d with|some y=>gd (iz (X.length+y.length)) (Q (.p .non) (h.set i (.df (X++y.map .p))))|none=>False
  |_=>False
 |_,_=>False
def Lm{Y:T0}:wz Y (λx xs H Q=>zA x xs H Q\/∃l b f Z,x=.ref l/\xs=[.ref b]/\H l=O (.lst f)/\eL Y.K H b Z/\f.length+Z.length<=sizeLine/\Q .non (cQ H l (.lst (f++Z)))) Mo:=λG M h H x xs v D Q y r i A q out=>by
 unfold Mo at q;split at q
 ·rename_i n d;obtain⟨w,rfl,j⟩:=A.kQ;obtain⟨a,g,m⟩:=i;have s:a∈M:=aZ g;split at q
  ·rename_i B C;split at q
   ·rename_i Z e;obtain⟨c,q⟩:=bB q;have c:=dI c;obtain⟨W,t,k⟩:=r.at' g C;have fin:∀u,aO (Y.z G) M H Z u->y .non (cQ H a (.lst (W++u))):=λu I=>out _ _ M _ .non (Ext.put s) (r.put (o:=.df (B++Z.map .p)) g ⟨_,bF,(k.app I.ds).ext r (Ext.put s)⟩) nL q;unfold vM at e;split at e;·cases e;obtain⟨b,u,rfl,sq,I⟩:=lZ j;exact .inr ⟨a,b,W,u,m,rfl,t,sq,by rw[<-k.len,<-I.len];exact c,fin u I⟩
    ·obtain⟨b,u,rfl,sq,I⟩:=fO r j e;exact .inl ⟨a,b,W,u,m,rfl,t,sq,by rw[<-k.len,<-I.len];exact c,fin u I⟩
   ·exact q.elim
  ·exact q.elim
 ·exact q.elim
def abk:Mt:=⟨4,Mo,"extend",λh H b p l hn=>xQ (c:=4) cA pV Wf (Ca.or xI vf) Lm h H b p l hn⟩
section
variable{Γ:Gm}{t:Tb}
def Mm.setG(i n:Nat)(r:List Nat)(j:Nat)(a:Jg Γ t)(F:Fm Γ t)(A:Em Γ t)(z:Bool):Mm Γ t:=⟨NT i (zF n r j a.m F.m A.m z a7),λS=>Tj S i λx p e=>Bw S.sc x&&(Gc x p e&&C0 S n r (.one j) a.ck F A.ck e),λ{k S X E st}o h=>by
 refine zH o h λx p e P v w y B=>?_;obtain⟨D,g⟩:=ag B;obtain⟨G,I⟩:=ag g;revert G;refine nJ o.x I λW Y ix K e u C U L b c M N Q R G=>?_;refine(Gq o.nd v w U o.x.hc L (a.pi o.x b) (λf s H=>M (K_ o.x _ _ f s H)) (λf s H=>F.pf (K_ o.x _ _ f s H) N) (λf s H=>A.pe (K_ o.x _ _ f s H) Q) R ?_ y).imp λ_ _ _ q=>uI (λ_ _ z=>by cases z) (aX c) (N1 q);obtain⟨d,l⟩:=ag (show(p.line==C.line&&!u.names.any λ(n,k)=>n==x&&(k==.local||k==.cell))=J from G);show pure (X.env.blockKind==.function&&X.env.kindOf x==O .local&&p.line==C.line&&!u.names.any λ(n,k)=>n==x&&(k==.local||k==.cell))=pure J;have T:X.env.kindOf x=O .local:=by show X.env.scope.names.lookup x=_;rw[o.x.hs];exact zr D
 rw[LK o.kd,T,d,l];rfl⟩
end
end F
namespace W2
open L2 F
variable{a:List Str}{n k:Nat}{w z:Str}{r:List Pv}{ks:List Nat}{v:Pv}
def FG:Pv->Pv
 |.tup (.str w::r)=>match lk w fC with|some ks=>.tup ((.str w::r).take (1+(dr ks).length))|none=>.non
 |_=>.non
def pJ(x:Pv):Str:=oH (wo (FG x))
abbrev La:Ct:=Hr (λx=>Ea (FG x)) λx=>.str (pJ x)
noncomputable def sd:Pv:=.tup [.str "box",.str "x"]
noncomputable def f9(v:Pv):List Nat->Pv|[]=>.tup [.str "tell",v]|0::ks=>.tup [.str "if",sd,.tup [f9 v ks],.tup []]|1::ks=>.tup [.str "while",sd,.tup [f9 v ks]]|2::ks=>.tup [.str "try",.tup [f9 v ks],.str "x",.tup []]|_::ks=>.tup [.str "try",.tup [],.str "x",.tup [f9 v ks]]
def wG:Str:=oH ["catch","x"]
def Js(v:Pv):Str:=oH ("tell"::wo v)
noncomputable def uD(v:Pv):List Nat->Str->List Str|[],a=>[a++Js v]|0::ks,a=>(a++oH ["if","box","x"])::(uD v ks (a++"  ")++[a++"end"])|1::ks,a=>(a++oH ["while","box","x"])::(uD v ks (a++"  ")++[a++"end"])|2::ks,a=>(a++oH ["try"])::(uD v ks (a++"  ")++[a++wG,a++"end"])|_::ks,a=>(a++oH ["try"])::(a++wG)::(uD v ks (a++"  ")++[a++"end"])
theorem jz{v:Pv}:∀{ks:List Nat}{a:Str},(uD v ks a).length<=3*ks.length+1|[],_=>aB _|0::ks,a=>by have:=jz (v:=v) (ks:=ks) (a:=a++"  ");show(uD v ks (a++"  ")++_).length+1<=3*(ks.length+1)+1;rw[ae];show _+1+1<=_;lia|1::ks,a=>by have:=jz (v:=v) (ks:=ks) (a:=a++"  ");show(uD v ks (a++"  ")++_).length+1<=3*(ks.length+1)+1;rw[ae];show _+1+1<=_;lia|2::ks,a=>by have:=jz (v:=v) (ks:=ks) (a:=a++"  ");show(uD v ks (a++"  ")++_).length+1<=3*(ks.length+1)+1;rw[ae];show _+2+1<=_;lia|(n+3)::ks,a=>by have:=jz (v:=v) (ks:=ks) (a:=a++"  ");show(uD v ks (a++"  ")++_).length+1+1<=3*(ks.length+1)+1;rw[ae];show _+1+1+1<=_;lia
noncomputable def oX(ls:List Str):List Dv:=ls.map λs=>.p (.str s)
def uh{b:List Str}:oX (a++b)=oX a++oX b:=aV ..
def iQ:(oX a).length=a.length:=ak ..
def Up(v:Pv):Bool:=Ea (.tup [.str "tell",v])&&aa5 (Js v).length 1000
inductive lA(n:Nat):Ct|nil{a:Str}{ls:List Str}{Q:Dv->Hs->Prop}{xc:XP}(h0:0<n)(q:Q (.p .non) [.df (oX ls)]):lA n [.r 0,.p (.tup []),.p (.str a)] [.df (oX ls)] Q xc|one{ks:List Nat}{v:Pv}{a:Str}{ls:List Str}{Q:Dv->Hs->Prop}{xc:XP}(hk:ks.length<n)(hv:Up v)(ha:a.length+2*ks.length<=100)(hl:ls.length+4*ks.length<=1000)(q:Q (.p .non) [.df (oX (ls++uD v ks a))]):lA n [.r 0,.p (.tup [f9 v ks]),.p (.str a)] [.df (oX ls)] Q xc
inductive PM(n:Nat):Ct|mk{ks:List Nat}{v:Pv}{a:Str}{ls:List Str}{Q:Dv->Hs->Prop}{xc:XP}(hk:ks.length<n)(hv:Up v)(ha:a.length+2*ks.length<=98)(hl:ls.length+4*ks.length<=998)(q:Q (.p .non) [.df (oX (ls++(uD v ks (a++"  ")++[a++"end"])))]):PM n [.r 0,.p (f9 v (0::ks)),.p (.str a)] [.df (oX ls)] Q xc
inductive Hv(n:Nat):Ct|two{ks:List Nat}{v:Pv}{a:Str}{ls:List Str}{Q:Dv->Hs->Prop}{xc:XP}(hk:ks.length<n)(hv:Up v)(ha:a.length+2*ks.length<=98)(hl:ls.length+4*ks.length<=998)(q:Q (.p .non) [.df (oX (ls++(uD v ks (a++"  ")++[a++wG,a++"end"])))]):Hv n [.r 0,.p (f9 v (2::ks)),.p (.str a)] [.df (oX ls)] Q xc|thr{m:Nat}{ks:List Nat}{v:Pv}{a:Str}{ls:List Str}{Q:Dv->Hs->Prop}{xc:XP}(hk:ks.length<n)(hv:Up v)(ha:a.length+2*ks.length<=98)(hl:ls.length+4*ks.length<=998)(q:Q (.p .non) [.df (oX (ls++(a++wG)::(uD v ks (a++"  ")++[a++"end"])))]):Hv n [.r 0,.p (f9 v ((m+3)::ks)),.p (.str a)] [.df (oX ls)] Q xc
def mi(h:n<=100000):iz n=true:=ui (aH h (by ext))
def u5{ks:List Str}(e:lk w fC=O ks):FG (.tup (.str w::r))=.tup ((.str w::r).take (1+(dr ks).length)):=by show(match lk w fC with|some ks=>Pv.tup ((Pv.str w::r).take (1+(dr ks).length))|none=>Pv.non)=_;rw[e]
def Xv(e:lk w fC=af):FG (.tup (.str w::r))=.non:=by show(match lk w fC with|some ks=>Pv.tup ((Pv.str w::r).take (1+(dr ks).length))|none=>Pv.non)=_;rw[e]
noncomputable def Bk(ls:List Str):Str:=ah5 "" (ls.map λs=>s++"\n")
inductive cLT:Ct|mk{ls:List Str}{Q:Dv->Hs->Prop}{xc:XP}(h1:ls.length<=1000)(h2:∀s∈ls,s.length<=2000)(q:Q (.p (.str (Bk ls))) [.df (oX ls)]):cLT [.r 0] [.df (oX ls)] Q xc
theorem Nt:∀{ls:List Str},ud (oX ls)=O (ls.map .str)|[]=>rfl|s::ls=>by show(match ud (oX ls)with|some r=>O (Pv.str s::r)|none=>af)=_;rw[Nt];rfl
theorem GR{c:Nat}:∀{ws:List Str},(∀x∈ws,x.length<=c)->(ws.map (·.length)).sum<=ws.length*c|[],_=>bG _|x::X,h=>by have h1:=h x aw;have h2:=GR λy H=>h y (aq _ H);rw[aY,List.sum_cons,ao,Z_];lia
def ZW{ws:List Str}(h:ws.length<=1000)(H:∀x∈ws,x.length<=2001)(hz:autoParam (z.length=0) o0):aa5 ((ws.map (·.length)).sum+ws.length*z.length) 16777216=true:=by have:=GR H;rw[hz];have:ws.length*2001<=1000*2001:=XD _ h;exact ap.mpr (by lia)
section
variable{ca:Nat->Addr}{W:Wd}
def Du(B:LX ca W)(S:SX W)(b:DX ca W 27 4 p6):DX ca W 29 5 La:=by
 refine B.e (k:=3) 1 J [(31,kt),(27,p6)] [] (.seq (.iff (.cmp jZ (.ix (.v 0) (.c (.int 0))) (.c (.str "def"))) (.one (.ret (.cl 31 [] (.u (.v 0))))) .nil) (.one (.ret (.cl 31 [] (.u (.sl (.v 0) .no (.of (.b2 cW (.c (.int 1)) (.bi fe (.u (.cl 27 [] (.u (.ix (.v 0) (.c (.int 0))))))))))))))) S.Ja rfl ⟨(lC B S).up rfl,b,trivial⟩ trivial (xB λx Q f h q=>?_);cases x<;>first|(cases h;done)|skip
 rename_i X;cases X with|nil=>cases h|cons w r=>
 cases w<;>first|(cases h;done)|skip
 rename_i w;have q:Q (.p (.str (oH (wo (FG (.tup (.str w::r))))))) []:=q;have h:Ea (FG (.tup (.str w::r)))=true:=h;cases e:lk w fC with|none=>rw[Xv e]at h;cases h|some ks=>
 rw[u5 e]at h q;refine c6 (λc=>?_) λc=>?_;·have c:bA w "def"=true:=c;rw[aT.mp c,show lk ("def":Str) fC=af from by ext]at e;cases e
 ·refine ay (by show(J&&(lk w fC).isSome)=J;rw[e];rfl) ?_;have H:A6 (.str w)=vS (dr ks):=by unfold A6;rw[show lk (gD (.str w)) fC=O ks from e];rfl
  dsimp only;rw[H];have d:(1:Int)+(((dr ks).map Pv.str).length:Nat)=((1+(dr ks).length:Nat):Int):=by rw[ak];lia
  have E:mQ (Pv.str w::r) af (O (1+(((dr ks).map Pv.str).length:Nat)))=(Pv.str w::r).take (1+(dr ks).length):=by rw[d];rfl
  refine ay (show Ea (.tup (mQ (Pv.str w::r) af (O (1+(((dr ks).map Pv.str).length:Nat)))))=J by rw[E];exact h) ?_;show Q (.p (.str (oH (wo (.tup (mQ (Pv.str w::r) af (O (1+(((dr ks).map Pv.str).length:Nat))))))))) [];rw[E];exact q
def yF(B:LX ca W)(S:SX W):DX ca W 30 2 cLT:=by refine B.e (k:=0) 1 a7 [] [] (.one (.ret (.mt Yq (.c (.str "")) (.u (.Fi 1 [] 0 (.l (.v 0)) .no (.b2 cW (.v 0) (.c (.str "\n"))) J))))) S.BK rfl trivial trivial λds h Q X c=>?_;cases c with|@mk L Q _ d b q=>
 refine⟨rfl,?_⟩;refine iK (oX L) (λpre A H=>H=[.df (oX L)]/\∃p R,L=p++R/\pre=oX p/\A=oX (p.map λs=>s++"\n")) (mi (by rw[iQ];lia)) ⟨rfl,[],L,rfl,rfl,rfl⟩ (λpre A H j=>?_) (λpre y post A H E j=>?_) λA H j=>?_;·obtain⟨rfl,_⟩:=j;rfl
 ·obtain⟨rfl,p,R,e,rfl,rfl⟩:=j;rw[e,uh,List.append_cancel_left_eq]at E;cases R with|nil=>cases E|cons s R=>injection E with E o;subst E;have hs:=b s (by rw[e];simp);refine ay (mi (by show s.length+1<=_;lia)) ⟨rfl,p++[s],R,by rw[e,aA];rfl,by rw[uh];rfl,?_⟩;rw[aV,uh];rfl
 ·obtain⟨rfl,p,R,e,f,rfl⟩:=j;have hl:=bU ag0 f;rw[iQ,iQ,e,ae]at hl;have g:R=[]:=dm.mp (by lia);rw[g,aM]at e;subst e;show(match ud (oX (L.map λs=>s++"\n"))with|some t=>_|none=>False);rw[Nt];refine cN Po (ay (ZW ?_ ?_) q);·rw[ak];exact d
  ·intro x i;obtain⟨y,m,rfl⟩:=bL.mp i;rw[cX];have:=b y m;show _+1<=_;lia
def OJ(h:Up v):Ea (FG (f9 v []))/\pJ (f9 v [])=Js v/\(Js v).length<=1000:=by obtain⟨H,b⟩:=ag h;have e:FG (f9 v [])=.tup [.str "tell",v]:=(u5 (w:="tell") (ks:=["value"]) (by ext)).trans rfl;unfold pJ;rw[e];refine⟨H,?_,ap.mp b⟩;show oH ("tell"::(wo v++[]))=_;rw[aM];rfl
def CN{a:Str}(h:a.length+2*(n+1)<=100):(a++("  ":Str)).length+2*n<=100:=by rw[cX];show a.length+2+2*n<=100;lia
def vN{s:Str}:oX a++[.p (.str s)]=oX (a++[s]):=by rw[uh];rfl
def aeX:wG.length=7:=by ext
def L6{a:Str}(h:a.length<=98):iz (a.length+wG.length)=true:=mi (by rw[aeX];lia)
def NN{x y:Pv}(e:FG x=y)(h:(Ea y&&(bA (oH (wo y)) z&&aa5 z.length 20))):Ea (FG x)/\pJ x=z/\z.length<=20:=by obtain⟨H,h⟩:=ag h;obtain⟨b,c⟩:=ag h;unfold pJ;rw[e];exact⟨H,aT.mp b,ap.mp c⟩
def aci:Ea (FG (f9 v (0::ks)))=J/\pJ (f9 v (0::ks))=oH ["if","box","x"]/\(oH ["if","box","x"]).length<=20:=NN (y:=.tup [.str "if",sd]) ((u5 (w:="if") (ks:=["value","rows","rows"]) (by ext)).trans rfl) (by ext)
def acj:Ea (FG (f9 v (1::ks)))=J/\pJ (f9 v (1::ks))=oH ["while","box","x"]/\(oH ["while","box","x"]).length<=20:=NN (y:=.tup [.str "while",sd]) ((u5 (w:="while") (ks:=["value","rows"]) (by ext)).trans rfl) (by ext)
def VN{xs:List Pv}:Ea (FG (.tup (.str "try"::xs)))=J/\pJ (.tup (.str "try"::xs))=oH ["try"]/\(oH ["try"]).length<=20:=NN (y:=.tup [.str "try"]) ((u5 (w:="try") (ks:=["rows","box","rows"]) (by ext)).trans rfl) (by ext)
def KA(B:LX ca W)(S:SX W)(b:DX ca W 33 (k+1) (lA n)):DX ca W 34 (k+2) (PM n):=by refine B.e (k:=k) 3 a7 [(33,lA n)] [] (.seq (.ex (.sf 33 (.u3 (.v 0) (.ix (.v 1) (.c (.int 2))) (.b2 cW (.v 2) (.g 16))))) (.seq (.iff (.cmp Fc (.bi fe (.u (.ix (.v 1) (.c (.int 3))))) (.c (.int 0))) (.seq (.ex (.mt j5 (.v 0) (.u (.b2 cW (.v 2) (.c (.str "else")))))) (.one (.ex (.sf 33 (.u3 (.v 0) (.ix (.v 1) (.c (.int 3))) (.b2 cW (.v 2) (.g 16))))))) .nil) (.one (.ex (.mt j5 (.v 0) (.u (.b2 cW (.v 2) (.c (.str "end"))))))))) S.SR rfl ⟨b,trivial⟩ trivial λds h Q x c=>?_;cases c with|@mk ks v a l Q x H d f i q=>have cl:=jz (v:=v) (ks:=ks) (a:=a++"  ");refine⟨rfl,ay (mi (by show a.length+2<=_;lia)) (lA.one H d (CN (by lia)) (by lia) ?_)⟩;refine ay (mi (by show a.length+3<=_;lia)) (ay (mi (by rw[iQ,ae];lia)) ?_);rw[vN,aA];exact q
def HF(B:LX ca W)(S:SX W)(d:DX ca W 33 (k+3) (lA n)):DX ca W 35 (k+4) (Hv n):=by refine B.e (k:=k+2) 3 a7 [(33,lA n),(31,kt)] [] (.seq (.ex (.sf 33 (.u3 (.v 0) (.ix (.v 1) (.c (.int 1))) (.b2 cW (.v 2) (.g 16))))) (.seq (.ex (.mt j5 (.v 0) (.u (.b2 cW (.v 2) (.cl 31 [] (.u (.tup (.u2 (.c (.str "catch")) (.ix (.v 1) (.c (.int 2))))))))))) (.seq (.ex (.sf 33 (.u3 (.v 0) (.ix (.v 1) (.c (.int 3))) (.b2 cW (.v 2) (.g 16))))) (.one (.ex (.mt j5 (.v 0) (.u (.b2 cW (.v 2) (.c (.str "end")))))))))) S.Nv rfl ⟨d,(lC B S).le (by lia),trivial⟩ trivial λds h Q x c=>?_;cases c with|@two ks v a l Q x H b f i q=>have cl:=jz (v:=v) (ks:=ks) (a:=a++"  ");refine⟨rfl,ay (mi (by show a.length+2<=_;lia)) (lA.one H b (CN (by lia)) (by lia) ?_)⟩;refine ay (L6 (by lia)) (ay (mi (by rw[iQ,ae];lia)) ?_);rw[vN];refine ay (mi (by show a.length+2<=_;lia)) (lA.nil (jv (bG _) H) ?_);refine ay (mi (by show a.length+3<=_;lia)) (ay (mi (by rw[iQ,ae,ae];show _+_+1+1<=_;lia)) ?_);rw[vN,aA,aA,aA];exact q|@thr m ks v a l Q x H b f i q=>have cl:=jz (v:=v) (ks:=ks) (a:=a++"  ");refine⟨rfl,ay (mi (by show a.length+2<=_;lia)) (lA.nil (jv (bG _) H) ?_)⟩;refine ay (L6 (by lia)) (ay (mi (by rw[iQ];lia)) ?_);rw[vN];refine ay (mi (by show a.length+2<=_;lia)) (lA.one H b (CN (by lia)) (by rw[ae];show l.length+1+_<=_;lia) ?_);refine ay (mi (by show a.length+3<=_;lia)) (ay (mi (by rw[iQ,ae,ae];show _+1+_+1<=_;lia)) ?_);rw[vN,aA,aA];exact q
seal Ea FG in
def iS(B:LX ca W)(S:SX W)(A:DX ca W 27 4 p6)(d:DX ca W 33 (k+5) (lA n)):DX ca W 33 (k+7) (lA (n+1)):=by
 refine B.eA (k:=k+5) 4 a7 [(33,lA n),(34,PM n),(35,Hv n),(29,La)] [] (.one (.foG 3 (.p (.s (.v 1))) (.seq (.ex (.mt j5 (.v 0) (.u (.b2 cW (.v 2) (.cl 29 [] (.u (.v 3))))))) (.seq (.iff (.cmp jZ (.ix (.v 3) (.c (.int 0))) (.c (.str "if"))) (.one (.ex (.sf 34 (.u3 (.v 0) (.v 3) (.v 2))))) .nil) (.seq (.iff (.cmp jZ (.ix (.v 3) (.c (.int 0))) (.c (.str "while"))) (.seq (.ex (.sf 33 (.u3 (.v 0) (.ix (.v 3) (.c (.int 2))) (.b2 cW (.v 2) (.g 16))))) (.one (.ex (.mt j5 (.v 0) (.u (.b2 cW (.v 2) (.c (.str "end")))))))) .nil) (.one (.iff (.cmp jZ (.ix (.v 3) (.c (.int 0))) (.c (.str "try"))) (.one (.ex (.sf 35 (.u3 (.v 0) (.v 3) (.v 2))))) .nil))))))) S.me rfl ⟨d.le (by lia),KA (k:=k+4) B S d,HF (k:=k+2) B S d,(Du B S A).le (by lia),trivial⟩ trivial λds h Q X c=>?_
 cases c with|@nil a l Q X D q=>
  refine⟨rfl,tQ [] (λpre post σ h=>h=[.df (oX l)]) rfl (λpre post σ h j=>rfl) (λpre x post σ h e j=>?_) λσ h j=>?_⟩;·exact absurd (bU ag0 e) (by rw[ae,ao];show ¬ 0=_;lia)
  ·subst j;exact q|@one ks v a l Q X i H o y q=>
  refine⟨rfl,tQ [.p (f9 v ks)] (λpre post σ h=>pre=[]/\σ=[O (.r 0),O (.p (.tup [f9 v ks])),O (.p (.str a)),af]/\h=[.df (oX l)]\/post=[]/\h=[.df (oX (l++uD v ks a))]) (.inl ⟨rfl,rfl,rfl⟩) (λpre post σ h j=>rfl) (λpre x post σ h e j=>?_) λσ h j=>?_⟩
  ·rcases j with ⟨rfl,rfl,rfl⟩|⟨z,_⟩;rotate_left;·cases z
   injection e with E C;subst E;subst C;have s1:iz ((oX l).length+1)=true:=mi (by rw[iQ];lia);cases ks with|nil=>obtain⟨T,t,b⟩:=OJ H;refine ay T ?_;refine ay (show iz (a.length+(pJ (f9 v [])).length)=J from mi (by rw[t];lia)) (ay s1 ?_);rw[t,vN];exact .inr ⟨rfl,rfl⟩|cons k ks=>have K:ks.length<n:=Y_ i;have f:a.length+2*(ks.length+1)<=100:=o;have L:l.length+4*(ks.length+1)<=1000:=y;clear i o y;match k with|0=>obtain⟨T,t,b⟩:=aci (v:=v) (ks:=ks);refine ay T (ay (show iz (a.length+(pJ (f9 v (0::ks))).length)=J from mi (by rw[t];lia)) (ay s1 ?_));rw[t,vN];refine PM.mk K H (by lia) (by rw[ae];show l.length+1+_<=_;lia) (.inr ⟨rfl,?_⟩);rw[aA];rfl|1=>have cl:=jz (v:=v) (ks:=ks) (a:=a++"  ");obtain⟨T,t,b⟩:=acj (v:=v) (ks:=ks);refine ay T (ay (show iz (a.length+(pJ (f9 v (1::ks))).length)=J from mi (by rw[t];lia)) (ay s1 ?_));rw[t,vN];refine ay (mi (by show a.length+2<=_;lia)) (lA.one K H (CN f) (by rw[ae];show l.length+1+_<=_;lia) ?_);refine ay (mi (by show a.length+3<=_;lia)) (ay (mi (by rw[iQ,ae,ae];show _+1+_+1<=_;lia)) (.inr ⟨rfl,?_⟩));rw[vN,aA,aA];rfl|2=>obtain⟨T,t,b⟩:=VN (xs:=[.tup [f9 v ks],.str "x",.tup []]);refine ay T (ay (show iz (a.length+(pJ (.tup [.str "try",.tup [f9 v ks],.str "x",.tup []])).length)=J from mi (by rw[t];lia)) (ay s1 ?_));rw[show pJ (f9 v (2::ks))=_ from t,vN];refine Hv.two K H (by lia) (by rw[ae];show l.length+1+_<=_;lia) (.inr ⟨rfl,?_⟩);rw[aA];rfl|m+3=>obtain⟨T,t,b⟩:=VN (xs:=[.tup [],.str "x",.tup [f9 v ks]]);refine ay T (ay (show iz (a.length+(pJ (.tup [.str "try",.tup [],.str "x",.tup [f9 v ks]])).length)=J from mi (by rw[t];lia)) (ay s1 ?_));rw[show pJ (f9 v ((m+3)::ks))=_ from t,vN];refine Hv.thr K H (by lia) (by rw[ae];show l.length+1+_<=_;lia) (.inr ⟨rfl,?_⟩);rw[aA];rfl
  ·rcases j with ⟨z,_⟩|⟨_,rfl⟩;·cases z
   ·exact q
noncomputable def qz(rows:List Pv):Pv:=.tup [.tup [.tup [.str "x",.int 7]],.tup [.tup [.str "l",.tup [.int 1,.int 2]]],.tup [],.tup rows]
def JD:Str:=oH ["box","x","7"]
def LS:Str:=oH ["list","l","1","2"]
inductive CZ:Ct|nil{Q:Dv->Hs->Prop}{xc:XP}(q:Q (.p (.str (Bk [JD,LS]))) []):CZ [.p (qz [])] [] Q xc|one{ks:List Nat}{v:Pv}{Q:Dv->Hs->Prop}{xc:XP}(hk:ks.length<5)(hv:Up v)(q:Q (.p (.str (Bk (JD::LS::uD v ks "")))) []):CZ [.p (qz [f9 v ks])] [] Q xc
theorem UN{v:Pv}(b:Up v):∀{ks:List Nat}{a:Str},a.length+2*ks.length<=100->∀s∈uD v ks a,s.length<=2000
 |[],a,h,s,H=>by have:=(OJ b).2.2;rw[aQ.mp H,cX];lia|k::ks,a,h,s,H=>by
  have i:=UN b (ks:=ks) (CN h);have h:a.length+2*(ks.length+1)<=100:=h;have e:∀z:Str,z.length<=20->(a++z).length<=2000:=λz d=>by rw[cX];lia
  have c:wG.length<=20:=by ext
  match k with
  |0=>
   rcases aJ.mp H with rfl|H;·exact e _ (by ext)
   ·rcases bf.mp H with H|H;·exact i s H
    ·rw[aQ.mp H];exact e _ (by ext)|1=>
   rcases aJ.mp H with rfl|H;·exact e _ (by ext)
   ·rcases bf.mp H with H|H;·exact i s H
    ·rw[aQ.mp H];exact e _ (by ext)|2=>
   rcases aJ.mp H with rfl|H;·exact e _ (by ext)
   ·rcases bf.mp H with H|H;·exact i s H
    ·rcases aJ.mp H with rfl|H;·exact e _ c
     ·rw[aQ.mp H];exact e _ (by ext)|m+3=>
   rcases aJ.mp H with rfl|H;·exact e _ (by ext)
   ·rcases aJ.mp H with rfl|H;·exact e _ c
    ·rcases bf.mp H with H|H;·exact i s H
     ·rw[aQ.mp H];exact e _ (by ext)
def agM:Ea (.tup ([.str "box"]++[.str "x",.int 7]))=true:=by ext
def agf:oH (wo (.tup ([.str "box"]++[.str "x",.int 7])))=JD:=aT.mp (by ext)
def agN:Ea (.tup ([.str "list"]++[.str "l",.tup [.int 1,.int 2]]))=true:=by ext
def agg:oH (wo (.tup ([.str "list"]++[.str "l",.tup [.int 1,.int 2]])))=LS:=aT.mp (by ext)
def AH(B:LX ca W)(S:SX W)(b:DX ca W 27 4 p6):DX ca W 33 15 (lA 5):=by
 have D:DX ca W 33 5 (lA 0):=(Dt.Vi S.me).imp λds h Q x c=>by cases c<;>exact absurd ‹_› (Nat.not_lt_zero _)
 exact iS (k:=8) B S b (iS (k:=6) B S b (iS (k:=4) B S b (iS (k:=2) B S b (iS (k:=0) B S b D))))
seal Ea oH in
def HK(B:LX ca W)(S:SX W)(g:DX ca W 27 4 p6):DX ca W 28 16 CZ:=by
 refine B.e (k:=14) 7 J [(31,kt),(32,PU),(33,lA 5),(30,cLT)] [] (.seq (.unp [1,2,3,4] (.v 0)) (.seq (.setG 5 1 [] 0 (.p (.s (.v 1))) .no (.cl 31 [] (.u (.b2 cW (.tup (.u (.c (.str "box")))) (.v 0)))) a7) (.seq (.ex (.mt abk (.v 5) (.u (.comp 1 [] (.one 0) (.s (.v 2)) .no (.cl 31 [] (.u (.b2 cW (.tup (.u (.c (.str "list")))) (.v 0)))))))) (.seq (.foG 6 (.p (.s (.v 3))) (.one (.ex (.sf 32 (.u2 (.v 5) (.v 6)))))) (.seq (.ex (.sf 33 (.u3 (.v 5) (.v 4) (.c (.str ""))))) (.one (.ret (.sf 30 (.u (.v 5)))))))))) S.Nw rfl ⟨(lC B S).up rfl,Dt.no S.wV,AH B S g,(yF B S).up rfl,trivial⟩ trivial λds h Q i c=>?_;obtain⟨rows,l,rfl,rfl,m,F,o,q⟩:∃(rows:List Pv)(l:List Str),ds=[.p (qz rows)]/\h=[]/\(∀(b:Dv->Hs->Prop)(X:XP),b (.p .non) [.df (oX (JD::LS::l))]->lA 5 [.r 0,.p (.tup rows),.p (.str "")] [.df (oX [JD,LS])] b X)/\l.length<=900/\(∀s∈l,s.length<=2000)/\Q (.p (.str (Bk (JD::LS::l)))) []:=by cases c with|nil q=>exact⟨_,[],rfl,rfl,λb X q=>.nil (by ext) q,bG _,λs H=>(by cases H),q⟩|@one ks v Q i t f q=>have L:("":Str).length=0:=rfl;have:=jz (v:=v) (ks:=ks) (a:="");exact⟨_,uD v ks "",rfl,rfl,λb X q=>.one t f (by rw[L];lia) (by show 2+_<=_;lia) q,by lia,UN f (by rw[L];lia),q⟩
 refine⟨rfl,?_⟩;refine iK [.p (.tup [.str "x",.int 7])] (λpre A d=>d=[]/\(pre=[]/\A=[]\/pre ≠[]/\A=[.p (.str JD)])) rfl ⟨rfl,.inl ⟨rfl,rfl⟩⟩ (λpre A d j=>rfl) (λpre y post A d E j=>?_) λA d j=>?_;·cases pre with|cons _ T=>injection E with _ C;cases T<;>cases C|nil=>
   injection E with E _;subst E;obtain⟨rfl,j⟩:=j;rcases j with ⟨_,rfl⟩|⟨z,_⟩;·exact ay agM ⟨rfl,.inr ⟨by simp,bU (λz=>[Dv.p (Pv.str z)]) agf⟩⟩
   ·exact absurd rfl z
 ·obtain⟨rfl,j⟩:=j;rcases j with ⟨z,_⟩|⟨_,rfl⟩;·cases z
  ·refine gm (λ_=>.str LS) rfl (λy D=>?_) ?_;·rw[aQ.mp D];exact λR q=>ay agN (show R [.p (.str (oH (wo (.tup ([.str "list"]++[.str "l",.tup [.int 1,.int 2]])))))] [.df [.p (.str JD)]]by rw[agg];exact q)
   ·refine tQ [] (λpre post σ h=>∃v,σ=[O (.p (qz rows)),O (.p (.tup [.tup [.str "x",.int 7]])),O (.p (.tup [.tup [.str "l",.tup [.int 1,.int 2]]])),O (.p (.tup [])),O (.p (.tup rows)),O (.r 0),v]/\h=[.df (oX [JD,LS])]) ⟨_,rfl,rfl⟩ (λpre post σ h j=>rfl) (λpre x post σ h e j=>?_) λσ h j=>?_;·cases pre<;>cases e
    ·obtain⟨v,rfl,rfl⟩:=j;refine m _ _ (cLT.mk (by rw[ao,ao];lia) (λs H=>?_) q);rcases aJ.mp H with rfl|H;·decide+kernel
     ·rcases aJ.mp H with rfl|H;·decide+kernel
      ·exact o s H
end
end W2
namespace F
open L2
variable{X:Cx}{Y:T0}{y:Str}{e:Expr}{i:Int}
noncomputable def cY(z:Str):Nat->Str|0=>⟨#[]⟩|n+1=>z++cY z n
def fc(x y:Str):(x++y).cps.toList=x.cps.toList++y.cps.toList:=Jh
theorem Gw(z:Str):∀n,(cY z n).cps.toList=(aa4 n z.cps.toList).flatten|0=>rfl|n+1=>by show(z++cY z n).cps.toList=_;rw[fc,Gw z n,cH,dY]
theorem AZ:∀(l:List (Array Nat))(a:Array Nat),(l.foldl (λx y=>x++y) a).toList=a.toList++(l.map Array.toList).flatten|[],a=>by rw[List.foldl_nil,fj,G9,aM]|x::l,a=>by rw[List.foldl_cons,AZ l,Jh,aY,dY,aA]
def RK(z:Str)(n:Nat):Txt.mul z (n:Int)=cY z n:=by refine da ?_;rw[Gw];unfold Txt.mul;cases n with|zero=>rw[bx (by ext)];rfl|succ n=>
  rw[bE (by lia)];split
  ·rename_i h;rcases(gp ..).mp h with h|h
   ·have h:((n+1:Nat):Int)=1:=by simpa using h
    have h:n=0:=by lia
    subst h;simp
   ·have h:z.length=0:=by simpa using h
    have h:z.cps.toList=[]:=dm.mp (by rw[bJ];exact h);rw[h,List.flatten_replicate_nil]
  ·show(ah9 _ #[] _).toList=_;rw[AZ,List.map_replicate,dc];rfl
def Ny:R2:=λx y H Q=>∃(z:Str)(k:Int),x=.str z/\y=.int k/\0<=k/\k<=5000/\z.length<=100/\Q (.str (Txt.mul z k)) H
def MJ:jQ X (binaryOp .Mult) Ny:=by
 intro p s σ H x y v u Q I r R h;obtain⟨z,k,rfl,rfl,b,c,f,q⟩:=h;obtain⟨t,rfl⟩:=r;obtain⟨T,rfl⟩:=R;have a:(z.length:Int)*k<=100*5000:=Int.mul_le_mul (by lia) c b (by lia);refine SB.mul (n:=k) ⟨by rw[bN (by lia),bN (by lia)];rfl,λhn _=>?_,λhn _=>?_⟩ λT K=>⟨.str _,H,I.tok _,⟨_,rfl⟩,q⟩;·intro g;have:(z.length:Int)<=(2^63-1)/k:=(Int.le_ediv_iff_mul_le (by lia)).mpr (by lia);lia
 ·have l:(1000000:Nat)<sizeLine:=by rw[Jz];decide
  have d:(k.toNat:Int)=k:=x6 (by lia);have:((z.length*k.toNat:Nat):Int)<=500000:=by rw[Int.natCast_mul,d];exact a
  show decide _=a7;exact bN (by lia)
def Mz:O2:=λx y h Q=>match x,y with|.p (.str z),.p (.int k)=>gd (rN 0 k&&(rN k 5000&&aa5 z.length 100)) (Q (.p (.str (cY z k.toNat))) h)|_,_=>False
def Lr:jf Y Ny Mz:=λG M h H x y v u Q d r i j q out=>by
 unfold Mz at q;split at q;·rename_i z k;obtain⟨c,q⟩:=bB q;obtain⟨C,c⟩:=ag c;obtain⟨a,b⟩:=ag c;have h0:=el.mp C;refine⟨_,_,eV i,d9 j,h0,el.mp a,ap.mp b,out _ h M H _ Ext.refl r kf ?_⟩;obtain⟨n,rfl⟩:=Int.eq_ofNat_of_zero_le h0;rw[RK];exact q
 ·exact q.elim
def rY:Bo:=⟨Mz,.Mult,λ_ _=>⟨_,MJ,Lr⟩⟩
structure E1(Γ:Gm)(t:Tb)where
 m:Sm
 ck:Sx->Expr->Bool
 pe:∀{k S X E x},rk Γ t k S X E->ck S x->Px X x (cJ (yx t X) E m)
section
variable{Γ:Gm}{t:Tb}
def MA(y w:Str):O1:=λx h Q=>match x with|.p (.str z)=>gd (aa5 z.length 1000000) (Q (.p (.str (ad7 z y w))) h)|_=>False
def Ls{w:Str}:Pr Y (λx H Q=>∃z:Str,x=.str z/\z.length<=1000000/\Q (.str (ad7 z y w)) H) (MA y w):=λG M h H x v Q a r i q out=>by
 unfold MA at q;split at q;·obtain⟨c,q⟩:=bB q;exact⟨_,eV i,ap.mp c,out _ h M H _ Ext.refl r kf q⟩
 ·exact q.elim
def Ξ(h:yC (.str y) e):∃k p,e=.Constant (.str y) k p:=by
 unfold yC at h;refine lW (P:=λe=>∃k p,e=.Constant (.str y) k p) h λc k p h=>?_;unfold UH at h;dsimp only at h;split at h;·rw[aT.mp h];exact⟨k,p,rfl⟩
 ·cases h
def ae2(h:yC (.int i) e):∃k p,e=.Constant (.int i) k p:=by
 unfold yC at h;refine lW (P:=λe=>∃k p,e=.Constant (.int i) k p) h λc k p h=>?_;unfold UH at h;dsimp only at h;split at h;·rw[aX h];exact⟨k,p,rfl⟩
 ·cases h
def rpB(y w:Str)(f:Expr->Bool):Expr->Bool:=jP λg E k q=>FR k&&((lO (l2 E) λp=>yC (.str y) p.1&&yC (.str w) p.2)&&zX (λo m p=>bA m "replace"&&(p.endLine==q.line&&(Bt o&&f o))) g)
namespace E1
noncomputable def of(A:Em Γ t):E1 Γ t:=⟨A.m,A.ck,λo h=>(A.pe o h).one⟩
def rep(y w:Str)(A:E1 Γ t):E1 Γ t:=⟨s1 (MA y w) A.m,λS x=>!bA y w&&aa5 w.length 10&&rpB y w (A.ck S) x,λ{k S X E x}o h=>by
 obtain⟨g,h⟩:=ag h;obtain⟨G,j⟩:=ag g;have d:(y==w)=false:=by cases c:y==w with|false=>rfl|true=>
   have:y=w:=by simpa using c
   rw[aT.mpr this]at G;cases G
 refine eK h λf z K q h=>?_;obtain⟨l,h⟩:=ag h;obtain⟨H,h⟩:=ag h;rw[iE l];obtain⟨⟨a,b⟩,n,H⟩:=cw H;rw[xG n];obtain⟨B,P,rfl⟩:=Ξ (ag H).1;obtain⟨C,D,rfl⟩:=Ξ (ag H).2;refine lV h λF m p h=>?_;obtain⟨r,h⟩:=ag h;obtain⟨s,h⟩:=ag h;obtain⟨u,v⟩:=ag h;rw[aT.mp r];exact(Sb (A.pe o v) d (ap.mp j) (tN u) s).imp λ_ _ _=>V1 Ls⟩
def comp(n:Nat)(a:List Nat)(tg:Tg)(j:Jm Γ t)(F:Fm Γ t)(A:E1 Γ t):E1 Γ t:=⟨Gz n a tg (wM j.m) F.m A.m a7,λS x=>S.fr&&C0 S n a tg j.ck F A.ck x,λo h=>nJ o (ag h).2 λN T ix I e u p b c d g k l q r=>Px.imp (xN (nt:=1) (o.fx (ag h).1).1 (o.fx (ag h).1).2 b o.hc c (j.pi o d) (λf s H=>k (tw o _ _ f s H)) (λf s H=>F.pf (tw o _ _ f s H) l) (λf s H=>A.pe (tw o _ _ f s H) q) r) λ_ _ _=>yB (λ_ _ z=>by cases z) g⟩
end E1
def XR{E:XK}{T A B:Sm}{D:Ends}{τ:tSt}{H:Hp}(h:fQ (yx t X) E (ny T (Ji A) (Ji B)) D τ H):ZZ (jj (yx t X) E T) (Oh (cJ (yx t X) E A)) (Oh (cJ (yx t X) E B)) D τ H:=by
 obtain⟨G,M,σ,h,N,k,q⟩:=h;refine⟨G,M,σ,h,N.xc,_,⟨k.rel,k.env,λd a m c e R Q=>?_,k.exc⟩,q⟩;split at Q;·rename_i b f;injection f with f;refine⟨b,f,?_⟩;have k:=k.go e R (k.env.ext k.rel e);cases b with|true=>exact⟨G,m,σ,a,N.xc,_,⟨k.rel,k.env,λd a m c v e r i q=>k.rt d a m c v e r i q,k.exc⟩,Q⟩|false=>exact⟨G,m,σ,a,N.xc,_,⟨k.rel,k.env,λd a m c v e r i q=>k.rt d a m c v e r i q,k.exc⟩,Q⟩
 ·exact Q.elim
def SO{a:Expr}{T tb:TE}{j:Nat}{C pos:Pos}{r:R2}(o:jQ X (compareOp .Eq) r)(b:PE X a T)(d:∀σ H Q,tb σ H Q->Q (.int i) H):u_ X (.Compare a [.Eq] [.Constant (.int i) j C] pos) (V5 (Q_ r T tb)):=by intro p s σ H Q I h;refine ur (dh (b p s σ H _ I h) λv s1 ⟨x,f,g,R,q⟩=>wpAny_Constant_int ?_) (Mi _);refine wpAny_with_toks (n:=1) (Nat.le_add_left 1 s1.toks) (dB (o p _ σ f x (.int i) v _ _ (g.tok _) R ⟨_,rfl⟩ (d _ _ _ q)) (λc S l m=>?_) λ_ _ e _=>e);obtain⟨z,u,w,A,k,e,B⟩:=l;subst e;cases A;exact d8 ⟨m,u,w,B⟩
def Ms.if1(A:Em Γ t)(i:Int)(B:Em Γ t)(C:E1 Γ t):Ms Γ t:=⟨ny (s2 su A.m (sC (.int i))) (Ji B.m) (Ji C.m),λS l=>lO (l2 l) λp=>Um (λc a b _=>Θ S .Eq A (.c (.int i)) c&&(Bc b&&lO (l1 a) (OC λe _=>lO e (B.ck S)))) p.1&&OC (λe _=>lO e (C.ck S)) p.2,λ{k S X E st}o h=>by obtain⟨⟨a,b⟩,u,h⟩:=cw h;rw[xG u];obtain⟨g,f⟩:=ag h;clear h u;revert g;refine zZ (P:=λb=>_->kH X [a,b] _) f λe p f g=>?_;obtain⟨c,rfl,f⟩:=cw f;refine G0 (P:=λa=>kH X [a,_] _) g λn a b q h=>?_;obtain⟨v,h⟩:=ag h;obtain⟨w,h⟩:=ag h;rw[jL w];obtain⟨s,z,h⟩:=cw h;rw[fA z];refine zZ (P:=λs=>kH X [.If n [s] [] q,_] _) h λe L h=>?_;obtain⟨d,rfl,h⟩:=cw h;refine yA (P:=λn=>kH X [.If n _ [] q,_] _) v λx y r N D F=>?_;obtain⟨j,T,rfl⟩:=ae2 F;obtain⟨U,R,I⟩:=jZ.ok t X o.x.hu;refine(SN (u_.imp (SO R (A.pe o.x D) (tb:=cJ (yx t X) E (sC (.int i))) λτ H W ⟨G,M,σ,K,Z,Q,k,q⟩=>k.out (.p (.int i)) K M H (.int i) Ext.refl k.rel ef q) λ_ _ _ h=>sJ I (BZ h)) (B.pe o.x h) (C.pe o.x f)).imp λ_ _ _=>XR⟩
end
end F
namespace W2
open L2 F
variable{n m i j:Int}{a:Str}
def zM(n:Int):Bool:=rN 0 n&&lJ n 2147483629
def EG:zM n=J↔0<=n/\n<2147483629:=by unfold zM;rw[aI,el,eF]
def Lz:Pv->Bool|.scr x=>x.all isInt|_=>a7
noncomputable def aa2:Pv->Bool|.int (.ofNat _)=>J|_=>a7
abbrev E9:Ct:=cR2 (λs k=>Lz s&&aa2 k) λ_ _ K=>∀i:Int,K (.int i)
def ux:Ct:=λds h Q _=>iC ds λ_ r=>iC r λ_ r=>nC r (nC h (∀n:Int,zM n=J->Q (.r 0) [.lst [.int n]]))
def se:Ct:=λds h Q _=>rC ds λi r=>iC r λm r=>nC r (mC h λn g=>nC g (gd (aa3 i 0&&(zM n&&(rN 1 m&&rN m 1000000))) (∀(N:Int)(k:Nat),zM N=J->(k:Int)<m->Q (.p (.int (k:Nat))) [.lst [.int N]])))
def nxg(h:zM n)(H:1<=m)(b:m<=1000000):(J&&(zM n&&(rN 1 m&&rN m 1000000)))=true:=by rw[h,el.mpr H,el.mpr b];rfl
def Ml(h:zM n)(H:(rN 1 m&&rN m 1000000)):(J&&(zM n&&(rN 1 m&&rN m 1000000)))=true:=by rw[h,H];rfl
def UI{xs:List Pv}{k:Nat}(h:(k:Int)<(xs.length:Nat)):∃x,x∈xs/\wB xs (k:Nat)=O x:=by
 have h:k<xs.length:=by lia
 exact⟨xs[k],iB h,aE h⟩
def aan{n:Nat}{b:Ss}(H:∀(m v:Int)(Q:Dv->Hs->Prop)(x:XP),zM v=J->1<=m->m<=1000000->(∀(N:Int)(k:Nat),zM N=J->(k:Int)<m->Q (.p (.int (k:Nat))) [.lst [.int N]])->b (gR J 1 Q x) (oY n [.r 0,.p (.int m)]) [.lst [.int v]]):∀ds h Q x,se ds h Q x->ds.length=2/\b (gR J h.length Q x) (oY n ds) h:=by intro ds h Q x c;unfold se at c;refine Zy c λi _ c=>XQ c λm _ c=>kP c λc=>agq c λn _ c=>kP c λc=>?_;obtain⟨d,c⟩:=bB c;obtain⟨e,f,g,l⟩:=kI d;rw[ax e];exact⟨rfl,H _ _ Q x f (el.mp g) (el.mp l) c⟩
def J0(h:δ i):CV i j=true:=by unfold CV;rw[h,Bool.or_true]
def UF(h:0<=j)(H:j<2147483647):CV i j=true:=by unfold CV δ;rw[cq (by lia),cq (by lia)];rfl
section
variable{ca:Nat->Addr}{W:Wd}
def W0(B:LX ca W)(S:SX W):DX ca W 57 2 E9:=by
 refine B.e (k:=0) 2 J [] [] (.seq (.iff (.cmp rp (.v 1) (.bi fe (.u (.v 0)))) (.one (.ret (.ix (.v 0) (.v 1)))) .nil) (.one (.ret (.c (.int 0))))) S.wR rfl trivial trivial (wh λs k Q X p q=>?_);obtain⟨h,H⟩:=ag p;cases s<;>first|(cases h;done)|skip
 rename_i xs;cases k<;>first|(cases H;done)|skip
 rename_i k;cases k with|negSucc k=>cases H|ofNat k=>refine c6 (λc=>?_) λ_=>q 0;obtain⟨x,b,e⟩:=UI (xs:=xs) (k:=k) (eF.mp c);have hi:=aS.mp (show xs.all isInt=J from h) x b;revert e;exact Lf hi λi e=>cN e (q i)
def Qi(B:LX ca W)(S:SX W):DX ca W 58 2 ux:=by refine B.e (k:=0) 3 a7 [] [] (.seq (.set 2 (.b2 J9 (.b2 Ho (.b2 cW (.b2 cW (.v 0) (.b2 Ho (.c (.int 7919)) (.v 1))) (.c (.int 1))) (.c (.int 48271))) (.c (.int 2147483647)))) (.one (.ret (.FW (.u (.b2 J9 (.b2 cW (.b2 cW (.b2 Ho (.v 2) (.v 2)) (.b2 Ho (.c (.int 7)) (.v 2))) (.v 1)) (.c (.int 2147483629)))))))) S.BG rfl trivial trivial λds h Q X c=>?_;unfold ux at c;refine XQ c λx _ c=>XQ c λk _ c=>kP c λc=>kP c λc=>⟨rfl,?_⟩;have j':0<=(x+7919*k+1)*48271%2147483647:=tH _ (by ext);have Xu:(x+7919*k+1)*48271%2147483647<2147483647:=nY _ (by ext);exact ay (J0 rfl) (ay (UF j' Xu) (ay (J0 rfl) (c _ (EG.mpr ⟨tH _ (by ext),nY _ (by ext)⟩))))
def Dn(B:LX ca W)(S:SX W):DX ca W 59 2 se:=by refine B.e (k:=0) 3 J [] [] (.seq (.put (.b2 J9 (.b2 cW (.b2 Ho (.ix (.v 0) (.c (.int 0))) (.c (.int 69621))) (.c (.int 11))) (.c (.int 2147483629))) (.v 0) (.c (.int 0))) (.seq (.set 2 (.b2 J9 (.b2 Ho (.ix (.v 0) (.c (.int 0))) (.ix (.v 0) (.c (.int 0)))) (.c (.int 2147483587)))) (.one (.ret (.b2 J9 (.b2 aeP (.v 2) (.c (.int 7))) (.v 1)))))) S.El rfl trivial trivial (aan λm v Q x H d f q=>?_);have h:zM ((v*69621+11)%2147483629)=true:=EG.mpr ⟨tH _ (by ext),nY _ (by ext)⟩;obtain⟨g,G⟩:=EG.mp h;refine ay (UF (j:=(v*69621+11)%2147483629) g (by lia)) ?_;refine ay (cq (show(0:Int)<m by lia)) ?_;have K:0<=(v*69621+11)%2147483629*((v*69621+11)%2147483629)%2147483587/7%m:=tH _ (by lia);have b:(v*69621+11)%2147483629*((v*69621+11)%2147483629)%2147483587/7%m<m:=nY _ (by lia);have q:=q _ ((v*69621+11)%2147483629*((v*69621+11)%2147483629)%2147483587/7%m).toNat h (by rw[x6 K];exact b);rw[x6 K]at q;exact q
def gj(m:Nat):Nat->Str|0=>cY "not " m++"number 1"|1=>cY "plus " m++"number 1"++cY " box x" m|_=>cY "item l " m++"size l"
theorem ue{z:Str}:∀{n:Nat},(cY z n).length=n*z.length|0=>by rw[Nat.zero_mul];rfl|n+1=>by show(z++cY z n).length=_;rw[cX,ue,Z_,Nat.add_comm]
inductive Hw:Ct|mk{m k:Nat}{Q:Dv->Hs->Prop}{xc:XP}(hm:m<=5000)(q:Q (.p (.str (gj m k))) []):Hw [.p (.int ((m+1:Nat):Int)),.p (.int (k:Nat))] [] Q xc
def Qj(B:LX ca W)(S:SX W):DX ca W 61 2 Hw:=by refine B.e (k:=0) 2 J [] [] (.seq (.iff (.cmp jZ (.v 1) (.c (.int 0))) (.one (.ret (.b2 cW (.b2 rY (.c (.str "not ")) (.b2 yi (.v 0) (.c (.int 1)))) (.c (.str "number 1"))))) .nil) (.seq (.iff (.cmp jZ (.v 1) (.c (.int 1))) (.one (.ret (.b2 cW (.b2 cW (.b2 rY (.c (.str "plus ")) (.b2 yi (.v 0) (.c (.int 1)))) (.c (.str "number 1"))) (.b2 rY (.c (.str " box x")) (.b2 yi (.v 0) (.c (.int 1))))))) .nil) (.one (.ret (.b2 cW (.b2 rY (.c (.str "item l ")) (.b2 yi (.v 0) (.c (.int 1)))) (.c (.str "size l"))))))) S.BH rfl trivial trivial λds h Q X c=>?_;cases c with|@mk m k Q X b q=>
 have e:(((m+1:Nat):Int)-1).toNat=m:=by lia
 have r:∀z:Str,z.length<=100->(rN 0 (((m+1:Nat):Int)-1)&&(rN (((m+1:Nat):Int)-1) 5000&&aa5 z.length 100))=true:=λz H=>by rw[el.mpr (by lia),el.mpr (by lia),ap.mpr H];rfl
 have l:∀z:Str,z.length<=10->(cY z m).length<=50000:=λz H=>by rw[ue];exact aH (Nat.mul_le_mul b H) (by ext)
 have s:∀x y:Str,x.length<=100000->y.length<=100000->iz (x.length+y.length)=true:=λx y d f=>ui (by show _<=1000000;lia);refine⟨rfl,?_⟩;match k with|0=>refine ay (r _ (by ext)) ?_;rw[e];exact ay (s _ _ (aH (l _ (by ext)) (by ext)) (by ext)) q|1=>refine ay (r _ (by ext)) ?_;rw[e];refine ay (s _ _ (aH (l _ (by ext)) (by ext)) (by ext)) (ay (r _ (by ext)) ?_);rw[e];refine ay (s _ _ ?_ (aH (l _ (by ext)) (by ext))) q;rw[cX];have:=l "plus " (by ext);have:("number 1":Str).length=8:=rfl;lia|k+2=>refine ay (r _ (by ext)) ?_;rw[e];exact ay (s _ _ (aH (l _ (by ext)) (by ext)) (by ext)) q
def ind(d:Nat):Str:=cY "  " (min d 6)
noncomputable def rJ(a:Str):Nat->List Str|0=>[a++"if box x"]|1=>[a++"while box x"]|2=>[a++"try"]|_=>[a++"try",a++"catch x"]
noncomputable def pQ(a:Str):Nat->List Str|2=>[a++"catch x",a++"end"]|_=>[a++"end"]
noncomputable def oJ:List Nat->Nat->List Str->List Str|[],_,mid=>mid|k::K,d,mid=>rJ (ind d) k++(oJ K (d+1) mid++pQ (ind d) k)
def hU(d:Nat)(v:Str):Str:=ind d++"tell "++v
theorem Bn{k:Nat}{mid:List Str}:∀{ks:List Nat}{d:Nat},oJ (ks++[k]) d mid=oJ ks d (rJ (ind (d+ks.length)) k++(mid++pQ (ind (d+ks.length)) k))|[],d=>rfl|j::ks,d=>by show rJ (ind d) j++(oJ (ks++[k]) (d+1) mid++_)=rJ (ind d) j++(oJ ks (d+1) _++_);rw[Bn,ao,show d+1+ks.length=d+(ks.length+1)by lia]
def FF:∀{k:Nat},(rJ a k).length<=2|0=>by show 1<=2;decide|1=>by show 1<=2;decide|2=>by show 1<=2;decide|_+3=>aB _
def GV:∀{k:Nat},(pQ a k).length<=2|0=>by show 1<=2;decide|1=>by show 1<=2;decide|2=>aB _|_+3=>by show 1<=2;decide
def ZH{n:Nat}{pre post:List Pv}{x:Pv}(e:mw 0 n=pre++x::post):x=.int (0+(pre.length:Nat))/\pre.length<n:=by
 have h:(mw 0 n)[pre.length]?=O x:=by rw[e];simp
 unfold mw at h;rw[bM]at h;have H:pre.length<n:=by
  have:(mw 0 n).length=(pre++x::post).length:=by rw[e]
  unfold mw at this;rw[ak,d7,ae,ao]at this;lia
 rw[x8 H]at h;cases h;exact⟨rfl,H⟩
inductive Ht:Ct|mk{n:Nat}{v:Str}{i:Int}{Q:Dv->Hs->Prop}{xc:XP}(hn:n<=5000)(hv:v.length<=200000)(hi:zM i)(q:∀(i':Int)(ks:List Nat),zM i'=J->ks.length=n->(∀k∈ks,k<4)->Q (.p (.lst ((oJ ks 0 [hU n v]).map .str))) [.lst [.int i']]):Ht [.r 0,.p (.int ((n+1:Nat):Int)),.p (.str v)] [.lst [.int i]] Q xc
inductive LnJ(n:Nat)(v:Str):List Pv->List Pv->Es->Hs->Prop|mk(pre post:List Pv)(i:Int)(ks:List Nat)(hs ts:List Str)(v5 v6 v7 v8 v9:Option Dv)(hi:zM i)(hk:ks.length=pre.length)(h4:∀k∈ks,k<4)(e:∀mid,oJ ks 0 mid=hs++(mid++ts))(l1:hs.length<=2*ks.length)(l2:ts.length<=2*ks.length):LnJ n v pre post [O (.r 0),O (.p (.int ((n+1:Nat):Int))),O (.p (.str v)),O (.r 1),O (.p (.lst (ts.map .str))),v5,v6,v7,v8,v9] [.lst [.int i],.lst (hs.map .str)]
def tT{d:Nat}:(ind d).length<=12:=by unfold ind;rw[ue];show min d 6*2<=12;lia
def Qe(B:LX ca W)(S:SX W):DX ca W 62 3 Ht:=by refine B.e (k:=1) 10 J [(59,se)] [] (.seq (.set 3 (.FW .nil)) (.seq (.set 4 (.lst .nil)) (.seq (.fo (.one 5) (.r (.u (.b2 yi (.v 1) (.c (.int 1))))) (.seq (.set 6 (.cl 59 [0] (.u2 (.v 0) (.c (.int 4))))) (.seq (.set 7 (.b2 rY (.c (.str "  ")) (.bi Lc (.u2 (.v 5) (.c (.int 6)))))) (.seq (.set 8 (.lst (.u3 (.lst (.u (.b2 cW (.v 7) (.c (.str "if box x"))))) (.lst (.u (.b2 cW (.v 7) (.c (.str "while box x"))))) (.lst (.u (.b2 cW (.v 7) (.c (.str "try")))))))) (.seq (.ex (.mt XJ (.v 3) (.u (.ix (.b2 cW (.v 8) (.lst (.u (.lst (.u2 (.b2 cW (.v 7) (.c (.str "try"))) (.b2 cW (.v 7) (.c (.str "catch x")))))))) (.v 6))))) (.seq (.set 9 (.ix (.lst (.cons (.lst (.u (.b2 cW (.v 7) (.c (.str "end"))))) (.cons (.lst (.u (.b2 cW (.v 7) (.c (.str "end"))))) (.cons (.lst (.u2 (.b2 cW (.v 7) (.c (.str "catch x"))) (.b2 cW (.v 7) (.c (.str "end"))))) (.cons (.lst (.u (.b2 cW (.v 7) (.c (.str "end"))))) .nil))))) (.v 6))) (.one (.set 4 (.b2 cW (.v 9) (.v 4)))))))))) (.one (.ret (.b2 cW (.b2 cW (.v 3) (.lst (.u (.b2 cW (.b2 cW (.b2 rY (.c (.str "  ")) (.bi Lc (.u2 (.b2 yi (.v 1) (.c (.int 1))) (.c (.int 6))))) (.c (.str "tell "))) (.v 2))))) (.v 4))))))) S.BF rfl ⟨(Dn B S).up rfl,trivial⟩ trivial λds h Q X c=>?_;cases c with|@mk n v i Q X hn hv f q=>
 refine⟨rfl,?_⟩;have s:(((n+1:Nat):Int)-1).toNat=n:=by lia
 refine ay (show(iz (((n+1:Nat):Int)-1).toNat&&decide (-4611686018427387904<=((n+1:Nat):Int)-1))=J by rw[s,ui (show n<=oz from aH hn (by ext)),cq (by lia)];rfl) ?_;refine mU (LnJ n v) (.mk [] _ i [] [] [] _ _ _ _ _ f rfl (λk b=>by cases b) (λmid=>(aM mid).symm) (bG _) (bG _)) (λpre x post σ h e j=>?_) λσ h j=>?_;·have e:mw 0 (((n+1:Nat):Int)-1).toNat=pre++x::post:=e;rw[s]at e;obtain⟨rfl,hp⟩:=ZH e;clear e;cases j with|mk i K t T N P R l o f b w e l1 l2=>
  refine ay (Ml f rfl) λI k y H=>?_;have H:k<4:=by have:(k:Int)<4:=H;lia
  have E:(if(6:Int)<0+(pre.length:Nat)then(6:Int)else 0+(pre.length:Nat))=((min pre.length 6:Nat):Int):=by split<;>lia
  have G:(rN 0 (if(6:Int)<0+(pre.length:Nat)then(6:Int)else 0+(pre.length:Nat))&&(rN (if(6:Int)<0+(pre.length:Nat)then(6:Int)else 0+(pre.length:Nat)) 5000&&aa5 ("  ":Str).length 100))=true:=by rw[E,el.mpr (by lia),el.mpr (by lia)];rfl
  refine ay G ?_;have A:cY "  " (if(6:Int)<0+(pre.length:Nat)then(6:Int)else 0+(pre.length:Nat)).toNat=ind pre.length:=by rw[E];rfl
  rw[A];have U:=tT (d:=pre.length);generalize Y:ind pre.length=a at*;have g:∀z:Str,aa5 z.length 50=J->iz (a.length+z.length)=true:=λz Z=>mi (by have:=ap.mp Z;lia);refine ay (g _ rfl) (ay (g _ rfl) (ay (g _ rfl) (ay (g _ rfl) (ay (g _ rfl) ?_))));have fin:∀C D:List Str,C=rJ a k->D=pQ a k->∀l o,LnJ n v (pre++[.int (0+(pre.length:Nat))]) post [O (.r 0),O (.p (.int ((n+1:Nat):Int))),O (.p (.str v)),O (.r 1),O (.p (.lst (D.map .str++T.map .str))),O (.p (.int (0+(pre.length:Nat)))),O (.p (.int (k:Nat))),O (.p (.str a)),l,o] [.lst [.int I],.lst (t.map .str++C.map .str)]:=λC D F L l o=>by rw[<-aV,<-aV];have h1:=FF (a:=a) (k:=k);have h2:=GV (a:=a) (k:=k);rw[<-F]at h1;rw[<-L]at h2;refine .mk _ _ I (K++[k]) _ _ _ _ _ _ _ y (by rw[ae,ae,b];rfl) (λj hj=>(bf.mp hj).elim (w j) λz=>by rw[aQ.mp z];exact H) (λmid=>?_) (by rw[ae,ae];show _<=2*(_+1);lia) (by rw[ae,ae];show _<=2*(_+1);lia);rw[Bn,e,sM,b,Y,<-F,<-L,aA,aA,aA]
  have s1:∀m:Nat,m<=2->iz ((t.map Pv.str).length+m)=true:=λm hm=>mi (by rw[ak];lia);have s2:∀m:Nat,m<=2->iz (m+(T.map Pv.str).length)=true:=λm hm=>mi (by rw[ak];lia);match k,H,fin with|0,_,fin=>refine ay (s1 1 (by ext)) (ay (g _ rfl) (ay (g _ rfl) (ay (g _ rfl) (ay (g _ rfl) (ay (g _ rfl) (ay (s2 1 (by ext)) ?_))))));exact fin [a++"if box x"] [a++"end"] rfl rfl _ _|1,_,fin=>refine ay (s1 1 (by ext)) (ay (g _ rfl) (ay (g _ rfl) (ay (g _ rfl) (ay (g _ rfl) (ay (g _ rfl) (ay (s2 1 (by ext)) ?_))))));exact fin [a++"while box x"] [a++"end"] rfl rfl _ _|2,_,fin=>refine ay (s1 1 (by ext)) (ay (g _ rfl) (ay (g _ rfl) (ay (g _ rfl) (ay (g _ rfl) (ay (g _ rfl) (ay (s2 2 (by ext)) ?_))))));exact fin [a++"try"] [a++"catch x",a++"end"] rfl rfl _ _|3,_,fin=>refine ay (s1 2 (by ext)) (ay (g _ rfl) (ay (g _ rfl) (ay (g _ rfl) (ay (g _ rfl) (ay (g _ rfl) (ay (s2 1 (by ext)) ?_))))));exact fin [a++"try",a++"catch x"] [a++"end"] rfl rfl _ _
 ·have j:LnJ n v (mw 0 (((n+1:Nat):Int)-1).toNat) [] σ h:=j;rw[s]at j;cases j with|mk i K t T N P R l o f b w e l1 l2=>
  have b:K.length=n:=by rw[b];unfold mw;rw[ak,d7]
  have E:(if(6:Int)<((n+1:Nat):Int)-1 then(6:Int)else((n+1:Nat):Int)-1)=((min n 6:Nat):Int):=by split<;>lia
  have G:(rN 0 (if(6:Int)<((n+1:Nat):Int)-1 then(6:Int)else((n+1:Nat):Int)-1)&&(rN (if(6:Int)<((n+1:Nat):Int)-1 then(6:Int)else((n+1:Nat):Int)-1) 5000&&aa5 ("  ":Str).length 100))=true:=by rw[E,el.mpr (by lia),el.mpr (by lia)];rfl
  have A:cY "  " (if(6:Int)<((n+1:Nat):Int)-1 then(6:Int)else((n+1:Nat):Int)-1).toNat=ind n:=by rw[E];rfl
  refine ay G ?_;rw[A];have U:=tT (d:=n);have q:=q i K f b w;rw[e,aV,aV]at q;have M:("tell ":Str).length=5:=rfl;refine ay (mi (by rw[M];lia)) (ay (ui (by rw[cX,M];show _<=1000000;lia)) (ay (mi (by rw[ak];show _+1<=_;lia)) (ay (mi (by rw[ae,ak,ak];show _+1+_<=_;lia)) ?_)));rw[aA];exact q
noncomputable def dH(y l:Str):Bool:=!(ab3 l y 0 l.length 1).isEmpty
def w8(l:Str):Nat:=cond (dH "tell" l) 1 0
def my(l:Str):Str:=l++cY " " (w8 l)++cY "box" (w8 l)
noncomputable def nu(l:Str):Str:=ad7 (ad7 l "number 1" "number") "size l" "size"
inductive O0:List Str->List Str->Prop|more{ls:List Str}:O0 ls (ls++[("end":Str)])|cut{a b:List Str}{l:Str}(h:dH "catch" l=J):O0 (a++l::b) (a++b)|last{ls:List Str}:O0 ls ls.dropLast|cat{ls:List Str}:O0 ls (ls++[("catch x":Str)])|tel{ls:List Str}:O0 ls (ls.map my)|rep{ls:List Str}:O0 ls (ls.map nu)
inductive Hx:Ct|mk{ls:List Str}{i:Int}{Q:Dv->Hs->Prop}{xc:XP}(hl:ls.length<=50000)(hs:∀l∈ls,l.length<=100000)(hi:zM i)(q:∀(i':Int)(ls':List Str),zM i'=J->O0 ls ls'->Q (.p (.lst (ls'.map .str))) [.lst [.int i']]):Hx [.p (.lst (ls.map .str)),.r 0] [.lst [.int i]] Q xc
def Ks(ls:List Str):Pv->Bool
 |.int k=>match ls[k.toNat]? with|some l=>dH "catch" l|none=>a7
 |_=>a7
def NG{z y w:Str}(h:w.length<=6)(hz:z.length<=100000):(ad7 z y w).length<=1000000:=by
 have hg:=HX z y w (z.length+1) (aB _);have H:(z.length+1)*w.length<=(z.length+1)*6:=Db _ h;unfold ad7;split;·lia
 ·exact aH hg (by lia)
def Qk(B:LX ca W)(S:SX W):DX ca W 63 3 Hx:=by refine B.e (k:=1) 5 J [(59,se)] [] (.seq (.set 2 (.cl 59 [0] (.u2 (.v 1) (.c (.int 7))))) (.seq (.setC 4 1 [0] (.one 0) (.r (.u (.bi fe (.u (.v 0))))) (.one (.cmp WO (.c (.str "catch")) (.ix (.v 1) (.v 0)))) (.v 0)) (.seq (.iff (.bo (Wm.oc (.cmp jZ (.v 2) (.c (.int 0))) (Wm.o1 (.bo (Wm.ac (.cmp Fc (.v 2) (.c (.int 4))) (Wm.a1 (.cmp jZ (.v 4) (.lst .nil)))))))) (.one (.ret (.b2 cW (.v 0) (.lst (.u (.c (.str "end"))))))) .nil) (.seq (.iff (.cmp Fc (.v 2) (.c (.int 4))) (.seq (.set 3 (.ix (.v 4) (.cl 59 [0] (.u2 (.v 1) (.bi fe (.u (.v 4))))))) (.one (.ret (.b2 cW (.sl (.v 0) .no (.of (.v 3))) (.sl (.v 0) (.of (.b2 cW (.v 3) (.c (.int 1)))) .no))))) .nil) (.seq (.iff (.cmp jZ (.v 2) (.c (.int 1))) (.one (.ret (.sl (.v 0) .no (.of (.neg (.c (.int 1))))))) .nil) (.seq (.iff (.cmp jZ (.v 2) (.c (.int 2))) (.one (.ret (.b2 cW (.v 0) (.lst (.u (.c (.str "catch x"))))))) .nil) (.if1 (.v 2) 3 (.comp 1 [] (.one 0) (.s (.v 0)) .no (.b2 cW (.b2 cW (.v 0) (.b2 rY (.c (.str " ")) (.bi Xg (.u (.cmp WO (.c (.str "tell")) (.v 0)))))) (.b2 rY (.c (.str "box")) (.bi Xg (.u (.cmp WO (.c (.str "tell")) (.v 0))))))) (.comp 1 [] (.one 0) (.s (.v 0)) .no (.rep "size l" "size" (.rep "number 1" "number" (.of (.v 0)))))))))))) S.BI rfl ⟨(Dn B S).up rfl,trivial⟩ trivial λds h Q P c=>?_;cases c with|@mk ls i Q P t C T q=>
 refine⟨rfl,ay (Ml T rfl) λI k X w=>?_⟩;have w:k<7:=by have:(k:Int)<7:=w;lia
 have g:(ls.map Pv.str).length=ls.length:=ak ..;refine ay (by show(iz (((ls.map Pv.str).length:Nat):Int).toNat&&_)=J;rw[dc,g,mi (by lia),cq (by lia)];rfl) ?_;refine tP (Ks ls) id ?_ (λy d=>?_) ?_;·rfl
 ·obtain⟨j,f,rfl⟩:=bL.mp d;have f:j<ls.length:=by have:=jU.mp f;rw[dc,g]at this;exact this
  obtain⟨l,L⟩:∃l,ls[j]?=O l:=⟨ls[j],aE f⟩;have E:wB (ls.map Pv.str) (0+(j:Nat))=O (.str l):=by rw[T_];show(ls.map Pv.str)[j]?=_;rw[bM,L];rfl
  have o:Ks ls (.int (0+(j:Nat)))=dH "catch" l:=by rw[T_];show(match ls[((j:Nat):Int).toNat]? with|some l=>dH "catch" l|none=>a7)=_;rw[dc,L]
  exact⟨λR q=>cN E (by rw[o]at q;exact q),λ_ R q=>q⟩
 ·have D:∀x∈((mw 0 (((ls.map Pv.str).length:Nat):Int).toNat).filter (Ks ls)).map id,∃a l b,ls=a++l::b/\dH "catch" l=J/\x=.int (a.length:Nat):=λx F=>by rw[sw]at F;obtain⟨U,H⟩:=gq.mp F;obtain⟨j,f,rfl⟩:=bL.mp U;rw[T_]at H⊢;have H:(match ls[((j:Nat):Int).toNat]? with|some l=>dH "catch" l|none=>a7)=true:=H;rw[dc]at H;cases e:ls[j]? with|none=>rw[e]at H;cases H|some l=>rw[e]at H;obtain⟨t,e⟩:=ai.mp e;refine⟨ls.take j,l,ls.drop (j+1),?_,H,by rw[c0,jn (Cv t)]⟩;rw[<-e,fV,uq]
  have sl:(((mw 0 (((ls.map Pv.str).length:Nat):Int).toNat).filter (Ks ls)).map id).length<=ls.length:=by rw[ak];refine aH (List.length_filter_le ..) ?_;unfold mw;rw[ak,d7,dc,g];exact aB _
  generalize((mw 0 (((ls.map Pv.str).length:Nat):Int).toNat).filter (Ks ls)).map id=G at D sl;have s1:iz ((ls.map Pv.str).length+1)=true:=mi (by rw[g];lia);have add:∀z:Str,ls.map Pv.str++[.str z]=(ls++[z]).map .str:=λz=>by rw[aV];rfl
  have q5:∀{R:Prop},R->R:=λh=>h;match k,w with
  |0,_=>refine ay s1 ?_;rw[add];exact q I _ X .more|1,_=>
   have e:mQ (ls.map Pv.str) af (O (-1))=ls.dropLast.map .str:=by show((ls.map Pv.str).take ((ls.map Pv.str).length-1)).drop 0=_;rw[ic,<-List.dropLast_eq_take,List.map_dropLast]
   show P_ J 1 Q (.p (.lst (mQ (ls.map Pv.str) af (O (-1))))) [.lst [.int I]];rw[e];exact q I _ X .last|2,_=>refine ay s1 ?_;rw[add];exact q I _ X .cat|3,_=>
   refine gm (λy=>.str (my (gD y))) rfl (λy d=>?_) ?_
   ·obtain⟨l,L,rfl⟩:=bL.mp d;have l1:=C l L;intro R q;have q:R [.p (.str (l++cY " " (w8 l)++cY "box" (w8 l)))] [.lst [.int I]]:=q;have Y:(b2 (dH "tell" l)).toNat=w8 l:=by unfold w8;cases dH "tell" l<;>rfl
    have l2:∀z:Str,z.length<=10->(cY z (w8 l)).length<=10:=λz K=>by
     rw[ue];unfold w8;cases dH "tell" l;·exact aH (mG (Nat.zero_mul _)) (bG _)
     ·rw[show cond J 1 0=1 from rfl,Nat.one_mul];exact K
    have M:∀z:Str,z.length<=10->(rN 0 (b2 (dH "tell" l))&&(rN (b2 (dH "tell" l)) 5000&&aa5 z.length 100))=true:=λz K=>by rw[ap.mpr (show z.length<=100 by lia)];cases dH "tell" l<;>rfl
    rw[<-Y]at q l2;refine ay (M _ (by ext)) (ay (ui (aH (oi l1 (l2 _ (by ext))) (by ext))) (ay (M _ (by ext)) (ay (ui ?_) q)));rw[cX];exact aH (oi (oi l1 (l2 _ (by ext))) (l2 _ (by ext))) (by ext)
   ·rw[fi];have q:=q I _ X (.tel (ls:=ls));rw[fi]at q;exact q|4,_=>
   refine gm (λy=>.str (nu (gD y))) rfl (λy d=>?_) ?_;·obtain⟨l,L,rfl⟩:=bL.mp d;have l1:=C l L;exact λR q=>ay (ap.mpr (show l.length<=1000000 by lia)) (ay (ap.mpr (NG (by ext) l1)) q)
   ·rw[fi];have q:=q I _ X (.rep (ls:=ls));rw[fi]at q;exact q|k+5,_=>cases G with|nil=>refine ay s1 ?_;rw[add];exact q I _ X .more|cons x G=>
    refine ay (nxg X (by rw[ao];lia) (by lia)) λN j A f=>?_;obtain⟨y,d,Z⟩:=UI f;obtain⟨a,l,b,rfl,hc,rfl⟩:=D y d;refine cN Z ?_;have E:mQ ((a++l::b).map Pv.str) af (O ((a.length:Nat):Int))=a.map .str:=by show(((a++l::b).map Pv.str).take a.length).drop 0=_;rw[ic,<-List.map_take,oh]
    have o:mQ ((a++l::b).map Pv.str) (O (((a.length:Nat):Int)+1)) af=b.map .str:=by rw[show((a.length:Nat):Int)+1=((a.length+1:Nat):Int)from rfl];show((a++l::b).map Pv.str).drop (a.length+1)=_;rw[<-List.map_drop,show(a++l::b).drop (a.length+1)=b by simp]
    refine ay (c:=iz ((mQ ((a++l::b).map Pv.str) af (O ((a.length:Nat):Int))).length+(mQ ((a++l::b).map Pv.str) (O (((a.length:Nat):Int)+1)) af).length)) ?_ ?_;·rw[E,o];rw[ae,ao]at t;exact mi (by rw[ak,ak];lia)
    ·show P_ J 1 Q (.p (.lst (mQ ((a++l::b).map Pv.str) af (O ((a.length:Nat):Int))++mQ ((a++l::b).map Pv.str) (O (((a.length:Nat):Int)+1)) af))) [.lst [.int N]];rw[E,o,<-aV];exact q N _ A (.cut hc)
end
end W2
namespace OZ
open L2
seal L2.PE L2.PS L2.kH L2.PT L2.PW L2.PA L2.PG L2.UD L2.PI L2.PO L2.pY L2.PC L2.jQ L2.dJ L2.CF L2.Hj L2.J1 L2.Wx
def top(i:Nat):Stmt:=PySem.Challenge.pw_retrace_k14_whole_however_deep.main.body.getD i (.Pass ⟨0,0,0,0⟩)
def sz0:0<=sizeLine:=by ext
def YI:4<=sizeLine:=by ext
def sz9:9<=sizeLine:=by ext
def Ta{c:Bool}{A B:Prop}(h:c=a7)(x:B):if c=J then A else B:=by rw[bE (by rw[h];exact aK)];exact x
structure Tc(mg:b'):Prop where
 dy:mg "isinstance"=af
 lY:mg "ValueError"=af
structure One(K:Frag)(R C:Addr)(Cs:List Addr)(bs:List Bool):Prop where
 exc:sU K C
 at_:EU K C
 cl:(clsIn K C).isSome=J
 sub:subIn K (.ref C) (.ref R)=O J
 kv:kitOne K (.ref C) (.type "ValueError")=O J
 is:Paired (λD b=>kitOne K (.ref C) (.ref D)=O b) Cs bs
structure V'(K:Frag)(mg:b')(R C1 C2 C3 C4 C5 C6 C7 C8 C9:Addr):Prop where
 m0:mg "RunError"=O (.ref R)m1:mg "NoProgram"=O (.ref C1)m2:mg "NoRow"=O (.ref C2)m3:mg "TooLong"=O (.ref C3)m4:mg "NoWorld"=O (.ref C4)m5:mg "NoText"=O (.ref C5)m6:mg "NoStep"=O (.ref C6)m7:mg "NoCell"=O (.ref C7)m8:mg "NoDoor"=O (.ref C8)m9:mg "NoWord"=O (.ref C9)hit:Ws K R
 o2:One K R C2 [C1,C2,C3,C4,C5,C6,C7,C8,C9] [a7,J,a7,a7,a7,a7,a7,a7,a7]o5:One K R C5 [C1,C2,C3,C4,C5,C6,C7,C8,C9] [a7,a7,a7,a7,J,a7,a7,a7,a7]
def wC:c7 "ValueError"=O (.type "ValueError"):=by ext
section
variable{P:cf}{w:b7}{K:Frag}{mg:b'}{base:Heap}{R mO tO rB rA p8 uA uy uz uB:Addr}
def qC:dD ["_law_e","_law_found","_law_kind"] ["_law_e"] (aL (top 103)):=⟨rfl,rfl,rfl,by ext,rfl,by ext,by ext⟩
def GK(c b:Addr):Addr->Addr->Sp:=λa C v H Q _=>v=[.ref a]/\((C=c/\∀h,jh H h->Q (.str "row") h)\/C=b/\∀h,jh H h->Q (.str "text") h)
def FV{a f t:Addr}{H g:Hp}{bs cs:List Bool}(E:H f=af)(s0:jh H g)(p:g f=O (.lst (cs.map V.bl)))(r:g t=O (.tup (bs.map V.bl)))(n:t≠f)(v:bs.length+cs.length<=100){D:Ends}{l:Option V}(h:∀(X:Option V)(H':Hp),jh H H'->H' f=O (.lst ((cs++bs).map V.bl))->D.nx [O (.ref a),O (.ref f),X] H'):∃W:Nat->Nat->tSt->Hp->Prop,(∃m,W 0 m [O (.ref a),O (.ref f),l] g)/\∀i m σ H,W i m σ H->(OY K t).stop i H/\D.nx σ H\/(OY K t).go i H/\∃N:tSt->Hp->Prop,(∀c H',N c H'->∃M,M<m/\W (i+1) M c H')/\∀x H',(OY K t).k_ i H x H'->kM 2 x σ H' λk s=>V3 (vx K "list" zy (Jr 1) (GS (Jr 2) BX)) {D with nx:=N,ct:=N,bk:=D.nx} k s:=by
 refine QK (xs:=bs.map V.bl) (λi σ H'=>∃X,σ=[O (.ref a),O (.ref f),X]/\jh H H'/\H' f=O (.lst ((cs++bs.take i).map V.bl))/\H' t=O (.tup (bs.map V.bl))) ⟨l,rfl,s0,by rw[ik,aM];exact p,r⟩ (λi σ H' _ q=>by obtain⟨_,_,_,_,q⟩:=q;exact eL.of q) ?_ ?_;·rintro i x σ H' d ⟨X,rfl,s1,I,u⟩;rw[bM]at d;cases j:bs[i]? with|none=>rw[j]at d;cases d|some b=>
   rw[j]at d;cases d;have hi:=(ai.mp j).1;refine⟨_,rfl,.inl ⟨rfl,_,gN.of I⟩,_,rfl,f,_,_,rfl,rfl,I,?_,?_⟩;·rw[ak,ae,c0];exact jv (show _<=100 by omega) (by ext)
   ·refine⟨_,rfl,λB o e=>?_,?_,?_⟩;·rw[bC (bS e E)];exact s1 _ _ e
    ·rw[bF,List.take_add_one,j,<-aA];show O (HO.lst ((cs++bs.take i).map V.bl++[V.bl b]))=O (HO.lst ((cs++bs.take i++[b]).map V.bl));rw[aV (l₁:=cs++bs.take i)];rfl
    ·rw[bC n];exact u
 ·rintro σ H' ⟨X,rfl,s1,I,_⟩;rw[ak,dN]at I;exact h X H' s1 I
def agy{R:Addr->Bool->Prop}{a1 a A b c d e f g:Addr}{B b2 i j k l m n b9:Bool}(h:Paired R [a1,a,A,b,c,d,e,f,g] [B,b2,i,j,k,l,m,n,b9]):R a1 B/\R a b2/\R A i/\R b j/\R c k/\R d l/\R e m/\R f n/\R g b9:=by cases h with|cons r h=>cases h with|cons o h=>cases h with|cons p h=>cases h with|cons q h=>cases h with|cons s h=>cases h with|cons t h=>cases h with|cons u h=>cases h with|cons v h=>cases h with|cons x h=>exact⟨r,o,p,q,s,t,u,v,x⟩
def Qd(T:Tc mg)(Z:V' K mg R mO tO rB rA p8 uA uy uz uB)(S:Src K mg "_law_class" (top 103) ["_law_e"]):CC P w K mg base 1 "_law_class" ["_law_e"] (GK tO p8):=by
 have Bq:=Z.m1;have RE:=Z.m2;have Iw:=Z.m3;have Iv:=Z.m4;have LZ:=Z.m5;have LY:=Z.m6;have LV:=Z.m7;have LW:=Z.m8;have L8:=Z.m9;refine S.okH qC (λa C vs H Q E h=>?_) λf0 dW A r s H vs Q a C t0 tb0 hr h d=>?_;·obtain⟨rfl,_⟩:=h;rfl
 obtain⟨rfl,h⟩:=h;have hO:∃(b2 B:Bool)(W:Str),One K R C [mO,tO,rB,rA,p8,uA,uy,uz,uB] [a7,b2,a7,a7,B,a7,a7,a7,a7]/\(b2=J/\B=a7/\W="row"\/b2=a7/\B=J/\W="text")/\∀H',jh H H'->Q (.str W) H':=by
  rcases h with ⟨p,q⟩|⟨p,q⟩;·exact⟨_,_,_,p▸Z.o2,.inl ⟨rfl,rfl,rfl⟩,q⟩
  ·exact⟨_,_,_,p▸Z.o5,.inr ⟨rfl,rfl,rfl⟩,q⟩
 obtain⟨b2,B,W,c,D,q⟩:=hO;obtain⟨k1,k2,k3,k4,k5,k6,k7,k8,k9⟩:=agy c.is;have F:=c.at_;have hc:=c.cl;refine⟨_,g9 (Gs 1 qC.nd (rR dF)) (g9 (Gr d tK (Ei (lP (md (ff d F hc) rfl T.dy cL (lP (pv 0) (lP (e9 (v:=.ref mO) rfl Bq rfl) dF))) (lP (md (ff d F hc) rfl T.dy cL (lP (pv 0) (lP (e9 (v:=.ref tO) rfl RE rfl) dF))) (lP (md (ff d F hc) rfl T.dy cL (lP (pv 0) (lP (e9 (v:=.ref rB) rfl Iw rfl) dF))) (lP (md (ff d F hc) rfl T.dy cL (lP (pv 0) (lP (e9 (v:=.ref rA) rfl Iv rfl) dF))) dF))))) (zu (i:=2) qC.nd) (iP (ua (vn cA jc jd jG (pv 1) (lP (pv 2) dF))))) (g9 (Gr d tK (Ei (lP (md (ff d F hc) rfl T.dy cL (lP (pv 0) (lP (e9 (v:=.ref p8) rfl LZ rfl) dF))) (lP (md (ff d F hc) rfl T.dy cL (lP (pv 0) (lP (e9 (v:=.ref uA) rfl LY rfl) dF))) (lP (md (ff d F hc) rfl T.dy cL (lP (pv 0) (lP (e9 (v:=.ref uy) rfl LV rfl) dF))) (lP (md (ff d F hc) rfl T.dy cL (lP (pv 0) (lP (e9 (v:=.ref uz) rfl LW rfl) dF))) dF))))) (zu (i:=2) qC.nd) (iP (ua (vn cA jc jd jG (pv 1) (lP (pv 2) dF))))) (g9 (ua (vn cA jc jd jG (pv 1) (lP (md (ff d F hc) rfl T.dy cL (lP (pv 0) (lP (e9 (v:=.ref uB) rfl L8 rfl) dF))) dF))) (g9 (Nl (Zt (PW.pt (VD (Np (Nq (md (ff d F hc) rfl T.dy cL (lP (pv 0) (lP (Vx T.lY wC rfl) dF))))) (Nu (uc abM (vn cA q_ PySem.F.type_list_count Iy (pv 1) (qy [.bl J] (by rfl))) vp (Mi _)))))) (iP (pI vq)) zw) (iP (pI (Bx FO (rR (qy [.str "program",.str "row",.str "long",.str "world",.str "text",.str "step",.str "cell",.str "door",.str "word"] (by rfl))) (vn cA r_ PySem.F.type_list_index IA (pv 1) (qy [.bl J] (by rfl)))))))))),?_⟩;try dsimp only[cxK]
 refine⟨sz0,λfd l=>?_⟩;have s0:=gK l (.lst []);refine⟨_,rfl,_,_,_,rfl,.inl ⟨_,rfl,rfl⟩,k1,_,rfl,_,_,_,rfl,.inl ⟨_,rfl,rfl⟩,k2,_,rfl,_,_,_,rfl,.inl ⟨_,rfl,rfl⟩,k3,_,rfl,_,_,_,rfl,.inl ⟨_,rfl,rfl⟩,k4,YI,λt u=>?_⟩;have n:t≠fd:=λz=>by rw[z,bF]at u;cases u
 refine⟨t,rfl,⟨_,eL.of bF⟩,FV (bs:=[a7,b2,a7,a7]) (cs:=[]) l (s0.trans (gK u _)) (by rw[bC (bY n)];exact bF) bF n (by show 4<=100;decide) λx2 H1 s1 I=>?_⟩;refine⟨_,rfl,_,_,_,rfl,.inl ⟨_,rfl,rfl⟩,k5,_,rfl,_,_,_,rfl,.inl ⟨_,rfl,rfl⟩,k6,_,rfl,_,_,_,rfl,.inl ⟨_,rfl,rfl⟩,k7,_,rfl,_,_,_,rfl,.inl ⟨_,rfl,rfl⟩,k8,YI,λG g=>?_⟩;have N:G≠fd:=λz=>by rw[z,I]at g;cases g
 refine⟨G,rfl,⟨_,eL.of bF⟩,FV (bs:=[B,a7,a7,a7]) (cs:=[a7,b2,a7,a7]) l (s1.trans (gK g _)) (by rw[bC (bY N)];exact I) bF N (by show 8<=100;decide) λx3 x s2 k=>?_⟩;refine⟨_,rfl,.inl ⟨rfl,_,gN.of k⟩,_,rfl,_,_,_,rfl,.inl ⟨_,rfl,rfl⟩,k9,fd,_,_,rfl,rfl,k,by show 8<sizeLine;decide,?_⟩;have M:jh H (cQ x fd (.lst (([a7,b2,a7,a7]++[B,a7,a7,a7]).map V.bl++[V.bl a7]))):=λb o U=>by rw[bC (bS U l)];exact s2 _ _ U
 have e:(cQ x fd (.lst (([a7,b2,a7,a7]++[B,a7,a7,a7]).map V.bl++[V.bl a7]))) fd=O (.lst ([a7,b2,a7,a7,B,a7,a7,a7,a7].map V.bl)):=bF;generalize cQ x fd (.lst (([a7,b2,a7,a7]++[B,a7,a7,a7]).map V.bl++[V.bl a7]))=X at M e⊢;refine⟨λt H'=>X=H'/\t=a7,⟨_,rfl,_,_,_,rfl,.inr ⟨_,rfl,rfl⟩,c.kv,_,rfl,Ta rfl ⟨_,rfl,.inl ⟨rfl,_,gN.of e⟩,fd,_,rfl,rfl,e,rfl,_,rfl,rfl,by rcases D with ⟨rfl,rfl,_⟩|⟨rfl,rfl,_⟩<;>decide⟩⟩,?_⟩;rintro t H' ⟨rfl,rfl⟩;refine Ta rfl ?_;refine⟨sz9,λL Y=>?_⟩;have s4:=M.trans (gK Y (.lst [V.str "program",.str "row",.str "long",.str "world",.str "text",.str "step",.str "cell",.str "door",.str "word"]));have f:(cQ X L (.lst [V.str "program",.str "row",.str "long",.str "world",.str "text",.str "step",.str "cell",.str "door",.str "word"])) fd=O (.lst ([a7,b2,a7,a7,B,a7,a7,a7,a7].map V.bl)):=by rw[bC (bS e Y)];exact e
 rcases D with ⟨rfl,rfl,rfl⟩|⟨rfl,rfl,rfl⟩;·refine⟨_,rfl,.inl ⟨rfl,_,gN.of f⟩,fd,_,1,rfl,rfl,f,by ext,rfl,λm y=>?_,L,_,1,_,rfl,rfl,gN.of bF,EZ (j:=1) rfl,q _ s4⟩;match m,y with|0,_=>rfl
 ·refine⟨_,rfl,.inl ⟨rfl,_,gN.of f⟩,fd,_,4,rfl,rfl,f,by ext,rfl,λm y=>?_,L,_,4,_,rfl,rfl,gN.of bF,EZ (j:=4) rfl,q _ s4⟩;match m,y with|0,_=>rfl|1,_=>rfl|2,_=>rfl|3,_=>rfl
end
end OZ
namespace W2
open L2 F
variable{ks:List Nat}{m k n d c:Nat}{K:Pv->Prop}{X U p:Pv}{B w y l A z x v:Str}{o:Option Rp}{r rs:List Pv}{ws a b mid ls:List Str}{s s':Rp}{f:Pv->Bool}
def O_(K:Pv->Prop)(c:Nat):Prop:=c=1/\K (.str "row")\/c=4/\K (.str "text")
inductive AA:Ct|mk{t:Str}{o:Option Rp}{Q:Dv->Hs->Prop}{xc:XP}(ht:t.length<=900000)(hg:(dk t).all yQ)(e:Run s0 (dk t) o)(q:rF o (λx=>Q (.p (.lst [x])) []) (O_ λy=>Q (.p y) [])):AA [.p (.str t)] [] Q xc
def MG{α:Type}{o:Option α}{A e:α->Prop}{B B':Prop}(h:iw o A B)(i:∀x,A x->e x)(j:B->B'):iw o e B':=by cases o with|none=>exact j h|some x=>exact i x h
def HM{e:Pv->Prop}{X X':Nat->Prop}(h:rF o K X)(i:∀x,K x->e x)(j:∀c,X c->X' c):rF o e X':=by cases o with|none=>exact j 4 h|some s=>unfold rF at h⊢;dsimp only at h⊢;cases H:s.ops with|nil=>rw[H]at h;obtain⟨g,q⟩:=bB h;exact ay g (MG q j (i _))|cons a b=>rw[H]at h;exact j 4 h
def NW:dD ["_law_text","_law_e"] ["_law_text"] (aL (top 107)):=mV (by ext)
section
variable{ca:Nat->Addr}{W:Wd}{R C3 C6 C7 C8 C9 C10:Addr}
seal L2.PE L2.PS L2.kH L2.PT L2.PW L2.PA L2.PG L2.UD L2.PI L2.PO L2.pY L2.PC L2.jQ L2.dJ L2.CF L2.Hj L2.J1 L2.Wx in
def Qf(Z:OZ.V' W.K W.mg R (ca 0) (ca 1) (ca 2) C3 (ca 4) C6 C7 C8 C9)(Y:DX ca W 36 30 Ko)(Dc:CC W.P W.w W.K W.mg W.base 30 "_law_class" ["_law_e"] (OZ.GK (ca 1) (ca 4)))(S:SX W):DX ca W 64 31 AA:=by
 obtain⟨ps,Y⟩:=Y;refine⟨["_law_text"],S.Eo.YJ NW (λvs H Q E ⟨G,M,h,ds,L,xc,r,i,c,_,_⟩=>?_) λf dW A outer s H vs Q E hr wL=>?_⟩;·cases c;rw[<-i.len];rfl
 obtain⟨G,M,h,ds,L,xc,r,i,c,out,exc⟩:=wL;cases c with|@mk t o _ _ ht hg e q=>
 obtain⟨v,rfl,iv⟩:=i.kQ;cases(show v=.str t by unfold F.cZ bR at iv;exact iv);have hM:M=[]:=dm.mp r.ln;subst hM;refine⟨_,iP (Zr (i:=1) (R:=R) pb NW.nd rfl rfl rfl rfl Z.m0 Z.hit (λpn E1=>iP (pI (rR (lP (zt Y hr Ua rfl (lP (pv 0) dF)) dF)))) λpn a C hh=>iP (pI (Sh Dc hh (hr.hand a) rfl (lP (pv 1) dF)))),?_⟩;refine⟨λcls _ D=>∃k j,cls=.ref (ca k)/\Ext [] H j D/\bq (((Lx ca).y W).z G) j D []/\O_ (λy=>L (.p y) []) k,?_,?_⟩
 ·refine⟨_,rfl,?_⟩;refine⟨G,[],[],[.p (.str t)],λd N=>∃x,d=.p x/\N=[]/\L (.p (.lst [x])) [],λk N=>N=[]/\O_ (λy=>L (.p y) []) k,r,⟨iv,trivial⟩,.mk ht hg e (HM q (λx h=>⟨x,rfl,rfl,h⟩) λc h=>⟨rfl,h⟩),?_,?_⟩;·rintro d N j D v e' I i' ⟨x,rfl,rfl,g⟩;refine⟨by show 1<=sizeLine;decide,λu hu=>?_⟩;exact out (.p (.lst [x])) [] j _ _ (e'.trans (Ext.add hu)) (I.add hu) (jM I hu (by unfold aO;exact⟨i',by unfold aO;trivial⟩)) g
  ·rintro k N j D e' I ⟨rfl,g⟩;exact⟨k,j,rfl,e',I,g⟩
 ·rintro C od D a' σ' ⟨k,j,e,ex,I,g⟩ T;have FH:1<σ'.length:=by rw[T];exact eG 1
  have fin:∀z:Str,L (.p (.str z)) []->∀H2,jh D H2->Q (.str z) H2:=λz hz H2 s2=>out (.p (.str z)) [] j H2 _ (ex.trans (gS s2)) (kR I s2) (by unfold F.cZ bR;rfl) hz;injection e with e;subst e;rcases g with ⟨rfl,g⟩|⟨rfl,g⟩;·exact⟨Z.o2.sub,.ref a',by rw[cB FH],rfl,.inl ⟨rfl,fin _ g⟩⟩
  ·exact⟨Z.o5.sub,.ref a',by rw[cB FH],rfl,.inr ⟨rfl,fin _ g⟩⟩
end
def Ce:List Str:=["box","x"]
noncomputable def eS:Nat->Nat->List Str|0,0=>["number","1"]|m+1,0=>"not"::eS m 0|0,1=>["number","1"]|m+1,1=>"plus"::(eS m 1++Ce)|0,_+2=>["size","l"]|m+1,k+2=>"item"::"l"::eS m (k+2)
noncomputable def vP:Nat->Nat->Pv|0,0=>.tup [.str "number",.int 1]|m+1,0=>.tup [.str "not",vP m 0]|0,1=>.tup [.str "number",.int 1]|m+1,1=>.tup [.str "plus",vP m 1,sd]|0,_+2=>.tup [.str "size",.str "l"]|m+1,k+2=>.tup [.str "item",.str "l",vP m (k+2)]
def Cn(st:List (List Pv))(V:Pv)(r:List Pv)(o:Option (Pv×List Pv)):Prop:=match st with|[]=>o=O (V,r)|P::st=>∃m,RV m (P++[V]) st r o
def nR{ks:List Str}{ps:List Pv}{st:List (List Pv)}{o:Option (Pv×List Pv)}(e:lk w iA=O ks)(l:ps.length=ks.length)(c:Cn st (.tup (.str w::ps)) r o):∃m,RV m (.str w::ps) st r o:=by cases st with|nil=>cases c;exact⟨0,.fin e l⟩|cons P st=>obtain⟨m,c⟩:=c;exact⟨m+1,.pop e l c⟩
def Hi(V:Pv)(ws:List Str):Prop:=∃(v:Str)(u:List Str),ws=v::u/\(lk v iA).isSome=J/\∀(st:List (List Pv))(r:List Pv)(o:Option (Pv×List Pv)),Cn st V r o->∃m,RV m [.str v] st (u.map .str++r) o
def wf1:o6 "number" (.str "1"::r)=O (.int 1,r):=by show pH r "1"=_;unfold pH;rw[show pG "1"=J by ext,show ab2 "1"=O 1 by ext]
def wfB:o6 "number" (.str "box"::r)=none:=by show pH r "box"=_;unfold pH;rw[show pG "box"=a7 by ext]
def ND:Hi (.tup [.str "number",.int 1]) ["number","1"]:=⟨"number",["1"],rfl,by ext,λst r o c=>by obtain⟨m,h⟩:=nR (w:="number") (ks:=["number"]) (ps:=[.int 1]) (by ext) rfl c;exact⟨m+1,.R_ (w:="number") (kd:="number") (ps:=[]) (ks:=["number"]) (x:=.int 1) (by ext) rfl (by ext) wf1 h⟩⟩
def EA:Hi sd Ce:=⟨"box",["x"],rfl,by ext,λst r o c=>by obtain⟨m,h⟩:=nR (w:="box") (ks:=["box"]) (ps:=[.str "x"]) (by ext) rfl c;exact⟨m+1,.R_ (w:="box") (kd:="box") (ps:=[]) (ks:=["box"]) (x:=.str "x") (by ext) rfl (by ext) rfl h⟩⟩
def SW:Hi (.tup [.str "size",.str "l"]) ["size","l"]:=⟨"size",["l"],rfl,by ext,λst r o c=>by obtain⟨m,h⟩:=nR (w:="size") (ks:=["list"]) (ps:=[.str "l"]) (by ext) rfl c;exact⟨m+1,.R_ (w:="size") (kd:="list") (ps:=[]) (ks:=["list"]) (x:=.str "l") (by ext) rfl (by ext) rfl h⟩⟩
def ZD{V:Pv}(h:Hi V ws):Hi (.tup [.str "not",V]) ("not"::ws):=by obtain⟨v,u,rfl,H,h⟩:=h;refine⟨"not",v::u,rfl,by ext,λst r o c=>?_⟩;obtain⟨m,c⟩:=h ([.str "not"]::st) r o (nR (w:="not") (ks:=["value"]) (ps:=[V]) (by ext) rfl c);exact⟨m+1,.JM (w:="not") (ps:=[]) (ks:=["value"]) (by ext) rfl H c⟩
def SU{V:Pv}(h:Hi V ws):Hi (.tup [.str "item",.str "l",V]) ("item"::"l"::ws):=by obtain⟨v,u,rfl,H,h⟩:=h;refine⟨"item","l"::v::u,rfl,by ext,λst r o c=>?_⟩;obtain⟨m,c⟩:=h ([.str "item",.str "l"]::st) r o (nR (w:="item") (ks:=["list","value"]) (ps:=[.str "l",V]) (by ext) rfl c);exact⟨m+1+1,.R_ (w:="item") (kd:="list") (ps:=[]) (ks:=["list","value"]) (x:=.str "l") (by ext) rfl (by ext) rfl (.JM (w:="item") (ps:=[.str "l"]) (ks:=["list","value"]) (by ext) rfl H c)⟩
def SV{V:Pv}{us:List Str}(h:Hi V ws)(g:Hi U us):Hi (.tup [.str "plus",V,U]) ("plus"::(ws++us)):=by obtain⟨v,e,rfl,H,h⟩:=h;obtain⟨u,us,rfl,hu,g⟩:=g;refine⟨"plus",v::(e++u::us),rfl,by ext,λst r o c=>?_⟩;obtain⟨m,c⟩:=g ([.str "plus",V]::st) r o (nR (w:="plus") (ks:=["value","value"]) (ps:=[V,U]) (by ext) rfl c);obtain⟨M,c⟩:=h ([.str "plus"]::st) (.str u::(us.map .str++r)) o ⟨m+1,.JM (w:="plus") (ps:=[V]) (ks:=["value","value"]) (by ext) rfl hu c⟩;refine⟨M+1,?_⟩;rw[aY,aV,aY,fK,aA,fK];exact .JM (w:="plus") (ps:=[]) (ks:=["value","value"]) (by ext) rfl H c
theorem vw:∀m k,Hi (vP m k) (eS m k)|0,0=>ND|m+1,0=>ZD (vw m 0)|0,1=>ND|m+1,1=>SV (vw m 1) EA|0,_+2=>SW|m+1,k+2=>SU (vw m (k+2))
def Hi.val{V:Pv}(h:Hi V ws)(r:List Pv):sW (ws.map .str++r) (O (V,r)):=by obtain⟨v,u,rfl,H,h⟩:=h;obtain⟨m,c⟩:=h [] r (O (V,r)) rfl;exact .go H c
noncomputable def hV:Nat->Nat->List Str|0,0=>["number"]|m+1,0=>"not"::hV m 0|0,1=>["number"]|m+1,1=>"plus"::(hV m 1++Ce)|0,_+2=>["size"]|m+1,k+2=>"item"::"l"::hV m (k+2)
def aby:List Pv->Prop|[]=>True|x::_=>x=.str "box"
def Py(ws:List Str):Prop:=∃(v:Str)(u:List Str),ws=v::u/\(lk v iA).isSome=J/\∀(st:List (List Pv))(r:List Pv),aby r->∃m,RV m [.str v] st (u.map .str++r) af
def NJ:Py ["number"]:=⟨"number",[],rfl,by ext,λst r c=>by refine⟨0,.j_ (w:="number") (kd:="number") (ps:=[]) (ks:=["number"]) (by ext) rfl (by ext) ?_⟩;cases r with|nil=>rfl|cons x r=>cases show x=.str "box"from c;exact wfB⟩
def ZF(h:Py ws):Py ("not"::ws):=by obtain⟨v,u,rfl,H,h⟩:=h;refine⟨"not",v::u,rfl,by ext,λst r c=>?_⟩;obtain⟨m,c⟩:=h ([.str "not"]::st) r c;exact⟨m+1,.JM (w:="not") (ps:=[]) (ks:=["value"]) (by ext) rfl H c⟩
def Td(h:Py ws):Py ("plus"::(ws++Ce)):=by obtain⟨v,u,rfl,H,h⟩:=h;refine⟨"plus",v::(u++Ce),rfl,by ext,λst r c=>?_⟩;obtain⟨m,c⟩:=h ([.str "plus"]::st) (.str "box"::.str "x"::r) rfl;refine⟨m+1,?_⟩;rw[aY,aV,fK,aA];exact .JM (w:="plus") (ps:=[]) (ks:=["value","value"]) (by ext) rfl H c
theorem VM:∀(m k:Nat)(st:List (List Pv)),∃v us,hV m (k+2)=v::us/\(lk v iA).isSome/\∃n,RV n [.str v] st (us.map .str) af|0,k,st=>⟨"size",[],rfl,by ext,0,.j_ (w:="size") (kd:="list") (ps:=[]) (ks:=["list"]) (by ext) rfl (by ext) rfl⟩|m+1,k,st=>by obtain⟨v,us,e,h,n,c⟩:=VM m k ([.str "item",.str "l"]::st);refine⟨"item","l"::v::us,by show("item":Str)::("l":Str)::hV m (k+2)=_;rw[e],by ext,n+1+1,?_⟩;exact .R_ (w:="item") (kd:="list") (ps:=[]) (ks:=["list","value"]) (x:=.str "l") (by ext) rfl (by ext) rfl (.JM (w:="item") (ps:=[.str "l"]) (ks:=["list","value"]) (by ext) rfl h c)
theorem XH:∀m,Py (hV m 0)|0=>NJ|m+1=>ZF (XH m)
theorem Ch:∀m,Py (hV m 1)|0=>NJ|m+1=>Td (Ch m)
def Py.val(h:Py ws):sW (ws.map .str) none:=by obtain⟨v,u,rfl,H,h⟩:=h;obtain⟨m,c⟩:=h [] [] trivial;rw[aM]at c;exact .go H c
def ZG:∀m k,sW ((hV m k).map .str) af|m,0=>(XH m).val|m,1=>(Ch m).val|m,k+2=>by obtain⟨v,u,e,h,n,c⟩:=VM m k [];rw[e];exact .go h c
noncomputable def gf(ws:List Str):Str:=ab8 ⟨#[32]⟩ ws
def Ka:(" ":Str)=⟨#[32]⟩:=aT.mp (by ext)
def tM(x y z:Str):x++y++z=x++(y++z):=da (by rw[fc,fc,fc,fc,aA])
theorem fw:∀{ws us:List Str},ws ≠[]->us ≠[]->gf (ws++us)=gf ws++(" "++gf us)|[],_,h,_=>absurd rfl h|[w],[],_,h=>absurd rfl h|[w],u::us,_,_=>by refine da ?_;show(ab8 ⟨#[32]⟩ (w::u::us)).cps.toList=_;rw[dv,fc,fc,Ka];rfl|w::x::ws,us,_,hu=>by have i:=fw (ws:=x::ws) (us:=us) (by simp) hu;refine da ?_;show(ab8 ⟨#[32]⟩ (w::x::(ws++us))).cps.toList=_;rw[dv];show _++32::(gf (x::ws++us)).cps.toList=(ab8 ⟨#[32]⟩ (w::x::ws)++(" "++gf us)).cps.toList;rw[i,fc,fc (ab8 _ _),dv,aA];rfl
def gw(w:Str):Bool:=!bA w ""&&!w.cps.toList.contains 32
def OQ(h:ws ≠[])(g:ws.all gw):jk (gf (aa4 n ⟨#[]⟩++ws))=ws.map .str:=by
 unfold jk gf;have e:∀x∈aa4 n (⟨#[]⟩:Str)++ws,32∉x.cps.toList:=λx H=>by
  rcases bf.mp H with H|H;·rw[(List.mem_replicate.mp H).2];exact λz=>by cases z
  ·have:=(ag (aS.mp g x H)).2;intro z;rw[Ev.mpr z]at this;cases this
 rw[Ka,vL (c:=32) (by intro z;exact h (jT.mp z).2) e,aV,fU,List.map_replicate,List.filter_eq_nil_iff.mpr,gu,G_.mpr];·intro x H;obtain⟨w,i,rfl⟩:=bL.mp H;exact(ag (aS.mp g w i)).1
 ·intro x H;rw[(List.mem_replicate.mp H).2];decide+kernel
theorem BP{ws:List Str}(h:ws ≠[]):∀n,cY "  " n++gf ws=gf (aa4 (2*n) ⟨#[]⟩++ws)|0=>da (by rw[fc];rfl)|n+1=>by have hn:aa4 (2*n) (⟨#[]⟩:Str)++ws ≠[]:=λz=>h (jT.mp z).2;show"  "++cY "  " n++gf ws=gf (aa4 (2*n+2) ⟨#[]⟩++ws);rw[tM,BP h n,cH,cH];show _=gf ([⟨#[]⟩,⟨#[]⟩]++(aa4 (2*n) ⟨#[]⟩++ws));rw[fw (by simp) hn,<-tM];congr 1
def OR(h:ws ≠[])(g:ws.all gw):jk (ind d++gf ws)=ws.map .str:=by unfold ind;rw[BP h,OQ h g]
noncomputable def wl(ws:List Str):Pv:=.lst (ws.map .str)
def mh(ls:List Str):List Pv:=(ls.map λz=>Pv.lst (jk z)).filter mx
def dS:mh (a++b)=mh a++mh b:=by unfold mh;rw[aV,fU]
def oa(w:Str)(ws:List Str):Bool:=(w::ws).all gw&&!Txt.startswith w "#"
def cc(h:oa w ws):mh [ind d++gf (w::ws)]=[wl (w::ws)]:=by obtain⟨H,e⟩:=ag h;unfold mh;rw[aY,fj,OR (by simp) H];exact fL e
def wb:∀m k,eS m k ≠[]|0,0=>by simp[eS]|_+1,0=>by simp[eS]|0,1=>by simp[eS]|_+1,1=>by simp[eS]|0,_+2=>by simp[eS]|_+1,_+2=>by simp[eS]
theorem qB(z:Str):∀n,cY z n++z=z++cY z n|0=>da (by rw[fc,fc];show[]++_=_++[];rw[aM,gu])|n+1=>by show(z++cY z n)++z=z++(z++cY z n);rw[tM,qB z n]
theorem qM:∀m k,gj m k=gf (eS m k)|0,0=>aT.mp (by ext)|m+1,0=>by show"not "++cY "not " m++"number 1"=gf ([("not":Str)]++eS m 0);rw[fw (by simp) (wb m 0),<-qM m 0,tM,<-tM (gf _)];congr 1|0,1=>aT.mp (by ext)|m+1,1=>by show"plus "++cY "plus " m++"number 1"++(" box x"++cY " box x" m)=gf ([("plus":Str)]++(eS m 1++Ce));rw[fw (by simp) (by simp[wb m 1]),fw (wb m 1) (by simp[Ce]),<-qM m 1,<-qB " box x" m,<-tM (gf _),show gf ["plus"]++" "="plus "from aT.mp (by ext),show" "++gf Ce=" box x"from aT.mp (by ext)];show _="plus "++(cY "plus " m++"number 1"++cY " box x" m++" box x");exact da (by simp only[fc,aA])|0,_+2=>(aT.mp (by ext):gj 0 2=gf ["size","l"])|m+1,k+2=>by show"item l "++cY "item l " m++"size l"=gf ([("item":Str),"l"]++eS m (k+2));rw[fw (by simp) (wb m (k+2)),<-qM m (k+2),tM,<-tM (gf _)];congr 1
theorem wa:∀m k,(eS m k).all gw=J|0,0=>by ext|m+1,0=>by show(gw "not"&&(eS m 0).all gw)=J;rw[wa m 0];decide+kernel|0,1=>by ext|m+1,1=>by show(gw "plus"&&(eS m 1++Ce).all gw)=J;rw[cy,wa m 1];decide+kernel|0,_+2=>by show[("size":Str),"l"].all gw=J;decide+kernel|m+1,k+2=>by show(gw "item"&&(gw "l"&&(eS m (k+2)).all gw))=J;rw[wa m (k+2)];decide+kernel
def qJ:hU d (gj m k)=ind d++gf ("tell"::eS m k):=by unfold hU;rw[qM,tM];show _=ind d++gf ([("tell":Str)]++eS m k);rw[fw (by simp) (wb m k),<-tM (gf _)];congr 2
def j':mh (rJ (ind d) 0)=[wl ["if","box","x"]]:=by show mh [ind d++"if box x"]=_;rw[show("if box x":Str)=gf ["if","box","x"]from aT.mp (by ext),cc (by ext)]
def Xu:mh (rJ (ind d) 1)=[wl ["while","box","x"]]:=by show mh [ind d++"while box x"]=_;rw[show("while box x":Str)=gf ["while","box","x"]from aT.mp (by ext),cc (by ext)]
def hX:mh [ind d++"try"]=[wl ["try"]]:=cc (w:="try") (ws:=[]) (by ext)
def en:mh [ind d++"end"]=[wl ["end"]]:=cc (w:="end") (ws:=[]) (by ext)
def em:mh [ind d++"catch x"]=[wl ["catch","x"]]:=by rw[show("catch x":Str)=gf ["catch","x"]from aT.mp (by ext),cc (by ext)]
def hH:mh [hU d (gj m k)]=[wl ("tell"::eS m k)]:=by rw[qJ,cc];show(gw "tell"&&(eS m k).all gw&&!Txt.startswith "tell" "#")=J;rw[wa];decide+kernel
def GO{i:Nat}(h:ag6 l y i)(H:c∈y.cps.toList):c∈l.cps.toList:=by
 rw[StrLaws.subAt_eq]at h;have h:(l.cps.toList.drop i).take y.length=y.cps.toList:=by simpa using h
 rw[<-h]at H;exact Op (ie H)
def yV(H:c∈y.cps.toList)(hn:c∉l.cps.toList):dH y l=false:=by cases h:dH y l with|false=>rfl|true=>obtain⟨i,_,h⟩:=(StrLaws.found_iff l y).mp h;exact absurd (GO h H) hn
def N6:A.length+y.length<=(A++(y++B)).length/\ag6 (A++(y++B)) y A.length=true:=by refine⟨by rw[cX,cX];lia,?_⟩;have e:A.length=A.cps.toList.length:=(bJ ..).symm;have E:y.length=y.cps.toList.length:=(bJ ..).symm;rw[StrLaws.subAt_eq,fc,fc,e,List.drop_left,E,oh];simp
def QP:dH y (A++(y++B))=true:=(StrLaws.found_iff _ _).mpr ⟨_,N6⟩
def vA(H:c∈y.cps.toList)(hn:c∉l.cps.toList):ad7 l y z=l:=by unfold ad7;rw[PySem.W.occ_nil_of_no l y (l.length+1) λi _=>by cases h:ag6 l y i with|false=>rfl|true=>exact absurd (GO h H) hn];rfl
def zC{y1 y2:List Nat}(H:y.cps.toList=y1++c::y2)(j:c∉A.cps.toList++y1)(u:c∉y2++B.cps.toList):ad7 (A++(y++B)) y z=A++(z++B):=by
 have g:(A++(y++B)).cps.toList=A.cps.toList++y1++c::(y2++B.cps.toList):=by rw[fc,fc,H];simp
 have C:(A++(y++B)).cps.toList.count c=1:=by rw[g,Cr,wq,Aj.mpr j,Aj.mpr u]
 have N:y.length≠0:=λe=>by have:y.cps.toList.length=0:=(bJ ..).trans e;rw[H,ae,ao]at this;lia
 have gs:=Pl (A++(y++B)) y ((A++(y++B)).length+1);have L:=Jy (A++(y++B)) (ab3 (A++(y++B)) y 0 (A++(y++B)).length ((A++(y++B)).length+1)) y.length;unfold ad7;rcases StrLaws.occ_head (A++(y++B)) y ((A++(y++B)).length+1) (Nat.le_add_left 1 _)with ⟨_,h⟩|⟨i,r,e,_⟩;·exact absurd N6 (h _)
 ·rw[bE (by rw[e];simp[N])];revert gs L;rw[e];generalize ad4 (A++(y++B)) (i::r) y.length=P;intro gs L;rw[No]at gs⊢;match P,L with
  |p::q::[],_=>
   have E:p++y++q=A++(y++B):=gs;have e2:=bU (λs:Str=>s.cps.toList) E;have t:p.cps.toList++y1++c::(y2++q.cps.toList)=A.cps.toList++y1++c::(y2++B.cps.toList):=by rw[<-g,<-e2,fc,fc,H];simp
   have c9:=bU (List.count c) t;rw[<-g,C,Cr,wq]at c9;have D:c∉p.cps.toList++y1:=Aj.mp (by lia);obtain⟨F,G⟩:=Dj D j t;rw[da (List.append_cancel_right F),da (List.append_cancel_left G)];exact tM _ _ _|p::q::Q::P,_=>exfalso;have E:p++y++(q++y++ab8 y (Q::P))=A++(y++B):=gs;have e2:=bU (λs:Str=>s.cps.toList.count c) E;rw[C,fc,fc,fc,fc,H]at e2;simp only[Cr,wq]at e2;lia
theorem Gx{z:Str}{c:Nat}:∀{n:Nat},c∈(cY z n).cps.toList->c∈z.cps.toList|0,h=>by cases h|n+1,h=>by have h:c∈(z++cY z n).cps.toList:=h;rw[fc]at h;exact(bf.mp h).elim id Gx
noncomputable def pD(c:Nat)(z:Str):Bool:=!z.cps.toList.contains c
def g7:pD c z=J↔c∉z.cps.toList:=by unfold pD;rw[Cp,bw,Ne,Ev]
def dE(a:pD c x)(b:pD c y):pD c (x++y)=true:=by rw[g7]at a b⊢;rw[fc];exact λh=>(bf.mp h).elim a b
def fP(a:pD c z):pD c (cY z n)=true:=by rw[g7]at a⊢;exact λh=>a (Gx h)
def kh(h:pD c "  "=J):pD c (ind d)=true:=fP h
def Run.app{rows:List Pv}(a:Run s rows (O s'))(b:Run s' rs o):Run s (rows++rs) o:=by generalize e:O s'=x at a;induction a with|nil=>cases e;exact b|cons l t i=>exact .cons l (i e)|no l=>cases e
def Run.agD{rows:List Pv}(a:Run s rows af):Run s (rows++rs) none:=by generalize e:(af:Option Rp)=x at a;induction a with|nil=>cases e|cons l t i=>exact .cons l (i e)|no l=>exact .no l
def Pd(e:Sub v s r (O (s',[]))):Run s [.lst (.str v::r)] (O s'):=.cons (pX.mk e) .nil
def rc(e:Sub v s r af):Run s [.lst (.str v::r)] none:=.no (pX.mk e)
def pk:Nat->List Pc|0=>[.p (.str "if"),.p sd]|1=>[.p (.str "while"),.p sd]|2=>[.p (.str "try")]|_=>[.p (.str "try"),.l [],.p (.str "x")]
def Ph(X:Pv):Nat->Pv|0=>.tup [.str "if",sd,.tup [X],.tup []]|1=>.tup [.str "while",sd,.tup [X]]|2=>.tup [.str "try",.tup [X],.str "x",.tup []]|_=>.tup [.str "try",.tup [],.str "x",.tup [X]]
def qd{v:Pv}:∀{k:Nat},f9 v (k::ks)=Ph (f9 v ks) k|0=>rfl|1=>rfl|2=>rfl|_+3=>rfl
def UZ(k:Nat)(s:Rp)(rows:List Pv):Rp:={s with ops:=(pk k,rows)::s.ops}
structure Hk(n:Nat)(s:Rp):Prop where
 sec:lJ 3 s.sec=a7
 ops:s.ops.length+n<=50000top:(vT s).length<1000
def Hk.in_(h:Hk (n+1) s):Hk n (UZ k (kJ s) [])where
 sec:=by
  show lJ 3 (kJ s).sec=a7;unfold kJ;split;·rfl
  ·exact h.sec
 ops:=by have:=h.ops;show(kJ s).ops.length+1+n<=50000;rw[p0];lia
 top:=Nat.zero_lt_of_lt (eG 999)
def o3(h:Hk n s):s.ops.length<100000:=by have:=h.ops;lia
def zE(h:Hk n s):Run s (mh [ind d++"try"]) (O (UZ 2 (kJ s) [])):=by rw[hX];exact Pd (v:="try") (r:=[]) (.row (.Ub h.sec (o3 h)))
def ED(h:Hk n s):∀{k:Nat},Run s (mh (rJ (ind d) k)) (O (UZ k (kJ s) []))|0=>by rw[j'];exact Pd (v:="if") (r:=[.str "box",.str "x"]) (.row (.ifw (.inl rfl) h.sec (EA.val []) (o3 h)))|1=>by rw[Xu];exact Pd (v:="while") (r:=[.str "box",.str "x"]) (.row (.ifw (.inr rfl) h.sec (EA.val []) (o3 h)))|2=>zE h|k+3=>by show Run s (mh ([ind d++"try"]++[ind d++"catch x"])) _;rw[dS];refine(zE h).app ?_;rw[em];exact Pd (v:="catch") (r:=[.str "x"]) (.cat (.ok rfl))
def EX(h:Hk n s):(vT (kJ s)).length<100000:=by rw[yf];have:=h.top;lia
def ug{t:Rp}{pre:List Pc}{rows:List Pv}(hz:(vT t).length<100000)(e:s={t with ops:=(.p (.str v)::pre,rows)::t.ops})(h:(bA v "try"&&aa3 (pre.length+2) 2)=a7)(H:bA v "def"=a7)(g:pre.all ww):Run s (mh [ind d++"end"]) (O (CK t (.tup (.str v::(pre.map HW++.tup rows::qk v (pre.length+2)))))):=by subst e;rw[en];exact Pd (v:="end") (r:=[]) (.fin (.ok (t:=t.ops) rfl h H g hz))
def ZJ(h:Hk n s):∀{k:Nat},Run (UZ k (kJ s) [X]) (mh (pQ (ind d) k)) (O (CK (kJ s) (Ph X k)))|0=>ug (v:="if") (pre:=[.p sd]) (EX h) rfl rfl rfl rfl|1=>ug (v:="while") (pre:=[.p sd]) (EX h) rfl rfl rfl rfl|2=>by show Run _ (mh ([ind d++"catch x"]++[ind d++"end"])) _;rw[dS,em];refine(Pd (v:="catch") (r:=[.str "x"]) (.cat (.ok rfl))).app ?_;exact ug (t:=kJ s) (v:="try") (pre:=[.l [X],.p (.str "x")]) (EX h) rfl rfl rfl rfl|k+3=>ug (v:="try") (pre:=[.l [],.p (.str "x")]) (EX h) rfl rfl rfl rfl
def Ok(n:Nat)(mid:List Str)(X:Pv):Prop:=∀s,Hk n s->Run s (mh mid) (O (CK (kJ s) X))
def OW(n:Nat)(mid:List Str):Prop:=∀s,Hk n s->Run s (mh mid) af
def R3(h:Ok n mid X):Ok (n+1) (rJ (ind d) k++(mid++pQ (ind d) k)) (Ph X k):=λs H=>by rw[dS,dS];exact(ED H).app ((h _ H.in_).app (ZJ H))
def Ax(h:OW n mid):OW (n+1) (rJ (ind d) k++(mid++pQ (ind d) k)):=λs H=>by rw[dS,dS];exact(ED H).app (h _ H.in_).agD
def E2(h:Ok n mid X):OW (n+1) ([ind d++"try"]++(mid++[ind d++"end"])):=λs H=>by rw[dS,dS];refine(zE H).app ((h _ H.in_).app ?_);rw[en];exact rc (v:="end") (r:=[]) (.fin (.noT (v:="try") rfl rfl))
def YK:Ok n [hU d (gj m k)] (.tup [.str "tell",vP m k]):=λs h=>by rw[hH];have t:=(vw m k).val [];rw[aM]at t;exact Pd (v:="tell") (.row (.tell h.sec t (by have:=h.top;lia)))
def Ok.up(h:Ok n mid X)(l:n<=m):Ok m mid X:=λs H=>h s ⟨H.sec,by have:=H.ops;lia,H.top⟩
theorem zl{n:Nat}{mid:List Str}{v:Pv}(h:Ok n mid (f9 v [])):∀{ks:List Nat}{d:Nat},Ok (n+ks.length) (oJ ks d mid) (f9 v ks)|[],d=>h|k::ks,d=>by rw[qd];exact R3 (zl h)
theorem yj{n:Nat}{mid:List Str}(h:OW n mid):∀{ks:List Nat}{d:Nat},OW (n+ks.length) (oJ ks d mid)|[],d=>h|k::ks,d=>Ax (yj h)
def ags{A B C:List Str}(h:A++(B++C)=a++l::b):(∃g,A=a++l::g/\b=g++(B++C))\/(∃a1 g,B=a1++l::g/\a=A++a1/\b=g++C)\/∃a1,C=a1++l::b/\a=A++(B++a1):=by
 rcases UB.mp h with ⟨D,e,E⟩|⟨u,e,E⟩
 ·rcases UB.mp E with ⟨bs,t,i⟩|⟨ds,t,i⟩;·exact .inr (.inr ⟨bs,i,by rw[e,t]⟩)
  ·cases ds with|nil=>exact .inr (.inr ⟨[],by rw[gu]at i⊢;exact i.symm,by rw[e,t,aM,aM]⟩)|cons x ds=>injection i with j q;subst j;exact .inr (.inl ⟨D,ds,t,e,q⟩)
 ·cases u with
  |nil=>rw[aM]at e;rw[gu]at E;cases B with|nil=>exact .inr (.inr ⟨[],E.symm,by rw[e,aM,aM]⟩)|cons x B=>injection E with j q;subst j;exact .inr (.inl ⟨[],B,rfl,by rw[e,aM],q⟩)
  |cons x u=>injection E with j q;subst j;exact .inl ⟨u,e,q⟩
def pE(h:pD 104 z\/pD 99 z):dH "catch" (ind d++z)=false:=by
 rcases h with h|h;·exact yV (c:=104) (by ext) (g7.mp (dE (kh (by ext)) h))
 ·exact yV (c:=99) (by ext) (g7.mp (dE (kh (by ext)) h))
def Ut(h:(pD c "not "&&(pD c "number 1"&&(pD c "plus "&&(pD c " box x"&&(pD c "item l "&&pD c "size l")))))):∀{k:Nat},pD c (gj m k)=true:=by obtain⟨e,h⟩:=ag h;obtain⟨H,h⟩:=ag h;obtain⟨g,h⟩:=ag h;obtain⟨i,h⟩:=ag h;obtain⟨j,q⟩:=ag h;intro k;match k with|0=>exact dE (fP e) H|1=>exact dE (dE (fP g) H) (fP i)|k+2=>exact dE (fP j) q
def yS{P:Prop}(h:dH "catch" l=J)(n:dH "catch" l=a7):P:=by rw[n]at h;cases h
def gJ(h:[x]=a++l::b):a=[]/\b=[]/\l=x:=by cases a with|nil=>injection h with e H;exact⟨rfl,H.symm,e.symm⟩|cons y a=>injection h with _ H;cases a<;>cases H
def dV(h:[x,y]=a++l::b):a=[]/\b=[y]/\l=x\/a=[x]/\b=[]/\l=y:=by cases a with|nil=>injection h with H e;exact .inl ⟨rfl,e.symm,H.symm⟩|cons z a=>injection h with H e;obtain⟨E,g,i⟩:=gJ e;exact .inr ⟨by rw[H,E],g,i⟩
theorem Fn{n:Nat}{M:Str}{v:Pv}(H:dH "catch" M=a7)(i:Ok n [M] (f9 v [])):∀{ks:List Nat}{d:Nat}{a b:List Str}{l:Str},dH "catch" l=J->oJ ks d [M]=a++l::b->OW (n+ks.length) (a++b)
 |[],d,a,b,l,h,e=>by obtain⟨_,_,rfl⟩:=gJ (show[M]=a++l::b from e);exact yS h H|k::ks,d,a,b,l,h,e=>by
  have e:rJ (ind d) k++(oJ ks (d+1) [M]++pQ (ind d) k)=a++l::b:=e;have ok:Ok (n+ks.length) (oJ ks (d+1) [M]) (f9 v ks):=zl i;have tr:∀{z:Str},dH "catch" (ind d++"try")=false:=λ{_}=>pE (.inl (by ext));have g:dH "catch" (ind d++"end")=false:=pE (.inl (by ext));rcases ags e with ⟨j,E,rfl⟩|⟨a1,j,E,rfl,rfl⟩|⟨a1,E,rfl⟩;·match k,E with
   |0,E=>obtain⟨_,_,rfl⟩:=gJ E;exact yS h (pE (.inl (by ext)))|1,E=>obtain⟨_,_,rfl⟩:=gJ E;exact yS h (pE (.inr (by ext)))|2,E=>obtain⟨_,_,rfl⟩:=gJ E;exact yS h (pE (.inl (by ext)))|k+3,E=>
    rcases dV E with ⟨_,_,rfl⟩|⟨rfl,rfl,rfl⟩;·exact yS h (pE (.inl (by ext)))
    ·exact E2 ok
  ·rw[aA,<-aA a1];exact Ax (Fn H i h E)
  ·match k,E with
   |0,E=>obtain⟨_,_,rfl⟩:=gJ E;exact yS h g|1,E=>obtain⟨_,_,rfl⟩:=gJ E;exact yS h g|2,E=>
    rcases dV E with ⟨rfl,rfl,rfl⟩|⟨_,_,rfl⟩;·rw[aM,aA];exact E2 ok
    ·exact yS h g|k+3,E=>obtain⟨_,_,rfl⟩:=gJ E;exact yS h g
noncomputable def tF:List Pv:=[.str "x"]
def sF:List Pv:=[.str "l"]
def lR:Sc:=⟨tF,sF,[],[],a7⟩
def xX{ks:List Str}(e:lk w iA=O ks):val (n+1) tF sF (.tup (.str w::r))=B6 (val n tF sF) tF sF r (O ks):=by show B6 _ _ _ _ (lk w iA)=_;rw[e]
def Uu{V:Pv}:val (n+1) tF sF (.tup [.str "not",V])=val n tF sF V:=by rw[xX (ks:=["value"]) (by ext)];show(J&&(val n tF sF V&&J))=_;rw[bX,cR]
def OH{V:Pv}:val (n+1) tF sF (.tup [.str "plus",V,U])=(val n tF sF V&&val n tF sF U):=by rw[xX (ks:=["value","value"]) (by ext)];show(J&&(val n tF sF V&&(val n tF sF U&&J)))=_;rw[bX,cR]
def OF{V:Pv}:val (n+1) tF sF (.tup [.str "item",.str "l",V])=val n tF sF V:=by rw[xX (ks:=["list","value"]) (by ext)];show(J&&(du (.str "l")&&FK (.str "l") sF&&(val n tF sF V&&J)))=_;rw[show du (.str "l")=J by ext,show FK (.str "l") sF=J by ext,bX,cR,cR,bX]
def G3:val (n+1) tF sF (.tup [.str "number",.int 1])=true:=by rw[xX (ks:=["number"]) (by ext)];rfl
def Aa:val (n+1) tF sF sd=true:=by unfold sd;rw[xX (ks:=["box"]) (by ext)];show(J&&(du (.str "x")&&FK (.str "x") tF&&J))=_;rw[show du (.str "x")=J by ext,show FK (.str "x") tF=J by ext];rfl
def OI:val (n+1) tF sF (.tup [.str "size",.str "l"])=true:=by rw[xX (ks:=["list"]) (by ext)];show(J&&(du (.str "l")&&FK (.str "l") sF&&J))=_;rw[show du (.str "l")=J by ext,show FK (.str "l") sF=J by ext];rfl
theorem G4:∀(n m k:Nat),val n tF sF (vP m k)=ad8 m n
 |0,m,k=>by rfl|n+1,0,0=>G3|n+1,m+1,0=>Uu.trans (G4 n m 0)|n+1,0,1=>G3|n+1,m+1,1=>by refine OH.trans ?_;rw[G4 n m 1];cases n with|zero=>rfl|succ n=>rw[Aa,bX];rfl
 |n+1,0,k+2=>OI|n+1,m+1,k+2=>OF.trans (G4 n m (k+2))
def BQ{ks:List Str}(e:lk w fC=O ks):row (n+1) lR (.tup (.str w::r))=Je (cO (row n lR)) lR w r (O ks):=by show Je _ _ _ _ (lk w fC)=_;rw[e]
def Ni:g8 f lR "value" p=val 4 tF sF p:=rfl
def vt:g8 f lR "rows" p=f p:=rfl
def VB:g8 f lR "box" (.str "x")=true:=by show(du (.str "x")&&FK (.str "x") tF)=J;decide+kernel
def Au{b c:Bool}(h:b=c):(J&&(J&&(b&&J)))=c:=by rw[h,cR,cR,bX]
def acg:∀{k:Nat},row (n+1) lR (Ph X k)=row n lR X|0=>by refine(BQ (w:="if") (ks:=["value","rows","rows"]) (by ext)).trans ?_;refine Au (b:=g8 (cO (row n lR)) lR "value" sd&&(g8 (cO (row n lR)) lR "rows" (.tup [X])&&(g8 (cO (row n lR)) lR "rows" (.tup [])&&J))) ?_;rw[Ni,vt,vt,Aa];show(J&&(row n lR X&&J&&(J&&J)))=_;rw[cR,bX,bX,bX]|1=>by refine(BQ (w:="while") (ks:=["value","rows"]) (by ext)).trans ?_;refine Au (b:=g8 (cO (row n lR)) lR "value" sd&&(g8 (cO (row n lR)) lR "rows" (.tup [X])&&J)) ?_;rw[Ni,vt,Aa];show(J&&(row n lR X&&J&&J))=_;rw[cR,bX,bX]|2=>by refine(BQ (w:="try") (ks:=["rows","box","rows"]) (by ext)).trans ?_;refine Au (b:=g8 (cO (row n lR)) lR "rows" (.tup [X])&&(g8 (cO (row n lR)) lR "box" (.str "x")&&(g8 (cO (row n lR)) lR "rows" (.tup [])&&J))) ?_;rw[vt,vt,VB];show(row n lR X&&J&&(J&&(J&&J)))=_;rw[bX,cR,cR,bX]|k+3=>by refine(BQ (w:="try") (ks:=["rows","box","rows"]) (by ext)).trans ?_;refine Au (b:=g8 (cO (row n lR)) lR "rows" (.tup [])&&(g8 (cO (row n lR)) lR "box" (.str "x")&&(g8 (cO (row n lR)) lR "rows" (.tup [X])&&J))) ?_;rw[vt,vt,VB];show(J&&(J&&(row n lR X&&J&&J)))=_;rw[bX,cR,cR,bX]
def ach{V:Pv}:row (n+1) lR (.tup [.str "tell",V])=val 4 tF sF V:=by refine(BQ (w:="tell") (ks:=["value"]) (by ext)).trans ?_;refine Au (b:=g8 (cO (row n lR)) lR "value" V&&J) ?_;rw[Ni,bX]
theorem NK{V:Pv}:∀{n:Nat}{ks:List Nat},row n lR (f9 V ks)=(ad8 ks.length n&&val 4 tF sF V)|0,ks=>by rfl|n+1,[]=>ach|n+1,k::ks=>by rw[qd,acg,NK];rfl
noncomputable def yk:Pv:=.tup [.tup [.str "x",.int 7]]
noncomputable def qw:Pv:=.tup [.tup [.str "l",.tup [.int 1,.int 2]]]
def Ba{ks:List Str}(e:lk w fC=O ks):jK (.tup (.str w::r))=pz r (O ks):=by show pz r (lk w fC)=_;rw[e]
def aa1:∀{k:Nat},jK (Ph X k)=[.tup [X],.tup []]\/jK (Ph X k)=[.tup [X]]\/jK (Ph X k)=[.tup [],.tup [X]]|0=>.inl ((Ba (w:="if") (ks:=["value","rows","rows"]) (by ext)).trans rfl)|1=>.inr (.inl ((Ba (w:="while") (ks:=["value","rows"]) (by ext)).trans rfl))|2=>.inl ((Ba (w:="try") (ks:=["rows","box","rows"]) (by ext)).trans rfl)|k+3=>.inr (.inr ((Ba (w:="try") (ks:=["rows","box","rows"]) (by ext)).trans rfl))
theorem Kw{V:Pv}:∀{n:Nat}{ks:List Nat},jA n (f9 V ks)<=n
 |0,_=>aB _|n+1,[]=>by show 1+sum (zQ (jA n)) (jK (.tup [.str "tell",V]))<=n+1;rw[show jK (.tup [.str "tell",V])=[]from(Ba (w:="tell") (ks:=["value"]) (by ext)).trans rfl];show 1+0<=_;lia|n+1,k::ks=>by
  have i:=Kw (V:=V) (n:=n) (ks:=ks);rw[qd];show 1+sum (zQ (jA n)) (jK (Ph (f9 V ks) k))<=n+1;rcases aa1 (X:=f9 V ks) (k:=k)with e|e|e;·rw[e];show 1+(jA n (f9 V ks)+0+(0+0))<=_;lia
  ·rw[e];show 1+(jA n (f9 V ks)+0+0)<=_;lia
  ·rw[e];show 1+(0+(jA n (f9 V ks)+0+0))<=_;lia
def G5:xb yk qw (.tup []) (.tup [f9 (vP m k) ks])=JO (ad8 ks.length 5&&ad8 m 4) 1 none:=by unfold xb;rw[show nD yk qw=J by ext,show lG (lF yk++lF qw) (.tup [])=J by ext];show JO (J&&(row 5 lR (f9 (vP m k) ks)&&J)) 1 (JO (!lJ 60 ((0+(jA 5 (f9 (vP m k) ks)+0):Nat):Int)) 2 af)=_;rw[NK,G4,cR,bX];have h:=Kw (V:=vP m k) (n:=5) (ks:=ks);rw[show lJ 60 ((0+(jA 5 (f9 (vP m k) ks)+0):Nat):Int)=a7 from by cases e:lJ 60 ((0+(jA 5 (f9 (vP m k) ks)+0):Nat):Int)with|false=>rfl|true=>have:=eF.mp e;lia];rfl
def Uv:xb yk qw (.tup []) (.tup [])=none:=by ext
theorem GI:∀m k,gQ (vP m k)<=20*(m+1)|0,0=>by ext|m+1,0=>by have:=GI m 0;show 1+(4+(gQ (vP m 0)+0))<=_;lia|0,1=>by ext|m+1,1=>by have:=GI m 1;show 1+(5+(gQ (vP m 1)+(gQ sd+0)))<=_;rw[show gQ sd=7 by ext];lia|0,_+2=>by show 8<=20;decide|m+1,k+2=>by have:=GI m (k+2);show 1+(5+(2+(gQ (vP m (k+2))+0)))<=_;lia
theorem Fp:∀m k,kL (vP m k)=J|0,0=>rfl|m+1,0=>by show(J&&(kL (vP m 0)&&J))=J;rw[Fp m 0];rfl|0,1=>rfl|m+1,1=>by show(J&&(kL (vP m 1)&&(kL sd&&J)))=J;rw[Fp m 1];rfl|0,_+2=>rfl|m+1,k+2=>by show(J&&(J&&(kL (vP m (k+2))&&J)))=J;rw[Fp m (k+2)];rfl
def acx:∀{k:Nat},gQ (Ph X k)<=gQ X+30/\(kL X=J->kL (Ph X k)=J)|0=>⟨by show 1+(3+(gQ sd+(1+(gQ X+0)+(1+0+0))))<=_;rw[show gQ sd=7 by ext];lia,λh=>by show(J&&(kL sd&&(kL X&&J&&(J&&J))))=J;rw[h];rfl⟩|1=>⟨by show 1+(6+(gQ sd+(1+(gQ X+0)+0)))<=_;rw[show gQ sd=7 by ext];lia,λh=>by show(J&&(kL sd&&(kL X&&J&&J)))=J;rw[h];rfl⟩|2=>⟨by show 1+(4+(1+(gQ X+0)+(2+(1+0+0))))<=_;lia,λh=>by show(J&&(kL X&&J&&(J&&(J&&J))))=J;rw[h];rfl⟩|k+3=>⟨by show 1+(4+(1+0+(2+(1+(gQ X+0)+0))))<=_;lia,λh=>by show(J&&(J&&(J&&(kL X&&J&&J))))=J;rw[h];rfl⟩
theorem N2{V:Pv}(h:kL V):∀{ks:List Nat},gQ (f9 V ks)<=gQ V+30*(ks.length+1)/\kL (f9 V ks)=J|[]=>⟨by show 1+(5+(gQ V+0))<=_;lia,by show(J&&(kL V&&J))=J;rw[h];rfl⟩|k::ks=>by obtain⟨g,H⟩:=N2 h (ks:=ks);obtain⟨i,e⟩:=acx (X:=f9 V ks) (k:=k);rw[qd];exact⟨by rw[ao];lia,e H⟩
def UP(H:m<=5000)(e:ks.length<=5000):dz (qz [f9 (vP m k) ks])=true:=by obtain⟨g,h⟩:=N2 (Fp m k) (ks:=ks);have i:=GI m k;unfold dz;rw[show kL (qz [f9 (vP m k) ks])=J by show(J&&(J&&(J&&(kL (f9 (vP m k) ks)&&J&&J))))=J;rw[h];rfl];refine ap.mpr ?_;show 1+(gQ yk+(gQ qw+(1+0+(1+(gQ (f9 (vP m k) ks)+0)+0))))<=1000000;rw[show gQ yk=5 by ext,show gQ qw=7 by ext];lia
def ac0(h:m<4)(H:k<3):Up (vP m k)=true:=(show ∀m,m<4->∀k,k<3->Up (vP m k)=J by ext) m h k H
noncomputable def Af(ls:List Str):Str:=ah5 "\n" ls++"\n"
def Mf:("\n":Str)=⟨#[10]⟩:=aT.mp (by ext)
theorem FP:∀{ws:List Str},ws ≠[]->ab8 ⟨#[10]⟩ (ws++[⟨#[]⟩])=ab8 ⟨#[10]⟩ ws++⟨#[10]⟩|[],h=>absurd rfl h|[w],_=>da (by show(ab8 ⟨#[10]⟩ (w::⟨#[]⟩::[])).cps.toList=_;rw[dv,fc];rfl)|w::x::ws,_=>da (by have i:=FP (ws:=x::ws) (by simp);show(ab8 ⟨#[10]⟩ (w::x::(ws++[⟨#[]⟩]))).cps.toList=_;rw[dv];show _++10::(ab8 ⟨#[10]⟩ (x::ws++[⟨#[]⟩])).cps.toList=_;rw[i,fc,fc,dv,aA];rfl)
def zW(h:ls ≠[]):Af ls=ab8 ⟨#[10]⟩ (ls++[⟨#[]⟩]):=by unfold Af;rw[vX,Mf,FP h]
def Uc(h:ls ≠[])(hn:∀l∈ls,pD 10 l=J):dk (Af ls)=mh ls:=by
 have e:dk (Af ls)=mh (ac9 (Af ls) "\n"):=rfl;rw[e,zW h,Mf,vL (c:=10) (by simp) λx H=>?_,dS,show mh [⟨#[]⟩]=[]by ext,aM];rcases bf.mp H with H|H;·exact g7.mp (hn x H)
 ·rw[aQ.mp H];exact λz=>by cases z
def LR(h:ls ≠[]):Bk ls=Af ls:=by rw[zW h];unfold Bk;rw[vX,Mf];exact u9 10 ls
structure G(ls:List Str):Prop where
 nl:∀l∈ls,pD 10 l=J
 rw:(mh ls).all yQ=J
def G.app(x:G a)(y:G b):G (a++b):=⟨λl h=>(bf.mp h).elim (x.nl l) (y.nl l),by rw[dS,cy,x.rw,y.rw];rfl⟩
def G.left(x:G (a++b)):G a:=⟨λl h=>x.nl l (cP _ h),by have:=x.rw;rw[dS,cy]at this;exact(ag this).1⟩
def G.right(x:G (a++b)):G b:=⟨λl h=>x.nl l (aR _ h),by have:=x.rw;rw[dS,cy]at this;exact(ag this).2⟩
def K2(h:oa w ws)(n:pD 10 (gf (w::ws)))(r:yQ (wl (w::ws))):G [ind d++gf (w::ws)]:=⟨λl H=>by rw[aQ.mp H];exact dE (kh (by ext)) n,by rw[cc h,bh,r];rfl⟩
def wJ(e:bA z (gf (w::ws)))(h:(oa w ws&&(pD 10 (gf (w::ws))&&yQ (wl (w::ws))))):G [ind d++z]:=by rw[aT.mp e];obtain⟨H,h⟩:=ag h;obtain⟨g,i⟩:=ag h;exact K2 H g i
def UX:G [ind d++"try"]:=wJ (w:="try") (ws:=[]) (by ext) (by ext)
def A1:G [ind d++"end"]:=wJ (w:="end") (ws:=[]) (by ext) (by ext)
def K1:G [ind d++"catch x"]:=wJ (w:="catch") (ws:=["x"]) (by ext) (by ext)
def afn:∀{k:Nat},G (rJ (ind d) k)|0=>wJ (w:="if") (ws:=["box","x"]) (by ext) (by ext)|1=>wJ (w:="while") (ws:=["box","x"]) (by ext) (by ext)|2=>UX|k+3=>G.app UX K1
def afo:∀{k:Nat},G (pQ (ind d) k)|0=>A1|1=>A1|2=>G.app K1 A1|k+3=>A1
theorem A2{mid:List Str}(h:G mid):∀{ks:List Nat}{d:Nat},G (oJ ks d mid)|[],_=>h|k::ks,d=>afn.app ((A2 h).app afo)
noncomputable def mB:List Str->Nat|[]=>0|l::ls=>l.length+1+mB ls
theorem iG:∀{a b:List Str},mB (a++b)=mB a+mB b|[],_=>(sM _).symm|l::a,b=>by show l.length+1+mB (a++b)=l.length+1+mB a+mB b;rw[iG];lia
theorem VV:∀{ls:List Str},(ls.map (·.length)).sum+ls.length=mB ls|[]=>rfl|l::ls=>by have:=VV (ls:=ls);rw[aY,List.sum_cons,ao];show _=l.length+1+mB ls;lia
theorem VY:∀{ls:List Str},(ab8 ⟨#[10]⟩ (ls++[⟨#[]⟩])).cps.toList.length=mB ls|[]=>rfl|[l]=>by show(ab8 ⟨#[10]⟩ (l::⟨#[]⟩::[])).cps.toList.length=_;rw[dv,ae,ao,bJ];rfl|l::x::ls=>by have i:=VY (ls:=x::ls);show(ab8 ⟨#[10]⟩ (l::x::(ls++[⟨#[]⟩]))).cps.toList.length=_;rw[dv,ae,ao,bJ];show l.length+((ab8 ⟨#[10]⟩ (x::ls++[⟨#[]⟩])).cps.toList.length+1)=l.length+1+mB (x::ls);rw[i];lia
def Ov(h:ls ≠[]):(Af ls).length=mB ls:=by rw[zW h,<-VY,bJ];rfl
def jN(h:z.length<=20):(ind d++z).length<=32:=by have:=tT (d:=d);rw[cX];lia
def VW:∀{k:Nat},mB (rJ (ind d) k)<=66|0=>by have:=jN (d:=d) (z:="if box x") (by ext);show _+1+0<=66;lia|1=>by have:=jN (d:=d) (z:="while box x") (by ext);show _+1+0<=66;lia|2=>by have:=jN (d:=d) (z:="try") (by ext);show _+1+0<=66;lia|k+3=>by have:=jN (d:=d) (z:="try") (by ext);have:=jN (d:=d) (z:="catch x") (by ext);show _+1+(_+1+0)<=66;lia
def VX:∀{k:Nat},mB (pQ (ind d) k)<=66|0=>by have:=jN (d:=d) (z:="end") (by ext);show _+1+0<=66;lia|1=>by have:=jN (d:=d) (z:="end") (by ext);show _+1+0<=66;lia|2=>by have:=jN (d:=d) (z:="end") (by ext);have:=jN (d:=d) (z:="catch x") (by ext);show _+1+(_+1+0)<=66;lia|k+3=>by have:=jN (d:=d) (z:="end") (by ext);show _+1+0<=66;lia
theorem N3{mid:List Str}:∀{ks:List Nat}{d:Nat},mB (oJ ks d mid)<=mB mid+132*ks.length|[],_=>dq _ _|k::ks,d=>by have h1:=VW (d:=d) (k:=k);have h2:=VX (d:=d) (k:=k);have h:=N3 (mid:=mid) (ks:=ks) (d:=d+1);show mB (rJ (ind d) k++(oJ ks (d+1) mid++pQ (ind d) k))<=_;rw[iG,iG,ao];lia
def gi(h:pD 116 z\/pD 108 z):my (ind d++z)=ind d++z:=by
 have e:dH "tell" (ind d++z)=false:=by
  rcases h with h|h;·exact yV (c:=116) (by ext) (g7.mp (dE (kh (by ext)) h))
  ·exact yV (c:=108) (by ext) (g7.mp (dE (kh (by ext)) h))
 unfold my w8;rw[e];exact da (by rw[fc,fc];show _++[]++[]=_;rw[aM,aM])
def gh(h:pD 49 z)(H:pD 122 z):nu (ind d++z)=ind d++z:=by unfold nu;rw[vA (c:=49) (by ext) (g7.mp (dE (kh (by ext)) h)),vA (c:=122) (by ext) (g7.mp (dE (kh (by ext)) H))]
def Ma:∀{k:Nat},(rJ (ind d) k).map my=rJ (ind d) k/\(rJ (ind d) k).map nu=rJ (ind d) k|0=>⟨bU (λz=>[z]) (gi (.inl (by ext))),bU (λz=>[z]) (gh (by ext) (by ext))⟩|1=>⟨bU (λz=>[z]) (gi (.inl (by ext))),bU (λz=>[z]) (gh (by ext) (by ext))⟩|2=>⟨bU (λz=>[z]) (gi (.inr (by ext))),bU (λz=>[z]) (gh (by ext) (by ext))⟩|k+3=>⟨by show[my _,my _]=_;rw[gi (.inr (by ext)),gi (.inr (by ext))];rfl,by show[nu _,nu _]=_;rw[gh (by ext) (by ext),gh (by ext) (by ext)];rfl⟩
def Mb:∀{k:Nat},(pQ (ind d) k).map my=pQ (ind d) k/\(pQ (ind d) k).map nu=pQ (ind d) k|0=>⟨bU (λz=>[z]) (gi (.inl (by ext))),bU (λz=>[z]) (gh (by ext) (by ext))⟩|1=>⟨bU (λz=>[z]) (gi (.inl (by ext))),bU (λz=>[z]) (gh (by ext) (by ext))⟩|2=>⟨by show[my _,my _]=_;rw[gi (.inr (by ext)),gi (.inl (by ext))];rfl,by show[nu _,nu _]=_;rw[gh (by ext) (by ext),gh (by ext) (by ext)];rfl⟩|k+3=>⟨bU (λz=>[z]) (gi (.inl (by ext))),bU (λz=>[z]) (gh (by ext) (by ext))⟩
theorem zc{mid:List Str}:∀{ks:List Nat}{d:Nat},(oJ ks d mid).map my=oJ ks d (mid.map my)/\(oJ ks d mid).map nu=oJ ks d (mid.map nu)
 |[],_=>⟨rfl,rfl⟩|k::ks,d=>by
  obtain⟨h,H⟩:=zc (mid:=mid) (ks:=ks) (d:=d+1);constructor;·show(rJ (ind d) k++(oJ ks (d+1) mid++pQ (ind d) k)).map my=_;rw[aV,aV,h,Ma.1,Mb.1];rfl
  ·show(rJ (ind d) k++(oJ ks (d+1) mid++pQ (ind d) k)).map nu=_;rw[aV,aV,H,Ma.2,Mb.2];rfl
def Oo:my (hU d (gj m k))=ind d++gf ("tell"::(eS m k++[("box":Str)])):=by
 have e:dH "tell" (hU d (gj m k))=true:=by unfold hU;rw[show("tell ":Str)="tell"++" "from aT.mp (by ext),tM,tM];exact QP
 unfold my w8;rw[e,qJ];show ind d++gf ("tell"::eS m k)++cY " " 1++cY "box" 1=ind d++gf (("tell":Str)::eS m k++[("box":Str)]);rw[fw (by simp) (by simp),tM,tM];congr 2
def lX:∀m k,hV m k ≠[]|0,0=>by simp[hV]|_+1,0=>by simp[hV]|0,1=>by simp[hV]|_+1,1=>by simp[hV]|0,_+2=>by simp[hV]|_+1,_+2=>by simp[hV]
def OE(m:Nat):Nat->Str|0=>cY "not " m++"number"|1=>cY "plus " m++"number"++cY " box x" m|_=>cY "item l " m++"size"
theorem kX:∀m k,OE m k=gf (hV m k)|0,0=>aT.mp (by ext)|m+1,0=>by show"not "++cY "not " m++"number"=gf ([("not":Str)]++hV m 0);rw[fw (by simp) (lX m 0),<-kX m 0,tM,<-tM (gf _)];congr 1|0,1=>aT.mp (by ext)|m+1,1=>by show"plus "++cY "plus " m++"number"++(" box x"++cY " box x" m)=gf ([("plus":Str)]++(hV m 1++Ce));rw[fw (by simp) (by simp[lX m 1]),fw (lX m 1) (by simp[Ce]),<-kX m 1,<-qB " box x" m,<-tM (gf _),show gf ["plus"]++" "="plus "from aT.mp (by ext),show" "++gf Ce=" box x"from aT.mp (by ext)];show _="plus "++(cY "plus " m++"number"++cY " box x" m++" box x");exact da (by simp only[fc,aA])|0,_+2=>(aT.mp (by ext):OE 0 2=gf ["size"])|m+1,k+2=>by show"item l "++cY "item l " m++"size"=gf ([("item":Str),"l"]++hV m (k+2));rw[fw (by simp) (lX m (k+2)),<-kX m (k+2),tM,<-tM (gf _)];congr 1
def Z2{X:Str}(h:ws ≠[])(e:X=gf ws):ind d++("tell "++X)=ind d++gf ("tell"::ws):=by show _=ind d++gf ([("tell":Str)]++ws);rw[e,fw (by simp) h,<-tM (gf _)];congr 2
def NF:nu (hU d (gj m k))=ind d++gf ("tell"::hV m k):=by have ni:∀{c:Nat},pD c "  "=J->pD c "tell "=J->∀{z:Str},pD c z=J->c∉(ind d++"tell "++z).cps.toList:=λ{c}H j{z}q=>g7.mp (dE (dE (kh H) j) q);have g:∀{c:Nat}{x:Str}{y:List Nat},c∉x.cps.toList->c∉y->c∉x.cps.toList++y:=λa b h=>(bf.mp h).elim a b;have i:∀{c:Nat}{x:Str}{y:List Nat},c∉y->c∉x.cps.toList->c∉y++x.cps.toList:=λa b h=>(bf.mp h).elim a b;unfold hU nu;match k with|0=>have e:ind d++"tell "++gj m 0=ind d++"tell "++cY "not " m++("number 1"++⟨#[]⟩):=da (by show(ind d++"tell "++(cY "not " m++"number 1")).cps.toList=_;simp only[fc,aA];rfl);rw[e,zC (c:=49) (y1:=[110,117,109,98,101,114,32]) (y2:=[]) (by ext) (g (ni (by ext) (by ext) (fP (by ext))) (by ext)) (by ext)];have E:ind d++"tell "++cY "not " m++("number"++⟨#[]⟩)=ind d++("tell "++OE m 0):=da (by show _=(ind d++("tell "++(cY "not " m++"number"))).cps.toList;simp only[fc,aA];rfl);rw[E,vA (c:=122) (by ext) (by rw[<-tM];exact ni (by ext) (by ext) (dE (fP (by ext)) (by ext)))];exact Z2 (lX m 0) (kX m 0)|1=>have e:ind d++"tell "++gj m 1=ind d++"tell "++cY "plus " m++("number 1"++cY " box x" m):=da (by show(ind d++"tell "++(cY "plus " m++"number 1"++cY " box x" m)).cps.toList=_;simp only[fc,aA]);rw[e,zC (c:=49) (y1:=[110,117,109,98,101,114,32]) (y2:=[]) (by ext) (g (ni (by ext) (by ext) (fP (by ext))) (by ext)) (i (by ext) (g7.mp (fP (by ext))))];have E:ind d++"tell "++cY "plus " m++("number"++cY " box x" m)=ind d++("tell "++OE m 1):=da (by show _=(ind d++("tell "++(cY "plus " m++"number"++cY " box x" m))).cps.toList;simp only[fc,aA]);rw[E,vA (c:=122) (by ext) (by rw[<-tM];exact ni (by ext) (by ext) (dE (dE (fP (by ext)) (by ext)) (fP (by ext))))];exact Z2 (lX m 1) (kX m 1)|k+2=>have e:ind d++"tell "++gj m (k+2)=ind d++"tell "++cY "item l " m++("size l"++⟨#[]⟩):=da (by show(ind d++"tell "++(cY "item l " m++"size l")).cps.toList=_;simp only[fc,aA];rfl);rw[vA (y:="number 1") (c:=49) (by ext) (ni (z:=gj m (k+2)) (by ext) (by ext) (dE (fP (by ext)) (by ext)))];rw[e,zC (c:=122) (y1:=[115,105]) (y2:=[101,32,108]) (by ext) (g (ni (by ext) (by ext) (fP (by ext))) (by ext)) (by ext)];have E:ind d++"tell "++cY "item l " m++("size"++⟨#[]⟩)=ind d++("tell "++OE m (k+2)):=da (by show _=(ind d++("tell "++(cY "item l " m++"size"))).cps.toList;simp only[fc,aA];rfl);rw[E];exact Z2 (lX m (k+2)) (kX m (k+2))
def wm(w:Str):Bool:=gw w&&(pD 10 w&&(gW (.str w)&&aa5 w.length 10))
def ME(h:ws.all wm):ws.all gw=true:=aS.mpr λw H=>(ag (aS.mp h w H)).1
theorem Eb:∀{ws:List Str},ws.all wm=J->pD 10 (gf ws)/\(gf ws).length<=11*ws.length|[],_=>⟨by ext,bG _⟩|[w],h=>by obtain⟨_,H,_,g⟩:=kI (ag h).1;exact⟨H,aH (ap.mp g) (by show 10<=11;decide)⟩|w::x::ws,h=>by obtain⟨i,h⟩:=ag h;obtain⟨_,H,_,g⟩:=kI i;obtain⟨I,j⟩:=Eb (ws:=x::ws) h;have e:gf (w::x::ws)=w++(" "++gf (x::ws)):=fw (ws:=[w]) (by simp) (by simp);rw[e];refine⟨dE H (dE (by ext) I),?_⟩;rw[cX,cX,ao];have:=ap.mp g;have:(" ":Str).length=1:=rfl;lia
def FD(h:ws.all wm)(l:ws.length<=90000):G [ind d++gf ("tell"::ws)]/\mB [ind d++gf ("tell"::ws)]<=11*ws.length+30:=by
 have H:(("tell":Str)::ws).all wm=true:=by rw[bh,h];decide+kernel
 obtain⟨e,g⟩:=Eb H;refine⟨K2 ?_ e ?_,?_⟩;·show((("tell":Str)::ws).all gw&&!Txt.startswith "tell" "#")=J;rw[ME H];decide+kernel
 ·show((("tell":Str)::ws).map Pv.str).all gW&&aa5 ((("tell":Str)::ws).map Pv.str).length oz;rw[mE,ak,ap.mpr (show(("tell":Str)::ws).length<=oz by rw[ao];show _<=1000000;lia),bX];exact aS.mpr λw i=>(kI (aS.mp H w i)).2.2.1
 ·have:=tT (d:=d);show(ind d++gf ("tell"::ws)).length+1+0<=_;rw[cX];rw[ao]at g;lia
theorem lN:∀m k,(eS m k).all wm=J/\(eS m k).length<=3*m+2|0,0=>⟨by ext,by ext⟩|m+1,0=>by obtain⟨a,b⟩:=lN m 0;exact⟨by show(wm "not"&&(eS m 0).all wm)=J;rw[a];decide+kernel,by show(eS m 0).length+1<=_;lia⟩|0,1=>⟨by ext,by ext⟩|m+1,1=>by obtain⟨a,b⟩:=lN m 1;exact⟨by show(wm "plus"&&(eS m 1++Ce).all wm)=J;rw[cy,a];decide+kernel,by show(eS m 1++Ce).length+1<=_;rw[ae];show _+2+1<=_;lia⟩|0,_+2=>⟨by show[("size":Str),"l"].all wm=J;decide+kernel,by show 2<=_;lia⟩|m+1,k+2=>by obtain⟨a,b⟩:=lN m (k+2);exact⟨by show(wm "item"&&(wm "l"&&(eS m (k+2)).all wm))=J;rw[a];decide+kernel,by show(eS m (k+2)).length+1+1<=_;lia⟩
theorem qx:∀m k,(hV m k).all wm=J/\(hV m k).length<=3*m+2|0,0=>⟨by ext,by ext⟩|m+1,0=>by obtain⟨a,b⟩:=qx m 0;exact⟨by show(wm "not"&&(hV m 0).all wm)=J;rw[a];decide+kernel,by show(hV m 0).length+1<=_;lia⟩|0,1=>⟨by ext,by ext⟩|m+1,1=>by obtain⟨a,b⟩:=qx m 1;exact⟨by show(wm "plus"&&(hV m 1++Ce).all wm)=J;rw[cy,a];decide+kernel,by show(hV m 1++Ce).length+1<=_;rw[ae];show _+2+1<=_;lia⟩|0,_+2=>⟨by show[("size":Str)].all wm=J;decide+kernel,by show 1<=_;lia⟩|m+1,k+2=>by obtain⟨a,b⟩:=qx m (k+2);exact⟨by show(wm "item"&&(wm "l"&&(hV m (k+2)).all wm))=J;rw[a];decide+kernel,by show(hV m (k+2)).length+1+1<=_;lia⟩
noncomputable def cp:List Str:=["box x 7","list l 1 2"]
noncomputable def s2:Rp:=⟨1,[.tup [.str "x",.int 7]],[.tup [.str "l",.tup [.int 1,.int 2]]],[],[],[]⟩
def A9:ind 0++z=z:=da (by rw[fc];rfl)
def ju:mh ["box x 7"]=[wl ["box","x","7"]]:=by rw[<-A9 (z:="box x 7"),show("box x 7":Str)=gf ["box","x","7"]from aT.mp (by ext),cc (by ext)]
def im:mh ["list l 1 2"]=[wl ["list","l","1","2"]]:=by rw[<-A9 (z:="list l 1 2"),show("list l 1 2":Str)=gf ["list","l","1","2"]from aT.mp (by ext),cc (by ext)]
def aal:G cp:=by
 have h:G ["box x 7"]:=by rw[<-A9 (z:="box x 7")];exact wJ (w:="box") (ws:=["x","7"]) (by ext) (by ext)
 have H:G ["list l 1 2"]:=by rw[<-A9 (z:="list l 1 2")];exact wJ (w:="list") (ws:=["l","1","2"]) (by ext) (by ext)
 exact h.app H
def zj{n:Int}(h:ab2 z=O n):oK (.str z)=.int n:=by show(match ab2 z with|some n=>Pv.int n|none=>.non)=_;rw[h]
def Tf:Run s0 (mh cp) (O s2):=by have e:mh cp=mh ["box x 7"]++mh ["list l 1 2"]:=dS (a:=["box x 7"]) (b:=["list l 1 2"]);rw[e,ju,im];have h:=Pd (v:="box") (r:=[.str "x",.str "7"]) (s:=s0) (.box (.mk rfl rfl (by ext) (by ext)));have b2:=Pd (v:="list") (r:=[.str "l",.str "1",.str "2"]) (s:={s0 with sec:=0,bs:=s0.bs++[.tup [.str "x",oK (.str "7")]]}) (.list (.mk rfl rfl (by ext) (by ext)));have g:=h.app b2;rw[show[Pv.str "1",.str "2"].map oK=[.int 1,.int 2]by rw[aY,aY,zj (n:=1) (by ext),zj (n:=2) (by ext)];rfl,zj (z:="7") (n:=7) (by ext)]at g;exact g
def JN(h:n<=50000):Hk n s2:=⟨rfl,by show 0+n<=_;lia,by show 0<1000;decide⟩
structure Tx(ls:List Str)(o:Option Rp):Prop where
 sm:mB (cp++ls)<=800000rows:(dk (Af (cp++ls))).all yQ=J
 run:Run s0 (dk (Af (cp++ls))) o
def Ow(g:G ls)(s:mB ls<=799900)(r:Run s2 (mh ls) o):Tx ls o:=by
 have hn:cp++ls ≠[]:=by unfold cp;simp
 have g2:=aal.app g;have e:=Uc hn g2.nl;refine⟨?_,by rw[e];exact g2.rw,by rw[e,dS];exact Tf.app r⟩;rw[iG,show mB cp=19 by ext];lia
def rZ(ks:List Nat)(m k:Nat):List Str:=oJ ks 0 [hU ks.length (gj m k)]
def Hq(o:Option Rp):Prop:=o=af\/∃s,o=O s/\s.ops ≠[]
def WD(r:Run s2 (mh ls) o)(b:Hq o):ls ≠[]:=λe=>by
 subst e;have r:Run s2 [] o:=r;cases r;rcases b with b|⟨s,b,n⟩;·cases b
 ·cases b;exact n rfl
def Vd(h:m<=5000):G [hU d (gj m k)]/\mB [hU d (gj m k)]<=200000:=by obtain⟨a,b⟩:=lN m k;rw[qJ];obtain⟨g,e⟩:=FD (d:=d) a (by lia);exact⟨g,by lia⟩
def D1:Ok n [hU d (gj m k)] (f9 (vP m k) []):=YK
def Ke(h:n=ks.length):Ok n (rZ ks m k) (f9 (vP m k) ks):=by subst h;exact(zl (n:=0) D1).up (by lia)
def zL(H:ks.length<=4000)(h:mB mid<=200000):mB (oJ ks 0 mid)<=799000:=by have:=N3 (mid:=mid) (ks:=ks) (d:=0);lia
noncomputable def sG(X:Pv):Rp:=⟨3,[.tup [.str "x",.int 7]],[.tup [.str "l",.tup [.int 1,.int 2]]],[],[X],[]⟩
def Xq(h:m<=5000)(H:ks.length<=4000):Tx (rZ ks m k) (O (sG (f9 (vP m k) ks))):=by obtain⟨e,g⟩:=Vd (k:=k) (d:=ks.length) h;exact Ow (A2 e) (aH (zL H g) (by ext)) (Ke rfl s2 (JN (by lia)))
def Aw(h:oa "tell" ws=J)(e:∀s,Hk n s->pX s (.str "tell"::ws.map .str) af):OW n [ind d++gf ("tell"::ws)]:=λs H=>by rw[cc h];exact .no (e s H)
def T7:OW n [my (hU d (gj m k))]:=by
 rw[Oo];refine Aw ?_ λs h=>?_;·show(gw "tell"&&(eS m k++[("box":Str)]).all gw&&!Txt.startswith "tell" "#")=J;rw[cy,wa];decide+kernel
 ·have t:=(vw m k).val [.str "box"];have l:=pX.mk (Sub.row (wA.tell h.sec t (by have:=h.top;lia)));rw[aV];exact l
def SY:OW n [nu (hU d (gj m k))]:=by
 rw[NF];refine Aw ?_ λs h=>?_;·show(gw "tell"&&(hV m k).all gw&&!Txt.startswith "tell" "#")=J;rw[ME (qx m k).1];decide+kernel
 ·exact pX.mk (Sub.row (wA.no h.sec (ZG m k)))
def RQ:dH "catch" (hU d (gj m k))=false:=by unfold hU;rw[tM];exact pE (.inl (dE (by ext) (Ut (by ext))))
def Oq:∀{k:Nat},pQ (ind d) k ≠[]|0=>by simp[pQ]|1=>by simp[pQ]|2=>by simp[pQ]|_+3=>by simp[pQ]
def LO(h:Hk n s):∀{k:Nat},∃s',Run (UZ k (kJ s) [X]) (mh (pQ (ind d) k).dropLast) (O s')/\s'.ops ≠[]|0=>⟨_,.nil,by simp[UZ]⟩|1=>⟨_,.nil,by simp[UZ]⟩|2=>by refine⟨{kJ s with ops:=([.p (.str "try"),.l [X],.p (.str "x")],[])::(kJ s).ops},?_,by simp⟩;show Run _ (mh [ind d++"catch x"]) _;rw[em];exact Pd (v:="catch") (r:=[.str "x"]) (.cat (.ok rfl))|k+3=>⟨_,.nil,by simp[UZ]⟩
def V8(D:m<=5000)(t:ks.length<=4000)(w:O0 (rZ ks m k) ls):ls=[]/\Tx ls (O s2)\/ls ≠[]/\∃o,Tx ls o/\Hq o:=by
 obtain⟨E,I⟩:=Vd (k:=k) (d:=ks.length) D;have i:G (rZ ks m k):=A2 E;have S:mB (rZ ks m k)<=799000:=zL t I;have R:=Ke (ks:=ks) (m:=m) (k:=k) rfl s2 (JN (by lia));have fin:∀{ls:List Str}{o:Option Rp},G ls->mB ls<=799900->Run s2 (mh ls) o->Hq o->ls=[]/\Tx ls (O s2)\/ls ≠[]/\∃o,Tx ls o/\Hq o:=λg s r b=>.inr ⟨WD r b,_,Ow g s r,b⟩;have F:∀{ls:List Str}{n:Nat},n<=50000->G ls->mB ls<=799900->OW n ls->ls=[]/\Tx ls (O s2)\/ls ≠[]/\∃o,Tx ls o/\Hq o:=λhn g s b=>fin g s (b s2 (JN hn)) (.inl rfl)
 generalize H:rZ ks m k=B at w;cases w with|more=>
  rw[<-H];have u:G [("end":Str)]:=by rw[<-A9 (z:="end")];exact A1
  refine fin (o:=af) (i.app u) (by rw[iG,show mB [("end":Str)]=4 by ext];lia) ?_ (.inl rfl);rw[dS];refine R.app ?_;rw[<-A9 (z:="end"),en];exact rc (v:="end") (r:=[]) (.fin (.no0 rfl))|cat=>
  rw[<-H];have u:G [("catch x":Str)]:=by rw[<-A9 (z:="catch x")];exact K1
  refine fin (o:=af) (i.app u) (by rw[iG,show mB [("catch x":Str)]=8 by ext];lia) ?_ (.inl rfl);rw[dS];refine R.app ?_;rw[<-A9 (z:="catch x"),em];exact rc (v:="catch") (r:=[.str "x"]) (.cat (.no rfl))|@cut a b l L=>rw[H]at i S;have g2:G (a++([l]++b)):=i;have s2:mB (a++([l]++b))<=799000:=S;rw[iG,iG]at s2;exact F (by lia) (g2.left.app g2.right.right) (by rw[iG];lia) (Fn RQ (D1 (n:=0)) L H)|tel=>rw[<-H];unfold rZ;rw[zc.1];obtain⟨a,b⟩:=lN m k;obtain⟨q,g2⟩:=FD (d:=ks.length) (ws:=eS m k++[("box":Str)]) (by rw[cy,a];decide+kernel) (by rw[ae];show _+1<=_;lia);rw[<-Oo]at q g2;rw[ae]at g2;have g2:mB [my (hU ks.length (gj m k))]<=11*((eS m k).length+1)+30:=g2;exact F (n:=0+ks.length) (by lia) (A2 q) (aH (zL t (by show mB [my _]<=_;lia)) (by ext)) (yj T7)|rep=>rw[<-H];unfold rZ;rw[zc.2];obtain⟨a,b⟩:=qx m k;obtain⟨q,g2⟩:=FD (d:=ks.length) a (by lia);rw[<-NF]at q g2;exact F (n:=0+ks.length) (by lia) (A2 q) (aH (zL t (by show mB [nu _]<=_;lia)) (by ext)) (yj SY)|last=>rw[<-H];have g2:G (rZ ks m k).dropLast:=⟨λl h=>i.nl l (A7 _ h),aS.mpr λx C=>by refine aS.mp i.rw x ?_;unfold mh at C⊢;obtain⟨Q,M⟩:=gq.mp C;obtain⟨z,N,P⟩:=bL.mp Q;exact gq.mpr ⟨bL.mpr ⟨z,A7 _ N,P⟩,M⟩⟩;cases ks with|nil=>exact .inl ⟨rfl,Ow g2 (by show 0<=_;lia) .nil⟩|cons j ks=>
   have e:(rZ (j::ks) m k).dropLast=rJ (ind 0) j++(oJ ks 1 [hU (ks.length+1) (gj m k)]++(pQ (ind 0) j).dropLast):=by show(rJ (ind 0) j++(oJ ks 1 [hU (ks.length+1) (gj m k)]++pQ (ind 0) j)).dropLast=_;rw[G8 (by simp[Oq]),G8 Oq]
   have st:=JN (n:=0+ks.length+1) (by rw[ao]at t;lia);obtain⟨s',T,W⟩:=LO (d:=0) (X:=f9 (vP m k) ks) (k:=j) st;refine fin (o:=O s') g2 ?_ ?_ (.inr ⟨s',rfl,W⟩)
   ·have:rZ (j::ks) m k=rJ (ind 0) j++(oJ ks 1 [hU (ks.length+1) (gj m k)]++pQ (ind 0) j):=rfl;rw[this,iG,iG]at S;rw[e,iG,iG];have:mB (pQ (ind 0) j).dropLast<=66:=by match j with|0=>exact bG _|1=>exact bG _|2=>have:=jN (d:=0) (z:="catch x") (by ext);show _+1+0<=66;lia|j+3=>exact bG _
    lia
   ·rw[e,dS,dS];exact(ED st).app ((zl (n:=0) (ks:=ks) (d:=1) D1 _ st.in_).app T)
section
variable{X:Nat->Prop}
def KJ(H:m<=5000)(e:ks.length<=4000)(c:(ad8 ks.length 5&&ad8 m 4))(h:K (qz [f9 (vP m k) ks])):rF (O (sG (f9 (vP m k) ks))) K X:=by show gd (dz (qz [f9 (vP m k) ks])) (iw (xb yk qw (.tup []) (.tup [f9 (vP m k) ks])) X (K (qz [f9 (vP m k) ks])));refine ay (UP H (by lia)) ?_;rw[G5,c];exact h
def Qu(H:m<=5000)(e:ks.length<=4000)(c:(ad8 ks.length 5&&ad8 m 4)=a7)(h:X 1):rF (O (sG (f9 (vP m k) ks))) K X:=by show gd (dz (qz [f9 (vP m k) ks])) (iw (xb yk qw (.tup []) (.tup [f9 (vP m k) ks])) X (K (qz [f9 (vP m k) ks])));refine ay (UP H (by lia)) ?_;rw[G5,c];exact h
def Qt(h:K (qz [])):rF (O s2) K X:=by show gd (dz (qz [])) (iw (xb yk qw (.tup []) (.tup [])) X (K (qz [])));refine ay (by ext) ?_;rw[Uv];exact h
def Qs(b:Hq o)(h:X 4):rF o K X:=by
 rcases b with rfl|⟨s,rfl,n⟩;·exact h
 ·unfold rF;dsimp only;cases e:s.ops with|nil=>exact absurd e n|cons x y=>exact h
def abc(ws:List Str):oH ws=gf ws:=by unfold oH gf;rw[vX,Ka]
theorem Ux:∀m k,wo (vP m k)=eS m k|0,0=>by show[("number":Str)]++([ac5 (toString (1:Int))]++[])=_;rw[show ac5 (toString (1:Int))="1"from aT.mp (by ext)];rfl|m+1,0=>by show[("not":Str)]++(wo (vP m 0)++[])=_;rw[Ux m 0,aM];rfl|0,1=>by show[("number":Str)]++([ac5 (toString (1:Int))]++[])=_;rw[show ac5 (toString (1:Int))="1"from aT.mp (by ext)];rfl|m+1,1=>by show[("plus":Str)]++(wo (vP m 1)++(wo sd++[]))=_;rw[Ux m 1,aM];rfl|0,_+2=>rfl|m+1,k+2=>by show[("item":Str)]++([("l":Str)]++(wo (vP m (k+2))++[]))=_;rw[Ux m (k+2),aM];rfl
def aa0(h:d<6):ind (d+1)=ind d++"  ":=by unfold ind;rw[jn (by lia),jn (by lia),qB];rfl
theorem Ku:∀{ks:List Nat}{d:Nat},d+ks.length<=6->uD (vP m k) ks (ind d)=oJ ks d [hU (d+ks.length) (gj m k)]
 |[],d,_=>by show[ind d++Js (vP m k)]=[hU d (gj m k)];unfold Js;rw[Ux,abc,qJ]|j::ks,d,h=>by
  have h:d+(ks.length+1)<=6:=h;have i:=Ku (ks:=ks) (d:=d+1) (by lia);rw[aa0 (by lia)]at i;have e:hU (d+(j::ks).length) (gj m k)=hU (d+1+ks.length) (gj m k):=by rw[ao,show d+(ks.length+1)=d+1+ks.length by lia]
  rw[e];have q:oH ["if","box","x"]="if box x":=aT.mp (by ext);have t:oH ["while","box","x"]="while box x":=aT.mp (by ext);have I:oH ["try"]="try":=aT.mp (by ext);have g:wG="catch x":=aT.mp (by ext);match j with|0=>show(ind d++oH ["if","box","x"])::(uD (vP m k) ks (ind d++"  ")++[ind d++"end"])=_;rw[i,q];rfl|1=>show(ind d++oH ["while","box","x"])::(uD (vP m k) ks (ind d++"  ")++[ind d++"end"])=_;rw[i,t];rfl|2=>show(ind d++oH ["try"])::(uD (vP m k) ks (ind d++"  ")++[ind d++wG,ind d++"end"])=_;rw[i,I,g];rfl|j+3=>show(ind d++oH ["try"])::(ind d++wG)::(uD (vP m k) ks (ind d++"  ")++[ind d++"end"])=_;rw[i,I,g];rfl
def UK:JD="box x 7":=aT.mp (by ext)
def Vc:LS="list l 1 2":=aT.mp (by ext)
def ac1(h:ks.length<5):Bk (JD::LS::uD (vP m k) ks "")=Af (cp++rZ ks m k):=by rw[LR (by simp),UK,Vc,show("":Str)=ind 0 from aT.mp (by ext),Ku (by lia),sM];rfl
def i_:Bk [JD,LS]=Af (cp++[]):=by rw[LR (by simp),UK,Vc];rfl
end
end W2
namespace F
open L2
def Ms.afg{Γ:Gm}{t:Tb}{P:cf}{w:b7}{K:Frag}{a:b'}{b:Heap}{x l:Str}{st:Stmt}{ps N:List Str}{k:Nat}{C:Ct}{S:Sx}{f:Addr}{j:dL}(B:Ms Γ t)(z:Bool)(u:JX K x l st f j)(F:dD N ps (aL st))(g:Gk Γ t k S P w K a b)(L:B.ck (S.at N (aL st) a7) (cb st)=J)(n:∀ds h Q d,C ds h Q d->ds.length=ps.length/\B.m (gR z h.length Q λ_ _=>False) (oY N.length ds) h):je P w K a b CB (k+2) f j ps (iH ⟨K,a,t⟩ C):=by refine u.ok F (λv H Q E ⟨G,M,h,ds,D,d,r,i,c,_,_⟩=>by rw[<-i.len];exact(n _ _ _ _ c).1) λW A o s H v Q E R ⟨G,M,h,ds,D,d,r,i,c,out,T⟩=>?_;refine⟨_,B.ps (Γ:=Γ) (t:=t) (k:=k) (S:=S.at N (aL st) a7) (E:=λ_ _ _=>False) ⟨Gk.okx (X:=(oE CB P w K a b N l (aL st) f W A o s H E).Vl) g rfl rfl rfl (λp σ H s e U I ⟨_,_,_,_,_,q⟩=>q.elim) R (λh=>by cases h),F.nd,λy _=>.inl rfl,tK,F.kind,g.exc⟩ L,?_⟩;exact⟨G,M,_,h,_,uR r (vO N i) out λ_ _ _ _ _ _ q=>q.elim,(n _ _ _ _ c).2⟩
end F
namespace W2
open L2 F
variable{ca:Nat->Addr}{W:Wd}{w:b7}{K:Frag}{mg:b'}{h:Heap}{ks:List Nat}{m k n:Nat}{ls ps:List Str}{a f R C1 C2 C3 C4 C5 C6 C7 C8 C9 CW av ar al C:Addr}{l:OpenLaw}{x b1:Str}{oc doc pm dW ct:Value}{od an:Option Addr}{tD:Array (Option Value)}{t:Tok}{r:List (Str×List Str)}{es:Array fy}{fI:Nat->Str}{cd:ClassData}
abbrev WQ:Ct:=Hr Lz λ_=>.bl J
noncomputable def qb:List Str:=["_law_script","_law_state_here","_law_within","_law_deep","_law_many","_law_body","_law_wrong_here","_law_text","_law_due","_law_turn","_law_found"]
inductive LA(x:Pv):Es->Hs->Prop|mk(n:Int)(d m:Nat)(i j:Int)(v:Option Dv)(hn:zM n)(hi:i=((d+1:Nat):Int))(hj:j=((m+1:Nat):Int))(hd:d<=1700)(hm:m<=1800):LA x [O (.p x),O (.r 0),v,O (.p (.int i)),O (.p (.int j)),af,af,af,af,af,af] [.lst [.int n]]
inductive LB(x:Pv):Es->Hs->Prop|mk(n:Int)(ks:List Nat)(m k:Nat)(ls:List Str)(b:Bool)(v:Option Dv)(hn:zM n)(hd:ks.length<=1700)(hm:m<=1800)(hk:k<3)(h:b=a7/\ls=rZ ks m k\/b/\O0 (rZ ks m k) ls):LB x [O (.p x),O (.r 0),v,O (.p (.int ((ks.length+1:Nat):Int))),O (.p (.int ((m+1:Nat):Int))),O (.p (.lst (ls.map .str))),O (.p (.bl b)),af,af,af,af] [.lst [.int n]]
inductive JW(ls:List Str):Str->Prop|row{o:Option Rp}(t:Tx ls o)(e:∀K:Pv->Prop,K (.str "row")->rF o (λx=>K (.lst [x])) (O_ K)):JW ls "row"|text{o:Option Rp}(t:Tx ls o)(e:∀K:Pv->Prop,K (.str "text")->rF o (λx=>K (.lst [x])) (O_ K)):JW ls "text"|prog{o:Option Rp}{p:Pv}(t:Tx ls o)(e:∀K:Pv->Prop,K (.lst [p])->rF o (λx=>K (.lst [x])) (O_ K))(w:∀(Q:Dv->Hs->Prop)(xc:XP),Q (.p (.str (Af (cp++ls)))) []->CZ [.p p] [] Q xc):JW ls ""
inductive LD(x:Pv):Es->Hs->Prop|mk(n:Int)(ls:List Str)(z:Str)(v2 v3 v4 v6:Option Dv)(h1:ls ≠[]->JW ls z)(h2:ls=[]->JW ls ""):LD x [O (.p x),O (.r 0),v2,v3,v4,O (.p (.lst (ls.map .str))),v6,O (.p (.str (Af (cp++ls)))),O (.p (.str z)),af,af] [.lst [.int n]]
inductive LC(x:Pv):Es->Hs->Prop|mk(n:Int)(ls:List Str)(z:Str)(v2 v3 v4 v5 v6 v9 v10:Option Dv)(h:JW ls z):LC x [O (.p x),O (.r 0),v2,v3,v4,v5,v6,O (.p (.str (Af (cp++ls)))),O (.p (.str z)),v9,v10] [.lst [.int n]]
def KI(d:ks.length<=1700)(b:m<=1800)(H:k<3)(c:(ad8 ks.length 5&&ad8 m 4)):JW (rZ ks m k) "":=.prog (Xq (by lia) (by lia)) (λK h=>KJ (by lia) (by lia) c h) λQ X q=>.one (bg (ag c).1) (ac0 (bg (ag c).2) H) (by rw[ac1 (bg (ag c).1)];exact q)
def Fx(H:ks.length<=1700)(b:m<=1800)(c:(ad8 ks.length 5&&ad8 m 4)=a7):JW (rZ ks m k) "row":=.row (Xq (by lia) (by lia)) λK h=>Qu (by lia) (by lia) c (.inl ⟨rfl,h⟩)
def xt(H:ks.length<=1700)(c:m<=1800)(w:O0 (rZ ks m k) ls):ls=[]/\JW ls ""\/ls ≠[]/\JW ls "text":=by
 rcases V8 (by lia) (by lia) w with ⟨rfl,t⟩|⟨h,o,t,b⟩;·exact .inl ⟨rfl,.prog t (λK h=>Qt h) λQ X q=>.nil (by rw[i_];exact q)⟩
 ·exact .inr ⟨h,.text t λK h=>Qs b (.inr ⟨rfl,h⟩)⟩
def WH(H:ks.length<=1700)(b:m<=1800):rZ ks m k ≠[]:=by cases ks with|nil=>simp[rZ,oJ]|cons j ks=>intro e;have:rJ (ind 0) j++(oJ ks 1 [hU (ks.length+1) (gj m k)]++pQ (ind 0) j)=[]:=e;exact Oq (jT.mp (jT.mp this).2).2
def Kc{a b:Nat}(h:b<=a):ad8 a b=false:=by cases e:ad8 a b with|false=>rfl|true=>have:=bg e;lia
def N4{l:Str}(h:l∈ls):l.length<=mB ls:=by induction ls with|nil=>cases h|cons x ls i=>
  show _<=x.length+1+mB ls;rcases aJ.mp h with rfl|h;·lia
  ·have:=i h;lia
theorem Va{mid:List Str}{c:Nat}(b:66<=c)(h:∀l∈mid,l.length<=c):∀{ks:List Nat}{d:Nat},∀l∈oJ ks d mid,l.length<=c
 |[],_,l,H=>h l H|k::ks,d,l,H=>by
  have H:l∈rJ (ind d) k++(oJ ks (d+1) mid++pQ (ind d) k):=H;rcases bf.mp H with H|H;·have:=N4 H;have:=VW (d:=d) (k:=k);lia
  rcases bf.mp H with H|H;·exact Va b h l H
  ·have:=N4 H;have:=VX (d:=d) (k:=k);lia
theorem Vb{mid:List Str}:∀{ks:List Nat}{d:Nat},(oJ ks d mid).length<=mid.length+4*ks.length|[],_=>dq _ _|k::ks,d=>by have h1:=FF (a:=ind d) (k:=k);have h2:=GV (a:=ind d) (k:=k);have H:=Vb (mid:=mid) (ks:=ks) (d:=d+1);show(rJ (ind d) k++(oJ ks (d+1) mid++pQ (ind d) k)).length<=_;rw[ae,ae,ao];lia
def θ(H:ks.length<=1700):(rZ ks m k).length<=50000:=by have:=Vb (mid:=[hU ks.length (gj m k)]) (ks:=ks) (d:=0);rw[show[hU ks.length (gj m k)].length=1 from rfl]at this;unfold rZ;lia
def η(c:ks.length<=1700)(e:m<=1800):∀l∈rZ ks m k,l.length<=100000:=by refine Va (by ext) λl H=>?_;rw[aQ.mp H,qJ];obtain⟨a,b⟩:=lN m k;have:=(FD (d:=ks.length) a (by lia)).2;have h:(ind ks.length++gf ("tell"::eS m k)).length+1+0<=11*(eS m k).length+30:=this;lia
def Ψ(B:LX ca W){fd:dL}(F0:JX W.K "law" "law" (top 108) f fd)(D57:DX ca W 57 2 E9)(D58:DX ca W 58 2 ux)(D59:DX ca W 59 2 se)(D61:DX ca W 61 2 Hw)(D62:DX ca W 62 3 Ht)(D63:DX ca W 63 3 Hx)(D64:DX ca W 64 31 AA)(D28:DX ca W 28 16 CZ):je W.P W.w W.K W.mg W.base CB 32 f fd ["_law_script"] (iH ((Lx ca).y W) WQ):=by
 have hf:All (Lx ca) W 31 [(57,E9),(58,ux),(59,se),(61,Hw),(62,Ht),(63,Hx),(64,AA),(28,CZ)]:=⟨D57.up rfl,D58.up rfl,D59.up rfl,D61.up rfl,D62.up rfl,D63.up rfl,D64,D28.up rfl,trivial⟩;let b:Ms ((Lx ca).G [(57,E9),(58,ux),(59,se),(61,Hw),(62,Ht),(63,Hx),(64,AA),(28,CZ)] []) (Lx ca).t:=.seq (.set 1 (.cl 58 [] (.u2 (.cl 57 [] (.u2 (.v 0) (.c (.int 0)))) (.c (.int 1))))) (.seq (.set 2 (.cl 59 [0] (.u2 (.v 1) (.c (.int 2))))) (.seq (.set 3 (.ix (.lst (.u2 (.b2 cW (.c (.int 1)) (.cl 59 [0] (.u2 (.v 1) (.c (.int 80))))) (.b2 cW (.c (.int 1)) (.cl 59 [0] (.u2 (.v 1) (.c (.int 5))))))) (.v 2))) (.seq (.set 4 (.ix (.lst (.u2 (.b2 cW (.c (.int 1)) (.cl 59 [0] (.u2 (.v 1) (.c (.int 200))))) (.b2 cW (.c (.int 1)) (.cl 59 [0] (.u2 (.v 1) (.c (.int 4))))))) (.v 2))) (.cut (.iff (.cmp jZ (.cl 59 [0] (.u2 (.v 1) (.c (.int 6)))) (.c (.int 0))) (.one (.unp [3,4] (.ix (.lst (.u2 (.tup (.u2 (.v 3) (.b2 cW (.v 4) (.c (.int 1500))))) (.tup (.u2 (.b2 cW (.v 3) (.c (.int 1500))) (.v 4))))) (.cl 59 [0] (.u2 (.v 1) (.c (.int 2))))))) .nil) (.seq (.set 5 (.cl 62 [0] (.u3 (.v 1) (.v 3) (.cl 61 [] (.u2 (.v 4) (.cl 59 [0] (.u2 (.v 1) (.c (.int 3))))))))) (.seq (.set 6 (.cmp jZ (.cl 59 [0] (.u2 (.v 1) (.c (.int 3)))) (.c (.int 0)))) (.cut (.iff (.val (.v 6)) (.one (.set 5 (.cl 63 [0] (.u2 (.v 5) (.v 1))))) .nil) (.seq (.set 7 (.b2 cW (.mt Yq (.c (.str "\n")) (.u (.b2 cW (.lst (.u2 (.c (.str "box x 7")) (.c (.str "list l 1 2")))) (.v 5)))) (.c (.str "\n")))) (.seq (.set 8 (.c (.str "text"))) (.cut (.iff (.not (.val (.v 6))) (.one (.set 8 (.ix (.lst (.u2 (.c (.str "")) (.c (.str "row")))) (.bi Xg (.u (.bo (Bm.oc (.cmp Fc (.v 3) (.c (.int 5))) (Bm.o1 (.cmp Fc (.v 4) (.c (.int 4))))))))))) .nil) (.cut (.iff (.cmp jZ (.v 5) (.lst .nil)) (.one (.set 8 (.c (.str "")))) .nil) (.seq (.fo (.one 9) (.r (.u (.c (.int 2)))) (.seq (.set 10 (.cl 64 [] (.u (.v 7)))) (.seq (.iff (.bo (Wm.ac (.cmp Kj (.v 8) (.c (.str ""))) (Wm.a1 (.cmp Kj (.v 10) (.v 8))))) (.one (.ret (.c (.bl a7)))) .nil) (.one (.iff (.bo (Wm.ac (.cmp jZ (.v 8) (.c (.str ""))) (Wm.a1 (.bo (Wm.oc (.not (.val (.bi o8 (.u2 (.v 10) (.ty 4))))) (Wm.o1 (.cmp Kj (.cl 28 [] (.u (.ix (.v 10) (.c (.int 0))))) (.v 7)))))))) (.one (.ret (.c (.bl a7)))) .nil))))) (.one (.ret (.c (.bl J))))))))))))))));have la:(US qb ["_law_script"] (aL (top 108))&&b.ck ((Lx ca).S.at qb (aL (top 108)) a7) (cb (top 108)))=true:=rfl;refine b.afg (N:=qb) J F0 (mV (ag la).1) (B.gk (k:=30) (Ao.of hf.at) trivial) (ag la).2 λds h Q xc c=>?_;refine xB (b:=λN σ h=>b.m N σ h) (λx Q xc hx q=>?_) ds h Q (λ_ _=>False) (show WQ ds h Q λ_ _=>False from c);have q:Q (.p (.bl J)) []:=q;refine ay (by show(Lz x&&J)=J;rw[hx];rfl) λi n hn=>?_;refine ay (Ml hn rfl) λn1 w A hw=>?_;have hw:w<2:=by have:(w:Int)<2:=hw;lia
 refine ay (Ml A rfl) λn2 a1 QR T=>ay (Ml QR rfl) λn3 D s U=>?_;have T:a1<80:=by have:(a1:Int)<80:=T;lia
 have U:D<5:=by have:(D:Int)<5:=U;lia
 refine cN (x:=.int (1+((cond (aa3 w 0) a1 D:Nat):Int))) ?_ ?_;·match w,hw with|0,_=>rfl|1,_=>rfl
 refine ay (Ml s rfl) λn4 X E Xr=>ay (Ml E rfl) λn5 b2 hn5 Y=>?_;have Xr:X<200:=by have:(X:Int)<200:=Xr;lia
 have Y:b2<4:=by have:(b2:Int)<4:=Y;lia
 refine cN (x:=.int (1+((cond (aa3 w 0) X b2:Nat):Int))) ?_ ?_;·match w,hw with|0,_=>rfl|1,_=>rfl
 have H:cond (aa3 w 0) a1 D<=80:=by cases aa3 w 0<;>(show _<=80;lia)
 have g:cond (aa3 w 0) X b2<=200:=by cases aa3 w 0<;>(show _<=200;lia)
 generalize cond (aa3 w 0) a1 D=d0 at H⊢;generalize cond (aa3 w 0) X b2=m0 at g⊢;refine ad5 (LA x) (af0 ?_ ?_)
 ·refine ay (Ml hn5 rfl) λn6 t Z _=>?_;refine c6 (λ_=>?_) λ_=>.mk n6 d0 m0 _ _ _ Z (by lia) (by lia) (by lia) (by lia);refine ay (Ml Z rfl) λn7 u hn7 hu=>?_;have hu:u<2:=by have:(u:Int)<2:=hu;lia
  match u,hu with|0,_=>exact .mk n7 d0 (m0+1500) _ _ _ hn7 (by lia) (by lia) (by lia) (by lia)|1,_=>exact .mk n7 (d0+1500) m0 _ _ _ hn7 (by lia) (by lia) (by lia) (by lia)
 ·intro I h' L;cases L with|mk n d m i j v hn hi hj H g=>
  subst hi;subst hj;refine ay (Ml hn rfl) λn1 k A M=>?_;have M:k<3:=by have:(k:Int)<3:=M;lia
  refine Hw.mk (by lia) (Ht.mk (by lia) ?_ A λn2 ks QR hl h4=>?_);·obtain⟨w1,w2⟩:=lN m k;have:=(Eb w1).2;rw[qM];lia
  ·subst hl;refine ay (Ml QR rfl) λn3 t s _=>?_;refine ad5 (LB x) (af0 ?_ ?_);·refine c6 (λe=>?_) λe=>LB.mk n3 ks m k (rZ ks m k) (pP (.int (t:Nat)) (.int 0)) _ s H g M (.inl ⟨e,rfl⟩);exact Hx.mk (ls:=rZ ks m k) (θ H) (η H g) s λn4 ls E w=>LB.mk n4 ks m k ls (pP (.int (t:Nat)) (.int 0)) _ E H g M (.inr ⟨e,w⟩)
   ·intro I h' L;cases L with|mk n ks m k ls b v hn H g M h=>
    have hT:∃o,Tx ls o:=by
     rcases h with ⟨_,rfl⟩|⟨_,w⟩;·exact⟨_,Xq (by lia) (by lia)⟩
     ·rcases V8 (by lia) (by lia) w with ⟨_,t⟩|⟨_,o,t,_⟩;·exact⟨_,t⟩
      ·exact⟨_,t⟩
    obtain⟨o,hT⟩:=hT;have sm:=hT.sm;clear hT o;have sl:=VV (ls:=cp++ls);have e1:[.str "box x 7",.str "list l 1 2"]++ls.map Pv.str=(cp++ls).map Pv.str:=by rw[aV];rfl
    have ll:(cp++ls).length=2+ls.length:=by rw[ae];rfl
    refine ay (show iz (2+(ls.map Pv.str).length)=J from ui (by rw[ak];show _<=1000000;lia)) ?_;rw[e1];refine cN Po (ay (ap.mpr (show((cp++ls).map (·.length)).sum+(cp++ls).length*1<=16777216 by lia)) (ay (ui ?_) ?_));·have:=Ov (ls:=cp++ls) (by unfold cp;simp);unfold Af at this;rw[cX]at this;rw[this];exact aH sm (by ext)
    ·refine ad5 (LD x) (af0 ?_ ?_)
     ·rcases h with ⟨rfl,rfl⟩|⟨rfl,w⟩
      ·have nb:rZ ks m k=[]->JW (rZ ks m k) "":=λe=>absurd e (WH H g);refine c6 (λc=>?_) λc=>?_;·have c:lJ 5 ((ks.length+1:Nat):Int)=true:=c;have c:=eF.mp c;exact LD.mk n _ "row" _ _ _ _ (λ_=>Fx H g (by rw[show ad8 ks.length 5=a7 from Kc (by lia)];rfl)) nb
       ·have c:lJ 5 ((ks.length+1:Nat):Int)=false:=c;have c:ad8 ks.length 5=true:=eU (by have:=bw.mp c;rw[Ne,eF]at this;lia);cases c2:lJ 4 ((m+1:Nat):Int)with|true=>have c3:=eF.mp c2;refine cN (x:=.str "row") (show wB [Pv.str "",.str "row"] (F.b2 (lJ 4 ((m+1:Nat):Int)))=_ by rw[c2];rfl) ?_;exact LD.mk n _ "row" _ _ _ _ (λ_=>Fx H g (by rw[show ad8 m 4=a7 from Kc (by lia),nW])) nb|false=>refine cN (x:=.str "") (show wB [Pv.str "",.str "row"] (F.b2 (lJ 4 ((m+1:Nat):Int)))=_ by rw[c2];rfl) ?_;have c4:ad8 m 4=true:=eU (by have:=bw.mp c2;rw[Ne,eF]at this;lia);exact LD.mk n _ "" _ _ _ _ (λ_=>KI H g M (by rw[c,c4];rfl)) nb
      ·refine LD.mk n ls "text" _ _ _ _ (λe=>?_) λe=>?_
       ·rcases xt H g w with ⟨z,_⟩|⟨_,z⟩;·exact absurd z e
        ·exact z
       ·rcases xt H g w with ⟨_,z⟩|⟨z,_⟩;·exact z
        ·exact absurd e z
     ·intro I h' L;cases L with|mk n ls z v2 v3 v4 v6 h1 h2=>
      refine ad5 (LC x) (af0 ?_ ?_);·cases ls with|nil=>exact LC.mk n [] "" _ _ _ _ _ _ _ (h2 rfl)|cons l ls=>exact LC.mk n (l::ls) z _ _ _ _ _ _ _ (h1 (by simp))
      ·intro I h' L;cases L with|mk n0 ls0 z0 D a3 a4 a5 a6 a9 a10 h0=>
       refine mU (λpre post σ h=>LC x σ h) (LC.mk n0 ls0 z0 D a3 a4 a5 a6 a9 a10 h0) (λpre y post σ h e j=>?_) λσ h j=>?_;·cases j with|mk n ls z v2 v3 v4 v5 v6 v9 v10 h=>
        have tl:∀{o:Option Rp},Tx ls o->(Af (cp++ls)).length<=900000:=λt=>by rw[Ov (by unfold cp;simp)];exact aH t.sm (by ext)
        cases h with|row t e=>exact AA.mk (tl t) t.rows t.run (e _ (LC.mk n ls "row" _ _ _ _ _ _ _ (.row t e)))|text t e=>exact AA.mk (tl t) t.rows t.run (e _ (LC.mk n ls "text" _ _ _ _ _ _ _ (.text t e)))|prog t e w=>refine AA.mk (tl t) t.rows t.run (e _ (w _ _ ?_));refine ι (show(!bA (Af (cp++ls)) (Af (cp++ls)))=a7 by rw[aT.mpr rfl];rfl) ?_;exact LC.mk n ls "" _ _ _ _ _ _ _ (.prog t e w)
       ·cases j with|mk n ls z v2 v3 v4 v5 v6 v9 v10 h=>exact q
def As{α:Type}(P:α->Prop):List α->Prop|[]=>True|x::r=>P x/\As P r
theorem jy{α:Type}{P:α->Prop}:∀{l:List α},As P l->∀x∈l,P x|[],_,_,h=>nomatch h|y::r,a,x,h=>(aJ.mp h).elim (λz=>z▸a.1) λz=>jy a.2 x z
structure Txt(w:b7)(K:Frag)(mg:b')(av ar al:Addr):Prop where
 z:As (λx=>mg x=af) WI
 lY:mg "ValueError"=af
 is:As (λp:Str×Int=>∃t,mg p.1=O (.int p.2 t)) [("MOST_LETTERS",6),("GREATEST",999999),("DEEPEST",4),("NO_ROW",-1),("MOST_BOXES",6),("MOST_LISTS",3),("MOST_THINGS",12),("MOST_FUNCTIONS",4),("MOST_NAMES",3),("DEEPEST_ROW",5),("MOST_NUMBERS",60),("MOST_FIGURES",6),("BOXES",0),("LISTS",1),("FUNCTIONS",2),("ROWS",3)]ah:∃t,mg "AHEAD"=O (.str "  " t)mv:mg "VALUE_FORMS"=O (.ref av)mr:mg "ROW_FORMS"=O (.ref ar)ml:mg "LINES"=O (.ref al)tv:Ar w K av λx=>lk x iA
 tr:Ar w K ar λx=>lk x fC
 tl:Aq w K mg (λi=>ac5 (i8 Xi "" i)) al λx=>(lk x Yp).map λn=>aa4 n ""
structure Wk(K:Frag)(mg:b')(x:Str)(C:Addr)(fs:List Str):Prop where
 m:mg x=O (.ref C)cl:L2.ET K C
 na:As (λf=>lr K C f) fs
noncomputable def rL(C1 C2 C3 CS C5 CW CR:Addr):Nat->Addr|0=>C1|1=>C2|2=>C3|3=>CS|4=>C5|5=>CW|_=>CR
def jx{i:Int}(h:∃t,W.mg x=O (.int i t)):∃u v,W.mg x=O u/\RelV v u/\∀G M H,bR (((Lx ca).y W).z G) M H (.int i) v:=let ⟨t,h⟩:=h;⟨_,.int i,h,⟨t,rfl⟩,λ_ _ _=>by unfold bR;rfl⟩
def Om{tab:Str->Option (List Str)}(T:Ar w K a tab):CI w K a tab:=by obtain⟨es,n,l,c,h⟩:=T.ex;refine⟨⟨es,n,l,c,λx=>?_⟩,T.lo⟩;have h:=h x;cases e:tab x with|none=>rw[e]at h;exact h|some ks=>rw[e]at h;obtain⟨b,H,o,i,m,d,g,_,j,p,q⟩:=h;exact⟨b,H,o,i,m,d,g,j,p,q⟩
def XB:List Str:=["boxes","lists","param_counts","may_return"]
def L5:List Str:=["words","place"]
noncomputable def NE:List Str:=["section","boxes","lists","functions","rows","opened"]
def abf{CS CR:Addr}{P:cf}{b:Heap}(T:Txt w K mg av ar al)(Z:OZ.V' K mg R C1 C2 C3 C4 C5 C6 C7 C8 C9)(E1:sU K C1)(E:sU K C3)(V:Wk K mg "Scope" CS XB)(v:Wk K mg "Words" CW L5)(j:Wk K mg "Reader" CR NE):Lk (Lx (rL C1 C2 C3 CS C5 CW CR)) ⟨P,w,K,mg,b⟩ where
 bl:=jy (P:=λx=>mg x=af) (l:=WI) T.z;gl:=by obtain⟨o,p,q,s,u,y,A,B,D,F,i,I,c,d,e,g,_⟩:=T.is;exact jy (l:=[0,1,2,3,4,5,6,7,8,9,10,11,12,13,14,15,16]) ⟨jx o,jx p,jx q,jx s,jx u,jx y,jx A,jx B,jx D,jx F,jx i,jx I,jx c,jx d,jx e,jx g,let ⟨t,h⟩:=T.ah;⟨_,.str "  ",h,⟨t,rfl⟩,λ_ _ _=>by unfold bR;rfl⟩,trivial⟩
 tab:=jy (l:=[0,1,100]) ⟨⟨av,T.mv,Om T.tv⟩,⟨ar,T.mr,Om T.tr⟩,⟨al,T.ml,T.tl⟩,trivial⟩;cls:=jy (l:=[3,5,6]) ⟨⟨V.cl,jy V.na,mZ rfl⟩,⟨v.cl,jy v.na,mZ rfl⟩,⟨j.cl,jy j.na,mZ rfl⟩,trivial⟩;exc:=jy (l:=[0,1,2,4]) ⟨⟨Z.m1,E1⟩,⟨Z.m2,Z.o2.exc⟩,⟨Z.m3,E⟩,⟨Z.m5,Z.o5.exc⟩,trivial⟩
def GL(K:Frag):Sp:=λv H Q _=>∃(a:Addr)(N:List Int),v=[.ref a]/\gN K H a (N.map V.int)/\∀b,Q (.bl J) b
theorem Lh{Z:F.Tx}{M:List Addr}{H:Hp}:∀N:List Int,aO Z M H (N.map .int) (N.map V.int)|[]=>by unfold aO;trivial|n::N=>by show aO Z M H (.int n::N.map .int) (V.int n::N.map V.int);unfold aO;exact⟨by unfold bR;rfl,Lh N⟩
def Yl{L:Lw}{vs:List V}{H:Hp}{Q:VK}{E:XK}(h:GL W.K vs H Q E):iH (L.y W) WQ vs H Q E:=by
 obtain⟨a,N,rfl,S,q⟩:=h;refine⟨[],[],[],[.p (.scr (N.map .int))],λd b=>d=.p (.bl J),λ_ _=>False,⟨ig,(λ_ h=>nomatch h),rfl,(λ_ h=>nomatch h),λi a o h=>by simp at h⟩,⟨?_,trivial⟩,ay ?_ rfl,?_,λ_ _ _ _ _ _ h=>h.elim⟩
 ·show bR _ _ _ _ _;unfold bR;refine⟨a,_,rfl,?_,Lh N⟩;rcases S with r|c;·exact .inl ⟨⟨(λh=>nomatch h),λh=>nomatch h⟩,r⟩
  ·exact .inr (.inr c)
 ·show(N.map Pv.int).all isInt=J;rw[mE];exact aS.mpr λ_ _=>rfl
 ·rintro d b M e v _ _ i rfl;rw[JU i];exact q e
def E5{α:Type}{f g:List Value->α}(hn:n<=5)(h:∀a b c d e,f ([a,b,c,d,e].take n)=g ([a,b,c,d,e].take n)):∀us:List Value,us.length=n->f us=g us|[],rfl=>h .none .none .none .none .none|[a],rfl=>h a .none .none .none .none|[a,b],rfl=>h a b .none .none .none|[a,b,c],rfl=>h a b c .none .none|[a,b,c,d],rfl=>h a b c d .none|[a,b,c,d,e],rfl=>h a b c d e|_::_::_::_::_::_::r,e=>by have:r.length+6=n:=e;omega
def ZS{st:Stmt}{kV:Value}(X:K.In h)(G:h.Ns b6 mg)(hn:ps.length<=5)(H:∀(kV doc pm:Value)(an:Option Addr)(dW ct a b c d e:Value),bindArgs (fnOf x x (fu st) (cb st) (aL st) .none kV doc pm an dW ct) ⟨[a,b,c,d,e].take ps.length,[]⟩=pure (ps.zip ([a,b,c,d,e].take ps.length)))(a:nsIn K b6 x=O (O (.ref f)))(l:K.lookup f=O ⟨oc,od,.func (fnOf x x (fu st) (cb st) (aL st) .none kV doc pm an dW ct),tD⟩)(c:codeIn K dW x)(k:keepIn K (.ref f)):Src K mg x st ps:=have F:=uZ (st:=st) l c k;⟨f,_,F,bj X G a,F.binds λkV doc pm an dW ct=>E5 hn (H kV doc pm an dW ct)⟩
def Tw{st:Stmt}{kV:Value}(hn:ps.length<=5)(H:∀(kV doc pm:Value)(an:Option Addr)(dW ct a b c d e:Value),bindArgs (fnOf "__init__" b1 (fu st) (cb st) (aL st) .none kV doc pm an dW ct) ⟨[a,b,c,d,e].take ps.length,[]⟩=pure (ps.zip ([a,b,c,d,e].take ps.length)))(a:findIn K (.ref C) "__init__"=O (O (.ref f)))(i:isFn K (.ref f))(l:K.lookup f=O ⟨oc,od,.func (fnOf "__init__" b1 (fu st) (cb st) (aL st) .none kV doc pm an dW ct),tD⟩)(c:codeIn K dW b1)(k:keepIn K (.ref f))(mk:makesIn K C)(g:keepIn K (.ref C)):sX K C b1 st ps:=have F:=uZ (st:=st) l c k;⟨f,_,F,⟨mk,a,i,g⟩,F.binds λkV doc pm an dW ct=>E5 hn (H kV doc pm an dW ct)⟩
def Tv{nm:Str}{st:Stmt}{kV:Value}(X:K.In h)(G:h.Ns b6 mg)(hn:ps.length<=5)(H:∀(kV doc pm:Value)(an:Option Addr)(dW ct a b c d e:Value),bindArgs (fnOf nm nm (fu st) (cb st) (aL st) .none kV doc pm an dW ct) ⟨[a,b,c,d,e].take ps.length,[]⟩=pure (ps.zip ([a,b,c,d,e].take ps.length)))(a:nsIn K b6 x=O (O (.ref f)))(l:K.lookup f=O ⟨oc,od,.func (fnOf nm nm (fu st) (cb st) (aL st) .none kV doc pm an dW ct),tD⟩)(c:codeIn K dW nm)(k:keepIn K (.ref f)):Ap K mg x nm st ps:=have F:=uZ (st:=st) l c k;⟨f,_,F,bj X G a,F.binds λkV doc pm an dW ct=>E5 hn (H kV doc pm an dW ct)⟩
def TB{st:Stmt}{kV:Value}(hn:ps.length<=5)(H:∀(kV doc pm:Value)(an:Option Addr)(dW ct a b c d e:Value),bindArgs (fnOf x b1 (fu st) (cb st) (aL st) .none kV doc pm an dW ct) ⟨[a,b,c,d,e].take ps.length,[]⟩=pure (ps.zip ([a,b,c,d,e].take ps.length)))(a:findIn K (.ref C) x=O (O (.ref f)))(i:isFn K (.ref f))(l:K.lookup f=O ⟨oc,od,.func (fnOf x b1 (fu st) (cb st) (aL st) .none kV doc pm an dW ct),tD⟩)(c:codeIn K dW b1)(k:keepIn K (.ref f)):sY K C x b1 st ps:=have F:=uZ (st:=st) l c k;⟨f,_,F,⟨a,i,k⟩,F.binds λkV doc pm an dW ct=>E5 hn (H kV doc pm an dW ct)⟩
def xi(w:b7)(K:Frag):List (Str×List Str)->List fy->Prop|[],[]=>True|(x,ks)::r,e::es=>(∃t b,e=⟨af1 w.params x,.str x t,.ref b⟩/\∃(o:Obj)(i:Array Value)(m:Nat),K.lookup b=O o/\o.cls=.type "tuple"/\o.dict=af/\o.data=.seq i m/\i.size<=sizeLine/\Vals (ks.map V.str) i.toList)/\xi w K r es|_,_=>False
def rkc{h:Int}{ks:List Str}{b:Addr}{es:List fy}{o:Obj}{its:Array Value}(e:h=af1 w.params x)(l:K.lookup b=O o)(c:o.cls=.type "tuple")(dn:o.dict=af)(d:o.data=.seq its m)(z:its.size<=sizeLine)(v:Vals (ks.map V.str) its.toList)(q:xi w K r es):xi w K ((x,ks)::r) (⟨h,.str x t,.ref b⟩::es):=by subst e;exact⟨⟨t,b,rfl,o,its,m,l,c,dn,d,z,v⟩,q⟩
theorem vD:∀{r:List (Str×List Str)}{es:List fy},xi w K r es->KeysLit w.params es|[],[],_=>trivial|_::_,_::_,⟨⟨_,_,e,_⟩,q⟩=>by subst e;exact⟨⟨_,_,rfl,rfl⟩,vD q⟩|[],_::_,q=>q.elim|_::_,[],q=>q.elim
theorem vE{x:Str}:∀{r:List (Str×List Str)}{es:List fy},xi w K r es->match lk x r with|some ks=>∃b,((es.find? λe=>ab5 x e.key).map (·.val))=O (.ref b)/\∃(o:Obj)(i:Array Value)(m:Nat),K.lookup b=O o/\o.cls=.type "tuple"/\o.dict=af/\o.data=.seq i m/\i.size<=sizeLine/\Vals (ks.map V.str) i.toList|none=>((es.find? λe=>ab5 x e.key).map (·.val))=af
 |[],[],_=>rfl|(y,ks)::r,_::es,⟨⟨t,b,e,Q⟩,q⟩=>by subst e;have I:=vE (x:=x) q;show match match bA x y with|true=>O ks|false=>lk x r with|some ks=>_|none=>_;cases e:bA x y with|true=>have e:=aT.mp e;subst e;exact⟨b,by rw[W_ (by show(x==x)=J;simp)];rfl,Q⟩|false=>
   have n:List.find? (λe=>ab5 x e.key) (⟨af1 w.params y,.str y t,.ref b⟩::es)=es.find? λe=>ab5 x e.key:=V_ λz=>by rw[aT.mpr (nE (show(y==x)=J from z)).symm]at e;cases e
   rw[n];exact I
 |[],_::_,q=>q.elim|_::_,[],q=>q.elim
def Z1(l:K.lookup a=O ⟨.type "dict",af,.dict es n,#[]⟩)(lo:(a==gt)=a7)(q:xi w K r es.toList):Ar w K a λx=>lk x r:=⟨⟨es,n,l,vD q,λx=>by have h:=vE (x:=x) q;unfold findBy;rw[<-Ag];exact h⟩,lo⟩
def xh(w:b7)(mg:b')(fI:Nat->Str):List (Str×Nat)->List fy->Prop|[],[]=>True|(x,n)::r,e::es=>(∃t f,e=⟨af1 w.params x,.str x t,.ref f⟩/\mg (fI n)=O (.ref f))/\xh w mg fI r es|_,_=>False
def rfc{h':Int}{r:List (Str×Nat)}{es:List fy}(X:K.In h)(G:h.Ns b6 mg)(e:h'=af1 w.params x)(a:nsIn K b6 (fI n)=O (O (.ref f)))(q:xh w mg fI r es):xh w mg fI ((x,n)::r) (⟨h',.str x t,.ref f⟩::es):=by subst e;exact⟨⟨t,f,rfl,bj X G a⟩,q⟩
theorem vB{fI:Nat->Str}:∀{r:List (Str×Nat)}{es:List fy},xh w mg fI r es->KeysLit w.params es|[],[],_=>trivial|_::_,_::_,⟨⟨_,_,e,_⟩,q⟩=>by subst e;exact⟨⟨_,_,rfl,rfl⟩,vB q⟩|[],_::_,q=>q.elim|_::_,[],q=>q.elim
theorem vC{fI:Nat->Str}{x:Str}:∀{r:List (Str×Nat)}{es:List fy},xh w mg fI r es->match(lk x r).map λn=>aa4 n ("":Str)with|some ks=>∃f,((es.find? λe=>ab5 x e.key).map (·.val))=O (.ref f)/\mg (fI ks.length)=O (.ref f)|none=>((es.find? λe=>ab5 x e.key).map (·.val))=af
 |[],[],_=>rfl|(y,n)::r,_::es,⟨⟨t,f,e,Q⟩,q⟩=>by subst e;have i:=vC (x:=x) q;show match(match bA x y with|true=>O n|false=>lk x r).map λn=>aa4 n ("":Str)with|some ks=>_|none=>_;cases e:bA x y with|true=>have e:=aT.mp e;subst e;exact⟨f,by rw[W_ (by show(x==x)=J;simp)];rfl,by rw[bV];exact Q⟩|false=>
   have n:List.find? (λe=>ab5 x e.key) (⟨af1 w.params y,.str y t,.ref f⟩::es)=es.find? λe=>ab5 x e.key:=V_ λz=>by rw[aT.mpr (nE (show(y==x)=J from z)).symm]at e;cases e
   rw[n];exact i
 |[],_::_,q=>q.elim|_::_,[],q=>q.elim
def T6{r:List (Str×Nat)}(l:K.lookup a=O ⟨.type "dict",af,.dict es n,#[]⟩)(lo:(a==gt)=a7)(q:xh w mg fI r es.toList):Aq w K mg fI a λx=>(lk x r).map λn=>aa4 n "":=⟨⟨es,n,l,vB q,λx=>by have h:=vC (x:=x) q;unfold findBy;rw[<-Ag];exact h⟩,lo⟩
def Yk{fa F:Addr}{CS CR:Addr}(X:K.In h)(G:h.Ns b6 mg)(o:mg "law"=O (.ref fa))(T:Txt w K mg av ar al)(Z:OZ.V' K mg R C1 C2 C3 C4 C5 C6 C7 C8 C9)(E1:sU K C1)(E3:sU K C3)(V:Wk K mg "Scope" CS XB)(Vw:Wk K mg "Words" CW L5)(Vr:Wk K mg "Reader" CR NE)(M0:sX K CS "Scope.__init__" (gn (top 42) 0) ["self","boxes","lists","param_counts","may_return"])(M1:sX K CW "Words.__init__" (gn (top 75) 0) ["self","words"])(M2:sX K CR "Reader.__init__" (gn (top 76) 0) ["self"])(M3:sY K CW "are_left" "Words.are_left" (gn (top 75) 1) ["self"])(M4:sY K CW "take" "Words.take" (gn (top 75) 2) ["self"])(M5:sY K CW "take_all" "Words.take_all" (gn (top 75) 3) ["self"])(S:Sg K mg){q A:Option Addr}{u:Array (Option Value)}{y b d p c g:Value}(a3:nsIn K b6 "law"=O (O (.ref F)))(l3:K.lookup F=O ⟨y,q,.func (fnOf "law" "law" (fu (top 108)) (cb (top 108)) (aL (top 108)) .none b d p A c g),u⟩)(c3:codeIn K c "law"=J)(k3:keepIn K (.ref F)):∃fd:dL,(∀(s:bv)(v:Value),BindsTo s fd ⟨[v],[]⟩ [("_law_script",v)])/\∀base:Heap,K.In base->base.Ns b6 mg->je l.prog w K mg base CB 32 fa fd ["_law_script"] (GL K):=by have e:=o.symm.trans (bj X G a3);cases e;have F3:=uZ (st:=top 108) l3 c3 k3;refine⟨fnOf "law" "law" (fu (top 108)) (cb (top 108)) (aL (top 108)) .none b d p A c g,λs v=>.of_eq rfl,λbase _ _=>?_⟩;have B:Lk (Lx (rL C1 C2 C3 CS C5 CW CR)) ⟨l.prog,w,K,mg,base⟩:=abf T Z E1 E3 V Vw Vr;have D9:=Dl B S (AO B S 4);have D:=KD B S;have i:=HH B S (iM B S 2 [(8,oV)] ⟨j7 B S,trivial⟩);have j:=wH B S (iM B S 1 [(6,du)] ⟨jF B S,trivial⟩);have L:=qg B S (iM B S 4 [(18,oU),(19,isList)] ⟨D.up rfl,i,trivial⟩) D i;have M:=qf B S (iM B S 3 [(20,iU)] ⟨j,trivial⟩) j;have R':=uL B S 5 (AJ B S D9 5);have D4:=HJ B S (uK B S 5);have N:=yD B S R' (Qh B M0 V.m);have P:=yG B S L M N D4;have U:=W4 B M3;have I:=W9 B M4 U;have t_:=AN B S I;have Y:=yI B S (uN B S I) t_;have B9:DX (rL C1 C2 C3 CS C5 CW CR) ⟨l.prog,w,K,mg,base⟩ 27 4 p6:=W3 (W:=⟨l.prog,w,K,mg,base⟩) T.mr T.tr S;have D52:=Dr B S B9 (AM B S U Y t_);have D53:=AK B S I U (Dp B S I) (AL B S I (uP B S (W8 B M5))) (yH B S I) (Dq B S) D52;have S':=W7 B S (W5 B M2 Vr.m) (AQ B S (W6 B M1 Vw.m)) D53 P;have D64:=Qf Z S' ((OZ.Qd ⟨T.z.2.1,T.lY⟩ Z S.BE).mono (by ext)) S;exact(Ψ B F3 (W0 B S) (Qi B S) (Dn B S) (Qj B S) (Qe B S) (Qk B S) D64 (HK B S B9)).imp λvs H Q E h=>Yl h
def Z5(X:K.In h)(G:h.Ns b6 mg){A B D E F H I L N P Q T b c d e g:Tok}(S:nsIn K b6 "len"=O af)(U:nsIn K b6 "isinstance"=O af)(Y:nsIn K b6 "all"=O af)(z3:nsIn K b6 "zip"=O af)(z4:nsIn K b6 "range"=O af)(z5:nsIn K b6 "list"=O af)(z6:nsIn K b6 "tuple"=O af)(z7:nsIn K b6 "str"=O af)(z8:nsIn K b6 "int"=O af)(z9:nsIn K b6 "bool"=O af)(z:nsIn K b6 "set"=O af)(Z:nsIn K b6 "dict"=O af)(j:nsIn K b6 "max"=O af)(o:nsIn K b6 "min"=O af)(p:nsIn K b6 "ValueError"=O af)(m0:nsIn K b6 "MOST_LETTERS"=O (O (.int 6 B)))(m1:nsIn K b6 "GREATEST"=O (O (.int 999999 D)))(m2:nsIn K b6 "DEEPEST"=O (O (.int 4 E)))(m3:nsIn K b6 "NO_ROW"=O (O (.int (-1) F)))(m4:nsIn K b6 "MOST_BOXES"=O (O (.int 6 H)))(m5:nsIn K b6 "MOST_LISTS"=O (O (.int 3 I)))(m6:nsIn K b6 "MOST_THINGS"=O (O (.int 12 L)))(m7:nsIn K b6 "MOST_FUNCTIONS"=O (O (.int 4 N)))(m8:nsIn K b6 "MOST_NAMES"=O (O (.int 3 P)))(m9:nsIn K b6 "DEEPEST_ROW"=O (O (.int 5 Q)))(M:nsIn K b6 "MOST_NUMBERS"=O (O (.int 60 T)))(q:nsIn K b6 "MOST_FIGURES"=O (O (.int 6 b)))(s:nsIn K b6 "BOXES"=O (O (.int 0 c)))(u:nsIn K b6 "LISTS"=O (O (.int 1 d)))(v:nsIn K b6 "FUNCTIONS"=O (O (.int 2 e)))(y:nsIn K b6 "ROWS"=O (O (.int 3 g)))(ma:nsIn K b6 "AHEAD"=O (O (.str "  " A)))(mv:nsIn K b6 "VALUE_FORMS"=O (O (.ref av)))(mr:nsIn K b6 "ROW_FORMS"=O (O (.ref ar)))(ml:nsIn K b6 "LINES"=O (O (.ref al)))(tv:Ar w K av λx=>lk x iA)(tr:Ar w K ar λx=>lk x fC)(tl:Aq w K mg (λi=>ac5 (i8 Xi "" i)) al λx=>(lk x Yp).map λn=>aa4 n ""):Txt w K mg av ar al:=⟨⟨bQ X G S,bQ X G U,bQ X G Y,bQ X G z3,bQ X G z4,bQ X G z5,bQ X G z6,bQ X G z7,bQ X G z8,bQ X G z9,bQ X G z,bQ X G Z,bQ X G j,bQ X G o,trivial⟩,bQ X G p,⟨⟨_,bj X G m0⟩,⟨_,bj X G m1⟩,⟨_,bj X G m2⟩,⟨_,bj X G m3⟩,⟨_,bj X G m4⟩,⟨_,bj X G m5⟩,⟨_,bj X G m6⟩,⟨_,bj X G m7⟩,⟨_,bj X G m8⟩,⟨_,bj X G m9⟩,⟨_,bj X G M⟩,⟨_,bj X G q⟩,⟨_,bj X G s⟩,⟨_,bj X G u⟩,⟨_,bj X G v⟩,⟨_,bj X G y⟩,trivial⟩,⟨_,bj X G ma⟩,bj X G mv,bj X G mr,bj X G ml,tv,tr,tl⟩
def LM{v:Value}:kitOne K v v=O true:=by unfold kitOne;rw[bx (eI _)]
def Ru{D:Addr}{b:Bool}(c:clsIn K D=O cd)(t:typeIn K (.ref D)=O (.type "type"))(s:subIn K (.ref C) (.ref D)=O b)(d:(ab0 C==ab0 D)=a7):kitOne K (.ref C) (.ref D)=O b:=by unfold kitOne kitCls;rw[bE (by rw[d];exact aK)];dsimp only;rw[bx (by rw[c,t];rfl)];exact s
def Yh(s:subIn K (.ref C) (.type "ValueError")=O J):kitOne K (.ref C) (.type "ValueError")=O true:=by unfold kitOne kitCls;rw[bE (show ¬(ab0 C==af3 "ValueError")=J from aK)];dsimp only;rw[bx (by ext)];exact s
def HR{a g:Value}{name:Str}(H:clsIn K C=O cd)(b:findIn K (.ref C) name=O (O a))(c:specialIn K a "__get__"=O (O g))(d:takesIn K a=O J):findObj K C af name=O (.bind g a):=by unfold findObj;rw[H,Option.bind_some,b,Option.bind_some];simp[c,d]
def YL{L:List Addr}{bs:List Bool}(b2:specialIn K (.builtin "object.__class__") "__get__"=O (O (.builtin "getset_descriptor.__get__")))(B:takesIn K (.builtin "object.__class__")=O J)(c:clsIn K C=O cd)(e:excIn K C F2 "ValueError.__new__"=J)(a1:findIn K (.ref C) "__getattribute__"=O (O (.builtin "BaseException.__getattribute__")))(A:findIn K (.ref C) "__getattr__"=O af)(d:findIn K (.ref C) "__class__"=O (O (.builtin "object.__class__")))(g:mroIn K C (.type "object")=O J)(i:subIn K (.ref C) (.type "BaseException")=O J)(s:subIn K (.ref C) (.ref R)=O J)(S:subIn K (.ref C) (.type "ValueError")=O J)(q:Paired (λD b=>kitOne K (.ref C) (.ref D)=O b) L bs):OZ.One K R C L bs:=⟨e,⟨a1,A,HR c d b2 B,g,i⟩,by rw[c];rfl,s,Yh S,q⟩
def Xe{c:ClassData}(X:K.In h)(G:h.Ns b6 mg)(N:nsIn K b6 "RunError"=O (O (.ref R)))(b:nsIn K b6 "NoProgram"=O (O (.ref C1)))(d:nsIn K b6 "NoRow"=O (O (.ref C2)))(e:nsIn K b6 "TooLong"=O (O (.ref C3)))(g:nsIn K b6 "NoWorld"=O (O (.ref C4)))(i:nsIn K b6 "NoText"=O (O (.ref C5)))(j:nsIn K b6 "NoStep"=O (O (.ref C6)))(o:nsIn K b6 "NoCell"=O (O (.ref C7)))(p:nsIn K b6 "NoDoor"=O (O (.ref C8)))(q:nsIn K b6 "NoWord"=O (O (.ref C9)))(H:typeIn K (.ref R)=O (.type "type"))(s:clsIn K R=O c)(u:subIn K (.ref R) (.type "BaseException")=O J)(v:OZ.One K R C2 [C1,C2,C3,C4,C5,C6,C7,C8,C9] [a7,J,a7,a7,a7,a7,a7,a7,a7])(y:OZ.One K R C5 [C1,C2,C3,C4,C5,C6,C7,C8,C9] [a7,a7,a7,a7,J,a7,a7,a7,a7]):OZ.V' K mg R C1 C2 C3 C4 C5 C6 C7 C8 C9:=⟨bj X G N,bj X G b,bj X G d,bj X G e,bj X G g,bj X G i,bj X G j,bj X G o,bj X G p,bj X G q,⟨H,by rw[s];rfl,u⟩,v,y⟩
def WX{fs:List Str}(X:K.In h)(G:h.Ns b6 mg)(m:nsIn K b6 x=O (O (.ref C)))(p:plainGet K C Str.empty)(H:hasDictIn K C)(P:plainOver K C)(s:findIn K (.ref C) "__setattr__"=O (O (.builtin "object.__setattr__")))(N:As (λf=>findIn K (.ref C) f=O af) fs):Wk K mg x C fs:=⟨bj X G m,⟨p,H,P,s⟩,N⟩
def nac{f:Str}{r:List Str}(h:findIn K (.ref C) f=O af)(t:As (λf=>findIn K (.ref C) f=O af) r):As (λf=>findIn K (.ref C) f=O af) (f::r):=⟨h,t⟩
def Qz(e:excIn K C F2 "ValueError.__new__"=J):sU K C:=e
def walk{q:cf}{L:List Str}{XP:b'->Heap->Prop}{Y:b7->Heap->Prop}{d:DefRec}{K:Params->Frag}(hn:l.most=O 63)(H:d.params.defaults=[])(e:∀(w:b7)(h:Heap),Y w h->(K w.params).In h)(F:∀(w:b7)(mg:b')(b:Addr)(h:Heap),(K w.params).In h->h.Ns b6 mg->mg d.name=O (.ref b)->∃c:dL,(∀(s:bv)(u:Value),BindsTo s c ⟨[u],[]⟩ [("_law_script",u)])/\∀base:Heap,(K w.params).In base->base.Ns b6 mg->je l.prog w (K w.params) mg base CB 32 b c ["_law_script"] (GL (K w.params))):WalkO q L XP Y l.row.toRowW d [] λf vs=>PySem.call f vs:=L2.Uw (n:=63) (k:=32) (x:="_law_script") (CX:=λ_=>CB) (sp:=λw=>GL (K w.params)) hn (by ext) H ⟨rfl,by ext,by ext⟩ e F (λ_ _ a N g _ S=>⟨a,N,rfl,S,λ_=>rfl⟩) λ_ _ _ _ _ z=>z
end W2
open PySem.W
namespace PySem.W.Fast
def tw791889434178023607:=0
def tw15971100850698602913:=0
def tw18189267386144502122:=0
def tw5354758993974717447:=0
def tw8551399219175635991:=0
def tw10646274023385896543:=0
def tw6513407102003610716:=0
def tw5253717546923635160:=0
def tw14122795843676284227:=0
def tw11077464260903003317:=0
def tw1141604341865227638:=0
def tw3432026185232923953:=0
def tw14497432740516788056:=0
def tw7268729514963545886:=0
def tw5182086406315021695:=0
def tw16791038605797177334:=0
def tw8258667703942327565:=0
def tw9614728287269829591:=0
def tw13714177685654656824:=0
def tw13836826471664103035:=0
def tw7173134959644536055:=0
def tw1162201352165806085:=0
def tw6117722709194108289:=0
def tw16398347869684166209:=0
def tw13332052227660090714:=0
def tw4091070891782466993:=0
def tw5010168275078066307:=0
def tw2136105230063905099:=0
def tw8944388821162510788:=0
def tw15092258180005815860:=0
def tw13375600339410063768:=0
def tw17587403788193697658:=0
def tw14834434502397616599:=0
def tw342657907772617083:=0
def tw15654506221091703029:=0
def tw3730761612484121991:=0
def tw11940606279555992972:=0
def tw562649259748366297:=0
def tw4702627866413754737:=0
def tw10408594217649773685:=0
def tw6838404487690560973:=0
def tw4281750206677981647:=0
def tw9411708549877989910:=0
def tw2543352106823758859:=0
def tw1791995971776656169:=0
def tw18387335357129632412:=0
def tw11086974682451709856:=0
def tw10054015087848539856:=0
def tw2870187800983803148:=0
def tw14652384120911230476:=0
def tw16481167291515909157:=0
def tw8016995964852870115:=0
def tw17478836701536153852:=0
def tw1917312789458460623:=0
def tw2711033134559690335:=0
def tw2091228436475501588:=0
def tw5743089729960746985:=0
def tw6643356995147033054:=0
def tw16604925815042723762:=0
def tw16079171356723352403:=0
def tw1738866521078667774:=0
def tw7694307586150424863:=0
def tw13348060717507599795:=0
def tw9309898691236649149:=0
def tw6057292842103851742:=0
def tw17705645785979287462:=0
def tw5267070560257149377:=0
def tw17705657607797508876:=0
def tw7392246453274094289:=0
def tw9143682925860388615:=0
def tw9221860670044216374:=0
def tw4267206513580759642:=0
def tw17725141095497000103:=0
def tw17141960291536926556:=0
def tw15682113174637600369:=0
def tw6162528583702020126:=0
def tw15083145648432941721:=0
def tw7386308118328080810:=0
def tw3808711507664318564:=0
def tw6060140389310741849:=0
def tw10328288743300448888:=0
def tw10699689070416031063:=0
def tw5470146987405631043:=0
def tw2569013157603337469:=0
def tw16602646853223516678:=0
def tw3278772034252976440:=0
def tw14987739175715159168:=0
def tw11272357897281093417:=0
def tw2897845795241670679:=0
def tw17206501459940149462:=0
def tw11375158298630273214:=0
def tw9271870140443235994:=0
def tw13851837351620540197:=0
def tw3844751977095390449:=0
def tw10880094845612975587:=0
def tw11147200689786067698:=0
def tw13150161662766000245:=0
def tw16795042834625803670:=0
def tw1032832436828256645:=0
def tw2361569510044337166:=0
def tw5426089773245242755:=0
def tw8790960865815575306:=0
def tw952304580960567954:=0
def tw14308559015521226074:=0
def tw8088341161096323005:=0
def tw4235161126965362328:=0
def tw7994315970459335105:=0
def tw460136611839763349:=0
def tw15005380155926658324:=0
def tw5778883908243023405:=0
def tw2399355594516929749:=0
def tw7928635299995435465:=0
def tw2577704013588267917:=0
def tw11762213987903125054:=0
def tw7864566520392244654:=0
def tw17122241058851854398:=0
def tw578344569791093254:=0
def tw6800988985762275303:=0
def tw8637991998452060497:=0
def tw17222220158989450849:=0
def tw15566955262544008044:=0
def tw10771763707171832873:=0
def tw4870630302503531103:=0
def tw9833277394645037540:=0
def tw18175176705895884283:=0
def tw17336478170836533053:=0
def tw2129605711807147566:=0
def tw892989182316392651:=0
def tw8344119860778852575:=0
def tw3920564579430881305:=0
def tw2581039691467555079:=0
def tw9572735063231380504:=0
def tw5327564270007421751:=0
def tw15341509539943555154:=0
def tw16140351159517350852:=0
def tw14607273250712167775:=0
def tw59455518128009426:=0
def tw942519647858215326:=0
def tw17138364164115082346:=0
def tw13192983095743666289:=0
def tw3535729861446427255:=0
def tw11492874837421771576:=0
def tw2963969755247249656:=0
def tw11546040997208923300:=0
def tw11873811110907146365:=0
def tw8963174801889843576:=0
def tw3708746430359025735:=0
def tw10251344277743490294:=0
def tw16883178906210407020:=0
def tw3272400853141545870:=0
def tw15952007604758203015:=0
def tw16097891671104091644:=0
def tw10711850315768192468:=0
def tw13916221603922519244:=0
def tw9516940151231225435:=0
def tw10100288713775374906:=0
def tw9134044407960781686:=0
def tw8788599563834771864:=0
def tw4218525404482638112:=0
def tw18397450799611070111:=0
def tw8147396629875670856:=0
def tw8328585264339331191:=0
def tw3489297544716397979:=0
def tw4028865325069452630:=0
def tw1342885010280592512:=0
def tw14817767360501269107:=0
def tw1350662624319416617:=0
def tw385441632361071235:=0
def tw14298101517308754776:=0
def tw8811999759647062589:=0
def tw2986728827640939055:=0
def tw4080079587706052455:=0
def tw1135783827576097206:=0
def tw10661565732433740711:=0
def tw10904475394259425555:=0
def tw8216260144698607087:=0
def tw16604499265432214700:=0
def tw1994716015406782116:=0
def tw13087722299695013619:=0
def tw11883510073265093090:=0
def tw10521345662146664225:=0
def tw7537769567511832351:=0
def tw16165831465139728950:=0
def tw7348731039879750134:=0
def tw12863964685466246176:=0
def tw14806420849462280755:=0
def tw12204260183239013607:=0
def tw15930128401032680098:=0
def tw4658466691041286058:=0
def tw5555214535510438657:=0
def tw8605488914611600289:=0
def tw13430602023383299079:=0
def tw8775382366899330516:=0
def tw5518039982617004245:=0
def tw13939935888585725836:=0
def tw5601147862857097705:=0
def tw4064343574516763502:=0
def tw14002143970878732359:=0
def tw3192235646088334169:=0
def tw4052422811635523746:=0
def tw14540606548331759854:=0
def tw18421205014968590321:=0
def tw1068888148770618397:=0
def tw1485310550407599557:=0
def tw6427265220371521567:=0
def tw17815621160207149681:=0
def tw14526570929018589454:=0
def tw2281602836203513165:=0
def tw15132034070872193474:=0
def tw17338501919193956893:=0
def tw11392007419210362229:=0
def tw4985767500833221555:=0
def tw9966794420753488744:=0
def tw3127266877776311572:=0
def tw6980831917425129701:=0
def tw5869212200765458524:=0
def tw5297327274422453969:=0
def tw3918895217436804204:=0
def tw2567238456456695170:=0
def tw1793509953143554460:=0
def tw13648157914668760236:=0
def tw13561649561116422543:=0
def tw17458029366821108841:=0
def tw15376949244108183820:=0
def tw7978627591611811932:=0
def tw3917024704845687453:=0
def tw3416116311671824055:=0
def tw16436421755427691185:=0
def tw6484259376461011202:=0
def tw1884825642891341446:=0
def tw17130154272198912569:=0
def tw15766775184315292830:=0
def tw13150345675581936422:=0
def tw11081981683471137855:=0
def tw16703473571146249454:=0
def tw4558073355975925613:=0
def tw992575247422813684:=0
def tw6024979282688670669:=0
end PySem.W.Fast
set_option maxRecDepth 100000 in
set_option maxHeartbeats 0 in
theorem PySem.Challenge.cw_retrace_k14_whole_however_deep_holds : PySem.Challenge.rw_retrace_k14_whole_however_deep.Holds := by
 w_on;o_law;k_head;(case hw=>w_witness2);k_fill;refine W2.walk (l:=PySem.Challenge.rw_retrace_k14_whole_however_deep) rfl rfl (λw h Y=>kIn_of Y) ?F;case F=>intro w mg fa h KX G hmg;refine' W2.Yk KX G hmg ?T ?Z ?E1 ?E3 ?V ?Vw ?Vr ?M0 ?M1 ?M2 ?M3 ?M4 ?M5 ⟨?S0,?S1,?S2,?S3,?S4,?S5,?S6,?S7,?S8,?S9,?S10,?S11,?S12,?S13,?S14,?S15,?S16,?S17,?S18,?S19,?S20,?S21,?S22,?S23,?S24,?S25,?S26,?S27,?S28,?S29,?S30,?S31,?S32,?S33,?S34,?S35,?S36,?S37,?S38,?S39,?S40,?S41,?S42,?S43,?S44,?S45,?S46,?S47,?S48,?S49,?S50,?S51,?S52,?S53,?S54,?S55,?S56,?S57,?S58,?S59,?S60,?S61,?S62,?S63,?S64⟩ ?a3 ?l3 ?c3 ?k3;(case a3|l3|c3|k3=>k_is);(case V|Vw|Vr=>refine' W2.WX KX G ?m ?pg ?hd ?po ?sa ?na;(case m|pg|hd|po|sa=>k_is);(case na=>(repeat(refine' W2.nac ?q1 ?_;(case q1=>k_is)));exact trivial));(case M0|M1|M2=>refine' W2.Tw (by decide) (λ_ _ _ _ _ _ _ _ _ _ _=>rfl) ?a ?i ?l ?c ?k ?mk ?kc;(case a|i|l|c|k|mk|kc=>k_is));(case M3|M4|M5=>refine' W2.TB (by decide) (λ_ _ _ _ _ _ _ _ _ _ _=>rfl) ?a ?i ?l ?c ?k;(case a|i|l|c|k=>k_is));(case S0|S1|S2|S3|S4|S6|S7|S8|S9|S10|S11|S12|S13|S14|S15|S16|S17|S18|S19|S20|S21|S22|S23|S24|S25|S26|S27|S28|S29|S30|S31|S32|S34|S35|S36|S37|S38|S39|S40|S41|S42|S43|S44|S45|S46|S47|S48|S49|S50|S51|S52|S53|S54|S55|S56|S57|S58|S59|S60|S61|S62|S63|S64=>refine' W2.ZS KX G (by decide) (λ_ _ _ _ _ _ _ _ _ _ _=>rfl) ?a ?l ?c ?k;(case a|l|c|k=>k_is));(case S5|S33=>refine' W2.Tv KX G (by decide) (λ_ _ _ _ _ _ _ _ _ _ _=>rfl) ?a ?l ?c ?k;(case a|l|c|k=>k_is));(case T=>refine' W2.Z5 KX G ?z0 ?z1 ?z2 ?z3 ?z4 ?z5 ?z6 ?z7 ?z8 ?z9 ?z10 ?z11 ?z12 ?z13 ?z14 ?m0 ?m1 ?m2 ?m3 ?m4 ?m5 ?m6 ?m7 ?m8 ?m9 ?m10 ?m11 ?m12 ?m13 ?m14 ?m15 ?ma ?mv ?mr ?ml ?tv ?tr ?tf;(case z0|z1|z2|z3|z4|z5|z6|z7|z8|z9|z10|z11|z12|z13|z14|m0|m1|m2|m3|m4|m5|m6|m7|m8|m9|m10|m11|m12|m13|m14|m15|ma|mv|mr|ml=>k_is);(case tv|tr=>refine' W2.Z1 ?tla ?to ?tq;(case tla=>k_is);(case to=>decide);(case tq=>(repeat(refine' W2.rkc ?ke ?kl ?kc ?kn ?kd ?kz ?kv ?_;(case ke=>rfl);(case kl=>k_is);(case kc|kn|kd=>rfl);(case kz=>decide);(case kv=>repeat(first|exact .nil|refine .cons ⟨_,rfl⟩ ?_))));exact trivial));(case tf=>refine' W2.T6 ?tlb ?tob ?tqb;(case tlb=>k_is);(case tob=>decide);(case tqb=>(repeat(refine' W2.rfc KX G ?ke ?ka ?_;(case ke=>rfl);(case ka=>k_is)));exact trivial)));(case Z=>refine' W2.Xe KX G ?n0 ?n1 ?n2 ?n3 ?n4 ?n5 ?n6 ?n7 ?n8 ?n9 ?h1 ?h2 ?h3 ?o2 ?o5;(case n0|n1|n2|n3|n4|n5|n6|n7|n8|n9|h1|h2|h3=>k_is);(case o2|o5=>refine' W2.YL ?b2 ?b3 ?c1 ?e1x ?a1x ?a2x ?b1x ?a4x ?a5x ?sux ?svx ?kkx;(case b2|b3|c1|a1x|a2x|b1x|a4x|a5x|sux|svx=>k_is);(case e1x=>k_exc);(case kkx=>(repeat(first|refine' .cons W2.LM ?_|(refine' .cons (W2.Ru ?c2 ?t2 ?s2x ?d2x) ?_;(case c2|t2|s2x=>k_is);(case d2x=>decide))));exact .nil)));(case E1|E3=>refine' W2.Qz ?ex;(case ex=>k_exc))
