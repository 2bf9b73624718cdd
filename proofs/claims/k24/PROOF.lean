import PyProof.Rows.All
import Wide.All
import OpenK.AllK
import Wide.FinOn
import Lean
import PyProof.EqAt
import PyProof.EqKinds
import PyProof.TupleCall
import PySem.Challenge.RW_retrace_k24_whole_by_turns
set_option genSizeOf false
set_option compiler.extract_closed false
set_option bootstrap.genMatcherCode false
set_option Elab.async false
set_option linter.all false
set_option autoImplicit true
set_option maxHeartbeats 4000000
set_option maxRecDepth 100000
open PySem renaming Shared→be,wpAny→bn,Program→ci,model→b',mainGlobals→c',World→cc,Around→cr,starEach→dN,FuncData→d4,bootBuiltins→eU,foldedSetIterable→hF,rawInt→ed,attributeBase→ge,sysModules→fb,assignEach→gc,SetTable→e9,pyNext→em,DictEntry→gn,behindInMarks→hX,backTo→eP,swapsWith→g6,noteFrame→hA,keywordEach→hG,codeAny→fm,Keyword→g5,excClassObj→hY
open PySem renaming wpAny_bind→aa,wpAny_pure→ai,wpAny_newObj_type→bU,wpAny_callSpecial?_slot→bV,wpAny_call_entry→bW,wpAny_field→bY,wpAny_holding→b7,wpAny_setField→cK,wpAny_mono→cZ,codeAny_builtin→dH,codeAny_mono→dU,wpAny_loadPart_at→dW,wpAny_seqItems→dX,wpAny_ite_split→eN,wpAny_setState_of→fH,wpAny_attempt→fP,wpAny_setEntries_of→fT,wpAny_typeNameOfWhole_keyiter→f9,wpAny_Call_Name_kw→gr,wpAny_setField_rec→gv,wpAny_execs_nil→gH,wpAny_passesOwn→gI,plainId_quiet→gM,wpAny_typeLookup_exc→hV,wpAny_isInstance→ij,mem_of_lookup→iQ,wpAny_standAt→iX,call_meets→jq,tupleKind_room_in1→jt,wpAny_pyIter_tuple→ju,wpAny_rule→jv,sizeLine_eq→jC,wpAny_fieldsOf→jU,wpAny_typeOf→jV,wpAny_askSetting→kx,isSubtype_stop→nV,strKind_is→nW,wpAny_newFunctionEnv_cells→nX,wpAny_of_eq→pq,wpAny_pyIter_slot→pz,wpAny_throw→pA,wpAny_truthy_bool→pB,wpAny_handled→pG,wpAny_typeNameOf_keyiter→pH,wpAny_execs_cons→qL,wpAny_call→sx,codeAny_call_function→um,codeAny_call_builtin→vV,wpAny_runValue→vW,wpAny_updateSeq_pair→vX,wpAny_onRaise→zS,typeIs_int→Ad,call_meetsIn→BZ,fits_of_scanBound→B0,wpAny_dictEntries→B1,wpAny_pyIter_list→B2,plainObj_wpAny_Assign_Attribute→EI,entryFor_of_tree→GP,noFill_tuple_add→GS,wpAny_getItem_of→GU,wpAny_dictEpoch→Ju,wpAny_specialOf→Jv,wpAny_load→Pj,wpAny_newTuple→Pk,wpAny_binaryOp_repeat_ref→Vb,seq_tuple_add→WN,wpAny_newList→WO,wpAny_pyNext_tuple_item→ν,codeAny_func→xL,concat_meets→wP,meets_dict_get_default→UV,seqIndex_neg→y8,wpAny_Call_method_late→TW,wpAny_pyIter_tupleiter→Fk,wpAny_pyNext_tuple_end→Ĝ,wpAny_isOneOf_keyiter→Ę,wpAny_isTrue_Compare1→Ps,wpAny_notOrdered_dict→X1,seqIndex_of→AN,wpAny_letGo→wp,wpAny_pyIter_keyiter→Ix,wpAny_pyIter_revIter→XV,wpAny_isSubtype_exc→UF
open List renaming length_map→ae,length_append→aj,getElem?_eq_some_iff→ar,getElem?_eq_getElem→av,mem_cons→aw,mem_singleton→aB,map_append→aD,mem_cons_of_mem→aE,mem_cons_self→aF,getElem?_append_right→aK,mem_of_getElem?→aL,getElem?_map→aN,length_cons→aO,getElem?_append_left→aT,append_nil→aV,mem_append_right→aW,size_toArray→bg,mem_append→bu,append_assoc→bA,map_map→bB,all_eq_true→bJ,length_take→bK,length_replicate→bP,length_set→cn,all_cons→cw,mem_map→cx,getElem?_set_ne→cy,length_singleton→cB,map_cons→cF,getElem?_set_self→cQ,getElem?_eq_none→cW,nodup_append→dg,nodup_cons→dA,mem_append_left→dP,not_mem_nil→dQ,length_drop→eh,getElem?_take_of_lt→eo,getElem?_replicate→eK,length_range→eL,getElem_mem→eW,drop_zero→fj,getElem?_toArray→fk,mem_of_mem_take→fE,take_sublist→fF,take_length→fU,pairwise_cons→gj,nodup_nil→hU,getElem_inj→ie,lookup_cons→ig,filterMap_cons→iM,length_reverse→iN,map_take→iV,find?_cons→jk,forIn_cons→jl,getElem_cons_drop→jO,take_of_length_le→jP,eq_nil_of_length_eq_zero→lD,getElem?_of_mem→lE,of_mem_zip→mh,map_congr_left→my,replicate_succ→mz,getD_eq_getElem?_getD→nR,mem_filterMap→nS,take_left→nU,take_add_one→pj,any_cons→pE,cons_append→qH,take_append_drop→uk,any_eq_false→BV,flatten_cons→BW,drop_eq_getElem_cons→U7,mem_or_eq_of_mem_set→U8,map_drop→WL,getElem?_cons_succ→η,length_eq_zero_iff→θ,concat_eq_append→Fa,eq_nil_or_concat→ĕ,getElem?_reverse→WP,length_eraseIdx→Ć
open PySem.Heap renaming get?_push_of_some→af,get?_push_size→ax,lt_size→ay,get?_update_self→bE,get?_update_other→bG,size_push→hJ,get?_push_ne→ph,size_update→qG,get?_update_ne→x3,get?_none_of_le→F3
open Nat renaming le_refl→ah,le_trans→aq,ble_eq_true_of_le→aA,le_add_left→aH,le_of_ble_eq_true→aI,zero_le→aP,le_add_right→aQ,ne_of_lt→aR,le_succ_of_le→aS,eq_of_beq_eq_true→aX,lt_of_lt_of_le→bp,le_succ→bt,lt_of_le_of_lt→bM,lt_succ_of_le→cH,lt_irrefl→cM,zero_add→cR,not_lt→da,lt_of_succ_le→dh,add_assoc→dD,le_of_lt→dF,le_of_lt_succ→dS,sub_self→eA,ne_of_gt→eR,lt_succ_of_lt→fG,add_sub_cancel_left→fV,lt_succ_self→fW,le_of_eq→gm,beq_refl→sh,lt_of_succ_lt_succ→si,add_right_comm→zZ,ble_eq→Aa,min_le_right→GO,mul_le_mul→Ph,lt_or_ge→Br,succ_pos→yf
open Bool renaming false_ne_true→aJ,and_eq_true→aM,eq_false_iff→bF,false_eq_true→fi,or_eq_true→jj,beq_eq_decide_eq→kq,or_true→mJ,false_bne→nN,true_bne→pD,eq_iff_iff→Js,and_false→Pe,or_eq_false_iff→L5
open PySem.Obj renaming data_mapFields→bN,isFreed_of_fields→cX,cls_mapFields→jQ
open Array renaming length_toList→b5,getElem?_toList→c9,getElem?_eq_getElem→d9,getElem?_eq_some_iff→fh,getElem?_eq_none→gi,getD_eq_getD_getElem?→mI,find?_toList→zY,size_eq_one_iff→aeH,mem_toList_iff→J'
open PySem.W renaming mg_of→b6,mg_none_of→cg,nsMap_none_of_in→fO,callWith_K→gq,cellsFrom_some→jR,mapOf_K→mj,plainGet_of→x5,codeRec_of→Ab,isNs_of_in→Ac,methodCall_KW→C1,looks_subIn→ċ
open PySem.Heap.SameBut renaming update→cj
open Option renaming map_eq_some_iff→cE,isSome_iff_exists→fN,isSome_map→BX,bind_eq_some_iff→ι
open Ne renaming symm→cY
open PyProof.Rows renaming slot_tuple_getitem→dy,callWith_type1→eS,size_push'→jr,subscriptTail_builtinR→jT,gl_int→sv,take_snoc→wL,foldl_rep→GR,vals1→IZ,Constant_none→WK,listUpdate_at→WM,add_int→mo,entry_proto_collect'→Qa,seqEpoch_at→xz,entry_tuple_getitem→Ď
open Option.some renaming inj→dG
open PySem.Calls renaming spliced_cons→dJ,evalArgs_plain→fC,spliced_nil→gT,callWith_builtin→jN,Name_function_global→Pf,call_function_entry→U6
open PySem.F renaming slot_dict_keyiterator_next→dM,slot_tuple_iterator_next→dR,slot_dict_get→gS,slot_tuple_mul→ic,args_tuple_iterator_next_1→md,entry_tuple_iterator_next→mK,args_tuple_mul_2→nO,slot_dict_getitem→oO,entry_tuple_mul→pd,args_tuple_add_2→pF,args_dict_get_3→qI,entry_tuple_add→qJ,plainAttrs_dict→qK,entry_dict_get→sj,slot_tuple_add→sk,slot_int_rmul→sZ,slot_set_iter→tj,slot_zip_next→tu,args_dict_keyiterator_next_1→x4,entry_dict_keyiterator_next→zR,slot_dict_setdefault→Jt,excBase_Exception→U9,plain_extend_loop→Va,plain_list_iadd→μ,slot_dict_iter→PH,type_dict_get→Tl
open Int renaming toNat_natCast→fD,ofNat_eq_natCast→lC,emod_lt_of_pos→nQ,emod_nonneg→tw,toNat_of_nonneg→I0
open PySem.Around renaming under_plainId→lB
open PyProof.Rows.F renaming plain_set_update_loop→qF,entry_set_update_loop→ζ
open PySem.PassesOwn renaming never→tD,leaving→BY
open List.Perm renaming refl→vU
open PySem.Value renaming isStrOf_shape→x6
open PySem.Paired renaming length→zQ
open PyProof.Rows.IsTup renaming new→GN
open LawfulBEq renaming eq_of_beq→GQ
nonrec def Ö(s:Lean.Syntax)(p:String):Lean.Syntax:=((p.splitOn " ").foldl (fun t w=>let r:=(w.drop 1).toString
 match w.front with
 |'\''=>.atom .none r::t
 |'`'=>Lean.mkIdent r.toName::t
 |'@'=>r.toList.foldl (fun s c=>s[c.toNat-48]) s::t
 |'/'=>.node .none (Lean.Name.mkStr4 "Lean" "Parser" "Tactic" "tacticSeq") #[.node .none (Lean.Name.mkStr4 "Lean" "Parser" "Tactic" "tacticSeq1Indented") #[.node .none (.mkSimple "null") #[t.headD s]]]::t.drop 1
 |c=>let n:=c.toNat-48
  .node .none (if r==""then .mkSimple "null"else if r.front=='T'||r.front=='C'then ("Lean.Parser."++r).toName else r.toName) (t.take n).reverse.toArray::t.drop n) []).headD s
def v0:Lean.Syntax:=Ö .missing "'rfl 1Tactic.tacticRfl /"
def P3:Lean.Syntax:=Ö .missing "'decide 0 1Tactic.optConfig 2Tactic.decide /"
def hH:Lean.Syntax:=Ö .missing "'first '| 'exact '. `inl 2Term.dotIdent `rfl 1 2Term.app 2Tactic.exact / 2group '| 'exact '. `inr 2Term.dotIdent `rfl 1 2Term.app 2Tactic.exact / 2group '| 'assumption 1Tactic.assumption / 2group 3 2Tactic.first /"
def i4:Lean.Syntax:=Ö .missing "'decide '+ `kernel 2Tactic.posConfigItem 1Tactic.configItem 1 1Tactic.optConfig 2Tactic.decide /"
def hO:Lean.Syntax:=Ö .missing "'intro '_ 1Term.hole 1 2Tactic.intro '; 'rfl 1Tactic.tacticRfl 3 1Tactic.tacticSeq1Indented 1Tactic.tacticSeq"
open Option renaming some→O,none→ao
open Bool renaming true→J,false→a5
open List renaming length→Á,replicate→Ð,range→á,foldl→ò
open Nat renaming ble→Ë,beq→Ì,blt→Ñ
open PySem.Value renaming none→Ó,ref→Ò,isStrOf→â,type→ã,builtin→ð,str→ù
open PySem renaming strKind→Ú,Const→Ğ,Within→þ
open PySem.Heap renaming SameBut→Û,IsTupleIter→ì,ExtBut→è,IsListIter→ü
open PySem.Obj renaming mapFields→à,mapSeq→ë,putSet→ú
open Bool renaming noConfusion→é
open PySem.NameKind renaming free→ä
open PySem.Data renaming noConfusion→í
open ForInStep renaming yield→ñ
open False renaming elim→å
open PySem.Builtin.Slice renaming slicePlaces→ý,sliceAdjust→ă
open PySem.SetTable renaming grown→ó,below→õ
open PySem.Str renaming ofString→ê
open Option renaming map→ç
open Sum renaming inr→Ü
open Prod renaming mk→Ý
open PyProof.Rows renaming sortedS→Ā
open PySem.Builtin.List renaming listExtendWith→ĉ,listSameRef→ć
open True renaming intro→ï
open PySem PySem.Spec PyProof.Rows
open PySem renaming Addr→À,Value→Â,sizeLine→Ã,Str→Ä,Expr→Å,Heap→È,Stmt→É,eval→Ê,Scope→Í,cLine→Ï,Pos→Õ,Obj→Ø,Env→Ù
open PySem.W renaming Frag→Æ
noncomputable section
def ġ:Lean.Syntax:=Ö .missing "'exact 'fun '_ 1Term.hole '_ 1Term.hole 2 0 '=> `rfl 4Term.basicFun 2Term.fun 2Tactic.exact /"
def Ě:Lean.Syntax:=Ö .missing "'exact `Or.inl `rfl 1 2Term.app 2Tactic.exact /"
def î:Lean.Syntax:=Ö .missing "'exact `ib '_ 1Term.hole 1 2Term.app 2Tactic.exact /"
def Ķ6:Lean.Syntax:=Ö .missing "'exact `nfC '_ 1Term.hole 1 2Term.app 2Tactic.exact /"
nonrec def Ũ(D L K T:List (String×String))(s:Lean.Syntax):Lean.Syntax:=match s with
 |.atom _ v=>.atom .none v
 |.ident _ r v p=>
  let o:=.ident .none r v p
  match v with
  |.str .anonymous x=>match D.lookup x with
   |.some y=>if y=="Prop"then Ö s "'Prop 1Term.prop"else Lean.mkIdent y.toName
   |_=>match L.lookup x with
    |.some y=>Ö s ("`List `"++y++" 1 2Term.app")
    |_=>o
  |_=>o
 |.node _ k a=>
  let s:Lean.Syntax:=.node .none k a
  match k with
  |.str _ x=>match T.lookup x with
   |.some y=>Ö s y
   |_=>
   if x=="tuple"&&!s[0].isAtom then if s[1].getNumArgs==0 then Ö s "'by 'lia 0 1Tactic.optConfig 2Tactic.lia / 2Term.byTactic"else Ö (Lean.mkNullNode (#[s[1][0],.atom .none ","]++s[1][2].getArgs)) "'⟨ @ '⟩ 3Term.anonymousCtor"
   else if x=="delta"&&s[1].getNumArgs<3 then Ö s "'unfold @1 @2 3Tactic.unfold"
   else if x=="ext"then if s[1].getNumArgs==0 then Ö s "'decide '+ `kernel 2Tactic.posConfigItem 1Tactic.configItem 1 1Tactic.optConfig 2Tactic.decide"else Ö (Lean.mkNullNode (s[1].getArgs.map fun p=>Ö p (if p[0][0].isIdent then "@00 1Lean.binderIdent"else "'_ 1Term.hole 1Lean.binderIdent"))) "'rename_i @ 2Tactic.renameI"
   else if x=="inductionAltLHS"then match K.lookup s[1][1].getId.toString with
    |.some y=>s.setArg 1 (s[1].setArg 1 (Lean.mkIdent (.mkSimple y)))
    |_=>s
   else if x=="tacticLet__"then
    let q:=s[2][0]
    if q[0][1].getNumArgs>0&&q[0].getNumArgs==3 then Ö (Lean.mkNullNode #[Lean.mkNullNode (q[0][1].getArgs.map fun y=>if y.isAtom then y else Ö y ((if y.isIdent then "@ 1Tactic.rcasesPat.one"else "'_ 1Tactic.rcasesPat.ignore")++" 1 1Tactic.rcasesPatMed 0 2Tactic.rcasesPatLo")),q[4]]) "'obtain '⟨ @0 '⟩ 3Tactic.rcasesPat.tuple 1 1Tactic.rcasesPatMed 1 0 ':= @1 1 2 4Tactic.obtain"
    else if q[2][0][1].getId==.mkSimple "Tx"then s else Ö s "'have @1 @2 3Tactic.tacticHave__"
   else s
  |_=>s
 |s=>s
nonrec def Ķ(s:Lean.Syntax):Lean.Syntax:=
 let z(a b c:String):=(a.splitOn " ").zip (b.splitOn c)
 let D:=z "Ł Ő Ń Î Þ ß ŧ æ ø Ŗ Ť Ă Đ" "List Option Nat Int Bool Prop False True autoParam rfl trivial absurd decide" " "
 let L:=z "ϑ ϐ Ϙ ϕ" "Pv Str Nat V" " "
 let K:=z "a c d e f g h j" "none some true false nil cons zero succ" " "
 let T:=z "tacticRwa__ tacticErw___ done left omission term∅ nofun term_<|>_ char" "'exact @1101 2Tactic.exact;'refine @2101 2Tactic.refine;'trivial 1Tactic.tacticTrivial;'simp_all 0 1Tactic.optConfig 0 0 0 5Tactic.simpAll;'by 'simp 0 1Tactic.optConfig 0 0 0 0 6Tactic.simp / 2Term.byTactic;'by 'decide '+ `kernel 2Tactic.posConfigItem 1Tactic.configItem 1 1Tactic.optConfig 2Tactic.decide / 2Term.byTactic;'by 'simp_all 0 1Tactic.optConfig 0 0 0 5Tactic.simpAll / 2Term.byTactic;'. `seq 2Term.dotIdent @0 @2 2 2Term.app;`yx `t `X 2 2Term.app" ";"
 s.rewriteBottomUp (Ũ D L K T)
local macro_rules(kind:=Lean.Parser.Command.declaration)|s=>do
 if s.getPos?.isNone then Lean.Macro.throwUnsupported
 let s:=Ķ s
 return if s[1].getKind==`Lean.Parser.Command.structure then Ö s "'set_option `genInjectivity 0 'false 4Command.set_option 'in @ 3Command.in"else if s[0][4].getNumArgs+s[0][6].getNumArgs==0&&(s[1].getKind==`Lean.Parser.Command.definition||s[1].getKind==`Lean.Parser.Command.abbrev)then s.setArg 0 (s[0].setArg 4 (Ö s "'noncomputable 1Command.noncomputable 1"))else s
local macro_rules(kind:=Lean.Parser.Command.mutual)|s=>if s.getPos?.isNone then Lean.Macro.throwUnsupported else return Ķ s
local macro_rules(kind:=Lean.Parser.Command.variable)|s=>if s.getPos?.isNone then Lean.Macro.throwUnsupported else return Ķ s
abbrev dC:=PySem.Value->PySem.Shared->ß
open PySem.Builtin.SmallTypes renaming nextOf→q0',ownedTupleHandOut→q1',ownedTupleIsFree→q2'
abbrev db:=Ł (PySem.Addr×PySem.Obj)
abbrev c3:=PySem.Str->Ő PySem.Value
section
def bL:=@congrArg
def bS:=@if_neg
def bZ:=@of_decide_eq_true
def b9:=@if_pos
def cq:=@decide_eq_false
def cJ:=@decide_eq_true
def c8:=@beq_eq_false_iff_ne
def gU:=@decide_eq_true_eq
def jS:=@if_false
def ku:=@beq_self_eq_true
def pk:=@if_true
def su:=@beq_iff_eq
end
open PySem.W(instObj Frag lookIn plainGet hasDictIn findIn handedIn isFn plainOver takerIn Looks makesIn typeIn emptyDict keepIn fnOf codeIn OpenLaw WalkO KeysLit excIn nsOkIn clsIn subIn nsIn KdlSrc kIn_of)
namespace L2
abbrev cp:=Sum Î Ä
def xo:cp->Â->Þ|.inl k,v=>Value.isInt k v|.inr x,v=>â x v
def ŵ(w:cc):cp->Î|.inl k=>hashInt k|.inr x=>hashStr w x
def eQ:∀{k:cp}{v:Â},xo k v=J->(∃i t,k=Sum.inl i/\v=Value.int i t)\/∃x t,k=Ü x/\v=ù x t|.inl i,v,h=>by let(t,e):=Value.isInt_shape h;rwa[.inl (i,t,Ŗ,e)]|.inr x,v,h=>by let(t,e):=x6 h;rwa[.inr (x,t,Ŗ,e)]
def HF(i:Î)(t:Tok):xo (.inl i) (.int i t)=true:=by simp[xo,Value.isInt]
def HG(x:Ä)(t:Tok):xo (.inr x) (.str x t)=true:=by simp[xo,â]
def Y4(a b:Î):Đ ((Sum.inl a:cp)=Sum.inl b)=(a==b):=by
 by_cases e:a=b;.subst e;simp
 .left
def Y5(a b:Ä):Đ ((Ü a:cp)=Ü b)=Đ (a=b):=⋯
def dZ(prog:ci)(w:cc):PySem.KeyKind prog w cp where
 is:=xo;hash:=ŵ w;inj:=λv a b d c=>by
  rcases eQ d with ⟨i,t,rfl,rfl⟩|⟨x,t,rfl,rfl⟩
  .rcases eQ c with ⟨j,u,rfl,e⟩|⟨y,u,rfl,e⟩;.injection e with E _;rw[E]
   .rwa[nomatch e]
  .rcases eQ c with ⟨j,u,rfl,e⟩|⟨y,u,rfl,e⟩;.rwa[nomatch e]
   .injection e with E _;rw[E]
 byValue:=λk v h=>by rcases eQ h with ⟨i,t,rfl,rfl⟩|⟨x,t,rfl,rfl⟩<;>rfl
 pyHash:=λH h=>by
  rcases eQ H with ⟨i,t,rfl,rfl⟩|⟨x,t,rfl,rfl⟩;.rwa[wpAny_pyHash_int h]
  .rwa[wpAny_pyHash_str h]
 eqBool:=λhu H h=>by
  rcases eQ hu with ⟨i,t,rfl,rfl⟩|⟨x,t,rfl,rfl⟩
  .rcases eQ H with ⟨j,u,rfl,rfl⟩|⟨y,u,rfl,rfl⟩;.rw[Y4]at h;rwa[wpAny_eqBool_int h]
   .rwa[SeqAt.EqAt.int_str i t y u _ _ _ _ h]
  .rcases eQ H with ⟨j,u,rfl,rfl⟩|⟨y,u,rfl,rfl⟩;.rwa[SeqAt.EqAt.str_int x t j u _ _ _ _ h]
   .rw[Y5]at h;rwa[wpAny_eqBool_str h]
 «strs»:=λk x t v h=>by
  rcases eQ h with ⟨i,u,rfl,e⟩|⟨y,u,rfl,e⟩;.lia
  .injection e with E _;subst E;cases v<;>rfl
def rZ(prog:ci)(w:cc)(i:Î)(t:Tok):(dZ prog w).is (.inl i) (.int i t)=true:=HF i t
def r8(prog:ci)(w:cc)(x:Ä)(t:Tok):(dZ prog w).is (.inr x) (.str x t)=true:=HG x t
inductive V where|jn|B(b:Þ)|I(i:Î)|S(x:Ä)|byt(b:Array UInt8)|flt(b:UInt64)|A(a:À)|ty(n:String)deriving DecidableEq
def RelV:V->Â->ß|.jn,u=>u=Ó|.B b,u=>u=Value.bool b|.I i,u=>∃t,u=Value.int i t|.S x,u=>∃t,u=ù x t|.byt b,u=>∃t,u=Value.bytes b t|.flt b,u=>∃t,u=Value.float b t|.A a,u=>u=Ò a|.ty n,u=>u=ã n
abbrev Vals:ϕ->Ł Â->ß:=Paired RelV
theorem Vals.length(r:Vals xs us):Á xs=Á us:=zQ r
theorem Vals.get:∀{xs:ϕ}{us:Ł _}{i:Ń}{x:V},Vals xs us->xs[i]?=O x->∃u,us[i]?=O u/\RelV x u|_,_,_,_,.nil,e=>by grind|_,_,0,_,.cons r _,e=>by grind|_,_,i+1,x,.cons _ t,e=>by let(u,H,h):=Vals.get t (by done);exact(u,by done,h)
theorem Vals.set(r:RelV x u):∀{xs:ϕ}{us:Ł _}(i:Ń),Vals xs us->Vals (xs.set i x) (us.set i u)|_,_,_,.nil=>.nil|_,_,0,.cons _ t=>.cons r t|_,_,i+1,.cons q t=>.cons q (Vals.set r i t)
def Vals.append:∀{xs ys:ϕ}{us ws:Ł _},Vals xs us->Vals ys ws->Vals (xs++ys) (us++ws):=by intro xs ys us ws a b;induction a with|f=>rwa[b]|g r t i=>rwa[.cons r i]
theorem Vals.take:∀{xs:ϕ}{us:Ł _}(n:Ń),Vals xs us->Vals (xs.take n) (us.take n)|_,_,0,_=>.nil|_,_,_+1,.nil=>.nil|_,_,n+1,.cons r t=>.cons r (Vals.take n t)
theorem Vals.drop:∀{xs:ϕ}{us:Ł _}(n:Ń),Vals xs us->Vals (xs.drop n) (us.drop n)|_,_,0,r=>r|_,_,_+1,.nil=>.nil|_,_,n+1,.cons _ t=>Vals.drop n t
def mq:Ő V->Ő Â->ß|O v,O u=>RelV v u|ao,ao=>æ|_,_=>ŧ
def KV{κ:Type}:Ł (κ×V)->Ł (κ×Â)->ß:=Paired λp q=>p.1=q.1/\RelV p.2 q.2
def kV:cp->V|.inl i=>.I i|.inr x=>.S x
inductive HO where|L(xs:ϕ)|T(xs:ϕ)|dK(aU:Ł (cp×V))|dT(aU:Ł (Ł cp×V))|set(S:Î->Þ)(n:Ń)|ins(C dx:À)(fs:Ł (Ä×V))|own(x:À)|xd(fs:Ł (Ä×V))|met(f x:À)|rng(lo hi:Î)|mX(o:Ø)(u:HO)|UA(ps:Array Â)|ext(φ:È->ß)
abbrev Hp:=À->Ő HO
def dq(H:Hp)(a:À)(o:HO):Hp:=λb=>if b=a then O o else H b
def bC:dq H a o a=O o:=by delta dq;rw[b9 Ŗ]
def bw(h:b≠a):dq H a o b=H b:=by delta dq;rw[bS h]
def acO{H:Hp}(h:H a=O o)(h':H b=O u)(d:o≠u):a≠b:=by intro e;subst e;rw[h]at h';rwa[d (dG h')]
def b8{H:Hp}(h:H a=O o)(h':H b=ao):a≠b:=()
section
variable(P:ci)(w:cc)
def fq(H:Hp)(h:È)(a:À):HO->ß|.L X=>Á X<=Ã/\∃(b:Ł _)(n:Ń),Vals X b/\h.get? a=O {cls:=.type "list",data:=.seq b.toArray n}|.T X=>Á X<=Ã/\∃b:Ł _,Vals X b/\IsTup h a b.toArray|.dK A=>Á A<=Ã/\(a==fb)=a5/\∃s,KV A s/\h.DictOf (dZ P w) a s|.dT A=>Á A<=Ã/\(a==fb)=a5/\∃X:Ł _,Paired (λp q=>p.1=q.1/\H q.2.1=O (.T (p.1.map kV))/\RelV p.2 q.2.2) A X/\∃o e E,h.get? a=O o/\o.ExactDict/\o.data=.dict e E/\e.toList=X.map (entryOfKey (tupleKind (dZ P w)))/\(X.map (·.1)).Nodup|.set S n=>h.SetOf (intKind P w) a S n|.ins C d fs=>H d=O (.own a)/\Á fs<=1000/\d≠a/\h.get? a=O (instObj C d)/\∃m,h.Ns1 d m/\(∀f,mq (fs.lookup f) (m f))/\þ m (fs.map (·.1))|.own _=>∃o,h.get? a=O o|.xd fs=>∃m,h.Ns1 a m/\∀f,mq (fs.lookup f) (m f)|.rng lo i=>∃t u v,h.get? a=O {cls:=.type "range",data:=.fields #[.int lo t,.int i u,.int 1 v]}|.mX o u=>h.get? a=O o/\fq H h a u|.UA ps=>h.get? a=O {cls:=.none,data:=.fields ps}|.met f x=>h.get? a=O (PySem.W.methodObj (.ref f) (.ref x))|.ext φ=>φ h/\(∃o,h.get? a=O o)/\∀c g:È,φ c->(∀o,c.get? a=O o->g.get? a=O o)->φ g
def jX(H:Hp)(h:È):ß:=∀a o,H a=O o->fq P w H h a o
end
theorem fq.lt(x:fq P w H h a o):a<h.objs.size:=by cases o with|L X=>let(_,_,_,_,e):=x;rwa[ay e]|T X=>let(_,_,_,p):=x;rwa[p.lt]|dK A=>let(_,_,_,_,o,_,_,e,_):=x;rwa[ay e]|dT A=>let(_,_,_,_,o,_,_,e,_):=x;rwa[ay e]|set S n=>let(o,_,_,_,e,_):=x;rwa[ay e]|ins C d fs=>let(_,_,_,e,_):=x;rwa[ay e]|own y=>let(_,e):=x;rwa[ay e]|xd fs=>obtain⟨_,⟨_,_,_,e,_⟩,_⟩:=x;rwa[ay e]|rng lo i=>let(_,_,_,e):=x;rwa[ay e]|mX b u=>let(e,_):=x;rwa[ay e]|UA ps=>rwa[ay x]|met f y=>rwa[ay x]|ext φ=>obtain⟨_,⟨_,e⟩,_⟩:=x;rwa[ay e]
def Paired.acK:∀{l:Ł α}{l₂:Ł β},Paired F l l₂->(∀a b,F a b->G a b)->Paired G l l₂:=by intro l l₂ h f;induction h with|f=>rwa[.nil]|g r t i=>rwa[.cons (f _ _ r) i]
def fq.sW(x:fq P w H h a o)(k:∀b u,b=a\/H b=O (.own a)->h.get? b=O u->h'.get? b=O u)(l:∀b,H b=O (.own a)->H' b=O (.own a))(s:∀b xs,H b=O (.T xs)->H' b=O (.T xs)):fq P w H' h' a o:=by induction o with|L xs=>let(z,B,n,r,e):=x;exact(z,B,n,r,k _ _ (.inl Ŗ) e)|T xs=>let(z,B,r,g,e,c):=x;exact(z,B,r,g,k _ _ (.inl Ŗ) e,c)|dK A=>let(z,y,D,r,g,E,i,e,c):=x;exact(z,y,D,r,g,E,i,k _ _ (.inl Ŗ) e,c)|dT A=>let(z,y,xs,r,g,E,i,e,c):=x;exact(z,y,xs,Paired.acK r λp q z=>(z.1,s _ _ z.2.1,z.2.2),g,E,i,k _ _ (.inl Ŗ) e,c)|set S n=>let(g,E,i,t,e,c):=x;exact(g,E,i,t,k _ _ (.inl Ŗ) e,c)|ins C G fs=>obtain⟨d,z,N,e,m,⟨j,E,i,F,c⟩,r⟩:=x;exact(l _ d,z,N,k _ _ (.inl Ŗ) e,m,(j,E,i,k _ _ (.inr d) F,c),r)|own y=>let(g,e):=x;exact(g,k _ _ (.inl Ŗ) e)|xd fs=>obtain⟨m,⟨j,E,i,e,c⟩,r⟩:=x;exact(m,(j,E,i,k _ _ (.inl Ŗ) e,c),r)|rng lo K=>let(t,u,v,e):=x;exact(t,u,v,k _ _ (.inl Ŗ) e)|mX g u I=>let(e,q):=x;exact(k _ _ (.inl Ŗ) e,I q)|UA ps=>let e:=x;rwa[k a _ (.inl Ŗ) e]|met f y=>rwa[k a _ (.inl Ŗ) x]|ext φ=>obtain⟨p,⟨o,e⟩,st⟩:=x;exact(st _ _ p λo q=>k _ _ (.inl Ŗ) q,(o,k _ _ (.inl Ŗ) e),st)
theorem jX.lt(x:jX P w H h)(e:H a=O o):a<h.objs.size:=(x a o e).lt
def jX.fresh{a:À}(x:jX P w H h)(e:h.objs.size<=a):H a=none:=by cases q:H a with|a=>rfl|c u=>rwa[Ă (bp (x.lt q) e) (cM _)]
def jX.kept(x:jX P w H h)(k:∀b u,h.get? b=O u->h'.get? b=O u):jX P w H h':=λa o e=>(x a o e).sW (λb u _ q=>k b u q) (λ_ q=>q) λ_ _ q=>q
def jX.laid{a:À}(x:jX P w H h)(k:∀b u,h.get? b=O u->h'.get? b=O u)(p:h.objs.size<=a)(new:fq P w (dq H a o) h' a o):jX P w (dq H a o) h':=λb u e=>by
 let hn:=x.fresh p;by_cases d:b=a;.subst d;rw[bC]at e;cases e;rwa[new]
 .rw[bw d]at e;exact(x b u e).sW (λc v _ q=>k c v q) (λc q=>by rw[bw (b8 q hn)];rwa[q]) λc X q=>by rw[bw (b8 q hn)];rwa[q]
def Rd(H:Hp)(a:À)(u:HO):ß:=H a=O u\/∃o,H a=O (.mX o u)
def Rd.ok{H:Hp}{h:È}{a:À}{u:HO}(r:Rd H a u)(x:jX P w H h):fq P w H h a u:=by
 rcases r with r|⟨o,r⟩;.rwa[x a u r]
 .let(_,q):=x a _ r;rwa[q]
def ml:Ő HO->ß|O (.L _)=>æ|O (.dK _)=>æ|O (.dT _)=>æ|O (.set _ _)=>æ|O (.ins _ _ _)=>æ|O (.ext _)=>æ|_=>ŧ
def jX.write(ok:jX P w H h)(m:ml (H x))(g:e=x\/H e=O (.own x))(k:∀b u,b≠e->h.get? b=O u->h'.get? b=O u)(o:∃u,h'.get? e=O u)(new:fq P w (dq H x o') h' x o'):jX P w (dq H x o') h':=λb u q=>by
 let A:∀c y,H c=O (.own y)->c≠x:=λc y r z=>by subst z;rw[r]at m;rwa[m]
 by_cases d:b=x;.subst d;rw[bC]at q;cases q;rwa[new]
 .rw[bw d]at q;by_cases a:b=e
  .let Q:H b=O (.own x):=by
    rcases g with z|z;.rwa[Ă (a.trans z) d]
    .rw[a];rwa[z]
   rw[q]at Q;cases Q;let(v,i):=o;exact(v,by rw[a];rwa[i])
  .erw[(ok b u q).sW (λc v f r=>k c v ?_ r) (λc r=>by rw[bw (A c b r)];rwa[r]) λc X r=>by rw[bw ((λc X r z=>by subst z;rw[r]at m;rwa[m]) c X r)];rwa[r]]
   rcases f with rfl|f;.done
   .rintro rfl;rcases g with z|z;.rwa[A c b f z]
    .lia
structure Un(fs ex:Ł À)(H H':Hp)(h h':È):ß where
 keep:∀b o,h.get? b=O o->H b=ao->b∉fs->b∉ex->h'.get? b=O o
 slot:∀b o,h.get? b=O o->H b=ao->b∈fs->b∉ex->∃sl,h'.get? b=O {o with slots:=sl}free:∀b o,h.get? b=O o->H b=ao->b∉ex->H' b=ao
 there:∀b o,h.get? b=O o->b∉ex->∃o',h'.get? b=O o'
 oy:∀b xs,H b=O (.T xs)->H' b=O (.T xs)mw:∀b o u,H b=O (.mX o u)->H' b=O (.mX o u)oq:∀b ps,H b=O (.UA ps)->∃more,H' b=O (.UA (ps++more))
def Un.any(u:Un fs ex H H1 h h1)(q:h.get? b=O c)(n:H b=ao)(d:b∉ex):∃sl,h1.get? b=O {c with slots:=sl}:=by
 by_cases f:b∈fs;.rwa[u.slot b c q n f d]
 .exact(_,u.keep b c q n f d)
def Un.kept(k:∀b u,h.get? b=O u->h'.get? b=O u):Un fs ex H H h h':=(λb c q _ _ _=>k b c q,λb c q _ _ _=>(_,k b c q),λ_ _ _ n _=>n,λb c q _=>(c,k b c q),λ_ _ q=>q,λ_ _ _ q=>q,λ_ ps q=>(#[],by done))
def Un.refl:Un fs ex H H h h:=Un.kept λ_ _ q=>q
def Un.laid{h:È}{a:À}(k:∀b u,h.get? b=O u->h'.get? b=O u)(p:h.objs.size<=a)(hn:H a=ao):Un fs ex H (dq H a o) h h' where
 keep:=λb u q _ _ _=>k b u q;slot:=λb u q _ _ _=>(_,k b u q);free:=λb u q n _=>by rw[bw (aR (bp (ay q) p))];rwa[n]
 there:=λb u q _=>(u,k b u q);oy:=λb X q=>by rw[bw (b8 q hn)];rwa[q]
 mw:=λb u X q=>by rw[bw (b8 q hn)];rwa[q]
 oq:=λb ps q=>(#[],by rw[bw (b8 q hn),q];simp)
def Un.write(M:ml (H x))(i:e=x\/H e=O (.own x))(k:∀b u,b≠e->h.get? b=O u->h'.get? b=O u)(f:∃u,h'.get? e=O u):Un fs ex H (dq H x o) h h':=by
 let g:∀b,H b=ao->b≠x:=λb n z=>by subst z;rw[n]at M;rwa[M]
 let d:∀b,H b=ao->b≠e:=λb n z=>nofun
 let m:∀b u,H b=O u->¬ml (O u)->b≠x:=λb u q N z=>nofun
 erw[(λb u q n _ _=>k b u (d b n) q,λb u q n _ _=>(_,k b u (d b n) q),λb u q n _=>by rw[bw (g b n)];rwa[n],λb u q _=>?_,λb X q=>by rw[bw (m b _ q λz=>z)];rwa[q],λb u X q=>by rw[bw (m b _ q λz=>z)];rwa[q],λb ps q=>(#[],by rw[bw (m b _ q λz=>z),q];simp))];by_cases c:b=e;.left
 .exact(u,k b u c q)
def ϝ(h:È)(H:Hp):Ł À:=(á h.objs.size).filter λa=>(H a).isSome
def yO(h:È)(H:Hp):È:=PySem.W.hideAll h (ϝ h H)
def HA(h:È)(H:Hp):(yO h H).objs.size=h.objs.size:=PySem.W.hideAll_size _ _
def Lf(e:h.get? b=O o)(n:H b=ao):(yO h H).get? b=O o:=PySem.W.hideAll_get _ e λm=>by let q:=(List.mem_filter.mp m).2;rw[n]at q;simp at q
def Sd(e:(yO h H).get? b=O o):h.get? b=O o/\H b=none:=by let E:=PySem.W.of_hideAll _ e;erw[(E,?_)];cases q:H b with|a=>rfl|c x=>let z:(yO h H).get? b=none:=PySem.W.hideAll_none _ (List.mem_filter.mpr (List.mem_range.mpr (ay E),by simp[q]));rw[z]at e;cases e
structure Mod(K:Æ)(mg:c3)(base:È):ß where
 FR:K.In base
 glob:base.Ns c' mg
 blt:∃mb,base.Ns builtinsNs mb/\∀x:Ä,x≠"__name__"->mb x=eU x
 nolimit:base.NoLimit
structure Cx where
 prog:ci
 w:cc
 K:Æ
 mg:c3
 base:È
 A:cr
 N:ϐ
 s₀:be
 H₀:Hp
 env:Ù
 outer:Ł Ù
 stack:Ł Ù
 ex:Ł À
 fn:Ä->Þ
 calm:Þ
 pn:db
 xe:dC
def oV(l:Ł Ù):Ł À:=l.filterMap (·.frame)
abbrev Cx.fs(X:Cx):Ł À:=oV X.outer
def ο(sc:Í)(x:Ä):ß:=sc.names.lookup x=O .local\/sc.names.lookup x=O .cell\/sc.names.lookup x=O .free
def Loc(sc:Í)(x:Ä):ß:=sc.names.lookup x=O .local\/sc.names.lookup x=O .cell
def agv(env:Ù)(h:È)(m:c3)(x:Ä)(u:Â):ß:=env.kindOf x=O .local/\m x=O u\/(env.kindOf x=O .cell\/env.kindOf x=O .free)/\∃c,env.cells.lookup x=O c/\h.IsCell c (O u)
structure Cx.Ok(X:Cx):ß where
 mod:Mod X.K X.mg X.base
 kind:X.env.scope.kind=.function
 glob:X.env.globals=c'
 blt:X.env.builtins=builtinsNs
 above:X.s₀.heap.objs.size<=X.env.locals
 inj:∀x y c,X.env.cells.lookup x=O c->X.env.cells.lookup y=O c->x=y
 has:∀x,X.env.kindOf x=O .cell\/X.env.kindOf x=O .free->∃c,X.env.cells.lookup x=O c
 OW:∀x c,X.fn x=J->X.env.cells.lookup x=O c->X.s₀.heap.objs.size<=c
 hd:X.calm=J->X.A.handled=ao
 frames:X.A.frames=O X.stack
 N9:X.stack=X.outer\/(X.stack=X.env::X.outer/\X.env.frame=O X.env.locals)QX:∀b∈X.ex,b≠X.env.locals/\∀x c,X.env.cells.lookup x=O c->c≠b
 bs:∀b o,X.base.get? b=O o->X.s₀.heap.get? b=O o/\X.H₀ b=ao
 Aq:X.base.objs.size<=X.s₀.heap.objs.size
 sT:∀b o,X.base.get? b=O o->b∉X.ex
 wj:∀b∈X.ex,b∉X.fs
 kj:X.s₀.heap.FunFrames X.base X.outer
 Hv:∀b∈X.fs,X.H₀ b=ao
structure Inv(X:Cx)(bb:db)(σ:Ł (Ő V))(H:Hp)(s:be):ß where
 ok:X.Ok
 os:s.os=X.s₀.os
 bare:AllBare s.gens
 base:Un X.fs X.ex X.H₀ H X.s₀.heap s.heap
 loc:∃m,s.heap.Ns X.env.locals m/\∀(i:Ń)(x:Ä)(v:V),X.N[i]?=O x->σ[i]?=O (O v)->ο X.env.scope x->∃u,RelV v u/\agv X.env s.heap m x u
 cell:∀x c,X.env.cells.lookup x=O c->∃v,s.heap.IsCell c v
 free:H X.env.locals=ao
 gz:∀x c,X.env.cells.lookup x=O c->H c=ao
 pin:∀p∈X.pn++bb,s.heap.get? p.1=O p.2/\H p.1=ao/\p.1≠X.env.locals/\p.1∉X.fs/\∀v,p.2.data≠.cell v
 c4:jX X.prog X.w H s.heap
 len:Á σ=Á X.N
def Cx.Ok.aip{X:Cx}(ok:X.Ok)(e:X.base.get? b=O o):b∉X.fs:=λh=>by let:=(ok.kj.mem h).1;rw[e]at this;cases this
theorem Inv.bs(I:Inv X bb σ H s):∀b o,X.base.get? b=O o->s.heap.get? b=O o/\H b=none:=λb o e=>(I.base.keep b o (I.ok.bs b o e).1 (I.ok.bs b o e).2 (I.ok.aip e) (I.ok.sT b o e),I.base.free b o (I.ok.bs b o e).1 (I.ok.bs b o e).2 (I.ok.sT b o e))
def Inv.bk(I:Inv X bb σ H s):∀b o,X.base.get? b=O o->s.heap.get? b=O o:=λb o e=>(I.bs b o e).1
theorem Inv.mod(I:Inv X bb σ H s):Mod X.K X.mg X.base:=I.ok.mod
def Inv.qC(I:Inv X bb σ H s):X.K.In s.heap:=I.ok.mod.FR.keeps I.bk
theorem Inv.lt(I:Inv X bb σ H s):X.env.locals<s.heap.objs.size:=let (_,hn,_):=I.loc;hn.lt
def Inv.sz(I:Inv X bb σ H s):X.s₀.heap.objs.size<=s.heap.objs.size:=aq I.ok.above (dF I.lt)
def Inv.aiq(I:Inv X bb σ H s){a:À}(h:s.heap.objs.size<=a):a∉X.fs:=λb=>by let(_,o,c,_):=I.ok.kj.mem b;rwa[Ă (bp (ay c) (aq I.sz h)) (cM _)]
def Inv.Qh(I:Inv X bb σ H s):∀x c,X.env.cells.lookup x=O c->c≠X.env.locals:=λx c e z=>by let(v,o,h,d):=I.cell x c e;obtain⟨m,⟨a,E,p,F,j,_⟩,_⟩:=I.loc;rw[z,F]at h;cases h;rw[j]at d;cases d
theorem Inv.kj(I:Inv X bb σ H s):s.heap.FunFrames X.base X.outer:=by
 let all:∀(l:Ł Ù),(∀b∈oV l,b∈X.fs)->X.s₀.heap.FunFrames X.base l->s.heap.FunFrames X.base l:=by intro l;induction l with|f=>intro _ _;done|g E r i=>intro d f;obtain⟨k,⟨L,o,h,hn,g,j⟩,m⟩:=f;let a:=d L (by delta oV;rw[iM,h];rwa[aF]);let(sl,e):=I.base.slot L o g (I.ok.Hv L a) a λz=>I.ok.wj L z a;exact(k,(L,_,h,hn,e,j),i (λb c=>d b (by delta oV;rw[iM,h];rwa[aE _ c])) m)
 rwa[all _ (λ_ c=>c) I.ok.kj]
theorem Inv.stack(I:Inv X bb σ H s):s.heap.FunFrames X.base X.stack:=by
 rcases I.ok.N9 with e|⟨e,h⟩;.rw[e];rwa[I.kj]
 .rw[e];let(m,hn,_):=I.loc;rwa[.cons (by rw[I.ok.kind];decide) h hn (F3 (aq I.ok.Aq I.ok.above)) I.kj]
def Inv.zL(I:Inv X bb σ H s):∀b∈oV X.stack,b∈X.env.locals::X.fs:=λb h=>by
 rcases I.ok.N9 with e|⟨e,f⟩;.rw[e]at h;rwa[aE _ h]
 .rw[e]at h;delta oV at h;rw[iM,f]at h;rwa[h]
def Inv.qp(I:Inv X bb σ H s):∀b∈oV X.stack,H b=none:=λb h=>by
 rcases aw.mp (I.zL b h)with e|h;.rw[e];rwa[I.free]
 .let(_,o,a,_):=I.ok.kj.mem h;rwa[I.base.free b o a (I.ok.Hv b h) λz=>I.ok.wj b z h]
def Inv.step{ch:Ł _}(I:Inv X bb σ H s)(Z:∀b∈ch,(b∈X.ex\/X.s₀.heap.objs.size<=b)/\b≠X.env.locals/\(∀x c,X.env.cells.lookup x=O c->c≠b)/\∀p∈X.pn++bb,p.1≠b)(keep:∀b o,b≠X.env.locals->b∉X.fs->b∉ch->s.heap.get? b=O o->H b=ao->h'.get? b=O o)(slot:∀b o,b≠X.env.locals->b∈X.fs->b∉ch->s.heap.get? b=O o->H b=ao->∃sl,h'.get? b=O {o with slots:=sl})(f:∀b o,b∉ch->s.heap.get? b=O o->H b=ao->H' b=ao)(there:∀b o,b∉ch->s.heap.get? b=O o->∃j,h'.get? b=O j)(K:∀b xs,H b=O (.T xs)->H' b=O (.T xs))(P:∀b o u,H b=O (.mX o u)->H' b=O (.mX o u))(Q:∀b ps,H b=O (.UA ps)->∃M,H' b=O (.UA (ps++M)))(ns:∀m,s.heap.Ns X.env.locals m->h'.Ns X.env.locals m)(R:jX X.prog X.w H' h')(U:AllBare g'):Inv X bb σ H' {s with heap:=h',gens:=g',drawn:=d',toks:=t'}:=by
 let L:∀b o,X.s₀.heap.get? b=O o->b≠X.env.locals:=λb o e=>aR (bp (ay e) I.ok.above);let y:∀b o,X.s₀.heap.get? b=O o->b∉X.ex->b∉ch:=λb o e h a=>by
  rcases(Z b a).1 with z|z;.rwa[h z]
  .rwa[Ă (bp (ay e) z) (cM _)]
 let C:∀x c,X.env.cells.lookup x=O c->∀v,s.heap.IsCell c v->h'.IsCell c v:=λx c e v W=>by
  let(o,g,A):=W;let N:=λz=>(Z c z).2.2.1 x c e Ŗ;by_cases B:c∈X.fs;.let(sl,q):=slot c o (I.Qh x c e) B N g (I.gz x c e);exact(_,q,A)
  .exact(o,keep c o (I.Qh x c e) B N g (I.gz x c e),A)
 erw[(I.ok,I.os,U,(λb o e n a h=>keep b o (L b o e) a (y b o e h) (I.base.keep b o e n a h) (I.base.free b o e n h),λb o e n a h=>?_,λb o e n h=>?_,λb o e h=>?_,λb xs e=>K b xs (I.base.oy b xs e),λb o xs e=>P b o xs (I.base.mw b o xs e),λb ps e=>?_),?_,λx c e=>?_,?_,λx c e=>?_,λp D=>?_,R,I.len)];.let(sl,E):=I.base.slot b o e n a h;let(S,t):=slot b _ (L b o e) a (y b o e h) E (I.base.free b o e n h);exact(S,t)
 .let(j,E):=I.base.there b o e h;rwa[f b j (y b o e h) E (I.base.free b o e n h)]
 .let(j,E):=I.base.there b o e h;rwa[there b j (y b o e h) E]
 .let(m1,E):=I.base.oq b ps e;let(m2,t):=Q b _ E;exact(_,by rw[t,Array.append_assoc])
 .let(m,hn,Y):=I.loc;erw[(m,ns m hn,λi x v E t e3=>?_)];let(u,r,l):=Y i x v E t e3;erw[(u,r,?_)];rcases l with l|⟨k,c,e,z⟩;.rwa[.inl l]
  .rwa[.inr (k,c,e,C x c e _ z)]
 .let(v,z):=I.cell x c e;exact(v,C x c e v z)
 .obtain⟨m,⟨o,_,_,g,_⟩,_⟩:=I.loc;rwa[f _ o (λz=>(Z _ z).2.1 Ŗ) g I.free]
 .let(v,o,g,A):=I.cell x c e;rwa[f c o (λz=>(Z c z).2.2.1 x c e Ŗ) g (I.gz x c e)]
 .let(e,n,F,G,d):=I.pin p D;let N:=λz=>(Z p.1 z).2.2.2 p D Ŗ;exact(keep p.1 p.2 F G N e n,f p.1 p.2 N e n,F,G,d)
def Inv.un(I:Inv X bb σ H s)(u:Un X.fs [] H H' s.heap h')(c:jX X.prog X.w H' h'):Inv X bb σ H' {s with heap:=h',toks:=t'}:=by obtain⟨m,⟨o,f,p,a,r⟩,_⟩:=id I.loc;let(sl,L):=u.any a I.free ⋯;rwa[I.step (ch:=[]) (λ_ z=>nomatch z) (λb o _ h _ e n=>u.keep b o e n h ⋯) (λb o _ h _ e n=>u.slot b o e n h ⋯) (λb o _ e n=>u.free b o e n ⋯) (λb o _ e=>u.there b o e ⋯) u.oy u.mw u.oq (λM d=>by let(g,K,E,F,R):=d;rw[a]at F;cases F;exact(_,K,E,L,R)) c I.bare]
def Inv.call(I:Inv X bb σ H s)(u:Un (oV X.stack) ch H H' s.heap h')(C:jX X.prog X.w H' h')(g:AllBare g')(Z:∀b∈ch,(b∈X.ex\/X.s₀.heap.objs.size<=b)/\b≠X.env.locals/\(∀x c,X.env.cells.lookup x=O c->c≠b)/\∀p∈X.pn++bb,p.1≠b):Inv X bb σ H' {s with heap:=h',gens:=g',drawn:=d',toks:=t'}:=by obtain⟨m,⟨o,i,j,a,r⟩,_⟩:=id I.loc;let(sl,L):=u.any a I.free λz=>(Z _ z).2.1 Ŗ;rwa[I.step Z (λb o L d h e n=>u.keep b o e n (λz=>(aw.mp (I.zL b z)).elim L d) h) (λb o _ _ h e n=>u.any e n h) (λb o h e n=>u.free b o e n h) (λb o h e=>u.there b o e h) u.oy u.mw u.oq (λM f=>by let(k,K,E,F,R):=f;rw[a]at F;cases F;exact(_,K,E,L,R)) C g]
def Inv.turned(I:Inv X bb σ H s)(k:∀b o,b≠it->s.heap.get? b=O o->h'.get? b=O o)(hn:H it=ao)(L:it≠X.env.locals)(a:it∈X.ex\/X.s₀.heap.objs.size<=it)(d:∀x c,X.env.cells.lookup x=O c->c≠it)(f:∀p∈X.pn++bb,p.1≠it):Inv X bb σ H {s with heap:=h',toks:=t'}:=by
 let N:∀b u,H b=O u->b≠it:=λb u e z=>()
 erw[I.step (ch:=[it]) (λb g=>?_) (λb o _ _ h e _=>k b o (λz=>h (by simp[z])) e) (λb o _ _ h e _=>(_,k b o (λz=>h (by simp[z])) e)) (λ_ _ _ _ n=>n) (λb o h e=>(o,k b o (λz=>h (by simp[z])) e)) (λ_ _ e=>e) (λ_ _ _ e=>e) (λb ps e=>(#[],by done)) (λm i=>?_) (λb u e=>?_) I.bare]
 .let e:=by simpa using g
  subst e;exact(a,L,d,f)
 .let(o,E,j,l,r):=i;exact(o,E,j,k _ o (cY L) l,r)
 .erw[(I.c4 b u e).sW (λc v h q=>k c v ?_ q) (λ_ q=>q) λ_ _ q=>q];rcases h with z|z;.rw[z];rwa[N b u e]
  .rwa[N c _ z]
def Inv.tok(I:Inv X bb σ H s)(t:Ń):Inv X bb σ H {s with toks:=t}:=I.un Un.refl I.c4
theorem Inv.kept(I:Inv X bb σ H s)(k:∀b u,s.heap.get? b=O u->h'.get? b=O u):Inv X bb σ H {s with heap:=h',toks:=t'}:=I.un (Un.kept k) (I.c4.kept k)
theorem Inv.laid{a:À}(I:Inv X bb σ H s)(k:∀b u,s.heap.get? b=O u->h'.get? b=O u)(h:s.heap.objs.size<=a)(new:fq X.prog X.w (dq H a o) h' a o):Inv X bb σ (dq H a o) {s with heap:=h',toks:=t'}:=I.un (Un.laid k h (I.c4.fresh h)) (I.c4.laid k h new)
theorem Inv.write(I:Inv X bb σ H s)(m:ml (H x))(a:e=x\/H e=O (.own x))(k:∀b u,b≠e->s.heap.get? b=O u->h'.get? b=O u)(h:∃u,h'.get? e=O u)(new:fq X.prog X.w (dq H x o) h' x o):Inv X bb σ (dq H x o) {s with heap:=h',toks:=t'}:=I.un (Un.write m a k h) (I.c4.write m a k h new)
def Inv.Ge{N:Ł _}(I:Inv X bb σ H s)(h:∀p∈N,s.heap.get? p.1=O p.2/\H p.1=ao/\p.1≠X.env.locals/\p.1∉X.fs/\∀v,p.2.data≠.cell v):Inv X N σ H s:=(I.ok,I.os,I.bare,I.base,I.loc,I.cell,I.free,I.gz,λp a=>(bu.mp a).elim (λz=>I.pin p (dP _ z)) (h p),I.c4,I.len)
def vo{N:ϐ}(h:N.Nodup){j:Ń}(a:N[i]?=O x)(b:N[j]?=O x):i=j:=by let(c,e):=ar.mp a;let(d,E):=ar.mp b;exact(ie h).mp (e.trans E.symm)
def IC{E:dC}(I:Inv X bb σ H s)(hN:X.N.Nodup)(hi:X.N[i]?=O x)(B:Loc X.env.scope x)(r:RelV v u)(h:∀s',Inv X bb (σ.set i (O v)) H s'->(∃a,Û a s.heap s'.heap/\(a=X.env.locals\/X.env.cells.lookup x=O a))->Q ⟨⟩ s')(hf:ø (X.fn x=J\/X.env.scope.names.lookup x=O .local) hH):bn M A (storeName X.env x u) Q E s:=by
 let(m,hn,hl):=id I.loc;let Y:(X.env.scope.kind==.class||X.env.scope.kind==.module&&X.env.locals !=X.env.globals)=false:=by rw[I.ok.kind];rfl
 let L:i<Á σ:=by rw[I.len];exact(ar.mp hi).1
 let Qh:=I.Qh;let t:∀{a:À}{h':È},(∃o,s.heap.get? a=O o/\H a=ao)->Û a s.heap h'->jX X.prog X.w H h':=λ{a h'}ha f b ob e=>by
  let(_,_,AO):=ha;erw[(I.c4 b ob e).sW (λc W l q=>(f.2 c ?_).trans q) (λ_ q=>q) λ_ _ q=>q];rintro rfl;rcases l with rfl|l;.rw[AO]at e;cases e
  .rw[AO]at l;cases l
 rcases B with K|K
 .erw[wpAny_storeName_local K hn (λh' VC f=>?_) Y];let(oL,_,_,Rp,_):=id hn;erw[h _ (I.ok,I.os,I.bare,(λb o e n D B=>?_,λb o e n D B=>?_,I.base.free,λb o e B=>?_,I.base.oy,I.base.mw,I.base.oq),(_,VC,λj y Z g C e3=>?_),λy c e=>?_,I.free,I.gz,λp hp=>?_,t (oL,Rp,I.free) f,by simpa using I.len) (_,f,.inl Ŗ)];.exact(f.2 b (aR (bp (ay e) I.ok.above))).trans (I.base.keep b o e n D B)
  .let(sl,g):=I.base.slot b o e n D B;exact(sl,(f.2 b (aR (bp (ay e) I.ok.above))).trans g)
  .let(o',g):=I.base.there b o e B;exact(o',(f.2 b (aR (bp (ay e) I.ok.above))).trans g)
  .by_cases F:j=i;.subst F;rw[hi]at g;cases g;rw[cQ L]at C;cases C;exact(u,r,.inl (K,⋯))
   .rw[cy (cY F)]at C;let(u',r',q):=hl j y Z g C e3;erw[(u',r',?_)];rcases q with ⟨k,e⟩|⟨k,c,e,z⟩;.erw[.inl (k,?_)];let:y≠x:=λe=>F (vo hN g (e▸hi));simp[this,e]
    .rwa[.inr (k,c,e,z.sameBut f (Qh y c e))]
  .let(W,z):=I.cell y c e;exact(W,z.sameBut f (Qh y c e))
  .let(e,n,T,nf,d):=I.pin p hp;exact((f.2 p.1 T).trans e,n,T,nf,d)
 .let G:X.fn x=true:=nofun
  let(c,l):=I.ok.has x (.inl K);let(W,z):=I.cell x c l;erw[wpAny_storeName_cell I.ok.kind K l z λh' P f=>?_];let(oc,R,ahy):=id z;erw[h _ (I.ok,I.os,I.bare,(λb o e n D B=>(f.2 b (aR (bp (ay e) (I.ok.OW x c G l)))).trans (I.base.keep b o e n D B),λb o e n D B=>?_,I.base.free,λb o e B=>?_,I.base.oy,I.base.mw,I.base.oq),(m,hn.sameBut f (cY (Qh x c l)),λj y Z g C e3=>?_),λy U e=>?_,I.free,I.gz,λp hp=>?_,t (oc,R,I.gz x c l) f,by simpa using I.len) (c,f,.inr l)];.let(sl,g):=I.base.slot b o e n D B;exact(sl,(f.2 b (aR (bp (ay e) (I.ok.OW x c G l)))).trans g)
  .let(o',g):=I.base.there b o e B;exact(o',(f.2 b (aR (bp (ay e) (I.ok.OW x c G l)))).trans g)
  .by_cases F:j=i;.subst F;rw[hi]at g;cases g;rw[cQ L]at C;cases C;exact(u,r,.inr (.inl K,c,l,P))
   .rw[cy (cY F)]at C;let(u',r',q):=hl j y Z g C e3;erw[(u',r',?_)];rcases q with q|⟨k,U,e,z'⟩;.rwa[.inl q]
    .erw[.inr (k,U,e,z'.sameBut f ?_)];rintro rfl;rwa[F (vo hN g (I.ok.inj _ _ _ e l▸hi))]
  .by_cases S:U=c;.subst S;exact(_,P)
   .let(w2,z2):=I.cell y U e;exact(w2,z2.sameBut f S)
  .let(e,n,T,nf,d):=I.pin p hp;erw[((f.2 p.1 ?_).trans e,n,T,nf,d)];intro q;rw[q,R]at e;rwa[d W (by rw[<-dG e];rwa[ahy])]
def nC{E:dC}(I:Inv X bb σ H s)(a:X.N.Nodup)(hi:X.N[i]?=O x)(b:Loc X.env.scope x)(r:RelV v u)(h:∀s',Inv X bb (σ.set i (O v)) H s'->Q ⟨⟩ s')(f:ø (X.fn x=J\/X.env.scope.names.lookup x=O .local) hH):bn M A (storeName X.env x u) Q E s:=IC I a hi b r (λs' c _=>h s' c) f
def Inv.Av(I:Inv X bb σ H s)(h:s'.os=s.os)(u:Un (oV X.stack) ch H H' s.heap s'.heap)(C:jX X.prog X.w H' s'.heap)(g:AllBare s'.gens)(o:∀b∈ch,(b∈X.ex\/X.s₀.heap.objs.size<=b)/\b≠X.env.locals/\(∀x c,X.env.cells.lookup x=O c->c≠b)/\∀p∈X.pn++bb,p.1≠b):Inv X bb σ H' s':=by let(h',G,d,t,a):=s';subst h;rwa[I.call u C g o]
abbrev XK:=Â->Ő À->Hp->ß
abbrev Ç:=Ł (Ő V)
abbrev VK:=V->Hp->ß
abbrev TE:=Ç->Hp->VK->ß
abbrev TT:=Ç->Hp->(Þ->Hp->ß)->ß
abbrev TA:=Ç->Hp->(ϕ->Hp->ß)->ß
structure Ô where
 nx:Ç->Hp->ß
 rt:VK
 bk:Ç->Hp->ß:=λ_ _=>ŧ
 ct:Ç->Hp->ß:=λ_ _=>ŧ
abbrev TS:=Ô->Ç->Hp->ß
def EP(X:Cx)(p:db)(σ:Ç)(Q:VK)(u:Â)(s':be):ß:=∃v H,Inv X p σ H s'/\RelV v u/\Q v H
def TP(X:Cx)(p:db)(σ:Ç)(Q:Þ->Hp->ß)(b:Þ)(s':be):ß:=∃H,Inv X p σ H s'/\Q b H
def AP(X:Cx)(p:db)(σ:Ç)(Q:ϕ->Hp->ß)(us:Ł Â)(s':be):ß:=∃v H,Inv X p σ H s'/\Vals v us/\Q v H
def SP(X:Cx)(p:db)(D:Ô)(f:Flow)(s':be):ß:=match f with|.next=>∃a H,Inv X p a H s'/\D.nx a H|.brk=>∃a H,Inv X p a H s'/\D.bk a H|.cont=>∃a H,Inv X p a H s'/\D.ct a H|.ret u=>∃v a H,Inv X p a H s'/\RelV v u/\D.rt v H
def PE(X:Cx)(e:Å)(t:TE):ß:=∀(p:Ł _)(s:be)(σ:Ç)(H:Hp)(Q:VK),Inv X p σ H s->t σ H Q->bn (b' X.prog X.w) X.A (Ê e X.env) (EP X p σ Q) X.xe s
def PT(X:Cx)(e:Å)(t:TT):ß:=∀(p:Ł _)(s:be)(σ:Ç)(H:Hp)(Q:Þ->Hp->ß),Inv X p σ H s->t σ H Q->bn (b' X.prog X.w) X.A (isTrue e X.env (Ê e X.env)) (TP X p σ Q) X.xe s
def PW(X:Cx)(e:Å)(t:TT):ß:=∀(whole:Sem _)(p:Ł _)(s:be)(σ:Ç)(H:Hp)(Q:Þ->Hp->ß),Inv X p σ H s->t σ H Q->bn (b' X.prog X.w) X.A (isTrue e X.env whole) (TP X p σ Q) X.xe s
def PW.pt(h:PW X e t):PT X e t:=h _
def PA(X:Cx)(es:Ł Å)(t:TA):ß:=∀(pos:Õ)(p:Ł _)(s:be)(σ:Ç)(H:Hp)(Q:ϕ->Hp->ß),Inv X p σ H s->t σ H Q->bn (b' X.prog X.w) X.A (spliced (eP pos (dN es X.env))) (AP X p σ Q) X.xe s
def PS(X:Cx)(st:É)(t:TS):ß:=∀(p:Ł _)(s:be)(σ:Ç)(H:Hp)(D:Ô),Inv X p σ H s->t D σ H->bn (b' X.prog X.w) X.A (exec st X.env) (SP X p D) X.xe s
def iY(X:Cx)(st:Ł É)(t:TS):ß:=∀(p:Ł _)(s:be)(σ:Ç)(H:Hp)(D:Ô),Inv X p σ H s->t D σ H->bn (b' X.prog X.w) X.A (execs st X.env) (SP X p D) X.xe s
def iL{M:Model}{A:cr}{E:dC}{s:be}(h:bn M A t Q E s)(H:∀a s,Q a s->q a s):bn M A t q E s:=cZ h H λ_ _ x=>x
def kr{a:dC}{E:dC}(h:bn M A t (EP X p σ Q) E s)(k:∀u s v H,Inv X p σ H s->RelV v u->Q v H->a u s):bn M A t a E s:=iL h λu s (v,H,I,r,q)=>k u s v H I r q
def V_{E:dC}(h:bn M A t (AP X p σ Q) E s)(k:∀u s v H,Inv X p σ H s->Vals v u->Q v H->a u s):bn M A t a E s:=iL h λu s (v,H,I,r,q)=>k u s v H I r q
def cps{A:ß}(h:∀G:ß,(A->G)->G):A:=h A id
def BB(i:Ń):TE:=λσ H Q=>∃v,σ[i]?=O (O v)/\Q v H
def tC(v:V):TE:=λ_ H Q=>Q v H
def zp(b:X.N[i]?=O x)(g:ο X.env.scope x)(d:ø ((x==("__debug__":Ä))=a5) P3)(P:ø ((x==("__classdict__":Ä))=a5) P3):PE X (.Name x pos) (BB i):=by
 intro p s σ H Q I h;let(v,e,h):=h;let(m,hn,j):=I.loc;let(u,r,l):=j i x v b e g;let f:EP X _ σ Q u s:=(v,H,I,r,h);rcases l with ⟨k,n⟩|⟨k,c,a,B⟩;.rwa[wpAny_Name (wpAny_loadName_local I.ok.kind k hn n f) d]
 .rcases k with k|k;.rwa[wpAny_Name (wpAny_loadName_cell I.ok.kind k a B f) d]
  .rwa[wpAny_Name (wpAny_loadName_free I.ok.kind k a B f P) d]
def MQ{i j pos}:PE X (.Constant (.int i) j pos) (tC (.I i)):=λ_ _ _ H _ I h=>wpAny_Constant_int (.I i,H,I.tok _,(_,Ŗ),h)
def ĺ{b j pos}:PE X (.Constant (.bool b) j pos) (tC (.B b)):=λ_ _ _ H _ I h=>Constant_bool (.B b,H,I,Ŗ,h)
def ZJ{j pos}:PE X (.Constant .none j pos) (tC .jn):=λ_ _ _ H _ I h=>WK (.jn,H,I,Ŗ,h)
def MU{x j pos}:PE X (.Constant (.str x) j pos) (tC (.S x)):=λ_ _ _ H _ I h=>Calls.Constant_str (.S x,H,I.tok _,(_,Ŗ),h)
def Gl(X:Cx)(x:Ä):ß:=X.env.kindOf x=O .globalImplicit
def jz{E:dC}{σ:Ç}{Q:dC}(I:Inv X p σ H s)(g:Gl X x)(m:X.mg x=O u)(h:Q u s)(d:ø ((x==("__debug__":Ä))=a5) P3):bn (b' X.prog X.w) X.A (Ê (.Name x pos) X.env) Q E s:=Pf I.ok.kind g (Calls.loadGlobal_global (by rw[I.ok.glob];rwa[I.mod.glob.keeps I.bk]) m h) d
def rh{E:dC}{σ:Ç}{Q:dC}(I:Inv X p σ H s)(g:Gl X x)(m:X.mg x=ao)(v:eU x=O u)(h:Q u s)(hn:ø (x≠"__name__") P3)(d:ø ((x==("__debug__":Ä))=a5) P3):bn (b' X.prog X.w) X.A (Ê (.Name x pos) X.env) Q E s:=by let(M,a,b):=I.mod.blt;rwa[Pf I.ok.kind g (Calls.loadGlobal_builtin (by rw[I.ok.glob];rwa[I.mod.glob.keeps I.bk]) m (by rw[I.ok.blt];rwa[a.keeps I.bk]) ((b x hn).trans v) h) d]
def tY(g:Gl X x)(m:X.mg x=O u)(r:RelV v u)(d:ø ((x==("__debug__":Ä))=a5) P3):PE X (.Name x pos) (tC v):=λ_ _ _ H _ I h=>jz I g m (v,H,I,r,h) d
def PC(X:Cx)(o:CmpOp)(a b:Å)(t:TE):ß:=∀(p:Ł _)(s:be)(σ:Ç)(H:Hp)(Q:VK),Inv X p σ H s->t σ H Q->bn (b' X.prog X.w) X.A (Ê a X.env) (λv S=>bn (b' X.prog X.w) X.A (Ê b X.env) (λu c=>bn (b' X.prog X.w) X.A (compareOp o v u) (EP X p σ Q) X.xe c) X.xe S) X.xe s
def ajf(ta:TE):TE:=λσ H Q=>ta σ H λx h=>Q (.B (Đ (x=.jn))) h
def ŕ(ta:TE):TE:=λσ H Q=>ta σ H λx h=>Q (.B ! Đ (x=.jn)) h
def RelV.A8(r:RelV x v):(v==Ó)=Đ (x=.jn):=by cases x with|jn=>cases r;rfl|B _=>cases r;rfl|I _=>let(t,rfl):=r;rfl|S _=>let(t,rfl):=r;rfl|byt _=>let(t,rfl):=r;rfl|flt _=>let(t,rfl):=r;rfl|A _=>cases r;rfl|ty _=>cases r;rfl
def ZG{j p}(c:PE X a ta):PC X .Is a (.Constant .none j p) (ajf ta):=by intro P s σ H Q I h;rwa[iL (c _ s σ H _ I h) λv s1 z=>by let(x,d,i,r,q):=z;exact(WK (is_none_gen (_,d,i,by rw[r.A8];rfl,q)))]
def Sq{j p}(c:PE X a ta):PC X .IsNot a (.Constant .none j p) (ŕ ta):=by intro P s σ H Q I h;rwa[iL (c _ s σ H _ I h) λv s1 z=>by let(x,d,i,r,q):=z;exact(WK (isnot_none_gen (_,d,i,by rw[r.A8];rfl,q)))]
def tB(t:TE):TT:=λσ H Q=>t σ H λx h=>∃c,x=.B c/\Q c h
def Z9{X:Cx}{a b:Å}{pos:Õ}{o:CmpOp}{t:TE}(h:PC X o a b t)(e:hX o b=false:=by first|rwa[A _ ∅ ∅]|rfl):PT X (.Compare a [o] [b] pos) (tB t):=by intro p s σ H Q I w;erw[Ps (iL (h _ s σ H _ I w) λv s1 e=>iL e λu s2 f=>iL f λc S x=>?_) e];let(x,g,i,r,j):=x;let(d,rfl,q):=j;cases r;rwa[pB (g,i,q)]
def a_(h:PE X e t)(c:ø (∀whole,isTrue e X.env whole=do let v<-whole;standAt e.pos;holding [v] (truthy v)) hO):PT X e (tB t):=by intro p s σ H Q I w;erw[isTrue_plain (kr (h _ s σ H _ I w) λv s1 x f i r g=>?_) (c _)];let(d,rfl,q):=g;cases r;rwa[pB (f,i,q)]
def VB(t u:TT):TT:=λσ H Q=>t σ H λc h=>if c=J then u σ h Q else Q a5 h
def Iv(t u:TT):TT:=λσ H Q=>t σ H λc h=>if c=J then Q J h else u σ h Q
def TC(d:PT X a tA):PW X (.BoolOp .And [a] pos) tA:=by intro wh p s σ H Q I h;erw[isTrue_and (iL (d _ s σ H Q I h) λc s1 e=>?_)];cases c with|d=>rwa[isTrue_and_nil e]|e=>rwa[e]
def f_(d:PT X a tA):PW X (.BoolOp .Or [a] pos) tA:=by intro wh p s σ H Q I h;erw[isTrue_or (iL (d _ s σ H Q I h) λc s1 e=>?_)];cases c with|e=>rwa[isTrue_or_nil e]|d=>rwa[e]
def e_(d:PT X a tA)(e:PW X (.BoolOp .And (b::rest) pos) tB'):PW X (.BoolOp .And (a::b::rest) pos) (VB tA tB'):=by intro wh p s σ H Q I h;erw[isTrue_and (iL (d _ s σ H _ I h) λc s1 (f,i,q)=>?_)];cases c with|d=>rwa[e wh _ s1 σ f Q i q]|e=>done
def adu(d:PT X a tA)(e:PW X (.BoolOp .Or (b::rest) pos) tB'):PW X (.BoolOp .Or (a::b::rest) pos) (Iv tA tB'):=by intro wh p s σ H Q I h;erw[isTrue_or (iL (d _ s σ H _ I h) λc s1 (f,i,q)=>?_)];cases c with|d=>done|e=>rwa[e wh _ s1 σ f Q i q]
def Wx(ta tb:TE):TE:=λσ H Q=>ta σ H λx h=>∃c,x=.B c/\if c=J then tb σ h Q else Q (.B a5) h
def ZL{o}(h:PE X a t):PE X (.BoolOp o [a] pos) t:=λp s σ H Q I w=>BoolOp_one (h _ s σ H Q I w)
def ZH(e:PE X a ta)(f:PE X (.BoolOp .And (b::rest) pos) tb):PE X (.BoolOp .And (a::b::rest) pos) (Wx ta tb):=by intro p s σ H Q I h;erw[BoolOp_and (kr (e _ s σ H _ I h) λv s1 x d i r q=>?_)];let(c,rfl,q):=q;cases r;erw[pB ?_];cases c with|d=>rwa[f _ s1 σ d Q i q]|e=>exact(.B _,d,i,Ŗ,q)
def TD(t:TT)(ta tb:TE):TE:=λσ H Q=>t σ H λc h=>if c=J then ta σ h Q else tb σ h Q
def MP(f:PT X c tA)(g:PE X a ta)(j:PE X b tb):PE X (.IfExp c a b pos) (TD tA ta tb):=by intro p s σ H Q I h;erw[wpAny_IfExp (iL (f _ s σ H _ I h) λd s1 (e,i,q)=>?_)];cases d with|d=>rwa[g _ s1 σ e Q i q]|e=>rwa[j _ s1 σ e Q i q]
def gh(K:Æ)(H:Hp)(a:À)(xs:ϕ):ß:=Rd H a (.L xs)\/∃(o:Ø)(b:Array _)(n:Ń),K.lookup a=O o/\o.cls=.type "list"/\o.dict=ao/\o.data=.seq b n/\b.size<=Ã/\Vals xs b.toList
def gX(K:Æ)(H:Hp)(a:À)(xs:ϕ):ß:=Rd H a (.T xs)\/∃(o:Ø)(b:Array _)(n:Ń),K.lookup a=O o/\o.cls=.type "tuple"/\o.data=.seq b n/\b.size<=Ã/\Vals xs b.toList
def Ŏ:Â->Ő V|.none=>O .jn|.bool b=>O (.B b)|.int i _=>O (.I i)|.str x _=>O (.S x)|.bytes b _=>O (.byt b)|.float b _=>O (.flt b)|.ref a=>O (.A a)|.type n=>O (.ty n)|_=>ao
def RelV.abs(r:RelV x u):Ŏ u=O x:=by cases x with|jn=>cases r;rfl|B _=>cases r;rfl|I _=>let(t,rfl):=r;rfl|S _=>let(t,rfl):=r;rfl|byt _=>let(t,rfl):=r;rfl|flt _=>let(t,rfl):=r;rfl|A _=>cases r;rfl|ty _=>cases r;rfl
def RelV.inj(r:RelV x u)(q:RelV y u):x=y:=dG (r.abs.symm.trans q.abs)
theorem Vals.inj:∀{xs ys:ϕ}{us:Ł _},Vals xs us->Vals ys us->xs=ys:=by intro xs ys us a;induction a generalizing ys with|f=>intro b;cases b;rfl|g r t i=>intro b;cases b with|g R T=>rw[r.inj R,i T]
def gh.of{K:Æ}(h:H a=O (.L xs)):gh K H a xs:=.inl (.inl h)
def gX.of{K:Æ}(h:H a=O (.T xs)):gX K H a xs:=.inl (.inl h)
def Inv.list{σ:Ç}(I:Inv X bb σ H s)(h:gh X.K H a xs):∃b:Ł _,Vals xs b/\PlainL s.heap a b.toArray/\Á xs<=Ã:=by
 rcases h with h|⟨o,b,n,k,c,d,f,g,r⟩;.let(z,b,n,r,e):=h.ok I.c4;exact(b,r,(_,n,e,Ŗ,Ŗ,Ŗ),z)
 .erw[(_,r,(o,n,I.qC a o k,c,d,by done),?_)];let e:=r.length;simp only[b5]at e;lia
def Inv.tuple{σ:Ç}(I:Inv X bb σ H s)(h:gX X.K H a xs):∃b:Ł _,Vals xs b/\IsTup s.heap a b.toArray/\Á xs<=Ã:=by
 rcases h with h|⟨o,b,n,k,c,d,f,r⟩;.let(z,b,r,p):=h.ok I.c4;exact(b,r,p,z)
 .erw[(_,r,(o,I.qC a o k,c,n,by done),?_)];let e:=r.length;simp only[b5]at e;lia
def Inv.qf{σ:Ç}(I:Inv X bb σ H s)(h:gh X.K H a xs)(h':gh X.K H a ys):xs=ys:=by
 obtain⟨b,r,⟨o,n,e,_,_,d⟩,_⟩:=I.list h;obtain⟨A,R,⟨c,N,E,_,_,D⟩,_⟩:=I.list h';rw[e]at E;cases E;rw[d]at D;injection D with d1 _;let:=by simpa using bL Array.toList d1
 subst this;rwa[r.inj R]
def Inv.xT{σ:Ç}(I:Inv X bb σ H s)(h:gX X.K H a xs)(h':gX X.K H a ys):xs=ys:=by
 obtain⟨b,r,⟨o,e,_,n,d⟩,_⟩:=I.tuple h;obtain⟨A,R,⟨c,E,_,N,D⟩,_⟩:=I.tuple h';rw[e]at E;cases E;rw[d]at D;injection D with d1 _;let:=by simpa using bL Array.toList d1
 subst this;rwa[r.inj R]
abbrev Cx.sY(X:Cx)(E:dC):Cx:={X with xe:=E}
abbrev Cx.BR(X:Cx):Cx:=X.sY λ_ _=>ŧ
theorem Cx.Ok.sY{X:Cx}(ok:X.Ok)(E:dC):(X.sY E).Ok:=(ok.mod,ok.kind,ok.glob,ok.blt,ok.above,ok.inj,ok.has,ok.OW,ok.hd,ok.frames,ok.N9,ok.QX,ok.bs,ok.Aq,ok.sT,ok.wj,ok.kj,ok.Hv)
def Cx.Ok.lX{X:Cx}(ok:(X.sY E).Ok):X.Ok:=(ok.mod,ok.kind,ok.glob,ok.blt,ok.above,ok.inj,ok.has,ok.OW,ok.hd,ok.frames,ok.N9,ok.QX,ok.bs,ok.Aq,ok.sT,ok.wj,ok.kj,ok.Hv)
theorem Inv.sY{σ:Ç}(I:Inv X bb σ H s)(E:dC):Inv (X.sY E) bb σ H s:=(I.ok.sY E,I.os,I.bare,I.base,I.loc,I.cell,I.free,I.gz,I.pin,I.c4,I.len)
theorem Inv.lX{σ:Ç}(I:Inv (X.sY E) bb σ H s):Inv X bb σ H s:=(I.ok.lX,I.os,I.bare,I.base,I.loc,I.cell,I.free,I.gz,I.pin,I.c4,I.len)
theorem SP.lX(h:SP (X.sY E) bb D f s'):SP X bb D f s':=by cases f with|next=>let(a,b,I,q):=h;exact(a,b,I.lX,q)|brk=>let(a,b,I,q):=h;exact(a,b,I.lX,q)|cont=>let(a,b,I,q):=h;exact(a,b,I.lX,q)|ret u=>let(v,a,b,I,r,q):=h;exact(v,a,b,I.lX,r,q)
theorem iY.BR{st:Ł _}(h:iY X.BR st t):iY X st t:=λbb s σ H D I w=>cZ (h _ s σ H D (I.sY _) w) (λ_ _ q=>q.lX) λ_ _ z=>å z
def aeb:TS:=λD σ H=>D.nx σ H
def P_(t u:TS):TS:=λD σ H=>t {D with nx:=u D} σ H
def Tw:iY X [] aeb:=λ_ _ σ H _ I h=>gH (σ,H,I,h)
def qg{st:É}(b:PS X st t)(c:iY X rest u):iY X (st::rest) (P_ t u):=by intro p s σ H D I h;erw[qL (iL (b _ s σ H _ I h) λf s1 q=>?_)];cases f with|next=>let(a,d,i,q):=q;rwa[c _ s1 a d D i q]|ret v=>rwa[q]|brk=>rwa[q]|cont=>rwa[q]
def Gn{st:É}(a:PS X st t):iY X [st] t:=by intro p s σ H D I h;erw[qL (iL (a _ s σ H D I h) λf s1 q=>?_)];cases f with|next=>rwa[gH q]|ret v=>rwa[q]|brk=>rwa[q]|cont=>rwa[q]
def ũ:TS:=λD σ H=>D.ct σ H
def Be:PS X (.Continue pos) ũ:=λ_ _ σ H _ I h=>wpAny_Continue (σ,H,I,h)
def Inv.quiet{p:Ł _}{σ:Ç}(I:Inv X p σ H s):interactive X.env=false:=by simp[interactive,I.ok.kind]
def ad9(te:TE):TS:=λD σ H=>te σ H λ_ h=>D.nx σ h
def Tu(a:PE X e te)(hs:ø (g6 e ao pos.line X.env=pure a5) v0):PS X (.Expr e pos) (ad9 te):=by intro p s σ H D I h;rwa[wpAny_Expr_any (iL (a _ s σ H _ I h) λv s1 z=>by let(x,b,i,r,q):=z;exact(σ,b,i,q)) I.quiet hs]
def Ų(te:TE):TS:=λD σ H=>te σ H D.rt
def Z8(a:PE X e te):PS X (.Return (O e) pos) (Ų te):=by intro p s σ H D I h;rwa[wpAny_Return_some (iL (a _ s σ H _ I h) λv s1 z=>by let(x,b,i,r,q):=z;exact(x,σ,b,i,r,q))]
def Ŋ(c:TT)(t u:TS):TS:=λD σ H=>c σ H λb h=>if b=J then t D σ h else u D σ h
def Ϗ(g:PT X c T)(j:iY X a t)(k:iY X b u):PS X (.If c a b pos) (Ŋ T t u):=by intro p s σ H D I h;erw[wpAny_If (iL (g _ s σ H _ I h) λd s1 (f,i,q)=>?_)];cases d with|d=>rwa[j _ s1 σ f D i q]|e=>rwa[k _ s1 σ f D i q]
abbrev TG:=V->Ç->Hp->(Ç->Hp->ß)->ß
abbrev Vg:=ϕ->Ç->Hp->(Ç->Hp->ß)->ß
def PG(X:Cx)(T:Å)(t:TG):ß:=∀(p:Ł _)(s:be)(σ:Ç)(H:Hp)(v:V)(u:Â)(Q:Ç->Hp->ß),Inv X p σ H s->RelV v u->t v σ H Q->bn (b' X.prog X.w) X.A (assign T X.env u) (λ_ S=>∃a h,Inv X p a h S/\Q a h) X.xe s
def mu(X:Cx)(T:Ł Å)(t:Vg):ß:=∀(p:Ł _)(s:be)(σ:Ç)(H:Hp)(v:ϕ)(u:Ł _)(Q:Ç->Hp->ß),Inv X p σ H s->Vals v u->t v σ H Q->bn (b' X.prog X.w) X.A (assignInOrder ((gc T X.env).map (·.2)) u) (λ_ S=>∃a h,Inv X p a h S/\Q a h) X.xe s
abbrev WZ:=V->V->V->Hp->(Hp->ß)->ß
def Ċ(X:Cx)(t:WZ):ß:=∀(p:Ł _)(s:be)(σ:Ç)(H:Hp)(o i v:V)(a I u:Â)(Q:Hp->ß),Inv X p σ H s->RelV o a->RelV i I->RelV v u->t o i v H Q->bn (b' X.prog X.w) X.A (setItem a I u) (λ_ S=>∃h,Inv X p σ h S/\Q h) X.xe s
def kJ(i:Ń):TG:=λv σ H Q=>Q (σ.set i (O v)) H
def Tc{X:Cx}{pos:Õ}{i:Ń}{x:Ä}(a:X.N.Nodup)(hi:ø (X.N[i]?=O x) v0)(b:autoParam (Loc X.env.scope x) Ě)(f:ø (X.fn x=J\/X.env.scope.names.lookup x=O .local) hH):PG X (.Name x pos) (kJ i):=by intro p s σ H v u Q I r h;rwa[wpAny_assign_Name (nC I a hi b r (λS c=>(_,H,c,h)) f)]
def Je:Vg:=λv σ H Q=>v=[]/\Q σ H
def Vz(t:TG)(u:Vg):Vg:=λs σ H Q=>∃v r,s=v::r/\t v σ H λa h=>u r a h Q
def Te:mu X [] Je:=by intro p s σ H v u Q I r h;let(e,h):=h;rwa[assignInOrder_nil (σ,H,I,h)]
def Ng(b:PG X e t)(c:mu X es u)(hs:ø ((gc (e::es) X.env).map (·.2)=assign e X.env::(gc es X.env).map (·.2)) v0):mu X (e::es) (Vz t u):=by intro p s σ H f U Q I r h;let(v,g,E,h):=h;subst E;cases r with|g r R=>rw[hs];rwa[assignInOrder_cons (iL (b _ s σ H _ _ _ I r h) λ_ s1 z=>by let(a,d,i,q):=z;exact(c _ s1 a d _ _ Q i R q))]
def Yl(K:Æ)(n:Ń)(t:Vg):TG:=λv σ H Q=>∃a x,v=.A a/\gX K H a x/\Á x=n/\t x σ H Q
def ģ(to ti:TE)(t:WZ):TG:=λv σ H Q=>to σ H λo h=>ti σ h λi a=>t o i v a λb=>Q σ b
def Z3(c:PE X o to)(hi:PE X i ti)(hs:Ċ X t)(d:ø (∀v,assign (.Subscript o i pos) X.env v=do
   let a<-holding [v] (Ê o X.env)let b<-holding [v,a] (Ê i X.env)standAt pos
   holding [v,a,b] (setItem a b v)release [v,a,b] []) hO):PG X (.Subscript o i pos) (ģ to ti t):=by intro p s σ H v u Q I r h;rw[d];rwa[aa (b7 (iL (c _ s σ H _ I h) λa s1 z=>by let(x,e,f,R,q):=z;exact(aa (b7 (iL (hi _ s1 σ e _ f q) λb s2 z=>by let(y,g,j,k,l):=z;exact(aa (iX (aa (b7 (iL (hs _ s2 σ g x y v a b u _ j R k r l) λ_ S (m,n,w)=>wpAny_release (σ,m,n,w)))))))))))]
def sX(t:TE)(g:TG):TS:=λD σ H=>t σ H λx h=>g x σ h D.nx
def Nu(a:PE X e T)(b:PG X t g)(hs:ø (swapsWithSole [t] e pos.line X.env=pure a5) v0)(w:ø (swappedStores [t] e X.env=pure ao) v0)(c:ø ((gc [t] X.env).map (·.2)=[assign t X.env]) v0):PS X (.Assign [t] e pos) (sX T g):=by intro p s σ H D I h;erw[wpAny_Assign_stores (kr (a _ s σ H _ I h) λv s1 x d i r Q=>?_) hs w];rw[c];rwa[iL (b _ s1 σ d x v _ i r Q) λ_ s2 q=>q]
def zw(a:X.N.Nodup)(hi:X.N[i]?=O x)(b:Loc X.env.scope x)(c:PE X e t)(hs:ø (g6 e (O (.Name x p)) pos.line X.env=pure a5) v0)(f:ø (X.fn x=J\/X.env.scope.names.lookup x=O .local) hH):PS X (.Assign [.Name x p] e pos) (sX t (kJ i)):=by intro P s σ H D I h;rwa[wpAny_Assign_Name (iL (c _ s σ H _ I h) λv s1 z=>by let(y,d,g,r,q):=z;exact(nC g a hi b r (λs2 j=>(_,d,j,q)) f)) hs]
def afT{X:Cx}{pos:Õ}(i:Ń){x:Ä}{e:Å}{t:TE}{p:Õ}(h:X.N.Nodup)(H:PE X e t)(hi:ø (X.N[i]?=O x) v0)(a:autoParam (Loc X.env.scope x) Ě)(hs:ø (g6 e (O (.Name x p)) pos.line X.env=pure a5) v0)(f:ø (X.fn x=J\/X.env.scope.names.lookup x=O .local) hH):PS X (.Assign [.Name x p] e pos) (sX t (kJ i)):=zw h hi a H hs f
def Oj(c:TT)(t:TS):TS:=λD σ H=>∃W:Ń->Ç->Hp->ß,(∃m,W m σ H)/\∀m σ H,W m σ H->c σ H λb h=>if b=J then ∃N:Ç->Hp->ß,(∀a d,N a d->∃M,M<m/\W M a d)/\t {D with nx:=N,ct:=N,bk:=D.nx} σ h else D.nx σ h
def Ny(p:PassesOwn (b' X.prog X.w) X.A X.env X.xe)(C:PT X c T)(E:iY X B o):PS X (.While c B [] pos) (Oj T o):=by intro P s σ H D I h;obtain⟨W,⟨M,w0⟩,t⟩:=h;erw[wpAny_While (codeAny_whileLoop (λn S=>∃e r,Inv X _ e r S/\W n e r) ?_ M (σ,H,I,w0))];rintro n s1 ⟨d,u,F,G⟩;erw[gI p (iL (C _ s1 d u _ F (t n d u G)) λb s2 (x,y,q)=>?_)];cases b with
 |d=>let(N,z,q):=q;erw[gI p (iL (E _ s2 d x _ y q) λf K Q=>?_)];cases f with|next=>let(a,g,i,j):=Q;let(m,k,l):=z a g j;exact(m,k,a,g,i,l)|cont=>let(a,g,i,j):=Q;let(m,k,l):=z a g j;exact(m,k,a,g,i,l)|brk=>done|ret v=>done
 |e=>rwa[gH (d,x,y,q)]
structure It where
 go:Ń->Hp->ß
 δ:Ń->Hp->V->Hp->ß
 stop:Ń->Hp->ß
def lG(X:Cx)(P:db)(H:Hp)(b:À):ß:=H b=ao/\b≠X.env.locals/\b∉X.fs/\(b∈X.ex\/X.s₀.heap.objs.size<=b)/\(∀x c,X.env.cells.lookup x=O c->c≠b)/\∀p∈X.pn++P,p.1≠b
def Inv.AK{P:Ł _}{σ:Ç}{b:À}(I:Inv X P σ H s)(h:s.heap.objs.size<=b)(hn:H' b=ao):lG X P H' b:=by erw[(hn,eR (bp I.lt h),I.aiq h,.inr (aq I.sz h),λx c e z=>?_,λp a z=>Ă (bp (ay (I.pin p a).1) nofun) (cM _))];.let(v,q):=I.cell x c e;rwa[Ă (bp q.lt nofun) (cM _)]
structure uv(P:ci)(w:cc)(K:Æ)(tg:Å)(a:It)(fp:Ł À)(it:À)(tn:Ń->È->ß):ß where
 mem:it∈fp
 obj:∀i h,tn i h->∀b∈fp,∃o,h.get? b=O o/\∀v,o.data≠.cell v
 keep:∀i h h',tn i h->(∀b∈fp,∀o,h.get? b=O o->h'.get? b=O o)->tn i h'
 item:∀(X:Cx),X.prog=P->X.w=w->X.K=K->X.calm->∀(i:Ń)(bb:db)(s:be)(σ:Ç)(H:Hp)(E:dC),Inv X bb σ H s->(∀b∈fp,lG X bb H b)->tn i s.heap->a.go i H->bn (b' P w) X.A (em (.ref it)) (λr s1=>∃u,r=O u/\bn (b' P w) X.A (letOwnedTupleGo tg (.ref it) u) (λ_ s2=>∃x H',Inv X bb σ H' s2/\RelV x u/\a.δ i H x H'/\tn (i+1) s2.heap/\∀b∈fp,H' b=ao) E s1) E s
 done:∀(X:Cx),X.prog=P->X.w=w->X.K=K->X.calm->∀(i:Ń)(bb:db)(s:be)(σ:Ç)(H:Hp)(E:dC),Inv X bb σ H s->(∀b∈fp,lG X bb H b)->tn i s.heap->a.stop i H->bn (b' P w) X.A (em (.ref it)) (λr s1=>r=ao/\Inv X bb σ H s1) E s
 self:∀(A:cr)(i:Ń)(s:be)(Q:dC)(E:dC),tn i s.heap->Q (.ref it) s->bn (b' P w) A (pyIter (.ref it)) Q E s
abbrev TI:=Ç->Hp->(It->Hp->ß)->ß
def xp(X:Cx)(p:db)(σ:Ç)(T:Å)(R:It->Hp->ß)(i:Â)(s2:be):ß:=∃(it:À)(f:Ł _)(t:Ń->È->ß)(j:It)(H:Hp),i=.ref it/\Inv X p σ H s2/\uv X.prog X.w X.K T j f it t/\t 0 s2.heap/\(∀b∈f,lG X p H b)/\R j H
def PI(X:Cx)(t iter:Å)(wi:TI):ß:=∀(p:Ł _)(s:be)(σ:Ç)(H:Hp)(R:It->Hp->ß),Inv X p σ H s->wi σ H R->bn (b' X.prog X.w) X.A (Ê iter X.env) (λv s1=>bn (b' X.prog X.w) X.A (pyIter v) (xp X p σ t R) X.xe s1) X.xe s
def abO{E:dC}(a:s.heap.get? it=O o)(c:o.cls=.type n)(d:o.data=.fields vs)(hn:["enumerate","zip","dict_itemiterator","dict_reverseitemiterator","odict_iterator","itertools.zip_longest","itertools.pairwise"].contains n=a5)(H:Q ⟨⟩ s):bn M A (letOwnedTupleGo t (.ref it) u) Q E s:=by cases t<;>first|rwa[ai H]|(cases u<;>first|rwa[ai H]|(erw[aa (Pj a ?_)];rw[c,d];show bn M A (if(["enumerate","zip","dict_itemiterator","dict_reverseitemiterator","odict_iterator","itertools.zip_longest","itertools.pairwise"].contains n&&vs[0]?==O _)=J then _ else _) Q E s;rw[bS (by intro h;rw[hn]at h;cases h)];rwa[ai H]))
def xf(K:Æ)(a:À):It:=(λi H=>∃X x,gh K H a X/\X[i]?=O x,λi H x h=>h=H/\∀X,gh K H a X->X[i]?=O x,λi H=>∃X,gh K H a X/\Á X<=i)
def Cg(K:Æ)(a:À):It:=(λi H=>∃X x,gX K H a X/\X[i]?=O x,λi H x h=>h=H/\∀X,gX K H a X->X[i]?=O x,λi H=>∃X,gX K H a X/\Á X<=i)
def rn(lo:Î)(n:Ń):It:=(λi _=>i<n,λi H x h=>h=H/\x=.I (lo+i),λi _=>n<=i)
def lg{K:Æ}(hn:["enumerate","zip","dict_itemiterator","dict_reverseitemiterator","odict_iterator","itertools.zip_longest","itertools.pairwise"].contains n=a5)(M:∀{i h},t i h->∃(o:Ø)(vs:Array _),h.get? it=O o/\o.cls=.type n/\o.data=.fields vs)(keep:∀{i h h'},t i h->(∀o,h.get? it=O o->h'.get? it=O o)->t i h')(nx:∀{X:Cx}{i p s σ H E}{Q:Ő Â->be->ß},X.prog=P->X.w=w->X.K=K->X.calm->Inv X p σ H s->t i s.heap->j.go i H->(∀u x h' T,RelV x u->j.δ i H x H->t (i+1) h'->è it s.heap h'->Q (O u) {s with heap:=h',toks:=T})->bn (b' P w) X.A (em (.ref it)) Q E s)(no:∀{X:Cx}{i p s σ H E}{Q:Ő Â->be->ß},X.prog=P->X.w=w->X.K=K->X.calm->Inv X p σ H s->t i s.heap->j.stop i H->(∀h',è it s.heap h'->Q ao {s with heap:=h'})->bn (b' P w) X.A (em (.ref it)) Q E s)(self:∀{A s i E}{Q:dC},t i s.heap->Q (.ref it) s->bn (b' P w) A (pyIter (.ref it)) Q E s):uv P w K R j [it] it t where
 mem:=.head _;obj:=λi h st b a=>by rw[aB.mp a];let(o,vs,e,c,d):=M st;exact(o,e,λv z=>by rw[d]at z;cases z)
 keep:=λi h h' st k=>keep st λo e=>k it (.head _) o e;item:=λX g l m q i p s σ H E I f st r=>by let(F,B,U,C,D,G):=f it (.head _);erw[nx g l m q I st r λu x h' T S y N L=>(u,Ŗ,?_)];let(o,vs,e,c,d):=M N;rwa[abO e c d hn (x,H,I.turned L F B C D G,S,y,N,λb a=>(f b a).1)]
 done:=λX g l m q i p s σ H E I f st r=>let (F,B,_,C,D,G):=f it (.head _);no g l m q I st r λh' L=>(Ŗ,I.turned L F B C D G);self:=λ_ _ _ _ _ st h=>self st h
def IJ{K:Æ}(a it:À):uv P w K T (xf K a) [it] it λi h=>h.IsListIter it a i:=lg (n:="list_iterator") rfl (λ(o,e,c,d)=>(o,_,e,c,d)) (λst k=>st.at k) (λ{X i b s σ H E Q}g j l t I st m q=>by subst g j l;let(v,x,f,r):=m;let(B,R,p,z):=I.list f;let(u,hu,y):=R.get r;rwa[wpAny_pyNext_list_item st p.isList (by simpa using hu) λA C S=>q u x A _ y (Ŗ,λY D=>by rw[I.qf D f];rwa[r]) C S.extBut]) (λ{X i b s σ H E Q}g j l t I st m q=>by subst g j l;let(v,f,r):=m;let(B,R,p,z):=I.list f;let hl:=R.length;rwa[wpAny_pyNext_list_end (I.ok.hd t) st p.isList nofun q]) λst h=>wpAny_pyIter_listiter st h
def EA{K:Æ}(a it:À):uv P w K T (Cg K a) [it] it λi h=>h.IsTupleIter it a i:=lg (n:="tuple_iterator") rfl (λ(o,e,c,d)=>(o,_,e,c,d)) (λst k=>st.at k) (λ{X i b s σ H E Q}g j l t I st m q=>by subst g j l;let(v,x,f,r):=m;let(B,R,p,z):=I.tuple f;let(u,hu,y):=R.get r;rwa[ν st p (by simpa using hu) λA C S=>q u x A _ y (Ŗ,λY D=>by rw[I.xT D f];rwa[r]) C S.extBut]) (λ{X i b s σ H E Q}g j l t I st m q=>by subst g j l;let(v,f,r):=m;let(B,R,p,z):=I.tuple f;let hl:=R.length;rwa[Ĝ (I.ok.hd t) st p (by simp;lia) q]) λst h=>Fk st h
def Ez{K:Æ}(it:À)(lo:Î)(n:Ń):uv P w K T (rn lo n) [it] it λi h=>IsRangeIter h it (lo+i*1) (n-i) 1:=lg (n:="range_iterator") rfl (λst=>(_,_,st,Ŗ,Ŗ)) (λst k=>k _ st) (λ{X i p s σ H E Q}a c d f I st g q=>by subst a c d;erw[(Walks.range (prog:=X.prog) (w:=X.w) (I.ok.hd f) it lo 1 n).item i s _ _ g st λv j l m r u=>?_];let(t,rfl):=m;rwa[q _ (.I (lo+i)) j l (t,by rw[Int.mul_one]) (Ŗ,Ŗ) r λb o x e=>u b o (by simpa using x) e]) (λa c d f I st g q=>by subst a c d;rwa[wpAny_pyNext_range_end (I.ok.hd f) st (by let:=g;rwa[Int.sub_nonpos_of_le (Int.ofNat_le.mpr this)]) q]) λst h=>wpAny_pyIter_rangeiter st h
def NL{p:Ł _}{σ:Ç}{E:dC}{lo:Î}(I:Inv X p σ H s)(h:-2^62<=lo)(a:lo<2^62)(c:-2^62<=hi)(d:hi<2^62)(q:R (rn lo (hi-lo).toNat) H):bn (b' X.prog X.w) X.A (pyIter (.ref s.heap.objs.size)) (xp X p σ tg R) E {s with heap:=s.heap.push {cls:=.type "range",data:=.fields #[.int lo t,.int hi u,.int 1 v]},toks:=T}:=by
 erw[wpAny_pyIter_range (IsRange.new ..) (small_one h a c d) ?_];let i:Inv X _ σ H {s with heap:=s.heap.push {cls:=.type "range",data:=.fields #[.int lo t,.int hi u,.int 1 v]},toks:=T}:=I.kept λb o e=>af _ e;erw[(_,_,_,_,H,Ŗ,i.kept λb o e=>af _ e,Ez _ lo _,?_,λb f=>?_,q)]
 .let g:lo+(0:Ń)*1=lo:=⋯
  let j:(hi-lo).toNat-(0:Ń)=Builtin.Range.rangeSize lo hi 1:=by rw[rangeSize_one];split<;>lia
  rw[g,j];rwa[ax _ Ŗ]
 .let e:b=(s.heap.push {cls:=.type "range",data:=.fields #[.int lo t,.int hi u,.int 1 v]}).objs.size:=by simpa using f
  subst e;rwa[i.AK (ah _) (i.c4.fresh (ah _))]
def ϟ(t:TA):TI:=λσ H R=>t σ H λv h=>∃j:Î,v=[.I j]/\-2^62<=j/\j<2^62/\R (rn 0 j.toNat) h
def HZ(g:Gl X "range")(m:X.mg "range"=ao)(b:PA X [a] T)(hs:ø (dN [a] X.env=[(a5,Ê a X.env)]) v0):PI X tg (.Call (.Name "range" p) [a] [] pos) (ϟ T):=by intro P s σ H R I h;erw[Call_ (rh I g m boot_range (eS (V_ (b pos _ s σ H _ I h) λu s1 v k i c Q=>?_) hs Ŗ))];let(j,e,Q,d,q):=Q;subst e;cases c with|g r f=>cases f;let(t,rfl):=r;rwa[call_range_1 (NL i () () Q d (by simpa using q))]
def IE(wi:TI)(g:TG)(t:TS):TS:=λD σ H=>wi σ H λj c=>∃W:Ń->Ń->Ç->Hp->ß,(∃m,W 0 m σ c)/\∀i m σ H,W i m σ H->j.stop i H/\D.nx σ H\/j.go i H/\∃N:Ç->Hp->ß,(∀a h,N a h->∃M,M<m/\W (i+1) M a h)/\∀x h,j.δ i H x h->g x σ h λb d=>t {D with nx:=N,ct:=N,bk:=D.nx} b d
def vx(f:Ł À)(h:È):db:=f.filterMap λb=>(h.get? b).map λo=>(b,o)
def jI(H:b∈f)(e:h.get? b=O o):(b,o)∈vx f h:=nS.mpr (b,H,by rw[e];rfl)
def HP(H:p∈vx f h):p.1∈f/\h.get? p.1=O p.2:=by let(b,a,e):=nS.mp H;cases q:h.get? b with|a=>left|c o=>rw[q]at e;let E:=dG e;subst E;exact(a,q)
def Inv.pinned{P:Ł _}{σ:Ç}(I:Inv X P σ H s)(a:∀b∈f,lG X P H b)(c:∀b∈f,∃o,s.heap.get? b=O o/\∀v,o.data≠.cell v):Inv X (P++vx f s.heap) σ H s:=I.Ge λp g=>(bu.mp g).elim (λz=>I.pin p (aW _ z)) λz=>by let(h,e):=HP z;let(F,i,j,_):=a p.1 h;let(o,E,d):=c p.1 h;rw[e]at E;cases E;exact(e,F,i,j,d)
def Inv.lj{P:Ł _}{σ:Ç}(I:Inv X (P++l) σ H s):Inv X P σ H s:=I.Ge λp h=>I.pin p (aW _ (dP _ h))
def DV(t:PassesOwn (b' X.prog X.w) X.A X.env X.xe)(hc:X.calm)(hi:PI X tg iter wi)(hg:PG X tg g)(c:iY X B Z)(hs:ø (∀x,hF iter X.env x=pure x) hO):PS X (.For tg iter B [] pos) (IE wi g Z):=by
 intro P s σ H D I h;erw[wpAny_For (iL (hi _ s σ H _ I h) λv s1 h1=>iL h1 λitv s2 h2=>cps λR k0=>?_) hs];obtain⟨it,F,tn,j,H2,e,I2,T,Pc,f2,W,⟨m0,w0⟩,y⟩:=h2;subst e;let L:∀{H':Hp},(∀b∈F,H' b=ao)->∀b∈F,lG X _ H' b:=λhn b c=>(hn b c,(f2 b c).2);erw[k0 (codeAny_forLoop_any (λn s'=>∃i k H',Inv X _ k H' s'/\tn i s'.heap/\(∀b∈F,H' b=ao)/\W i n k H') ?_ m0 (0,σ,H2,I2,Pc,λb c=>(f2 b c).1,w0))];erw[λn s3 z=>cps λR k1=>?_];let(i,l,K,I3,C,E,w3):=z;rcases y i n l K w3 with ⟨stop,qn⟩|⟨go,N,hN,step⟩;.erw[k1 (gI t (iL (T.done X rfl rfl rfl hc i _ s3 l K _ I3 (L E) C stop) λr s4 (M,I4)=>?_))];subst M;rwa[gH (l,K,I4,qn)]
 .erw[k1 (gI t (iL (T.item X rfl rfl rfl hc i _ s3 l K _ I3 (L E) C go) λr s4 (u,M,h4)=>?_))];subst M;erw[gI t (iL h4 λ_ s5 x=>?_)];let(x,H5,I5,r5,y5,S,U):=x;erw[gI t (iL (hg _ s5 l H5 x u _ (I5.pinned (L U) (T.obj _ _ S)) r5 (step x H5 y5)) λ_ s6 Y=>?_)];let(Y,H6,I6,q6):=Y;erw[gI t (iL (c _ s6 Y H6 _ I6 q6) λf s7 Q=>?_)];let again:∀{a:Ç}{p:Hp},Inv X (P++vx F _) a p s7->N a p->∃m,m<n/\∃i k H',Inv X _ k H' s7/\tn i _/\(∀b∈F,H' b=ao)/\W i m k H':=λ{a p}q G=>by let(m',hm,w7):=hN a p G;erw[(m',hm,_,a,p,q.lj,T.keep _ _ _ S λb c o e=>(q.pin _ (aW _ (aW _ (jI c e)))).1,λb c=>?_,w7)];let(o,e,d):=T.obj _ _ S b c;exact(q.pin _ (aW _ (aW _ (jI c e)))).2.1
  cases f with|next=>let(a,p,q,G):=Q;rwa[again q G]|cont=>let(a,p,q,G):=Q;rwa[again q G]|brk=>let(a,p,q,Q):=Q;exact(a,p,q.lj,Q)|ret v=>let(x7,a,p,q,r7,Q):=Q;exact(x7,a,p,q.lj,r7,Q)
abbrev R2:=V->V->Hp->VK->ß
def mm(X:Cx)(f:Â->Â->Sem Â)(r:R2):ß:=∀(p:Ł _)(s:be)(σ:Ç)(H:Hp)(x y:V)(v u:Â)(Q:VK),Inv X p σ H s->RelV x v->RelV y u->r x y H Q->bn (b' X.prog X.w) X.A (f v u) (EP X p σ Q) X.xe s
def vE(X:Cx)(f:Â->Sem Â)(r:V->Hp->VK->ß):ß:=∀(p:Ł _)(s:be)(σ:Ç)(H:Hp)(x:V)(v:Â)(Q:VK),Inv X p σ H s->RelV x v->r x H Q->bn (b' X.prog X.w) X.A (f v) (EP X p σ Q) X.xe s
def fR(X:Cx)(f:Â)(r:ϕ->Hp->VK->ß):ß:=∀(p:Ł _)(s:be)(σ:Ç)(H:Hp)(x:ϕ)(u:Ł _)(Q:VK),Inv X p σ H s->Vals x u->r x H Q->bn (b' X.prog X.w) X.A (call f u) (EP X p σ Q) X.xe s
def mf(r:R2)(t T:TE):TE:=λσ H Q=>t σ H λx h=>T σ h λy a=>r x y a Q
def J0(r:V->Hp->VK->ß)(t:TE):TE:=λσ H Q=>t σ H λx h=>r x h Q
def rI(C:Î->Î->ß)(g:Î->Î->V):R2:=λx y H Q=>∃i j,x=.I i/\y=.I j/\C i j/\Q (g i j) H
def Io(g:Î->Î->V):R2:=λx y H Q=>∃i j,x=.I i/\y=.I j/\Q (g i j) H
def rU(g:Î->V):V->Hp->VK->ß:=λx H Q=>∃i,x=.I i/\Q (g i) H
def Xd(i:PE X a ta)(j:PE X b tb){p:Ł _}{σ:Ç}{R:V->V->Hp->ß}(I:Inv X p σ H s)(h:ta σ H λx g=>tb σ g λy d=>R x y d){Q:dC}{f:Â->Â->Sem _}(k:∀v u s2 x y d,Inv X p σ d s2->RelV x v->RelV y u->R x y d->bn (b' X.prog X.w) X.A (f v u) Q X.xe s2):bn (b' X.prog X.w) X.A (Ê a X.env) (λv S=>bn (b' X.prog X.w) X.A (Ê b X.env) (λu e=>bn (b' X.prog X.w) X.A (f v u) Q X.xe e) X.xe S) X.xe s:=by rwa[kr (i _ s σ H _ I h) λv s1 x g l r q=>kr (j _ s1 σ g _ l q) λu s2 y d m n o=>k v u s2 x y d m r n o]
def ϻ(d:mm X (binaryOp o) r)(e:PE X a ta)(f:PE X b tb):PE X (.BinOp a o b pos) (mf r ta tb):=by intro p s σ H Q I h;rwa[wpAny_BinOp (Xd e f I h λv u s2 x y g i R j q=>d _ s2 σ g x y v u Q i R j q)]
def adk(d:vE X (unaryOp o) r)(e:PE X a ta):PE X (.UnaryOp o a pos) (J0 r ta):=by intro p s σ H Q I h;rwa[UnaryOp_ (iL (e _ s σ H _ I h) λv s1 z=>by let(x,f,i,R,q):=z;rwa[d _ s1 σ f x v Q i R q])]
def By{g:Î->Î->Î}(rule:∀(i j:Î)(t u:Tok)(s:be)(Q:dC)(E:dC),C i j->Q (.int (g i j) s.toks) {s with toks:=s.toks+1}->bn (b' X.prog X.w) X.A (f (.int i t) (.int j u)) Q E s):mm X f (rI C λi j=>.I (g i j)):=by intro p s σ H x y v u Q I r R h;let(i,j,rfl,rfl,d,q):=h;let(t,rfl):=r;let(T,rfl):=R;rwa[rule i j t T s _ _ d (.I _,H,I.tok _,(_,Ŗ),q)]
def No{g:Î->Î->Î}(rule:∀(i j:Î)(t u:Tok)(s:be)(Q:dC)(E:dC),Q (.int (g i j) s.toks) {s with toks:=s.toks+1}->bn (b' X.prog X.w) X.A (f (.int i t) (.int j u)) Q E s):mm X f (Io λi j=>.I (g i j)):=by intro p s σ H x y v u Q I r R h;let(i,j,rfl,rfl,q):=h;let(t,rfl):=r;let(T,rfl):=R;rwa[rule i j t T s _ _ (.I _,H,I.tok _,(_,Ŗ),q)]
def Zq{g:Î->Î->Þ}(rule:∀(i j:Î)(t u:Tok)(s:be)(Q:dC)(E:dC),Q (.bool (g i j)) s->bn (b' X.prog X.w) X.A (f (.int i t) (.int j u)) Q E s):mm X f (Io λi j=>.B (g i j)):=by intro p s σ H x y v u Q I r R h;let(i,j,rfl,rfl,q):=h;let(t,rfl):=r;let(T,rfl):=R;rwa[rule i j t T s _ _ (.B _,H,I,Ŗ,q)]
def Tk(i j:Î):ß:=0<j/\j<1073741824
def Jx(i j:Î):ß:=-2^64<i/\i<2^64\/-2^64<j/\j<2^64
def Jx.ok(h:Jx i j):IntMulOk i j:=by
 rcases h with ⟨H,d⟩|⟨H,d⟩;.rwa[.of_left (intBits_le_64 H d)]
 .rwa[.of_right (intBits_le_64 H d)]
def Zr:mm X (binaryOp .Add) (Io λi j=>.I (i+j)):=No λ_ _ _ _ _ _ _ q=>mo q
def ZC:mm X (binaryOp .Sub) (Io λi j=>.I (i-j)):=No λ_ _ _ _ _ _ _ q=>sub_int q
def Zx:mm X (binaryOp .Mult) (rI Jx λi j=>.I (i*j)):=By λ_ _ _ _ _ _ _ h q=>mul_int q h.ok
def Sj:mm X (binaryOp .FloorDiv) (rI Tk λi j=>.I (i/j)):=By λi j _ _ _ _ _ h q=>by let h1:=h.1;let h2:=h.2;rwa[floordiv_int () (by rw[Int.fdiv_eq_ediv_of_nonneg i ()];rwa[q]) (.inl (PyProof.noPylong_small ()))]
def Zw:mm X (binaryOp .Mod) (rI (λ_ j=>0<j) λi j=>.I (i%j)):=By λi j _ _ _ _ _ h q=>by rwa[mod_int' () (by rw[Int.fmod_eq_emod_of_nonneg i ()];rwa[q])]
def unI{g:Î->Î}(rule:∀(i:Î)(t:Tok)(s:be)(Q:dC)(E:dC),Q (.int (g i) s.toks) {s with toks:=s.toks+1}->bn (b' X.prog X.w) X.A (f (.int i t)) Q E s):vE X f (rU λi=>.I (g i)):=by intro p s σ H x v Q I r h;let(i,rfl,q):=h;let(t,rfl):=r;rwa[rule i t s _ _ (.I _,H,I.tok _,(_,Ŗ),q)]
def D':vE X (unaryOp .USub) (rU λi=>.I (-i)):=unI λ_ _ _ _ _ q=>neg_int q
def ŭ:mm X (compareOp .Lt) (Io λi j=>.B (Đ (i<j))):=Zq λ_ _ _ _ _ _ _ q=>lt_int q
def Ů:mm X (compareOp .Gt) (Io λi j=>.B (Đ (j<i))):=Zq λ_ _ _ _ _ _ _ q=>gt_int q
def ϒ:mm X (compareOp .GtE) (Io λi j=>.B (Đ (j<=i))):=Zq λ_ _ _ _ _ _ _ q=>ge_int q
def mm.or(h:mm X f r)(h':mm X f R):mm X f λx y H Q=>r x y H Q\/R x y H Q:=by
 intro p s σ H x y v u Q I d e q;rcases q with q|q;.rwa[h _ s σ H x y v u Q I d e q]
 .rwa[h' _ s σ H x y v u Q I d e q]
def Sv(d:mm X (compareOp o) r)(e:PE X a ta)(f:PE X b tb)(m:hX o b=a5):PE X (.Compare a [o] [b] pos) (mf r ta tb):=by intro p s σ H Q I h;rwa[wpAny_Compare1 (Xd e f I h λv u s2 x y g i R j q=>d _ s2 σ g x y v u Q i R j q) m]
def Ī(t:TE):TT:=λσ H Q=>t σ H λx h=>∃k,x=.B k/\Q k h
def Gp(d:mm X (compareOp o) r)(f:PE X a ta)(g:PE X b tb)(m:hX o b=a5):PT X (.Compare a [o] [b] pos) (Ī (mf r ta tb)):=by intro p s σ H Q I h;erw[Ps (kr (f _ s σ H _ I h) λv s1 x i j R q=>kr (g _ s1 σ i _ j q) λu s2 y l n t w=>kr (d _ s2 σ l x y v u _ n R t w) λc S z A B C (k,e,D)=>?_) m];subst e;cases C;rwa[pB (A,B,D)]
def vh:Ã<2^63:=∅
def DO:mm X (binaryOp .Add) λx y H Q=>∃i j,x=.S i/\y=.S j/\i.length+j.length<=Ã/\Q (.S (i++j)) H:=by intro p s σ H x y v u Q I r R h;let(i,j,rfl,rfl,z,q):=h;let(t,rfl):=r;let(T,rfl):=R;rwa[add_str (λT k=>(.S _,H,I.tok _,(_,Ŗ),q)) z]
def IZ(r:Vals [x] us):∃u,us=[u]/\RelV x u:=by cases r with|g R d=>cases d;exact(_,Ŗ,R)
def aez(r:Vals [x,y] us):∃u w',us=[u,w']/\RelV x u/\RelV y w':=by cases r with|g R d=>cases d with|g e f=>cases f;exact(_,_,Ŗ,R,e)
def G7(e:X.calm):fR X (.builtin "max") λxs H Q=>∃i j,xs=[.I i,.I j]/\Q (.I (if j>i then j else i)) H:=by
 intro p s σ H xs U Q I r h;let(i,j,rfl,q):=h;obtain⟨u,w,rfl,⟨t,rfl⟩,⟨T,rfl⟩⟩:=aez r;erw[max_two_ints (I.ok.hd e) λf g k=>(_,H,I.kept k,?_,q)];by_cases d:j>i;.rw[b9 d,b9 d];exact(_,Ŗ)
 .rw[bS d,bS d];exact(_,Ŗ)
def G4:fR X (.type "int") λxs H Q=>(∃i,xs=[.I i]/\Q (.I i) H)\/∃k,xs=[.B k]/\Q (.I (if k then 1 else 0)) H:=by
 intro p s σ H xs U Q I r h;rcases h with ⟨i,rfl,q⟩|⟨k,rfl,q⟩;.let(u,rfl,t,rfl):=IZ r;rwa[call_int_int (.I i,H,I,(_,Ŗ),q)]
 .let(u,rfl,R):=IZ r;cases R;rwa[call_int_bool (.I _,H,I.tok _,(_,Ŗ),q)]
structure B5(h:È)(x dx C:À)(mA:c3):ß where
 obj:h.get? x=O (instObj C dx)ns:h.Ns1 dx mA
 ne:dx≠x
def HJ{h:È}(n:h.Ns1 d m):∃b,h.get? d=O b/\∀name,lookIn name b=O (m name):=by
 let(o,E,p,H,c,k,_,f):=n;erw[(o,H,λname=>?_)];let e:=f name;delta nsFind findBy at e;rw[<-zY]at e;delta lookIn;rw[c];dsimp only;split;.ext y q;rw[q]at e;rwa[bL _ e]
 .ext q;rw[q]at e;let a:E.toList.any (·.refKey)=false:=by rw[BV];intro y g;let(z,t,A):=k y (J'.mp g);simp[DictEntry.refKey,A]
  rw[bS (by rw[a];rwa[aJ])];rwa[bL _ e]
def B5.look{m:Ä->Ő _}(I:B5 h x d C m):∃o,PySem.W.InstAt h x (instObj C d) C (O o)/\∀name,lookIn name o=O (m name):=let (o,H,l):=HJ I.ns;(o,(I.obj,Ŗ,Ŗ,H),l)
def Rg{E:dC}{K:Æ}{Q:dC}(X:K.In s.heap)(I:B5 s.heap x dx C mA)(g:plainGet K C name)(a:hasDictIn K C)(b:findIn K (.ref C) name=O ao)(c:mA name=O v)(H:handedIn v)(h:Q v {s with toks:=s.toks+1}):bn (b' prog w) A (getAttr (.ref x) name e) Q E s:=by let(o,j,l):=I.look;rwa[PySem.W.get_value X j (x5 g).1 (PySem.W.findObj_own a b Ŗ nofun) H h]
def Lb{E:dC}{K:Æ}(X:K.In s.heap)(I:B5 s.heap x dx C mA)(H:plainGet K C name)(a:findIn K (.ref C) name=O (O (.ref f)))(t:isFn K (.ref f))(b:mA name=ao)(h:Q (.ref f,[.ref x]) s):bn (b' prog w) A (getMethod (.ref x) name p) Q E s:=by let(o,j,l):=I.look;rwa[PySem.W.method_fn X j (x5 H).1 (x5 H).2 a (su.mp t) (by show(lookIn _ o).map _=O _;rw[l,b];rfl) h]
def Ub{E:dC}{K:Æ}(X:K.In s.heap)(I:B5 s.heap x dx C mA)(hs:findIn K (.ref C) "__setattr__"=O (O (.builtin "object.__setattr__")))(p:plainOver K C)(t:takerIn K C name=O ao)(d:hasDictIn K C)(e:þ mA ns)(n:Á ns<=Ã)(h:∀h',B5 h' x dx C (λy=>if y=name then O v else mA y)->Û dx s.heap h'->Q ⟨⟩ {s with heap:=h',toks:=s.toks+2}):bn (b' prog w) A (setAttr (.ref x) name v) Q E s:=by let(m,j,q):=I.look;erw[PySem.W.set_plain X j hs (PySem.W.osa_open X j p t λb=>?_)];let(r,g,i):=PySem.W.any_some d;erw[aa (ai (aa (aa (wpAny_loadPart I.obj (aa (Looks.here (PySem.W.looks_clsIn X g) ?_))))))];rw[i];erw[ai (aa (ai (aa ?_)))];erw[wpAny_nsSet1 I.ns λh' c o=>?_];let(u,k,l,H,D,a):=c.count (PySem.Within.cons _ v e);rwa[aa (wpAny_lookBehind H (by rw[D];rwa[pastItsLine_dict (aq a nofun)]) (ai (h _ ((o.2 _ (cY I.ne)).trans I.obj,c,I.ne) o)))]
def Mh{s:be}{K:Æ}(X:K.In s.heap)(H:makesIn K C)(hi:findIn K (.ref C) "__init__"=O (O (.ref f)))(a:typeIn K (.ref f)=O (.type "function"))(h:fm (b' prog w) (A.under (.builtin "type.__call__" (.ref C::vs,k))) (.call (.ref f) (.ref (s.heap.objs.size+1)::vs,k)) (PySem.W.InitBack (s.heap.objs.size+1) R) {s with heap:=(s.heap.push emptyDict).push (instObj C s.heap.objs.size)}):fm (b' prog w) A (.call (.ref C) (vs,k)) R s:=by rwa[PySem.W.make_core (PySem.W.makes_of X H) (PySem.W.looks_findIn X hi) (λself=>PySem.W.bind_fn X _ a) (.inl Ŗ) h]
def jA(f:Ä)(v:V):Ł (Ä×V)->Ł (Ä×V)|[]=>[(f,v)]|(g,x)::r=>if g=f then(g,v)::r else(g,x)::jA f v r
theorem rY(f g:Ä)(v:V):∀fs:Ł _,(jA f v fs).lookup g=if g=f then O v else fs.lookup g
 |[]=>by
  show List.lookup g [(f,v)]=_;by_cases h:g=f;.grind
  .grind|(k,x)::r=>by
  let i:=rY f g v r;rw[show jA f v _=if k=f then(k,v)::r else(k,x)::jA f v r from Ŗ];by_cases H:k=f;.grind
  .grind
theorem rg(f:Ä)(v:V):∀fs:Ł _,f∈(jA f v fs).map (·.1)/\∀g,g∈fs.map (·.1)->g∈(jA f v fs).map (·.1)
 |[]=>(by simp[jA],λg h=>by grind)|(k,x)::r=>by
  let(i,I):=rg f v r;rw[show jA f v _=if k=f then(k,v)::r else(k,x)::jA f v r from Ŗ];by_cases H:k=f;.grind
  .grind
theorem rX(f:Ä)(v:V):∀fs:Ł _,Á (jA f v fs)<=Á fs+1
 |[]=>by simp[jA]|(k,x)::r=>by
  let i:=rX f v r;rw[show jA f v _=if k=f then(k,v)::r else(k,x)::jA f v r from Ŗ];by_cases h:k=f;.grind
  .grind
def mq.some_of(r:mq (O v) o):∃u,o=O u/\RelV v u:=by cases o with|a=>exact(r).elim|c u=>exact(u,Ŗ,r)
def mq.none_of(r:mq ao o):o=none:=by cases o with|a=>rfl|c u=>exact(r).elim
def Hy(r:RelV v u):handedIn u=true:=by cases v with|jn=>cases r;rfl|B b=>cases r;rfl|I i=>let(t,e):=r;cases e;rfl|S x=>let(t,e):=r;cases e;rfl|byt b=>let(t,e):=r;cases e;rfl|flt b=>let(t,e):=r;cases e;rfl|A a=>cases r;rfl|ty n=>cases r;rfl
def yQ(c:jX P w H h)(e:H a=O (.ins C dx fs)):∃m,B5 h a dx C m/\(∀f,mq (fs.lookup f) (m f))/\þ m (fs.map (·.1))/\Á fs<=1000/\H dx=O (.own a):=by let(d,z,N,o,m,n,r,q):=c a _ e;exact(m,(o,n,N),r,q,z,d)
structure Jy(K:Æ)(C:À):ß where
 pg:plainGet K C Str.empty=J
 hd:hasDictIn K C=J
 po:plainOver K C=J
 sa:findIn K (.ref C) "__setattr__"=O (O (.builtin "object.__setattr__"))
def Jy.get{K:Æ}(c:Jy K C)(f:Ä):plainGet K C f=true:=c.pg
def mM(K:Æ)(C:À)(f:Ä):ß:=findIn K (.ref C) f=O ao
def mM.aeo{K:Æ}(n:mM K C f):takerIn K C f=O none:=by delta takerIn;rw[n];rfl
structure ya(K:Æ)(C:À)(m:Ä)(f:À):ß where
 at_:findIn K (.ref C) m=O (O (.ref f))fn:isFn K (.ref f)=J
 kp:keepIn K (.ref f)=J
def CT{σ:Ç}{E:dC}{Q:dC}(I:Inv X bb σ H s)(e:H a=O (.ins C dx fs))(c:Jy X.K C)(n:mM X.K C f)(l:fs.lookup f=O v)(h:∀u s',Inv X bb σ H s'->RelV v u->Q u s'):bn (b' X.prog X.w) A (getAttr (.ref a) f b) Q E s:=by let(m,o,r,_,_,_):=yQ I.c4 e;let(u,hu,R):=mq.some_of (by rw[<-l];rwa[r f]);rwa[Rg I.qC o (c.get f) c.hd n hu (Hy R) (h u _ (I.tok _) R)]
def uW{σ:Ç}{E:dC}(I:Inv X bb σ H s)(e:H a=O (.ins C dx fs))(c:Jy X.K C)(k:ya X.K C m g)(l:fs.lookup m=ao)(h:Q (.ref g,[.ref a]) s):bn (b' X.prog X.w) A (getMethod (.ref a) m p) Q E s:=by let(M,o,r,_,_,_):=yQ I.c4 e;rwa[Lb I.qC o (c.get m) k.at_ k.fn (mq.none_of (by rw[<-l];rwa[r m])) h]
def Eb{σ:Ç}{E:dC}(I:Inv X bb σ H s)(e:H a=O (.ins C dx fs))(c:Jy X.K C)(n:mM X.K C f)(t:Á fs<1000)(R:RelV y u)(h:∀s',Inv X bb σ (dq H a (.ins C dx (jA f y fs))) s'->Q ⟨⟩ s'):bn (b' X.prog X.w) A (setAttr (.ref a) f u) Q E s:=by
 let(m,d,r,wi,_,j):=yQ I.c4 e;erw[Ub I.qC d c.sa c.po n.aeo c.hd wi (by rw[ae,jC];rwa[aq ‹_› ∅]) λx i S=>h _ ?_];erw[I.write (by rw[e];rwa[ï]) (.inr j) (λb q k z=>(S.2 b k).trans z) (let (o,_,_,l,_):=i.ns;(o,l)) ?_];erw[(by rw[bw d.ne];rwa[j],?_,d.ne,i.obj,_,i.ns,λg=>?_,λg p=>?_)];.let:=rX f y fs;rwa[aq ‹_› ‹_›]
 .rw[rY];by_cases q:g=f;.rw[b9 q,b9 q];rwa[R]
  .rw[bS q,bS q];rwa[r g]
 .by_cases q:g=f;.rw[q];exact(rg f y fs).1
  .erw[(rg f y fs).2 g (wi g λz=>p ?_)];show(if g=f then O u else m g)=ao;rw[bS q];rwa[z]
def Inv.made{σ:Ç}(I:Inv X bb σ H s):Inv X bb σ (dq (dq H s.heap.objs.size (.own (s.heap.objs.size+1))) (s.heap.objs.size+1) (.ins C s.heap.objs.size [])) {s with heap:=(s.heap.push emptyDict).push (instObj C s.heap.objs.size)}:=by let c:(s.heap.push emptyDict).get? _=O _:=ax _ Ŗ;erw[(I.laid (o:=.own (s.heap.objs.size+1)) (t':=s.toks) (λb u q=>af _ q) (ah _) (_,c)).laid (λb u q=>af _ q) (gm (hJ _ _)) ?_];let n:s.heap.objs.size≠s.heap.objs.size+1:=aR (fW _);exact(by rw[bw n,bC],aP _,n,by let:=ax (s.heap.push emptyDict) (o:=instObj C s.heap.objs.size) Ŗ;rw[hJ]at this;assumption,_,(Heap.Ns1.of_empty (_,#[],_,c,Ŗ,λe h=>Ă h ⋯,λ_=>Ŗ)).at λo q=>af _ q,λ_=>ï,λy d=>Ă Ŗ d)
def ES{E:dC}{Q:dC}(b:ge e f env (Ê e env)=Ê e env)(h:bn (b' prog w) A (Ê e env) (λo S=>bn (b' prog w) A (getAttr o f J) Q E S) E s):bn (b' prog w) A (Ê (.Attribute e f pos) env) Q E s:=Attribute_any_ h (by rw[arm_eval_Attribute,b])
def ajd(K:Æ)(t:TE)(f:Ä):TE:=λσ H Q=>t σ H λx h=>∃a C d fs v,x=.A a/\h a=O (.ins C d fs)/\Jy K C/\mM K C f/\fs.lookup f=O v/\Q v h
def Ĕ(K:Æ)(t T:TE)(f:Ä):TS:=λD σ H=>T σ H λy b=>t σ b λx h=>∃a C d fs,x=.A a/\h a=O (.ins C d fs)/\Jy K C/\mM K C f/\Á fs<1000/\D.nx σ (dq h a (.ins C d (jA f y fs)))
def ZI(b:PE X e ta)(d:ge e f X.env (Ê e X.env)=Ê e X.env):PE X (.Attribute e f pos) (ajd X.K ta f):=by intro p s σ H Q I h;erw[ES d (kr (b _ s σ H _ I h) λu s1 x g i r a=>?_)];let(a,C,D,fs,v,ex,E,c,n,l,q):=a;subst ex;obtain rfl:u=Ò a:=r;rwa[CT i E c n l λU s2 j R=>(v,g,j,R,q)]
def Z7(b:PE X o ta)(v:PE X el tv)(hs:g6 el (O (.Attribute o f pos')) pos.line X.env=pure a5):PS X (.Assign [.Attribute o f pos'] el pos) (Ĕ X.K ta tv f):=by intro p s σ H D I h;erw[EI (kr (v _ s σ H _ I h) λu s1 y d i r q=>kr (b _ s1 σ d _ i q) λg s2 x m j R a=>?_) hs];let(a,C,t,fs,ex,E,c,n,l,Q):=a;subst ex;obtain rfl:g=Ò a:=R;rwa[Eb j E c n l r λS k=>(σ,_,k,Q)]
structure fJ(k:Ń)(A:cr):ß where
 hd:A.handled=ao
 dp:A.depth+3*k+5<recursionLimit
 un:A.units+16*k+200<Ï
def fJ.mono(r:fJ k A)(h:j<=k):fJ j A:=(r.hd,by let:=r.dp;lia,by let:=r.un;lia)
theorem fJ.deeper(r:fJ (k+1) A)(env:Ù):fJ k (A.deeper env):=(r.hd,by let:=r.dp;show A.depth+1+3*k+5<_;lia,by let:=r.un;show A.units+3+16*k+200<_;lia)
def DF{A:cr}:(A.under (.builtin "type.__call__" (.ref C::us,k))).depth=A.depth+1:=rfl
def DG{A:cr}:(A.under (.builtin "type.__call__" (.ref C::us,k))).units=A.units+1:=rfl
def fJ.make(r:fJ (k+1) A)(C:À)(us:Ł _)(K:Ł _):fJ k (A.under (.builtin "type.__call__" (.ref C::us,K))):=(r.hd,by let:=r.dp;rw[DF];lia,by let:=r.un;rw[DG];lia)
theorem fJ.depth(r:fJ k A):A.depth<recursionLimit:=by let:=r.dp;lia
def Rv:TA:=λ_ H Q=>Q [] H
def Wy(t:TE)(tr:TA):TA:=λσ H Q=>t σ H λx h=>tr σ h λX a=>Q (x::X) a
def o6:PA X [] Rv:=λ_ _ _ _ H Q I h=>gT ([],H,I,.nil,h)
def Sl(a:PE X e te)(r:PA X es t)(hs:ø (dN (e::es) X.env=(a5,Ê e X.env)::dN es X.env) v0):PA X (e::es) (Wy te t):=by intro pos p s σ H Q I h;rw[hs];show bn _ _ (spliced ((a5,Ê e _)::eP pos _)) _ _ s;rwa[dJ (iL (a _ s σ H _ I h) λu s1 z=>by let(x,b,i,R,q):=z;exact(iL (r pos _ s1 σ b _ i q) λU s2 z=>by let(j,c,d,f,g):=z;exact(_,c,d,.cons R f,g)))]
def ET(t:TA):TE:=λσ H Q=>t σ H λx h=>Á x<=Ã/\∀p,h p=ao->Q (.A p) (dq h p (.T x))
def O_(t:TA):TE:=λσ H Q=>t σ H λx h=>Á x<=Ã/\∀p,h p=ao->Q (.A p) (dq h p (.L x))
def MV{x}(h:PA X es t):PE X (.Tuple es x pos) (ET t):=by intro p s σ H Q I a;erw[wpAny_Tuple_spliced (V_ (h pos _ s σ H _ I a) λU s1 c d i r (z,q)=>(by rw[<-r.length];rwa[z],?_))];erw[(.A _,_,i.laid (λb u e=>af _ e) (ah _) ?_,Ŗ,q _ (i.c4.fresh (ah _)))];exact(z,U,r,(_,ax _ Ŗ,Ŗ,_,Ŗ))
def DS(h:PA X es t):PE X (.List es pos) (O_ t):=by intro p s σ H Q I a;erw[wpAny_List_spliced (V_ (h pos _ s σ H _ I a) λU s1 x c i r (z,q)=>(by rw[<-r.length];rwa[z],?_))];erw[(.A _,_,i.laid (λb u e=>af _ e) (ah _) ?_,Ŗ,q _ (i.c4.fresh (ah _)))];exact(z,U,0,r,ax _ Ŗ)
abbrev Sp:=ϕ->Hp->VK->XK->ß
abbrev uo:=Ł Ù->Hp->be->XK->Â->be->ß
structure x9(P:ci)(w:cc)(K:Æ)(mg:c3)(base:È)(A:cr)(outer:Ł Ù)(s:be)(H:Hp):ß where
 frames:A.frames=O outer
 mod:Mod K mg base
 bs:∀b o,base.get? b=O o->s.heap.get? b=O o/\H b=ao
 Aq:base.objs.size<=s.heap.objs.size
 kj:s.heap.FunFrames base outer
 Hv:∀b∈oV outer,H b=ao
 c4:jX P w H s.heap
 bare:AllBare s.gens
def CE(o:Ł Ù)(P:ci)(w:cc)(H:Hp)(s:be)(Q:VK)(u:Â)(s':be):ß:=∃v h,s'.os=s.os/\AllBare s'.gens/\Un (oV o) [] H h s.heap s'.heap/\jX P w h s'.heap/\RelV v u/\Q v h
def CR(CX:uo)(o:Ł Ù)(P:ci)(w:cc)(H:Hp)(s:be)(Q:VK)(E:XK)(r:Result)(s':be):ß:=match r with|.ok (.ret u)=>CE o P w H s Q u s'|.ok _=>ŧ|.error e=>CX o H s E e s'
structure il(P:ci)(w:cc)(K:Æ)(mg:c3)(base:È)(CX:uo)(k:Ń)(f:À)(fd:d4)(ps:ϐ)(sp:Sp):ß where len:∀vs H Q E,sp vs H Q E->Á vs=(Á ps)run:∀(A:cr)(outer:Ł Ù)(s:be)(H:Hp)(args:Args)(us:Ł Â)(vs:ϕ)(Q:VK)(E:XK),fJ k A->x9 P w K mg base A outer s H->BindsTo s fd args (ps.zip us)->Vals vs us->sp vs H Q E->fm (b' P w) A (.call (.ref f) args) (CR CX outer P w H s Q E) s
theorem il.mono{K:Æ}{m:Ä->Ő _}(F:il P w K m b CX j f d ps sp)(h:j<=k):il P w K m b CX k f d ps sp:=(F.len,λA o s H args u v Q E r=>F.run A _ s H _ u v Q E (r.mono h))
def il.imp{K:Æ}{m:Ä->Ő _}(F:il P w K m b CX k f d ps sp)(h:∀vs H Q E,Bu vs H Q E->sp vs H Q E):il P w K m b CX k f d ps Bu:=(λvs H Q E q=>F.len vs H Q E (h _ _ _ _ q),λA o s H args u vs Q E r e a v c=>F.run A _ s H _ u vs Q E r e a v (h _ _ _ _ c))
def x9.make{K:Æ}{m:Ä->Ő _}(e:x9 P w K m b A o s H)(C:À)(us:Ł _)(k:Ł _):x9 P w K m b (A.under (.builtin "type.__call__" (.ref C::us,k))) o s H:=(by first|rwa[e.frames]|lia,e.mod,e.bs,e.Aq,e.kj,e.Hv,e.c4,e.bare)
def Inv.KU{σ:Ç}(I:Inv X bb σ H s):x9 X.prog X.w X.K X.mg X.base X.A X.stack s H:=(I.ok.frames,I.ok.mod,I.bs,aq I.ok.Aq I.sz,I.stack,I.qp,I.c4,I.bare)
def Inv.after{σ:Ç}(I:Inv X bb σ H s)(h:CE X.stack X.prog X.w H s Q u s'):EP X bb σ Q u s':=by let(v,a,os,B,un,c,r,q):=h;let(e,g,d,t,o):=s';obtain rfl:o=s.os:=os;exact(v,a,I.call un c B λb z=>Ă z ⋯,r,q)
def xQ(sp:Sp)(dvs:ϕ)(E:XK)(t:TA):TE:=λσ H Q=>t σ H λv h=>sp (v++dvs) h Q E
def Wz(C:À)(m:Ä)(sp:Sp)(dvs:ϕ)(E:XK)(T:TE)(t:TA):TE:=λσ H Q=>T σ H λx h=>∃a d fs,x=.A a/\h a=O (.ins C d fs)/\fs.lookup m=ao/\t σ h λv b=>sp (x::(v++dvs)) b Q E
def Ś(C:À)(sp:Sp)(dvs:ϕ)(E:XK)(t:TA):TE:=λσ H Q=>t σ H λs h=>∀x d,h x=ao->h d=ao->d≠x->sp (.A x::(s++dvs)) (dq (dq h d (.own x)) x (.ins C d [])) (λv a=>v=.jn/\Q (.A x) a) E
def Binds(K:Æ)(f:d4)(ps:ϐ)(ds:Ł Â):ß:=∀(s:be)(u:Ł _),K.In s.heap->Á (u++ds)=Á ps->BindsTo s f (u,[]) (ps.zip (u++ds))
def Binds.all{K:Æ}(h:∀us:Ł _,Á us=Á ps->bindArgs f (us,[])=pure (ps.zip us)):Binds K f ps []:=λs us _ H=>by rw[aV]at H⊢;rwa[.of_eq (h us H)]
def iq(CX:uo)(X:Cx)(E:XK):ß:=∀(p:Ł _)(σ:Ç)(H:Hp)(s:be)(e:Â)(S:be),Inv X p σ H s->CX X.stack H s E e S->X.xe e S
section
variable{X:Cx}{CX:uo}{k:Ń}{f C:À}{fd:d4}{ps:ϐ}{sp:Sp}{dvs:ϕ}{ds:Ł Â}{E:XK}{x m:Ä}{p pos cs:Õ}{e o:Å}{es:Ł Å}{ta:TE}{t:TA}
def D6{P:Ł _}{σ:Ç}(F:il X.prog X.w X.K X.mg X.base CX k f fd ps sp)(a:fJ k X.A)(b:Binds X.K fd ps ds)(d:Vals dvs ds)(c:iq CX X E)(I:Inv X P σ H s)(r:Vals vs us)(h:sp (vs++dvs) H Q E):bn (b' X.prog X.w) X.A (call (.ref f) us) (EP X P σ Q) X.xe s:=by let R:=r.append d;erw[sx (dU (F.run X.A _ s H _ _ _ Q E a I.KU (b s us I.qC (by rw[<-R.length];rwa[F.len _ _ _ _ h])) R h) λr S q=>?_)];cases r with|error e=>rwa[c _ σ H s e S I q]|ok fl=>cases fl with|ret u=>rwa[I.after q]|next=>assumption|brk=>assumption|cont=>assumption
def Su(F:il X.prog X.w X.K X.mg X.base CX k f fd ps sp)(a:fJ k X.A)(g:Gl X x)(b:X.mg x=O (.ref f))(c:keepIn X.K (.ref f))(d:Binds X.K fd ps ds)(j:Vals dvs ds)(l:iq CX X E)(n:PA X (e::es) t)(u:ø ((x==("__debug__":Ä))=a5) P3)(v:ø (dN (e::es) X.env=(a5,Ê e X.env)::dN es X.env) v0)(D:ø ((eP pos (dN es X.env)).any (·.1)=a5) v0):PE X (.Call (.Name x p) (e::es) [] pos) (xQ sp dvs E t):=by intro P s σ H Q I h;rwa[gr (jz I g b (gq I.ok.mod.FR c (iL (n pos _ s σ H _ I h) λU s1 z=>by let(y,B,i,r,q):=z;exact(i.qC,D6 F a d j l i r q)) v D) u)]
structure Mk(K:Æ)(C f:À):ß where
 makes:makesIn K C=J
 init:findIn K (.ref C) "__init__"=O (O (.ref f))fn:isFn K (.ref f)=J
 kp:keepIn K (.ref C)=J
def NR{P:Ł _}{σ:Ç}(M:Mk X.K C f)(F:il X.prog X.w X.K X.mg X.base CX k f fd ps sp)(b:fJ (k+1) X.A)(c:Binds X.K fd ps ds)(g:Vals dvs ds)(j:iq CX X E)(I:Inv X P σ H s)(r:Vals vs us)(h:∀x d,H x=ao->H d=ao->d≠x->sp (.A x::(vs++dvs)) (dq (dq H d (.own x)) x (.ins C d [])) (λv l=>v=.jn/\Q (.A x) l) E):bn (b' X.prog X.w) X.A (call (.ref C) us) (EP X P σ Q) X.xe s:=by
 let hq:=h (s.heap.objs.size+1) _ (I.c4.fresh (bt _)) (I.c4.fresh (ah _)) (aR (fW _));let i:=Inv.made (C:=C) I;let R:Vals (V.A (s.heap.objs.size+1)::(vs++dvs)) _:=.cons Ŗ (r.append g);let hl:=by let e:=R.length;rw[F.len _ _ _ _ hq]at e;rwa[e.symm]
 erw[sx (Mh I.qC M.makes M.init (su.mp M.fn) (dU (F.run _ _ _ _ _ _ _ _ E (b.make C us []) (i.KU.make C us []) (c _ _ i.qC hl) R hq) λr S a=>?_))];cases r with|error e=>rwa[j _ σ _ _ e S i a]|ok fl=>cases fl with|ret u=>let(v,n,q,y,ev,z):=i.after a;subst ev;exact(y,(V.A _,n,q,Ŗ,z))|next=>assumption|brk=>assumption|cont=>assumption
end
structure c7(N P:ϐ)(sc:Í):ß where
 kind:sc.kind=.function
 co:sc.isCoroutine=a5
 gen:sc.isGenerator=a5
 nd:N.Nodup
 pre:N.take (Á P)=P
 par:∀x∈P,sc.names.lookup x=O .local\/sc.names.lookup x=O .cell
 Zj:∀y∈sc.names,y.2≠.free
theorem wV{kindOf:Ä->Ő _}:∀{binds:Ł _}{m:Ä->Ő _},(∀v,(x,v)∉binds)->bindL kindOf binds m x=m x
 |[],_,_=>Ŗ|(n,v)::r,m,h=>by
  delta bindL;rw[wV λw H=>h w (aE _ H)];split;.grind
  .rfl
theorem wR{kindOf:Ä->Ő _}:∀{binds:Ł _}{m:Ä->Ő _},(∀v,(x,v)∉binds)->bindC kindOf binds m x=m x
 |[],_,_=>Ŗ|(n,v)::r,m,h=>by
  delta bindC;rw[wR λw H=>h w (aE _ H)];split;.rfl
  .grind
theorem wU{kindOf:Ä->Ő _}{x:Ä}{v:Â}:∀{P:ϐ}{vs:Ł _}{i:Ń}{m:Ä->Ő _},P.Nodup->P[i]?=O x->vs[i]?=O v->kindOf x=O .local->bindL kindOf (P.zip vs) m x=O v|[],_,_,_,_,h,_,_=>by grind|_::_,[],_,_,_,_,h,_=>by grind|p::P,w::vs,0,m,n,H,a,k=>by simp at H a;subst H;subst a;show bindL _ ((p,w)::P.zip vs) m p=_;delta bindL;rw[wV λv b=>(dA.mp n).1 (mh b).1,b9 k];simp|p::P,w::vs,i+1,m,n,H,a,k=>by show bindL _ ((p,w)::P.zip vs) m x=_;rwa[wU (dA.mp n).2 (by done) (by done) k]
theorem wQ{kindOf:Ä->Ő _}{x:Ä}{v:Â}:∀{P:ϐ}{vs:Ł _}{i:Ń}{m:Ä->Ő _},P.Nodup->P[i]?=O x->vs[i]?=O v->kindOf x≠O .local->bindC kindOf (P.zip vs) m x=O v|[],_,_,_,_,h,_,_=>by grind|_::_,[],_,_,_,_,h,_=>by grind|p::P,w::vs,0,m,n,H,a,k=>by simp at H a;subst H;subst a;show bindC _ ((p,w)::P.zip vs) m p=_;delta bindC;rw[wR λv b=>(dA.mp n).1 (mh b).1,bS k];simp|p::P,w::vs,i+1,m,n,H,a,k=>by show bindC _ ((p,w)::P.zip vs) m x=_;rwa[wQ (dA.mp n).2 (by done) (by done) k]
def start(N:ϐ)(vs:ϕ):Ç:=vs.map O++Ð (Á N-Á vs) ao
def oQ(CX:uo)(P:ci)(w:cc)(K:Æ)(mg:c3)(base:È)(N:ϐ)(q:Ä)(S:Í)(f:À)(c:Â)(A:cr)(outer:Ł Ù)(s:be)(H:Hp)(E:XK):Cx where prog:=P;w:=w;K:=K;mg:=mg;base:=base;A:=A.deeper (envOfC q S s.heap.objs.size f c);N:=N;s₀:=s;H₀:=H;env:=envOfC q S s.heap.objs.size f c;outer:=outer;stack:=envOfC q S s.heap.objs.size f c::outer;ex:=[];calm:=J;fn:=λ_=>J;pn:=[];xe:=λe a=>bn (b' P w) (A.deeper (envOfC q S s.heap.objs.size f c)) (leaving (envOfC q S s.heap.objs.size f c) e) (λ_ I=>CX outer H s E e I) (λb I=>CX outer H s E b I) a
def Ay{sc:Í}(h:sc.names.lookup x=O .cell):∃c,(cellsFrom n sc.names []).lookup x=O c:=by rwa[fN.mp (jR _ n [] (.inl h))]
def rf{K:Æ}{M:Ä->Ő _}(S:c7 N ps d)(G:A.handled=ao)(e0:x9 P w K M B A o s H)(L:Á vs=Á ps)(r:Vals vs us)(x:InCallC s s.heap.objs.size (bindL (envOfC Q d s.heap.objs.size f C).kindOf (ps.zip us) λ_=>ao) (cellsFrom (s.heap.objs.size+1) d.names []) (bindC (envOfC Q d s.heap.objs.size f C).kindOf (ps.zip us) λ_=>ao) s1):Inv (oQ CX P w K M B N Q d f C A o s H E) [] (start N vs) H s1:=by
 let Y:Á ps<=Á N:=by let:=bL Á S.pre;rw[bK]at this;lia
 let(t,T,rfl,F):=x.done;let n:∀b:À,b∉(oQ CX P w K M B N Q d f C A o s H E).ex:=λb z=>Ă (show b∈[]from z) ⋯;erw[((e0.mod,S.kind,Ŗ,Ŗ,ah _,λy z c t g=>name_of_addr x.apart (iQ t) (iQ g),λy j=>?_,λy c _ h=>dF (x.above y c (iQ h)),λ_=>G,Around.frames_deeper e0.frames,.inr (Ŗ,Ŗ),λb z=>Ă z (n b),e0.bs,e0.Aq,λb _ _=>n b,λb z=>Ă z (n b),e0.kj,e0.Hv),Ŗ,e0.bare,Un.kept F,(_,x.toInCall.ns,λi y v t g U=>?_),λy c h=>(_,x.cell y c h),e0.c4.fresh (ah _),λy c h=>e0.c4.fresh (dF (x.above y c (iQ h))),λp l=>Ă (show p∈[]from l) ⋯,e0.c4.kept F,?_)]
 .rcases j with j|j;.rwa[Ay j]
  .rwa[Ă Ŗ (S.Zj _ (iQ j))]
 .let D:i<Á vs:=by
   delta start at g;by_cases D:i<Á vs;.done
   .rw[aK (by simpa using D),eK]at g;split at g<;>cases g
  let I:vs[i]?=O v:=by delta start at g;rw[aT (by simpa using D),aN]at g;cases e:vs[i]? with|a=>left|c a=>grind
  let(u,hu,R):=r.get I;let l:ps[i]?=O y:=by rw[<-S.pre,eo ()];rwa[t]
  let m:ps.Nodup:=by rw[<-S.pre];rwa[S.nd.sublist (fF _ _)]
  erw[(u,R,?_)];rcases S.par y (aL l)with k|k;.rwa[.inl (k,wU m l hu k)]
  .let(c,e):=Ay k;erw[.inr (.inl k,c,e,?_)];let q:=x.cell y c e;rw[wQ m l hu (by show d.names.lookup y≠_;rw[k];decide)]at q;rwa[q]
 .delta start;show _=Á N;rw[aj,ae,bP];lia
def AJ{K:Æ}{m:Ä->Ő _}{kV:Â}(lk:K.lookup f=O (oc,L,.func (fnOf name l p y a D kV doc z C g ct),M))(T:codeIn K g l)(S:c7 N ps a)(len:∀vs H Q E,sp vs H Q E->Á vs=Á ps)(U:∀(A:cr)(c:Ł Ù)(s:be)(H:Hp)(vs:ϕ)(Q:VK)(E:XK),fJ k (A.deeper (envOfC l a s.heap.objs.size f g))->sp vs H Q E->∃t,iY (oQ CX P w K m B N l a f g A c s H E) y t/\t {nx:=λ_ H'=>Q .jn H',rt:=Q} (start N vs) H):il P w K m B CX (k+1) f (fnOf name l p y a D kV doc z C g ct) ps sp:=by
 erw[(len,λA c s H args us vs Q E i e0 W r G=>?_)];let X:=e0.mod.FR.keeps λb o e=>(e0.bs b o e).1;erw[um i.depth (X _ _ lk) rfl S.co S.gen rfl (Ab X T) (W _ _ _ _ ?_)];erw[nX S.kind (λ(n,v) Y=>by
  rcases S.par n (mh Y).1 with q|q;.rwa[.inl q]
  .rwa[.inr (q,jR _ _ _ (.inl q))]) λZ he s1 x=>?_];subst he;erw[((e0.mod.nolimit.keeps λb o e=>(e0.bs b o e).1).keeps x.toInCall.keep,xL ?_)];let(t,ht,hq):=U A _ s H vs Q E (i.deeper _) G;let I:Inv (oQ CX P w K m _ N l _ f g A _ s H E) [] _ H s1:=rf S i.hd e0 (len _ _ _ _ G) r x;erw[cZ (ht [] s1 _ H _ I hq) (λfl s' h=>?_) λe s' h=>h];let F:∀{d:Ç}{H':Hp}{v:V}{u:Â},Inv (oQ CX P w K m B N l a f g A _ s H E) [] d H' s'->RelV v u->Q v H'->CE c P w H s Q u s':=λ{d H' v u}j R q=>(v,H',j.os,j.bare,j.base,j.c4,R,q);cases fl with|ret u=>let(v,d,H',j,R,q):=h;rwa[F j R q]|next=>let(d,H',j,q):=h;rwa[F (v:=V.jn) j Ŗ q]|brk=>let(_,_,_,q):=h;rwa[å q]|cont=>let(_,_,_,q):=h;rwa[å q]
def qc(r:ϕ->Hp->VK->ß)(t:TA):TE:=λσ H Q=>t σ H λv h=>r v h Q
def MK{id:String}(c:fR X (.builtin id) r)(g:Gl X x)(m:X.mg x=ao)(v:eU x=O (.builtin id))(a:PA X (e::es) t)(hn:ø (x≠"__name__") P3)(k:ø ((x==("__debug__":Ä))=a5) P3)(b:ø (dN (e::es) X.env=(a5,Ê e X.env)::dN es X.env) v0)(d:ø ((eP pos (dN es X.env)).any (·.1)=a5) v0):PE X (.Call (.Name x p) (e::es) [] pos) (qc r t):=by intro P s σ H Q I h;rwa[gr (rh I g m v (PyProof.Rows.callWith_builtin1 (iL (a pos _ s σ H _ I h) λu s1 z=>by let(f,i,j,R,q):=z;rwa[c _ s1 σ i f u Q j R q]) b d) hn k)]
def HV(c:fR X (.type T) r)(g:Gl X x)(m:X.mg x=ao)(v:eU x=O (.type T))(a:PA X (e::es) t)(hn:ø (x≠"__name__") P3)(k:ø ((x==("__debug__":Ä))=a5) P3)(b:ø (dN (e::es) X.env=(a5,Ê e X.env)::dN es X.env) v0)(d:ø ((eP pos (dN es X.env)).any (·.1)=a5) v0):PE X (.Call (.Name x p) (e::es) [] pos) (qc r t):=by intro P s σ H Q I h;rwa[gr (rh I g m v (eS (V_ (a pos _ s σ H _ I h) λu s1 f i j R q=>c _ s1 σ i f u Q j R q) b d) hn k)]
end L2
namespace HT
section
open PySem.SeqAt
open PySem.AutoSeq1(wpAny_loadPart')
open PySem.MeetsSeq PySem.MeetsSeq2 PySem.MeetsSeq3
end
def Qd{E:dC}{Q:dC}(g:IsTup s.heap t vs.toArray)(i:IsTup s.heap b ws.toArray)(v:vs ≠[])(j:ws=[]->Q (.ref t) s)(k:ws ≠[]->Q (.ref s.heap.objs.size) {s with heap:=s.heap.push {cls:=.type "tuple",data:=.seq (vs++ws).toArray}})(l:Á vs+Á ws<=Ã):bn (b' prog w) A (binaryOp .Add (.ref t) (.ref b)) Q E s:=by
 obtain⟨⟨cls,D,data,sl⟩,H,c,n,f⟩:=id g;obtain⟨⟨I,d,data2,S⟩,L,R,N,h⟩:=id i;simp only at c f R h;subst c f R h;let e:vs.toArray++ws.toArray=(vs++ws).toArray:=⋯
 by_cases a:ws=[];.rwa[wP (_,H,Ŗ) (_,L,Ŗ) GS WN sk qJ (pF _ _) (tuple_addW1 t b _ _ n N D d sl S (by simpa using v) nofun) (H,L,j a)]
 .erw[wP (_,H,Ŗ) (_,L,Ŗ) GS WN sk qJ (pF _ _) (tuple_addW2 t b _ _ n N D d sl S (by simpa using v) (by simpa using a) (by done)) (H,L,?_)];rw[e];rwa[k a]
def kX(n d:Ń):Ő Î->Ń|ao=>d|O v=>if v<0 then(v+n).toNat else min v.toNat n
def NW(n d:Ń):kX n d ao=d:=rfl
def T7(n d k:Ń):kX n d (O k)=min k n:=rfl
def yq(v:Î)(n d:Ń):(if v<0 then max (v+n) 0 else min v n)=kX n d (O v):=by
 show(if v<0 then max _ 0 else min v _)=(if v<0 then(v+n).toNat else min _ n:Ń);by_cases h:v<0;.left
 .grind
def B9(lo hi:Ő Î)(n:Ń):ă lo hi 1 n=((kX n 0 lo:Î),(kX n n hi:Î)):=by
 erw[Prod.ext ?_ ?_];.cases lo with|a=>rfl|c v=>rwa[yq v n 0]
 .cases hi with|a=>rfl|c v=>rwa[yq v n n]
def DT(i j:Ń):ý i j 1=j-i:=by
 delta ý;let h:(1:Î)>0:=()
 simp only[h,pk,Int.ediv_one];split<;>lia
def vD{E:dC}(p:IsPart v o)(h:Q o s):bn (b' prog w) A (Builtin.Slice.slicePartIndex v) Q E s:=by cases p with|a=>rwa[slicePart_none h]|int i t=>rwa[slicePart_int h]
def kY{E:dC}{lo:Ő Î}{Q:Î×Î×Ń->be->ß}(hs:s.heap.IsSliceOf sl v u .none)(p:IsPart v lo)(P:IsPart u hi)(h:Q (kX n 0 lo,1,kX n n hi-kX n 0 lo) s):bn (b' prog w) A (Builtin.Slice.sliceApplied (.ref sl) (pure n)) Q E s:=by let(os,Y,a,H):=id hs;erw[aa (aa (bY Y H (x:=v) Ŗ (aa (bY Y H (x:=u) Ŗ (aa (bY Y H (x:=.none) Ŗ (ai ?_)))))))];erw[aa (slicePart_none ?_)];erw[aa (vD p (aa (vD P (aa (ai ?_)))))];show bn _ _ (match ă lo hi 1 _ with|(lo,hi)=>pure (Prod.mk lo (Prod.mk (1:Î) (ý lo hi 1)))) _ _ s;rw[B9 lo hi n];show bn _ _ (pure _) _ _ s;rw[DT];rwa[ai h]
def Ni(xs:Array Â)(i k:Ń):((á k).filterMap λ(m:Ń)=>xs[((i:Î)+m*1).toNat]?).toArray=((xs.toList.drop i).take k).toArray:=by
 let e:(λ(m:Ń)=>xs[((i:Î)+m*1).toNat]?)=λm=>xs[i+m]?:=by funext m;let:((i:Î)+m*1).toNat=i+m:=(dD _ _ _).symm;rw[this]
 rw[e];let:=pick_run xs i k;rw[List.filterMap_map]at this;let a:((λx=>xs[x]?)∘ λx=>i+x)=λm=>xs[i+m]?:=Ŗ;rw[a]at this;rw[this]
def pZ{E:dC}{lo:Ő Î}{Q:dC}(H:IsTup s.heap t ce)(hs:s.heap.IsSliceOf sl v u .none)(p:IsPart v lo)(P:IsPart u hi)(c:¬(kX ce.size 0 lo=0/\kX ce.size ce.size hi=ce.size))(h:Q (.ref s.heap.objs.size) {s with heap:=s.heap.push {cls:=.type "tuple",data:=.seq ((ce.toList.drop (kX ce.size 0 lo)).take (kX ce.size ce.size hi-kX ce.size 0 lo)).toArray}})(j:ce.size<=Ã):bn (b' prog w) A (getItem (.ref t) (.ref sl)) Q E s:=by
 let(os,Y,a,b):=id hs;delta getItem;try with_reducible erw[b7 ?_]
 erw[aa (wpAny_sequenceKey H.typeIs Ŗ ?_)];erw[aa (bV H.typeIs dy (bW dy H.typeIs Ď ?_ (args_tuple_getitem _ _)))];show bn _ _ (Builtin.Tuple.tupleItemsOf _>>=_) _ _ s;erw[aa (tupleItemsOf_ H ?_)];erw[aa (jV (os,Y,a) ?_)];erw[aa (kY hs p P ?_)];show bn _ _ (if((kX _ 0 lo:Î)==0&&1==1&&kX _ _ hi-kX _ 0 lo==ce.size)=J then _ else _) _ _ s;rw[bS (),Ni];first|rwa[aa (bU (ai (_,Ŗ,ai h)) (by show((ce.toList.drop _).take _).toArray.size<=Ã;rw[bg,bK,eh,b5];lia))]|rfl|lia|lia
end HT
namespace L2
abbrev TO:=Ç->Hp->(Ő Î->Hp->ß)->ß
def PO(X:Cx)(e:Ő Å)(t:TO):ß:=∀(p:Ł _)(s:be)(σ:Ç)(H:Hp)(Q:Ő Î->Hp->ß),Inv X p σ H s->t σ H Q->bn (b' X.prog X.w) X.A (evalPart e X.env) (λu S=>∃o h,Inv X p σ h S/\IsPart u o/\Q o h) X.xe s
def Us:TO:=λ_ H Q=>Q ao H
def į(t:TE):TO:=λσ H Q=>t σ H λx h=>∃i,x=.I i/\Q (O i) h
def Tp:PO X ao Us:=by intro p s σ H Q I h;rwa[ai (_,H,I,.none,h)]
def Tq(h:PE X e te):PO X (O e) (į te):=by intro p s σ H Q I w;erw[kr (h _ s σ H _ I w) λu s1 x a b r c=>?_];let(i,rfl,q):=c;let(t,rfl):=r;exact(_,a,b,.int i t,q)
def Py(X:Cx)(r:V->Ő Î->Ő Î->Hp->VK->ß):ß:=∀(p:Ł _)(s:be)(σ:Ç)(H:Hp)(x:V)(v l u:Â)(lo hi:Ő Î)(sl:À)(Q:VK),Inv X p σ H s->RelV x v->s.heap.IsSliceOf sl l u .none->IsPart l lo->IsPart u hi->r x lo hi H Q->∃T id,typeLookup (.type T) "__getitem__"=pure (O (.builtin id))/\s.TypeIs v T/\bn (b' X.prog X.w) X.A (getItem v (.ref sl)) (EP X p σ Q) X.xe s
def Py.or(h:Py X r)(h':Py X R):Py X λx lo hi H Q=>r x lo hi H Q\/R x lo hi H Q:=by
 intro p s σ H x v l u lo hi sl Q I a b P c q;rcases q with q|q;.rwa[h _ s σ H x v l u lo hi sl Q I a b P c q]
 .rwa[h' _ s σ H x v l u lo hi sl Q I a b P c q]
def tSl(r:V->Ő Î->Ő Î->Hp->VK->ß)(te:TE)(tl th:TO):TE:=λσ H Q=>te σ H λx h=>tl σ h λl a=>th σ a λu b=>r x l u b Q
def MT{lo:Ő Å}(a:Py X r)(c:PE X e te)(d:PO X lo tl)(hu:PO X hi th):PE X (.Subscript e (.Slice lo hi ao p2) pos) (tSl r te tl th):=by intro p s σ H Q I h;erw[Subscript_ (kr (c _ s σ H _ I h) λv s1 x f i R g=>?_)];erw[wpAny_Slice (iL (d _ s1 σ f _ i g) λj s2 (l,k,m,P,n)=>iL (hu _ s2 σ k _ m n) λo S u=>?_)];let(u,t,w,y,z):=u;erw[ai ?_];let(T,id,A,B,C):=a _ _ σ t x v j o l u S.heap.objs.size Q (w.kept λb D q=>af _ q) R (Heap.IsSliceOf.new ..) P y z;rwa[tail_any B A C Ŗ]
def qV(xs:ϕ)(lo hi:Ő Î):ϕ:=(xs.drop (HT.kX (Á xs) 0 lo)).take (HT.kX (Á xs) (Á xs) hi-HT.kX (Á xs) 0 lo)
def rR(xs:ϕ)(lo hi:Ő Î):Á (qV xs lo hi)<=Á xs:=by delta qV;rw[bK,eh];lia
def aiU(K:Æ):V->Ő Î->Ő Î->Hp->VK->ß:=λx lo hi H Q=>∃a s,x=.A a/\gX K H a s/\¬(HT.kX (Á s) 0 lo=0/\HT.kX (Á s) (Á s) hi=Á s)/\∀p,H p=ao->Q (.A p) (dq H p (.T (qV s lo hi)))
def E_:Py X (aiU X.K):=by
 intro p s σ H x v l g lo hi sl Q I R d P u h;let(a,c,rfl,f,w,q):=h;cases R;let(B,r,t,z):=I.tuple f;let n:B.toArray.size=Á c:=by rwa[r.length.symm]
 erw[(_,_,dy.lookup,t.typeIs,?_)];erw[HT.pZ t d P u (by rw[n];rwa[w]) ?_ (by rw[n];rwa[z])];rw[n];erw[(.A _,_,I.laid (λb o q=>af _ q) (ah _) ?_,Ŗ,q _ (I.c4.fresh (ah _)))];exact(aq (rR c lo hi) z,_,(r.drop _).take _,GN _ _)
def adC(K:Æ):R2:=λx y H Q=>∃a b s Y,x=.A a/\y=.A b/\gX K H a s/\gX K H b Y/\s ≠[]/\Á s+Á Y<=Ã/\(Y=[]->Q (.A a) H)/\(Y ≠[]->∀p,H p=ao->Q (.A p) (dq H p (.T (s++Y))))
def Vals.zf(r:Vals xs us):us=[]↔xs=[]:=by cases r with|f=>simp|g _ _=>simp
def Si:mm X (binaryOp .Add) (adC X.K):=by intro p s σ H x y v u Q I d f h;let(a,b,m,Y,rfl,rfl,g,i,j,c,k,l):=h;cases d;cases f;let(B,R,P,_):=I.tuple g;let(S,r,p2,_):=I.tuple i;erw[HT.Qd P p2 (λz=>j (R.zf.mp z)) (λz=>(.A a,H,I,Ŗ,k (r.zf.mp z))) (λz=>?_) (by rw[<-R.length,<-r.length];rwa[c])];erw[(.A _,_,I.laid (λb o q=>af _ q) (ah _) ?_,Ŗ,l (λw=>z (r.zf.mpr w)) _ (I.c4.fresh (ah _)))];exact(by rw[aj];rwa[c],_,R.append r,GN _ _)
def RN(n:Ń)(i:Î):Ő Ń:=if 0<=i then(if i<n then O i.toNat else ao)else if-n<=i then O (i+n).toNat else ao
def BO{α:Type}(xs:Ł α)(i:Î):Ő α:=(RN (Á xs) i).bind λj=>xs[j]?
def FO(h:RN n i=O j):seqIndex? i n=O j/\j<n/\-n<=i/\i<n:=by
 delta RN at h;by_cases a:0<=i
 .rw[b9 a]at h;by_cases H:i<n;.rw[b9 H]at h;exact(by rw[AN a H,dG h],(),(),H)
  .left
 .rw[bS a]at h;by_cases H:-n<=i;.rw[b9 H]at h;exact(by rw[y8 () H,dG h],(),H,())
  .left
def yd(h:BO xs i=O v):∃j,seqIndex? i (Á xs)=O j/\xs[j]?=O v/\j<Á xs/\-Á xs<=i/\i<Á xs:=by delta BO at h;cases e:RN (Á xs) i with|a=>left|c j=>rw[e]at h;let(H,a,b,c):=FO e;exact(j,H,h,a,b,c)
def PN{j:Ń}{v:α}(h:xs[j]?=O v):BO xs j=O v:=by
 let H:=(ar.mp h).1;let e:RN (Á xs) j=O j:=by delta RN;rw[b9 (),b9 ()];simp
 delta BO;rw[e];rwa[h]
def lH(b:Å):ß:=∀o i,subscripted b a5 o i=operate [o,i] (getItem o i)
def JP(X:Cx)(r:R2):ß:=∀(e S:Å)(p:Ł _)(s:be)(σ:Ç)(H:Hp)(x y:V)(v u:Â)(Q:VK),Inv X p σ H s->RelV x v->RelV y u->r x y H Q->subscripted S a5 v u=operate [v,u] (getItem v u)->bn (b' X.prog X.w) X.A (subscriptTail e S v u) (EP X p σ Q) X.xe s
def ą(X:Cx)(id:String)(r:V->ϕ->Hp->VK->ß):ß:=∀(p:Ł _)(s:be)(σ:Ç)(H:Hp)(x:V)(a:ϕ)(v:Â)(u:Ł _)(Q:VK),Inv X p σ H s->RelV x v->Vals a u->r x a H Q->bn (b' X.prog X.w) X.A (call (.builtin id) (v::u)) (EP X p σ Q) X.xe s
def JP.or(h:JP X r)(h':JP X R):JP X λx y H Q=>r x y H Q\/R x y H Q:=by
 intro e S p s σ H x y v u Q I c d q f;rcases q with q|q;.rwa[h _ _ _ s σ H x y v u Q I c d q f]
 .rwa[h' _ _ _ s σ H x y v u Q I c d q f]
def Ga{X:Cx}{a b:Å}{ta tb:TE}{pos:Õ}{r:R2}(c:JP X r)(d:PE X a ta)(e:PE X b tb)(hs:autoParam (lH b) ġ):PE X (.Subscript a b pos) (mf r ta tb):=by intro p s σ H Q I h;rwa[Subscript_ (Xd d e I h λv u s2 x y f i R g q=>c a b _ s2 σ f x y v u Q i R g q (hs _ _))]
def L1(K:Æ):R2:=λx y H Q=>∃p s i v,x=.A p/\y=.I i/\gh K H p s/\BO s i=O v/\Q v H
def l_(K:Æ):R2:=λx y H Q=>∃p s i v,x=.A p/\y=.I i/\gX K H p s/\BO s i=O v/\Q v H
def KE:R2:=λx y H Q=>∃z i c,x=.S z/\y=.I i/\z.length<=Ã/\BO z.cps.toList i=O c/\Q (.S ⟨#[c]⟩) H
def RP:JP X (L1 X.K):=by
 intro e S g s σ H x y v u Q I R m h k;let(p,G,i,z,rfl,rfl,n,o,q):=h;cases R;let(t,rfl):=m;let(B,r,P,L):=I.list n;let(j,c,A,M,C,D):=yd o;let(w,E,F):=r.get A;let hl:=r.length;let hn:=vh;let f:EP X _ σ Q w s:=(z,H,I,F,q);by_cases l:0<=i
 .let d:=by rw[AN l D]at c;rwa[dG c]
  rwa[item_listR P.isList l () (by rw[d];simpa using E) f k]
 .let d:(i+B.toArray.size).toNat=j:=by rw[y8 () C]at c;rw[bg,<-hl];rwa[dG c]
  rwa[jT P.isList.typeIs slot_list_getitem.lookup (wpAny_getItem_list_neg P.isList () nofun () (by rw[d];simpa using E) (Ŗ,f)) k]
def LS:JP X (l_ X.K):=by intro e S P s σ H x y v u Q I R c h d;let(p,n,i,z,rfl,rfl,f,g,q):=h;cases R;let(t,rfl):=c;let(T,r,l,o):=I.tuple f;let(j,k,m,A,C,D):=yd g;let(w,E,B):=r.get m;let hn:=vh;rwa[jT l.typeIs slot_tuple_getitem.lookup (getItem_tuple l () () (by rw[bg,<-r.length];rwa[k]) (by simpa using E) (Ŗ,(z,H,I,B,q))) d]
def YY:JP X KE:=by intro e d p s σ H x y v u Q I r R h g;let(z,i,c,rfl,rfl,w,k,q):=h;let(t,rfl):=r;let(T,rfl):=R;let(j,f,l,A,m,n):=yd k;let o:Á z.cps.toList=z.length:=Ŗ;rw[o]at f m n;let hn:=vh;rwa[tail_any (typeIs_str s z t) slot_str_getitem.lookup (getItem_str () (by rw[f];simpa using l) (.S _,H,I.tok _,(_,Ŗ),q)) g]
def H4(K:Æ):R2:=λx y H Q=>L1 K x y H Q\/l_ K x y H Q\/KE x y H Q
def YX:JP X (H4 X.K):=RP.or (LS.or YY)
def DH(B:Ł _)(n j:Ń)(u:Â):ë (·.setIfInBounds j u) {cls:=.type "list",data:=.seq B.toArray n}={cls:=.type "list",data:=.seq (B.set j u).toArray n}:=by simp[ë]
def Inv.lst{P:Ł _}{σ:Ç}(I:Inv X P σ H s)(h:H p=O (.L xs)):∃(B:Ł _)(n:Ń),Vals xs B/\s.heap.get? p=O {cls:=.type "list",data:=.seq B.toArray n}/\Á xs<=Ã:=by let(z,B,n,r,e):=I.c4 p _ h;exact(B,n,r,e,z)
def Inv.Zg{P:Ł _}{σ:Ç}{B:Ł _}(I:Inv X P σ H s)(h:H p=O (.L xs))(o:s.heap.get? p=O {cls:=.type "list",data:=.seq B.toArray n})(c:f {cls:=.type "list",data:=.seq B.toArray n}={cls:=.type "list",data:=.seq A.toArray N})(r:Vals ys A)(hz:Á ys<=Ã)(t:Ń):Inv X P σ (dq H p (.L ys)) {s with heap:=s.heap.update p f,toks:=t}:=by
 let e:(s.heap.update p f).get? p=O {cls:=.type "list",data:=.seq A.toArray N}:=by rw[bE f o (by rw[c]<;>rfl),c]
 rwa[I.write (by rw[h];done) (.inl Ŗ) (λb u d q=>(bG _ _ (cY d)).trans q) (_,e) (hz,_,N,r,e)]
def Wh:V->V->V->Hp->(Hp->ß)->ß:=λo i v H Q=>∃p x k j,o=.A p/\i=.I k/\H p=O (.L x)/\RN (Á x) k=O j/\Q (dq H p (.L (x.set j v)))
def N5:Ċ X Wh:=by
 intro P s σ H o i v C D u Q I R x y h;let(p,E,k,j,rfl,rfl,f,z,q):=h;cases R;let(t,rfl):=x;let(B,n,r,d,A):=I.lst f;let(c,F,g,l):=FO z;let hl:=r.length;let hn:=vh;let m:Inv X _ σ _ {s with heap:=s.heap.update p _}:=I.Zg f d (DH B n j u) (r.set y j) (by rw[cn];rwa[A]) _;by_cases w:0<=k
 .let e:=by rw[AN w l]at c;rwa[dG c]
  rwa[PySem.W.ki_setAt d w () (by rw[bg,<-hl];rwa[l]) (by rw[e];exact(_,m,q))]
 .let e:(k+B.toArray.size).toNat=j:=by rw[y8 () g]at c;rw[bg,<-hl];rwa[dG c]
  rwa[PySem.W.ki_setBack d () (by rw[bg,<-hl];rwa[g]) () (by rw[e];exact(_,m,q))]
def zJ(lo hi:Ő Î)(n:Ń):(sliceBounds lo hi ao n).1=HT.kX n 0 lo/\(sliceBounds lo hi ao n).2.1=HT.kX n n hi/\(sliceBounds lo hi ao n).2.2=1:=by
 erw[(?_,?_,Ŗ)];.cases lo with|a=>rfl|c i=>
   simp only[sliceBounds,HT.kX,Option.getD_none,show(1:Î)>0 by ext,pk];by_cases h:i<0;.simp only[h,pk]<;>lia
   .simp only[h,jS]<;>lia
 .cases hi with|a=>rfl|c i=>
   simp only[sliceBounds,HT.kX,Option.getD_none,show(1:Î)>0 by ext,pk];by_cases h:i<0;.simp only[h,pk]<;>lia
   .simp only[h,jS]<;>lia
def wI(B:Ł _)(lo hi:Ő Î):slicePick B.toArray lo hi ao=((B.drop (HT.kX (Á B) 0 lo)).take (HT.kX (Á B) (Á B) hi-HT.kX (Á B) 0 lo)).toArray:=by let(h,H,c):=zJ lo hi _;delta slicePick;rw[h,H,c];simp only[sliceRange_one,pick_run,bg]<;>rfl
def Ģ(K:Æ):V->Ő Î->Ő Î->Hp->VK->ß:=λx lo h H Q=>∃a s,x=.A a/\gh K H a s/\∀p,H p=ao->Q (.A p) (dq H p (.L (qV s lo h)))
def Ud:Py X (Ģ X.K):=by intro p s σ H x v l f lo i sl Q I R c P u h;let(a,d,rfl,e,q):=h;cases R;let(B,r,t,z):=I.list e;let n:=r.length;erw[(_,_,slot_list_getitem.lookup,t.isList.typeIs,?_)];erw[wpAny_getItem_list_slice t.isList c P u .none ⋯ ?_ nofun];rw[wI,<-n];erw[(.A _,_,I.laid (λb o q=>af _ q) (ah _) ?_,Ŗ,q _ (I.c4.fresh (ah _)))];exact(aq (rR d lo i) z,_,0,(r.drop _).take _,ax _ Ŗ)
def oH:V->Þ|.jn=>J|.B _=>J|.I _=>J|.S _=>J|_=>a5
def QR:V->V->Þ|.jn,.jn=>J|.B a,.B b=>a==b|.B a,.I b=>(if a then 1 else 0)==b|.I a,.B b=>a==if b then 1 else 0|.I a,.I b=>a==b|.S a,.S b=>a==b|_,_=>a5
def X9(R:RelV y u)(r:RelV x v)(F:oH y)(f:oH x):SeqAt.EqAt A s u v (QR y x):=by cases y with
 |jn=>cases R;cases x with|jn=>cases r;rwa[SeqAt.EqAt.same _]|B b=>cases r;rwa[SeqAt.EqAt.none_bool b]|I b=>let(t,rfl):=r;rwa[SeqAt.EqAt.none_int b t]|S b=>let(t,rfl):=r;rwa[SeqAt.EqAt.none_str b t]|_=>rwa[Ă (show a5=J from f) aJ]
 |B a=>cases R;cases x with|jn=>cases r;rwa[SeqAt.EqAt.bool_none a]|B b=>cases r;rwa[SeqAt.EqAt.bool_bool a b]|I b=>let(t,rfl):=r;rwa[SeqAt.EqAt.bool_int a b t]|S b=>let(t,rfl):=r;rwa[SeqAt.EqAt.bool_str a b t]|_=>rwa[Ă (show a5=J from f) aJ]
 |I a=>let(T,rfl):=R;cases x with|jn=>cases r;rwa[SeqAt.EqAt.int_none a T]|B b=>cases r;rwa[SeqAt.EqAt.int_bool a T b]|I b=>let(t,rfl):=r;rwa[SeqAt.EqAt.int_int a T b t]|S b=>let(t,rfl):=r;rwa[SeqAt.EqAt.int_str a T b t]|_=>rwa[Ă (show a5=J from f) aJ]
 |S a=>let(T,rfl):=R;cases x with|jn=>cases r;rwa[SeqAt.EqAt.str_none a T]|B b=>cases r;rwa[SeqAt.EqAt.str_bool a T b]|I b=>let(t,rfl):=r;rwa[SeqAt.EqAt.str_int a T b t]|S b=>let(t,rfl):=r;rwa[SeqAt.EqAt.str_str a T b t]|_=>rwa[Ă (show a5=J from f) aJ]
 |_=>rwa[Ă (show a5=J from F) aJ]
def lv(x:V)(u:Â):Þ:=match u with|.none=>QR .jn x|.bool b=>QR (.B b) x|.int i _=>QR (.I i) x|.str z _=>QR (.S z) x|_=>a5
def KY(r:RelV y u)(f:oH y):lv x u=QR y x:=by cases y with|jn=>cases r;rfl|B b=>cases r;rfl|I i=>let(t,rfl):=r;rfl|S z=>let(t,rfl):=r;rfl|_=>rwa[Ă (show a5=J from f) aJ]
def EO:∀{xs:ϕ}{us:Ł _},Vals xs us->xs.all oH->us.any (lv x)=xs.any λy=>QR y x:=by intro xs us h f;induction h with|f=>rfl|g r t i=>rw[cw,aM]at f;rw[pE,pE,KY r f.1,i f.2]
theorem vk{x:V}{v:Â}(R:RelV x v)(F:oH x):∀{xs:ϕ}{us:Ł _},Vals xs us->xs.all oH->∀u∈us,SeqAt.EqAt A s u v (lv x u)
 |_,_,.nil,_=>λu hu=>by grind|y::xs,u::us,.cons r t,f=>λU hu=>by
  rw[cw,aM]at f;rcases aw.mp hu with rfl|hu;.rw[KY r f.1];rwa[X9 r R f.1 F]
  .rwa[vk R F t f.2 U hu]
def kT(x:V)(xs:ϕ):Þ:=xs.any λy=>QR y x
def FM(K:Æ)(neg:Þ):R2:=λx y H Q=>∃p s,y=.A p/\(gh K H p s\/gX K H p s)/\oH x=J/\s.all oH=J/\Q (.B (if neg then !kT x s else kT x s)) H
def HR:mm X (compareOp .In) (FM X.K a5):=by
 intro e s σ H x y v u Q I R g h;let(p,i,rfl,c,f,fs,q):=h;cases g;rcases c with c|c;.let(T,r,P,z):=I.list c;erw[SeqAt.in_listAt _ P.isList (λw d=>vk R f r fs w (by simpa using d)) (.B _,H,I,Ŗ,?_)];rw[show T.toArray.any _=T.any (lv x)by simp,EO r fs];rwa[q]
 .let(T,r,P,z):=I.tuple c;erw[SeqAt.in_tupleAt _ P (λw d=>vk R f r fs w (by simpa using d)) (.B _,H,I,Ŗ,?_)];rw[show T.toArray.any _=T.any (lv x)by simp,EO r fs];rwa[q]
def yj:fR X (.builtin "len") λxs H Q=>∃p ys,xs=[.A p]/\(gh X.K H p ys\/gX X.K H p ys)/\Q (.I (Á ys)) H:=by
 intro d s σ H xs U Q I r h;let(p,ys,rfl,c,q):=h;let(u,rfl,x):=IZ r;cases x;let hn:=vh;rcases c with c|c;.let(B,R,P,z):=I.list c;let n:=R.length;rwa[Calls.call_len_list P.isList (by simp only[bg]<;>lia) (.I _,H,I.tok _,(_,by rw[bg,n]),q)]
 .let(B,R,P,z):=I.tuple c;let n:=R.length;rwa[len_tuple P (by simp only[bg]<;>lia) (.I _,H,I.tok _,(_,by rw[bg,n]),q)]
def fR.or(h:fR X f r)(h':fR X f R):fR X f λxs H Q=>r xs H Q\/R xs H Q:=by
 intro p s σ H xs u Q I c q;rcases q with q|q;.rwa[h _ s σ H xs u Q I c q]
 .rwa[h' _ s σ H xs u Q I c q]
def yk:fR X (.type "list") λxs H Q=>∃p ys,xs=[.A p]/\(gh X.K H p ys\/gX X.K H p ys)/\∀l,H l=ao->Q (.A l) (dq H l (.L ys)):=by
 intro t s σ H xs U Q I r h;let(p,ys,rfl,d,q):=h;let(u,rfl,x):=IZ r;cases x;let f:∀(B:Ł _),Vals ys B->Á ys<=Ã->∀(c:È)(C:Ń),(∀b v,s.heap.get? b=O v->c.get? b=O v)->c.get? _=O _->EP X _ σ Q _ {s with heap:=c}:=λB R z c C k e=>(.A _,_,I.laid k (ah _) (show fq _ X.w _ c _ (.L ys)from(z,B,C,R,e)),Ŗ,q _ (I.c4.fresh (ah _)));rcases d with d|d;.let(B,R,P,z):=I.list d;let g:=R.length;let(o,i,j,n,m):=P.isList;rwa[call_list_seq p (.inl Ŗ) i j m (λc C k e=>f B R z c C k e) (by simp only[bg]<;>lia)]
 .let(B,R,P,z):=I.tuple d;let g:=R.length;let(o,i,j,n,m):=P;rwa[call_list_seq p (.inr Ŗ) i j m (λc C k e=>f B R z c C k e) (by simp only[bg]<;>lia)]
def wb:fR X (.type "tuple") λxs H Q=>∃p ys,xs=[.A p]/\((gh X.K H p ys/\∀l,H l=ao->Q (.A l) (dq H l (.T ys)))\/gX X.K H p ys/\Q (.A p) H):=by
 intro d s σ H xs U Q I r h;let(p,ys,rfl,h):=h;let(u,rfl,x):=IZ r;cases x;rcases h with ⟨c,q⟩|⟨c,q⟩;.let(B,R,P,z):=I.list c;let n:=R.length;erw[call_tuple_list P.isList (λf k=>?_) (by simp only[bg]<;>lia)];let i:Inv X _ σ H {s with heap:=f}:=I.kept k;let g:Inv X _ σ (dq H _ (.T ys)) {s with heap:=f.push _}:=i.laid (λb o e=>af _ e) (ah _) (z,B,R,GN _ _);exact(.A _,_,g,Ŗ,q _ (i.c4.fresh (ah _)))
 .let(B,R,P,z):=I.tuple c;rwa[call_tuple_same P (.A p,H,I,Ŗ,q)]
def Cc(K:Æ)(T:String)(x:V)(H:Hp):ß:=match x with|.S _=>T="str"|.I _=>T="int"|.A p=>(T="list"/\∃s,gh K H p s)\/(T="tuple"/\∃o,K.lookup p=O o/\o.cls=.type "tuple"/\o.dict=ao)\/T="dict"/\((∃U,H p=O (.dK U))\/∃U,H p=O (.dT U))\/T="set"/\∃S n,H p=O (.set S n)|_=>ŧ
def B'{P:Ł _}{σ:Ç}(I:Inv X P σ H s)(r:RelV x v)(y:Cc X.K T x H):
  s.TypeIs v T/\∀a,v=.ref a->∃f,s.heap.get? a=O f/\f.dict=none:=by cases x with|S z=>let(t,rfl):=r;cases show T="str"from y;exact(typeIs_str s z t,λ_ e=>nomatch e)|I i=>let(t,rfl):=r;cases show T="int"from y;exact(Ad s i t,λ_ e=>nomatch e)|A p=>
  cases r;rcases y with ⟨rfl,j,q⟩|⟨rfl,o,h,g,d⟩|⟨rfl,h⟩|⟨rfl,S,n,h⟩;.let(B,_,l,_):=I.list q;erw[(l.isList.typeIs,λa e=>?_)];cases e;let(o,n,e,c,d,_):=l;exact(o,e,d)
  .erw[((o,I.qC p o h,g),λa e=>?_)];cases e;exact(o,I.qC _ o h,d)
  .let z:∃o,s.heap.get? p=O o/\o.ExactDict:=by
    rcases h with ⟨U,h⟩|⟨U,h⟩;.let(_,_,_,_,o,_,_,e,ex,_):=I.c4 p _ h;exact(o,e,ex)
    .let(_,_,_,_,o,_,_,e,ex,_):=I.c4 p _ h;exact(o,e,ex)
   let(o,e,ex):=z;erw[((o,e,ex.1),λa E=>?_)];cases E;exact(o,e,ex.2.1)
  .let(o,_,_,_,e,ex,_):=I.c4 p _ h;erw[((o,e,ex.1),λa E=>?_)];cases E;exact(o,e,ex.2.1)|_=>rwa[å y]
def FN(K:Æ)(T:String)(r:V->ϕ->Hp->VK->ß)(to:TE)(t:TA):TE:=λσ H Q=>to σ H λx h=>Cc K T x h/\t σ h λs c=>r x s c Q
def adi{id:String}(pa:PlainAttrs T)(slot:Slot T name id)(y:typeOf (.builtin id)=pure (.type "method_descriptor"))(m:ą X id r)(c:PE X o to)(d:PA X (e::es) t)(q:ø (ge o name X.env (Ê o X.env)=Ê o X.env) v0)(Y:ø (((eP dE (dN (e::es) X.env)).all (λx=>!x.1)&&(backToKw dE (hG [] X.env)).all (λx=>x.1.isSome)&&Đ (Á (e::es)+Á ([]:Ł g5)+(if([]:Ł g5).isEmpty then 0 else 1)<30))=J) v0)(f:ø ((cs.endLine==dE.line)=J) v0)(hs:ø (dN (e::es) X.env=(a5,Ê e X.env)::dN es X.env) v0)(E:ø ((eP dE (dN es X.env)).any (·.1)=a5) v0):PE X (.Call (.Attribute o name cs) (e::es) [] dE) (FN X.K T r to t):=by intro p s σ H Q I h;erw[TW q Y f Ŗ (kr (c _ s σ H _ I h) λv s1 x g i R (j,k)=>?_)];let(l,n):=B' i R j;erw[(T,id,pa,slot,y,l,n,?_)];let A:=d dE _ s1 σ g _ i k;rw[hs]at A⊢;rwa[jN (by done) (fC (iL A λu s2 z=>by let(w,B,C,D,F):=z;rwa[m _ s2 σ B x w v u Q C R D F]))]
def Ň(X:Cx)(id:String)(r:V->ϕ->Hp->VK->ß):ß:=∀(p:Ł _)(s:be)(σ:Ç)(H:Hp)(x:V)(a:ϕ)(v:Â)(u:Ł _)(Q:VK),Inv X p σ H s->RelV x v->Vals a u->r x a H Q->bn (b' X.prog X.w) X.A (call (.builtin id) (v::u)) (EP X p σ Q) X.xe s
def Vals.one:∀{x:V}{us:Ł _},Vals [x] us->∃u,us=[u]/\RelV x u:=by intro _ _ h;cases h with|g r t=>cases t;exact(_,Ŗ,r)
def Vals.two:∀{x y:V}{us:Ł _},Vals [x,y] us->∃u v,us=[u,v]/\RelV x u/\RelV y v:=by intro _ _ _ h;cases h with|g r t=>cases t with|g q t=>cases t;exact(_,_,Ŗ,r,q)
def Vals.zero:∀{us:Ł _},Vals [] us->us=[]|_,.nil=>Ŗ
theorem Vals.rep(h:Vals xs us):∀k:Ń,Vals (Ð k xs).flatten (Ð k us).flatten|0=>.nil|k+1=>by rwa[Vals.append h (Vals.rep h k)]
theorem GR(b:Ł Â):∀(k:Ń)(acc:Ł _),ò (λx X=>x++X) acc.toArray (Ð k b.toArray)=(acc++(Ð k b).flatten).toArray
 |0,acc=>⋯|k+1,acc=>by
  let e:acc.toArray++b.toArray=(acc++b).toArray:=⋯
  let E:acc++b++(Ð k b).flatten=acc++(Ð (k+1) b).flatten:=by grind
  rw[<-E,<-GR b k _,<-e,mz,List.foldl_cons]
def Inv.ah1{σ:Ç}{B:Ł _}(I:Inv X bb σ H s)(h:H l=O (.L xs))(e:s.heap.get? l=O {cls:=.type "list",data:=.seq B.toArray n})(a:f B.toArray=A.toArray)(v:Vals ys A)(hz:Á ys<=Ã):Inv X bb σ (dq H l (.L ys)) {s with heap:=s.heap.update l (ë f),toks:=t'}:=by let q:=PySem.IsL.update e f;rw[a]at q;rwa[I.write (by rw[h];rwa[Ť]) (.inl Ŗ) (λd u c hu=>(bG _ _ (cY c)).trans hu) (_,q) (hz,_,_,v,q)]
def Inv.Zb{σ:Ç}(I:Inv X bb σ H s)(h:Vals ys B)(hz:Á ys<=Ã):Inv X bb σ (dq H s.heap.objs.size (.L ys)) {s with heap:=s.heap.push {cls:=.type "list",data:=.seq B.toArray},toks:=t'}:=I.laid (λ_ _ q=>af _ q) (ah _) (hz,B,0,h,ax _ Ŗ)
theorem Inv.fresh{σ:Ç}(I:Inv X bb σ H s):H s.heap.objs.size=none:=I.c4.fresh (ah _)
def Inv.R6{σ:Ç}(I:Inv X bb σ H s)(h:H l=O (.L xs)):Á xs<=Ã/\∃(B:Ł _)(n:Ń),Vals xs B/\Á xs=Á B/\s.heap.get? l=O {cls:=.type "list",data:=.seq B.toArray n}:=by let(z,B,n,r,e):=I.c4 l _ h;exact(z,B,n,r,r.length,e)
def Mx(h:n<=Ã):Builtin.List.listTooLong n=false:=by rwa[cq ()]
def Gs:V->ϕ->Hp->VK->ß:=λx v H Q=>∃l s y,x=.A l/\v=[y]/\H l=O (.L s)/\Á s<Ã/\Q .jn (dq H l (.L (s++[y])))
def xu:Ň X "list.append" Gs:=by intro p s σ H x d v U Q I R b h;let(l,f,y,rfl,rfl,a,g,q):=h;cases R;let(u,rfl,c):=b.one;let(z,B,n,r,i,e):=I.R6 a;erw[jq F.slot_list_append (_,e,Ŗ) F.entry_list_append (F.args_list_append_2 _ _) (PySem.list_append l _ n u nofun) (e,?_)];erw[(.jn,_,I.ah1 a e ⋯ (r.append (.cons c .nil)) ?_,Ŗ,q)];rw[aj,cB];rwa[dh ‹_›]
def HB:R2:=λx y H Q=>∃l b s z,x=.A l/\y=.A b/\H l=O (.L s)/\H b=O (.L z)/\Á s+Á z<=Ã/\∀p,H p=ao->Q (.A p) (dq H p (.L (s++z)))
def Zs:mm X (binaryOp .Add) HB:=by
 intro p s σ H x y v u Q I R a h;let(l,b,i,Z,rfl,rfl,c,d,j,q):=h;cases R;cases a;let(z,B,n,r,k,e):=I.R6 c;let(m,Y,N,f,o,E):=I.R6 d;erw[PySem.P.add_list e E ?_ (by rw[bg,bg];lia)];let g:B.toArray++Y.toArray=(B++Y).toArray:=⋯
 rw[g];exact(.A _,_,I.Zb (r.append f) (by rw[aj];rwa[aq ‹_› ∅]),Ŗ,q _ I.fresh)
def VE:R2:=λx y H Q=>∃l k s,x=.A l/\y=.I k/\H l=O (.L s)/\-2^63<=k/\k<2^63/\Á s*k.toNat<=Ã/\∀p,H p=ao->Q (.A p) (dq H p (.L (Ð k.toNat s).flatten))
def yY{α:Type}(xs:Ł α)(k:Ń):Á (Ð k xs).flatten=k*Á xs:=⋯
def ZA:mm X (binaryOp .Mult) VE:=by
 intro p s σ H x y v u Q I R f h;let(l,k,D,rfl,rfl,g,i,j,d,q):=h;cases R;let(t,rfl):=f;let(z,b,n,r,o,e):=I.R6 g;let c:b.toArray.size*k.toNat<=Ã:=by rw[bg,<-o];rwa[d]
 let L:ò (λw B=>w++B) #[] (Ð (if b.toArray.isEmpty=J then 0 else k.toNat) b.toArray)=(Ð k.toNat b).flatten.toArray:=by
  let C:∀m:Ń,ò _ #[] _=(Ð m b).flatten.toArray:=λm=>by let:=GR b m [];rwa[this]
  rw[C];cases b with|f=>simp|g a E=>rfl
 erw[Vb (by rfl) (_,e,Ŗ) (λS=>Ad S k t) noFill_list_mul F.fills_int_mul sZ repeat_list F.slot_int_index.lookup (jq sZ (Ad s k t) F.entry_int_rmul (F.args_int_rmul_2 _ _) (int___rmul___int_list k t l _ n) (e,Ŗ,(_,e,Ŗ),jq F.slot_list_mul (_,e,Ŗ) F.entry_list_mul (F.args_list_mul_2 _ _) (AutoListH.list___mul___list_int_3 l _ n k t (by rw[fitsIndex_both i j];rwa[aJ]) (by
  let:Ã<=(2^63-1)/8:=∅
  lia) (by rw[Mx c];rwa[aJ])) (e,?_)))];rw[L];exact(.A _,_,I.Zb (r.rep _) (by rw[yY,Nat.mul_comm];rwa[d]),Ŗ,q _ I.fresh)
end L2
namespace Att
open PySem.W PySem.Calls
def sQ:∀(ns:Ł Î)(vs:Ł _),WellAll P h vs (ns.map WData.int)->IntsAre vs ns:=by intro ns;induction ns with|f=>intro vs w;cases w;rwa[.nil]|g n ns i=>intro vs w;cases w with|g a b=>cases a;rwa[.cons _ _ (i _ b)]
def Iw{l:OpenLaw}(hn:l.most=O n)(R:l.row.toRowW.claim.pre args)(H:WellAll P h v args):∃a vs ns,v=[Ò a]/\args=[WData.list (ns.map WData.int)]/\h.get? a=O {cls:=.type "list",data:=.seq vs.toArray}/\IntsAre vs ns/\Á ns<=n:=by let(d,r,rfl,e,f):=hasAllW_cons (pre_splitW R).1;obtain rfl:=hasAllW_nil f;let(x,rfl,g):=hasW_list e;let(ns,rfl):=items_int g;cases H with|g w W=>cases W;cases w with|list o E=>exact(_,_,ns,Ŗ,Ŗ,o,sQ ns _ E,by let b:=condW_of (by let c:=(holds_andW (pre_splitW R).2).1;rw[hn]at c;rwa[c]) (w_not (w_lt w_lit (w_len_list (w_arg Ŗ))));rw[ae]at b;first|(rw[cJ ()]at b;rwa[Ă b ∅])|lia)
def Ie(l:OpenLaw)(args:Ł _):l.row.toRowW.claim.post args (.bool J) args=true:=postW_of (show WShape.has [] _ .bool=J by rfl) (w_eq_bool (w_res Ŗ) w_lit) Ŗ
def An{l:OpenLaw}(hn:l.most=O n)(e:d.params.defaults=[])(call:∀(w:cc)(S s:be)(m M:Ä->Ő _)(F:À)(o:Ø)(p c doc:Â)(a:À)(vs:Ł _)(ns:Ł Î),Ground q L [] XP w S m M s.heap->y w s.heap->s.heap.get? F=O o->o.data=.func (docDef d.name d.params d.body d.scope p c doc)->s.heap.CodeRec c d.name->m d.name=O (.ref F)->s.heap.get? a=O {cls:=.type "list",data:=.seq vs.toArray}->IntsAre vs ns->Á ns<=n->s.gens=#[]->fm (b' l.prog w) callerA (.call (.ref F) ([.ref a],[])) (λr s'=>r=.ok (.ret (.bool J))/\OldK s.heap s'.heap/\s'.os=s.os/\AllBare s'.gens) s):WalkO q L XP y l.row.toRowW d [] λf vs=>PySem.call f vs:=by intro w S s m M G Y F o p c doc g kV i j P D k t args v N R A u b x;obtain rfl:g=.none:=Dflts.none D e;obtain rfl:kV=.none:=Dflts.noKw D;let(a,vs,ns,rfl,rfl,z,h,H):=Iw hn R b;erw[enter_call (dU (call w _ _ m M F o p c doc a vs ns G Y i (fd_plain j) P k z h H t) λr s' B=>?_)];let(rfl,C,E,I):=B;exact(.inl (_,_,[],Ŗ,λ_=>Ŗ,.bool _,Ie l _,λ_=>(List.Pairwise.nil,λ_ K=>nomatch K)),C,E,I)
end Att
namespace L2
def IT:∀{vs:Ł _}{ns:Ł Î},IntsAre vs ns->Vals (ns.map V.I) vs:=by intro vs ns h;induction h with|f=>rwa[.nil]|g n t h i=>rwa[.cons (t,Ŗ) i]
def WY(H:Hp):ß:=∀b,H b=ao\/∃o x,H b=O (.mX o (.L x))
def L3{K:Æ}{M j:c3}(R:K.In s₁.heap)(S:s₁.heap.Ns c' M)(c:s₁.heap.Ns builtinsNs j)(p:∀x:Ä,x≠"__name__"->j x=eU x)(t:s₁.heap.NoLimit)(hg:s₁.gens=#[])(i:s₁.heap.get? a=O {cls:=.type "list",data:=.seq vs.toArray})(hi:IntsAre vs ns)(hl:Á ns<=Ã)(hr:fJ k callerA)(F:∀base:È,K.In base->base.Ns c' M->il P w K M base CX k l Q [x] sp)(y:∀(s:be)(u:Â),BindsTo s Q ([u],[]) [(x,u)])(AS:∀H:Hp,WY H->gh K H a (ns.map V.I)->sp [.A a] H (λv _=>v=.B J) λ_ _ _=>ŧ)(X:∀H e s',CX [] H s₁ (λ_ _ _=>ŧ) e s'->ŧ):fm (b' P w) callerA (.call (.ref l) ([.ref a],[])) (λr s'=>r=.ok (.ret (.bool J))/\OldK s₁.heap s'.heap/\s'.os=s₁.os/\AllBare s'.gens) s₁:=by
 let rv:=IT hi;let anU:=hi.length;let C:∀H:Hp,WY H->gh K H a (ns.map V.I)->jX P w H s₁.heap->(∀b,H b≠ao->b=a)->(H a≠ao->K.lookup a=ao)->fm (b' P w) callerA (.call (.ref l) ([.ref a],[])) (λr s'=>r=.ok (.ret (.bool J))/\OldK s₁.heap s'.heap/\s'.os=s₁.os/\AllBare s'.gens) s₁:=by
  intro H T hS U W hK;let Y:∀{b:À}{o:Ø},s₁.heap.get? b=O o->H b=ao->(yO s₁.heap H).get? b=O o:=λe n=>Lf e n;let D:∀{b:À}{o:Ø}{E:Array gn}{ep:Ń},s₁.heap.get? b=O o->o.data=.dict E ep->H b=none:=λ{b o E ep}e d=>by cases q:H b with|a=>rfl|c u=>let G:b=a:=W b (by rw[q];simp);subst G;rw[i]at e;cases e;let d':Data.seq vs.toArray _=Data.dict E ep:=d;cases d'
  let N:∀{b:À}{m:c3},s₁.heap.Ns b m->(yO s₁.heap H).Ns b m:=λ{b m}zz=>(by let(o,E,ep,e,d,r):=zz;exact(o,E,ep,Y e (D e d),d,r));let f:K.In (yO s₁.heap H):=λb o e=>Y (R b o e) (by cases q:H b with|a=>rfl|c u=>let G:b=a:=W b (by rw[q];simp);subst G;rw[hK (by rw[q];simp)]at e;cases e);let hM:Mod K M (yO s₁.heap H):=(f,N S,(j,N c,p),let (mc,h1,h2):=t;(mc,N h1,h2));let e0:x9 P w K M (yO s₁.heap H) callerA [] s₁ H:=(Ŗ,hM,λb o e=>Sd e,gm (HA _ _),Ť,λb c=>Ă (show b∈([]:Ł À)from c) ⋯,U,.of_eq hg);erw[dU ((F _ f (N S)).run callerA [] s₁ H ([.ref a],[]) [.ref a] [.A a] _ _ hr e0 (y s₁ (.ref a)) (.cons Ŗ .nil) (AS H T hS)) λr s' h=>?_];cases r with|error e=>exact(X H e s' h).elim|ok fl=>cases fl with|next=>rwa[å h]|brk=>rwa[å h]|cont=>rwa[å h]|ret u=>let(v,H',os,g,un,Lo,r',q):=h;let q':v=.B true:=q;subst q';obtain rfl:u=Value.bool true:=r';erw[(Ŗ,OldK.of_keep λb o e=>?_,os,g)];cases q:H b with|a=>rwa[un.keep b o e q (by intro z;rwa[Ă (show b∈([]:Ł À)from z) ⋯]) ⋯]|c u=>
     rcases T b with z|⟨ob,xs,z⟩;.lia
     .let(Z,_):=U b _ z;let(e2,_):=Lo b _ (un.mw b ob _ z);rw[e]at Z;cases Z;rwa[e2]
 cases L:K.lookup a with|c o=>let e:=R a o L;rw[i]at e;cases e;rwa[C _ (λ_=>.inl Ŗ) (.inr (_,_,_,L,Ŗ,Ŗ,Ŗ,nofun,by done)) λb u z=>by done (λb z=>Ă Ŗ z) λz=>Ă Ŗ z]|a=>
  erw[C (λb=>if b=a then O (.mX {cls:=.type "list",data:=.seq vs.toArray} _)else ao) (λb=>?_) (.inl (.inr (_,b9 Ŗ))) (λb u z=>?_) (λb z=>?_) λ_=>L]
  .by_cases c:b=a;.rwa[.inr (_,_,b9 c)]
   .rwa[.inl (bS c)]
  .by_cases c:b=a;.let z':=(b9 c).symm.trans z;cases z';subst c;exact(i,by rw[ae];rwa[hl],vs,_,rv,i)
   .left
  .by_cases c:b=a;.done
   .rwa[Ă (bS c) z]
def UZ{l:OpenLaw}{K:Params->Æ}{CX:cc->uo}{sp:cc->Sp}(hn:l.most=O n)(D:n<=Ã)(z:d.params.defaults=[])(C:fJ k callerA)(E:∀(w:cc)(h:È),y w h->(K w.params).In h)(F:∀(w:cc)(m:Ä->Ő _)(j:À)(h:È),(K w.params).In h->h.Ns c' m->m d.name=O (.ref j)->∃p:d4,(∀(s:be)(u:Â),BindsTo s p ([u],[]) [(x,u)])/\∀base:È,(K w.params).In base->base.Ns c' m->il l.prog w (K w.params) m base (CX w) k j p [x] (sp w))(M:∀(w:cc)(H:Hp)(a:À)(ns:Ł Î),Á ns<=n->WY H->gh (K w.params) H a (ns.map V.I)->sp w [.A a] H (λv _=>v=.B J) λ_ _ _=>ŧ)(X:∀(w:cc)(H:Hp)(s:be)(e:Â)(s':be),CX w [] H s (λ_ _ _=>ŧ) e s'->ŧ):WalkO q L XP y l.row.toRowW d [] λf vs=>PySem.call f vs:=by erw[Att.An hn z λw S r m mb j o pm cd doc a vs ns G Y ho hd pC N P i c Q=>?_];let t:=E w _ Y;let(p,R,U):=F w m j _ t G.T.g N;rwa[L3 t G.T.g G.T.b G.T.builtins G.T.nolimit Q P i (aq c D) C U R (λH W Z=>M w H a ns c W Z) λH e s'=>X w H _ e s']
def c6(s:É)(j:Ń):É:=match s with|.ClassDef _ _ _ body _ _ _ _ _ _ _=>body.getD j (.Pass (0,0,0,0))|_=>.Pass (0,0,0,0)
def g7(s:É):Arguments:=match s with|.FunctionDef _ a _ _ _ _ _ _ _ _=>a|_=>{posonlyargs:=[],args:=[],vararg:=ao,kwonlyargs:=[],kw_defaults:=[],kwarg:=ao,defaults:=[]}
def bX(s:É):Ł É:=match s with|.FunctionDef _ _ b _ _ _ _ _ _ _=>b|_=>[]
def aG(s:É):Í:=match s with|.FunctionDef _ _ _ _ _ _ sc _ _ _=>sc|_=>{kind:=.function,names:=[],isGenerator:=a5,isCoroutine:=a5}
abbrev BL:uo:=λ_ _ _ _ _ _=>ŧ
abbrev E0:XK:=λ_ _ _=>ŧ
def adg:iq BL X E0:=λ_ _ _ _ _ _ _ h=>h.elim
structure BM(K:Æ)(x cN:Ä)(st:É)(f:À)(fd:d4):ß where
 ex:∃(oc:Â)(od:Ő À)(kV doc pm:Â)(an:Ő À)(eO ct:Â)(sd:Array (Ő Â)),fd=fnOf x cN (g7 st) (bX st) (aG st) .none kV doc pm an eO ct/\K.lookup f=O (oc,od,.func fd,sd)/\codeIn K eO cN=J
 kp:keepIn K (.ref f)=J
def BM.ok{K:Æ}{mg:c3}{base:È}{x l:Ä}{st:É}{f:À}{d:d4}{N ps:ϐ}{k:Ń}{sp:Sp}(F:BM K x l st f d)(S:c7 N ps (aG st))(len:∀vs H Q E,sp vs H Q E->Á vs=Á ps)(i:∀(e:Â)(A:cr)(o:Ł Ù)(s:be)(H:Hp)(vs:ϕ)(Q:VK)(E:XK),fJ k (A.deeper (envOfC l (aG st) s.heap.objs.size f e))->sp vs H Q E->∃t,iY (oQ BL P w K mg base N l (aG st) f e A o s H E).BR (bX st) t/\t {nx:=λ_ H'=>Q .jn H',rt:=Q} (start N vs) H):il P w K mg base BL (k+1) f d ps sp:=by let(oc,b,kV,doc,m,n,e,ct,c,rfl,lk,p):=F.ex;erw[AJ lk p S len λA o s H vs Q E r a=>?_];let(t,h,q):=i e A _ s H vs Q E r a;exact(t,h.BR,q)
def BM.binds{K:Æ}{st:É}(F:BM K x q st f d)(h:∀(kV doc p:Â)(a:Ő _)(e ct:Â)(us:Ł _),Á us=Á ps->bindArgs (fnOf x q (g7 st) (bX st) (aG st) .none kV doc p a e ct) (us,[])=pure (ps.zip us)):Binds K d ps []:=by let(oc,o,kV,doc,p,a,e,ct,s,rfl,lk,C):=F.ex;rwa[.all (h kV doc p a e ct)]
def Yk{K:Æ}{st:É}{kV:Â}(l:K.lookup f=O (oc,o,.func (fnOf x q (g7 st) (bX st) (aG st) .none kV doc p a e ct),s))(c:codeIn K e q)(k:keepIn K (.ref f)):BM K x q st f (fnOf x q (g7 st) (bX st) (aG st) .none kV doc p a e ct):=((oc,o,kV,doc,p,a,e,ct,s,Ŗ,l,c),k)
def ir(H H':Hp):ß:=∀b o,H b=O o->H' b=O o
def ir.refl(H:Hp):ir H H:=λ_ _ h=>h
section
variable(P:ci)(w:cc)
end
section
variable{κ:Type}[DecidableEq κ]
def ji(a:Ł (κ×V))(k:κ):Ő V:=(a.find? λK=>Đ (K.1=k)).map (·.2)
def jK(a:Ł (κ×V))(k:κ)(v:V):Ł (κ×V):=if(a.any λK=>Đ (K.1=k))=J then a.map λK=>if K.1=k then(K.1,v)else K else a++[(k,v)]
def lA{k:κ}(e:p.1=k):ji (p::r) k=O p.2:=by simp[ji,jk,e]
def lz{k:κ}(e:¬p.1=k):ji (p::r) k=ji r k:=by simp[ji,jk,e]
theorem BG(k:κ):∀a:Ł _,(a.any λK=>Đ (K.1=k))=(ji a k).isSome
 |[]=>Ŗ|p::r=>by
  rw[pE];by_cases e:p.1=k;.simp only[lA e,cJ e,Bool.true_or,Option.isSome_some]
  .rw[lz e,cq e];rwa[BG k r]
def j9(a:Ł _)(k:κ)(v:V):Á (jK a k v)<=Á a+1:=by
 delta jK;split;.simp
 .simp
def mq.kL(r:mq o u):o.isSome=u.isSome:=by induction o with
 |a=>induction u with|a=>rfl|c _=>exact(r).elim
 |c _=>induction u with|a=>exact(r).elim|c _=>rfl
theorem mq.getD(r:mq o u)(rd:RelV d d'):RelV (o.getD d) (u.getD d'):=by induction o with
 |a=>induction u with|a=>done|c _=>exact(r).elim
 |c _=>induction u with|a=>exact(r).elim|c _=>rwa[r]
def KV.val(r:KV a vs)(k:κ):mq (ji a k) (valueAt vs k):=by induction r with|f=>done|@g p q ps Q h t i=>
  let(H,c):=h;by_cases e:p.1=k
  .let E:=H.symm.trans e;let b:valueAt (q::Q) k=O q.2:=by simp[valueAt,jk,E]
   rw[lA e,b];rwa[c]
  .let E:¬q.1=k:=λz=>e (H.trans z);let b:valueAt (q::Q) k=valueAt Q k:=by simp[valueAt,jk,E]
   rw[lz e,b];rwa[i]
theorem KV.any(r:KV a vs)(k:κ):(a.any λK=>Đ (K.1=k))=vs.any λK=>Đ (K.1=k):=by induction r with|f=>rfl|g h t i=>left
def KV.n_(r:KV a vs)(k:κ){y:V}{u:Â}(R:RelV y u):KV (a.map λK=>if K.1=k then(K.1,y)else K) (vs.map λK=>if K.1=k then(K.1,u)else K):=by induction r with|f=>rwa[.nil]|@g p q ps Q h t i=>
  rw[cF,cF];erw[.cons ?_ i];let(H,b):=h;by_cases e:p.1=k;.rw[b9 e,b9 (H.symm.trans e)];exact(H,R)
  .rw[bS e,bS λz=>e (H.trans z)];exact(H,b)
def KV.put{a:Ł _}{vs:Ł _}(r:KV a vs)(k:κ){y:V}{u:Â}(R:RelV y u):KV (jK a k y) (stored vs k u):=by
 delta jK stored;rw[r.any k];by_cases e:(vs.any λK=>Đ (K.1=k))=J;.rw[b9 e,b9 e];rwa[r.n_ k R]
 .rw[bS e,bS e];rwa[Paired.snoc r (Ŗ,R)]
def KV.keys{a:Ł (κ×V)}{vs:Ł _}(r:KV a vs):a.map (·.1)=vs.map (·.1):=by induction r with|f=>rfl|g h t i=>left
theorem KV.length{a:Ł (κ×V)}{vs:Ł _}(r:KV a vs):Á a=Á vs:=zQ r
end
def rW(r:RelV (kV k) u):(dZ P w).is k u=true:=by induction k with|inl i=>let(t,e):=r;subst e;rwa[rZ P w i t]|inr x=>let(t,e):=r;subst e;rwa[r8 P w x t]
theorem xm:∀{K:Ł cp}{us:Ł _},Vals (K.map kV) us->ItemsAre (dZ P w) K us|[],_,r=>by cases r;rwa[.nil]|k::K,_,r=>by cases r with|g h t=>rwa[.cons (rW h) (xm t)]
abbrev KT(H:Hp):Ł (Ł cp×V)->Ł (Ł cp×À×Â)->ß:=Paired λp q=>p.1=q.1/\H q.2.1=O (.T (p.1.map kV))/\RelV p.2 q.2.2
def KT.val(r:KT H a xs)(k:Ł cp):mq (ji a k) ((atKey xs k).map (·.2)):=by induction r with|f=>done|@g p q ps Q h t i=>
  let(c,_,d):=h;by_cases e:p.1=k
  .let E:=c.symm.trans e;let b:atKey (q::Q) k=O q.2:=by simp[atKey,jk,E]
   rw[lA e,b];rwa[d]
  .let E:¬q.1=k:=λz=>e (c.trans z);let b:atKey (q::Q) k=atKey Q k:=by simp[atKey,jk,E]
   rw[lz e,b];rwa[i]
def KT.n_(r:KT H A xs)(k:Ł cp)(R:RelV y u):KT H (A.map λK=>if K.1=k then(K.1,y)else K) (xs.map (putAt k u)):=by induction r with|f=>rwa[.nil]|@g p q ps Q h t i=>
  rw[cF];erw[.cons ?_ i];let(a,b,c):=h;delta putAt;by_cases e:p.1=k;.rw[b9 e,b9 (a.symm.trans e)];exact(a,b,R)
  .rw[bS e,bS λz=>e (a.trans z)];exact(a,b,c)
def KT.put(r:KT H a xs)(k:Ł cp)(h:H b=O (.T (k.map kV)))(R:RelV y u):KT H (jK a k y) (storedH xs k b u):=by
 let e:(a.any λK=>Đ (K.1=k))=(atKey xs k).isSome:=by rw[BG,(r.val k).kL,BX]
 delta jK storedH;rw[e];by_cases q:(atKey xs k).isSome=J;.rw[b9 q,b9 q];rwa[r.n_ k R]
 .rw[bS q,bS q];rwa[Paired.snoc r (Ŗ,h,R)]
def KT.keeps(r:KT H a xs)(h:∀b ys,H b=O (.T ys)->H' b=O (.T ys)):KT H' a xs:=Paired.acK r λ_ _ z=>(z.1,h _ _ z.2.1,z.2.2)
def Wl(ok:jX P w H h)(e:Rd H a u):fq P w H h a u:=e.ok ok
def rT(ok:jX P w H h)(e:Rd H a (.dK A)):Á A<=Ã/\(a==fb)=a5/\∃vs,KV A vs/\h.DictOf (dZ P w) a vs:=Wl ok e
def Vq(ok:jX P w H h)(e:H a=O (.dK A)):Á A<=Ã/\(a==fb)=a5/\∃vs,KV A vs/\h.DictOf (dZ P w) a vs:=rT ok (.inl e)
def nH(ok:jX P w H h)(e:H a=O (.T (k.map kV))):(tupleKind (dZ P w)).is h k a:=by let(_,B,r,o,b,c,n,d):=ok a _ e;exact(o,_,n,b,c,d,by simpa using xm r)
def uN(ok:jX P w H h)(e:Rd H a (.dT A)):Á A<=Ã/\(a==fb)=a5/\∃xs,KT H A xs/\h.DictOfH (tupleKind (dZ P w)) a xs:=by
 let(z,y,xs,r,o,E,c,d,f,g,i,j):=Wl ok e;erw[(z,y,xs,r,o,E,c,d,f,g,i,λx b=>?_,j)];let all:∀{l:Ł _}{m:Ł _},KT H l m->∀x∈m,(tupleKind (dZ P w)).is h x.1 x.2.1:=by intro l m q;induction q with|f=>simp|@g p q ps Q k t I=>
   intro x b;rcases aw.mp b with e|b;.rwa[nH ok nofun]
   .rwa[I x b]
 rwa[all r x b]
def Vt(ok:jX P w H h)(e:H a=O (.dT A)):Á A<=Ã/\(a==fb)=a5/\∃xs,KT H A xs/\h.DictOfH (tupleKind (dZ P w)) a xs:=uN ok (.inl e)
def qM(H:Hp)(a:À)(y:V)(r:Ő V):ß:=(∃U k,Rd H a (.dK U)/\y=kV k/\r=ji U k)\/∃U k b,Rd H a (.dT U)/\y=.A b/\H b=O (.T (k.map kV))/\r=ji U k
def Af(H:Hp)(a:À)(y v:V)(H':Hp):ß:=(∃U k,H a=O (.dK U)/\y=kV k/\Á U<Ã/\H'=dq H a (.dK (jK U k v)))\/∃U k b,H a=O (.dT U)/\y=.A b/\H b=O (.T (k.map kV))/\Á U<Ã/\H'=dq H a (.dT (jK U k v))
theorem Af.k{H:Hp}{a:À}{A:Ł _}{k:cp}{v:V}(e:H a=O (.dK A))(h:Á A<Ã):Af H a (kV k) v (dq H a (.dK (jK A k v))):=.inl (A,k,e,Ŗ,h,Ŗ)
def Af.t{k:Ł cp}(e:H a=O (.dT U))(E:H b=O (.T (k.map kV)))(h:Á U<Ã):Af H a (.A b) v (dq H a (.dT (jK U k v))):=.inr (U,k,b,e,Ŗ,E,h,Ŗ)
def Inv.big{σ:Ç}(I:Inv X bb σ H s):fb<s.heap.objs.size:=by rwa[Nat.lt_trans ∅ (I.mod.glob.keeps I.bk).lt]
def Hh{σ:Ç}{E:dC}{Q:dC}(hu:A.units+1<Ï)(I:Inv X bb σ H s)(g:qM H a y (O v))(R:RelV y u)(h:∀w' s',Inv X bb σ H s'->RelV v w'->Q w' s'):bn (b' X.prog X.w) A (getItem (.ref a) u) Q E s:=by
 rcases g with ⟨U,k,e,c,l⟩|⟨U,k,b,e,c,i,l⟩;.subst c;let(z,j,q,rel,d):=rT I.c4 e;let(w',f,B):=mq.some_of (by rw[l];rwa[rel.val k]);rwa[GU (rW R) d.mapOf f (h w' _ (I.tok _) B)]
 .subst c;cases R;let(z,j,x,rel,d):=uN I.c4 e;let(w',f,B):=mq.some_of (by rw[l];rwa[rel.val k]);let(p,m,n):=cE.mp f;erw[wpAny_getItem_heap (jt hu) (nH I.c4 i) d m ?_];rw[n];rwa[h w' _ (I.tok _) B]
def ų{σ:Ç}{E:dC}{Q:dC}(hu:A.units+1<Ï)(I:Inv X bb σ H s)(g:qM H a y o)(R:RelV y u)(h:∀s',Inv X bb σ H s'->Q (.bool o.isSome) s'):bn (b' X.prog X.w) A (compareOp .In u (.ref a)) Q E s:=by
 rcases g with ⟨U,k,e,c,l⟩|⟨U,k,b,e,c,f,l⟩;.subst c;let(z,d,i,rel,D):=rT I.c4 e;erw[wpAny_in_of (rW R) d D.mapOf ?_];rw[<-(rel.val k).kL,<-l];rwa[h _ (I.tok _)]
 .subst c;cases R;let(z,d,x,rel,D):=uN I.c4 e;erw[wpAny_in_heap (jt hu) (nH I.c4 f) d D ?_];let q:=(rel.val k).kL;rw[BX]at q;rw[<-q,<-l];rwa[h _ (I.tok _)]
def QC{σ:Ç}{E:dC}{Q:dC}(hu:A.units+1<Ï)(I:Inv X bb σ H s)(g:qM H a y o)(R:RelV y u)(h:∀s',Inv X bb σ H s'->Q (.bool !o.isSome) s'):bn (b' X.prog X.w) A (compareOp .NotIn u (.ref a)) Q E s:=by
 rcases g with ⟨U,k,e,c,l⟩|⟨U,k,b,e,c,f,l⟩;.subst c;let(z,d,i,rel,D):=rT I.c4 e;erw[wpAny_notIn_of (rW R) d D.mapOf ?_];rw[<-(rel.val k).kL,<-l];rwa[h _ (I.tok _)]
 .subst c;cases R;let(z,d,x,rel,D):=uN I.c4 e;erw[wpAny_notIn_heap (jt hu) (nH I.c4 f) d D ?_];let q:=(rel.val k).kL;rw[BX]at q;rw[<-q,<-l];rwa[h _ (I.tok _)]
def yw{σ:Ç}(I:Inv X bb σ H s)(m:ml (H a))(hs:Û a s.heap h')(h:∃q,h'.get? a=O q)(new:fq X.prog X.w (dq H a c) h' a c):Inv X bb σ (dq H a c) {s with heap:=h',toks:=t'}:=I.write m (.inl Ŗ) (λb q d z=>(hs.2 b d).trans z) h new
def CH(z:Á U<=Ã)(h:(a==fb)=a5)(R:KV U vs)(dd:h'.DictOf (dZ P w) a vs):fq P w H' h' a (.dK U):=(z,h,vs,R,dd)
def Hl{σ:Ç}{E:dC}(hu:A.units+1<Ï)(I:Inv X bb σ H s)(g:Af H a y v H')(R:RelV y u)(n:RelV v r)(h:∀s',Inv X bb σ H' s'->Q ⟨⟩ s'):bn (b' X.prog X.w) A (setItem (.ref a) u r) Q E s:=by
 rcases g with ⟨U,k,e,f,l,i⟩|⟨U,k,b,e,f,p,l,i⟩
 .subst f i;let(z,j,B,rel,D):=Vq I.c4 e;let C:Á B<=Ã:=by rw[<-rel.length];rwa[z]
  rwa[wpAny_setItem_pairs (rW R) D λF x m=>h _ (yw I (by rw[e];rwa[ï]) m (let (q,_,_,d,_):=x;(q,d)) (CH (by let:=j9 U k v;omega) j (rel.put k n) x))]
 .subst f i;cases R;let(z,j,G,rel,D):=Vt I.c4 e;let C:Á G<=Ã:=by rw[<-zQ rel];rwa[z]
  erw[wpAny_setItem_heap (jt hu) (nH I.c4 p) D λF x m=>h _ ?_];let(q,K,L,d,M,N,P,_,S):=x;erw[yw I (by rw[e];rwa[ï]) m (q,d) (by let:=j9 U k v;omega,j,_,(rel.put k p n).keeps λc Y t=>?_,q,K,L,d,M,N,P,S)];rw[bw (acO t e λz=>nomatch z)];rwa[t]
def ĩ{σ:Ç}{E:dC}{Q:dC}(I:Inv X bb σ H s)(e:Rd H a (.dK aU))(h:∀t s',Inv X bb σ H s'->Q (.int (Á aU) t) s'):bn (b' X.prog X.w) A (call (.builtin "len") [.ref a]) Q E s:=by let(z,d,v,rel,D):=rT I.c4 e;erw[call_len_dict d D (by rw[<-rel.length];rw[jC]at z;omega) ?_];rw[<-rel.length];rwa[h _ _ (I.tok _)]
def WX(i:Å):ß:=∀o I,subscripted i a5 o I=operate [o,I] (getItem o I)
def Uo{E:dC}{id:String}{Q:dC}(l:typeLookup (.type T) "__getitem__"=pure (O (.builtin id)))(hs:WX S)(h:bn (b' prog w) A (Ê v env) (λo b=>bn (b' prog w) A (Ê S env) (λi a=>a.TypeIs o T/\bn (b' prog w) A (getItem o i) Q E a) E b) E s):bn (b' prog w) A (Ê (.Subscript v S pos) env) Q E s:=by erw[Subscript_ (cZ h (λo b c=>cZ c (λi a H=>?_) λ_ _ x=>x) λ_ _ x=>x)];let(f,H):=H;erw[aa ?_];erw[aa (Jv f l ?_)];first|rwa[ai (aa (by rw[hs o i];rwa[wpAny_operating (cZ H (λr e d=>aa (wpAny_letTemporaryGo (ai d))) λ_ _ x=>x)]))]|rfl|rfl
def AG{p:Ł _}{σ:Ç}(I:Inv X p σ H s)(g:qM H a y o):s.TypeIs (.ref a) "dict":=by
 rcases g with ⟨A,k,e,_,_⟩|⟨A,k,b,e,_,_,_⟩;.let(_,_,v,_,d):=rT I.c4 e;rwa[d.typeIs]
 .let(_,_,x,_,d):=uN I.c4 e;rwa[d.typeIs]
def ad8(t T:TE):TE:=λσ H Q=>t σ H λx b=>T σ b λy h=>∃a v,x=.A a/\qM h a y (O v)/\Q v h
def Ľ(t T:TE):TE:=λσ H Q=>t σ H λy b=>T σ b λx h=>∃a o,x=.A a/\qM h a y o/\Q (.B o.isSome) h
def Up(t T:TE):TE:=λσ H Q=>t σ H λy b=>T σ b λx h=>∃a o,x=.A a/\qM h a y o/\Q (.B !o.isSome) h
def NT(t T b:TE):TS:=λD σ H=>b σ H λv c=>t σ c λx d=>T σ d λy e=>∃a h,x=.A a/\Af e a y v h/\D.nx σ h
def SA{X:Cx}{o i:Å}{pos:Õ}{td ty:TE}(hu:X.A.units+1<Ï)(c:PE X o td)(hi:PE X i ty)(hs:autoParam (WX i) ġ):PE X (.Subscript o i pos) (ad8 td ty):=by intro p s σ H Q I h;erw[Uo oO.lookup hs (kr (c _ s σ H _ I h) λu s1 x d f r q=>kr (hi _ s1 σ d _ f q) λm s2 y j b R a=>?_)];let(a,v,ex,g,k):=a;subst ex;obtain rfl:u=Ò a:=r;exact(AG b g,Hh hu b g R λw S l B=>(v,j,l,B,k))
def DQ(hu:X.A.units+1<Ï)(hi:PE X i ty)(b:PE X o td):PC X .In i o (Ľ ty td):=by intro p s σ H Q I h;erw[kr (hi _ s σ H _ I h) λv s1 y c d r q=>kr (b _ s1 σ c _ d q) λu s2 x f j R a=>?_];let(a,m,ex,g,k):=a;subst ex;obtain rfl:u=Ò a:=R;rwa[ų hu j g r λS l=>(.B _,f,l,Ŗ,k)]
def HU(hu:X.A.units+1<Ï)(hi:PE X i ty)(b:PE X o td):PC X .NotIn i o (Up ty td):=by intro p s σ H Q I h;erw[kr (hi _ s σ H _ I h) λv s1 y c d r q=>kr (b _ s1 σ c _ d q) λu s2 x f j R a=>?_];let(a,m,ex,g,k):=a;subst ex;obtain rfl:u=Ò a:=R;rwa[QC hu j g r λS l=>(.B _,f,l,Ŗ,k)]
def Gi(hu:X.A.units+1<Ï)(b:PE X o td)(hi:PE X i ty)(c:PE X el tv)(hs:g6 el (O (.Subscript o i pos')) pos.line X.env=pure a5):PS X (.Assign [.Subscript o i pos'] el pos) (NT td ty tv):=by intro p s σ H D I h;erw[wpAny_Assign_Subscript (kr (c _ s σ H _ I h) λr s1 v d f R q=>kr (b _ s1 σ d _ f q) λu s2 x j k l Q=>kr (hi _ s2 σ j _ k Q) λB S y C m n a=>?_) hs];let(a,t,ex,g,w):=a;subst ex;obtain rfl:u=Ò a:=l;rwa[Hl hu m g n R λE z=>(σ,t,z,w)]
def KI(h:È)(b:fb<h.objs.size):fq P w H (h.push {cls:=.type "dict",data:=.dict #[]}) h.objs.size (.dK []):=(aP _,c8.mpr (cY (aR b)),[],.nil,Heap.DictOf.new h)
def KR(h:È)(b:fb<h.objs.size):fq P w H (h.push {cls:=.type "dict",data:=.dict #[]}) h.objs.size (.dT []):=(aP _,c8.mpr (cY (aR b)),[],.nil,_,#[],0,ax _ Ŗ,(Ŗ,Ŗ,Ŗ),Ŗ,Ŗ,hU)
def M_:TE:=λ_ H Q=>∀p,H p=ao->Q (.A p) (dq H p (.dK []))
def N_:TE:=λ_ H Q=>∀p,H p=ao->Q (.A p) (dq H p (.dT []))
def vq:PE X (.Dict [] [] pos) M_:=λp s σ H Q I h=>wpAny_Dict_empty (.A _,_,I.laid (λ_ _ q=>af _ q) (ah _) (KI _ I.big),Ŗ,h _ (I.c4.fresh (ah _)))
def MO:PE X (.Dict [] [] pos) N_:=λp s σ H Q I h=>wpAny_Dict_empty (.A _,_,I.laid (λ_ _ q=>af _ q) (ah _) (KR _ I.big),Ŗ,h _ (I.c4.fresh (ah _)))
def jJ(A more:Ł (cp×V)):Ł (cp×V):=more.foldl (λa k=>jK a k.1 k.2) A
def KV.merge:∀{m:Ł _}{rs:Ł _}{a:Ł _}{vs:Ł _},KV m rs->KV a vs->KV (jJ a m) (merged vs rs):=by intro m rs a vs r;induction r generalizing a vs with|f=>intro q;rwa[q]|@g p q ps Q h t i=>
  intro R;let e:KV (jK a p.1 p.2) (stored vs q.1 q.2):=by let:=R.put p.1 h.2;rw[<-h.1];rwa[this]
  rwa[i e]
theorem oJ:∀(m a:Ł _),Á (jJ a m)<=Á a+Á m|[],a=>by show(Á a)<=Á a+0;omega|p::r,a=>by let h1:=oJ r (jK a p.1 p.2);let h2:=j9 a p.1 p.2;show(Á (jJ (jK a p.1 p.2) r))<=_;rw[aO];omega
structure M2(X:Cx)(o:Å)(m:Ä)(cs:Õ)(e f:Å)(dE:Õ):ß where
 base:ge o m X.env (Ê o X.env)=Ê o X.env
 few:((eP dE (dN [e,f] X.env)).all (λx=>!x.1)&&(backToKw dE (hG [] X.env)).all (λx=>x.1.isSome)&&Đ (Á ([e,f]:Ł Å)+Á ([]:Ł g5)+(if([]:Ł g5).isEmpty then 0 else 1)<30))=J
 line:(cs.endLine==dE.line)=J
 trees:eP dE (dN [e,f] X.env)=[(a5,Ê e X.env),(a5,Ê f X.env)]
def eG(H:Hp)(a:À):ß:=(∃A,Rd H a (.dK A))\/∃A,Rd H a (.dT A)
def LC{p:Ł _}{σ:Ç}(I:Inv X p σ H s)(d:eG H a):s.TypeIs (.ref a) "dict"/\(∀b,Ò a=.ref b->∃o,s.heap.get? b=O o/\o.dict=ao)/\(a==fb)=false:=by
 rcases d with ⟨A,e⟩|⟨A,e⟩;.let(_,h,v,_,D):=rT I.c4 e;erw[(D.typeIs,λb q=>?_,h)];cases q;let(o,_,_,c,f,_):=D;exact(o,c,f.2.1)
 .let(_,h,x,_,D):=uN I.c4 e;erw[(D.typeIs,λb q=>?_,h)];cases q;let(o,_,_,c,f,_):=D;exact(o,c,f.2.1)
def XE{σ:Ç}{E:dC}{Q:dC}(hu:A.units+1<Ï)(I:Inv X bb σ H s)(g:qM H a y o)(R:RelV y u)(rd:RelV d r)(h:∀w' s',Inv X bb σ H s'->RelV (o.getD d) w'->Q w' s'):bn (b' X.prog X.w) A (call (.builtin "dict.get") [.ref a,u,r]) Q E s:=by
 rcases g with ⟨U,k,e,c,l⟩|⟨U,k,b,e,c,i,l⟩;.subst c;let(z,f,v,rel,D):=rT I.c4 e;erw[BZ gS D.typeIs sj (qI _ _ _) (UV _ a (rW R) f r) (_,D.mapOf,h _ _ (I.tok _) ?_)];rw[l];exact(rel.val k).getD rd
 .subst c;cases R;let(z,f,x,rel,D):=uN I.c4 e;erw[BZ gS D.typeIs sj (qI _ _ _) (meetsH_dict_get_default _ a b f r) (jt hu,k,x,nH I.c4 i,D,h _ _ (I.tok _) ?_)];rw[l];exact(rel.val k).getD rd
def Of(t T c:TE):TE:=λσ H Q=>t σ H λx h=>∃a,x=.A a/\eG h a/\T σ h λy d=>c σ d λz b=>∃o,qM b a y o/\Q (o.getD z) b
def MN(hu:X.A.units+1<Ï)(b:PE X o td)(c:PE X e ty)(j:PE X f tx)(m:M2 X o "get" cs e f dE):PE X (.Call (.Attribute o "get" cs) [e,f] [] dE) (Of td ty tx):=by intro p s σ H Q I h;erw[wpAny_Call_method m.base m.few m.line qK gS Tl (kr (b _ s σ H _ I h) λu s1 x k i r a=>?_)];let(a,ex,d,q):=a;subst ex;obtain rfl:u=Ò a:=r;let(t,T,_):=LC i d;erw[(t,T,?_)];rw[m.trees];rwa[jN Ŗ (fC (dJ (kr (c _ s1 σ k _ i q) λG s2 y l n R v=>dJ (kr (j _ s2 σ l _ n v) λK S z w B C Z=>Z.elim λL Z=>Z.elim λg D=>gT (XE hu B g R C λW M E F=>(_,w,E,F,D))))))]
end L2
namespace Att
open PySem.W PySem.Calls
end Att
namespace L2
def Pz(h:È)(a:À)(b:Array Â):ß:=∃(o:Ø)(n:Ń),h.get? a=O o/\o.cls=.type "tuple"/\o.dict=ao/\o.data=.seq b n
def sE(a:À)(bs:Ł À):HO:=.ext λh=>Pz h a (bs.map Ò).toArray
def pP(cells:Ł (Ä×À))(names:Ł (Ä×NameKind))(acc:Ł (Ä×À)):Ł (Ä×À):=match names with|[]=>acc|(n,k)::r=>pP cells r (if k==.free then(n,(cells.lookup n).getD 0)::acc else acc)
theorem pQ:∀{names:Ł _}{acc:Ł _},(∀y∈names,y.2=.free->∃c,cells.lookup y.1=O c)->(∀x c,acc.lookup x=O c->cells.lookup x=O c)->∀x c,(pP cells names acc).lookup x=O c->cells.lookup x=O c
 |[],acc,_,h,x,c,e=>h x c e|(n,k)::r,acc,H,h,x,c,e=>by
  erw[pQ (λy a=>H y (aE _ a)) ?_ x c e];intro X C E;by_cases b:k=.free;.subst b;let(d,f):=H _ aF Ŗ;induction g:X==n with|d=>grind|e=>grind
  .grind
theorem uC:∀{names:Ł _}{acc:Ł _}{x:Ä},(∃c,acc.lookup x=O c)\/(x,ä)∈names->∃c,(pP cells names acc).lookup x=O c
 |[],acc,x,h=>by
  rcases h with h|h;.rwa[h]
  .grind|(n,k)::r,acc,x,h=>by
  delta pP;erw[uC ?_];by_cases H:k=.free;.subst H;simp only[ku,pk,ig];induction a:x==n with|d=>lia|e=>grind
  .grind
theorem oA:∀{names:Ł _}{acc:Ł _},(∀y∈names,y.2=.free->∃c,env.cells.lookup y.1=O c)->(forIn names acc λ(x:Ä×NameKind)r=>if x.2==.free then(do let a<-cellOf env x.1;pure (ñ ((x.1,a)::r)))else pure (ñ r))=pure (pP env.cells names acc)
 |[],acc,_=>Ŗ|(n,k)::r,acc,h=>by
  rw[jl];let i:=λW=>oA (acc:=W) λy H=>h y (aE _ H);by_cases b:k=.free;.subst b;let(c,d):=h _ aF Ŗ;simp only[ku,pk,cellOf,d,pure_bind,pP,Option.getD_some];rwa[i _]
  .let e:(k==ä)=false:=()
   simp only[e,fi,jS,pure_bind,pP];rwa[i _]
def Cp(h:∀y∈s.names,y.2=.free->∃c,env.cells.lookup y.1=O c):closureFor s env=pure (pP env.cells s.names []):=by exact(bL (λm:Sem _=>m>>=λC=>pure C) (oA (acc:=[]) h)).trans Ŗ
def gZ(X:Cx)(n:ϐ)(s:Í)(f:Ł À)(s₀:be)(H₀:Hp):Cx:={X with N:=n,s₀:=s₀,H₀:=H₀,env:=compEnvC s (pP X.env.cells s.names []) s₀.heap.objs.size X.env,outer:=X.stack,ex:=f,fn:=λ_=>a5,pn:=[],xe:=λ_ _=>ŧ}
structure eM(X:Cx)(N':ϐ)(scope:Í):ß where
 kind:scope.kind=.function
 nd:N'.Nodup
 Mu:∀y∈scope.names,y.2≠.cell
 loc:∀y∈scope.names,y.2=.local->scope.names.lookup y.1=O .local
 fre:∀y∈scope.names,y.2=.free->X.env.kindOf y.1=O .cell
 own:∀x,(x,ä)∈scope.names->(relabel scope X.env).names.lookup x≠O .local
def zB(H:∀y∈s.names,y.2≠.cell)(h:(relabel s env).names.lookup x=O .cell\/(relabel s env).names.lookup x=O .free):(x,ä)∈s.names:=by
 let key:∀(l:Ł (Ä×NameKind)),(∀y∈l,y.2≠.cell)->∀k,k=.cell\/k=.free->(l.map λ(n,k)=>if k==ä&&env.scope.kind==.function&&env.kindOf n==O .cell then(n,NameKind.cell)else(n,k)).lookup x=O k->(x,ä)∈l:=by intro l;induction l with|f=>intro _ k _ e;cases e|g y r i=>
   let(n,K):=y;intro H k c e;let hr:=λy d=>H y (aE _ d);let f:=H _ aF;rw[cF]at e;by_cases q:(K==ä&&env.scope.kind==.function&&env.kindOf n==O .cell)=J
   .simp only[q,pk,ig]at e;let hf:=by let:=(aM _ _▸(aM _ _▸q).1).1;simpa using this
    cases a:x==n with|d=>left|e=>rw[a]at e;rwa[aE _ (i hr k c e)]
   .let b:(K==ä&&env.scope.kind==.function&&env.kindOf n==O .cell)=false:=by simpa using q
    simp only[b,fi,jS]at e;rw[ig]at e;cases a:x==n with|d=>left|e=>rwa[aE _ (i hr k c (by rw[a]at e;rwa[e]))]
 rcases h with h|h;.rwa[key _ H _ (.inl Ŗ) h]
 .rwa[key _ H _ (.inr Ŗ) h]
def kh(X:Cx)(N':ϐ)(scope:Í)(σ σ':Ç):ß:=Á σ'=Á N'/\∀(i:Ń)(x:Ä)(v:V),N'[i]?=O x->σ'[i]?=O (O v)->(x,ä)∈scope.names/\∃(j:Ń),X.N[j]?=O x/\σ[j]?=O (O v)
def Qi{σ:Ç}{fp:Ł À}(S:eM X N' scope)(I:Inv X bb σ H s)(f:∀b∈fp,lG X bb H b)(m:∀b∈fp,b<s.heap.objs.size):(gZ X N' scope fp s H).Ok:=by
 let sub:=pQ (acc:=[]) (λy g k=>I.ok.has y.1 (.inl (S.fre y g k))) (λx c e=>by cases e);erw[(I.ok.mod,S.kind,I.ok.glob,I.ok.blt,ah _,λx y c E i=>I.ok.inj x y c (sub x c E) (sub y c i),λx j=>uC (.inr (zB S.Mu j)),λx c p=>?_,I.ok.hd,I.ok.frames,.inl Ŗ,λb h=>?_,I.bs,aq I.ok.Aq I.sz,λb o e h=>?_,λb h l=>?_,I.stack,I.qp)];.done
 .let(_,L,_,_,n,_):=f b h;exact(λe=>Ă (m b h) (by rw[e];rwa[cM _]),λx c e=>n x c (sub x c e))
 .let(_,_,_,a,_):=f b h;rcases a with a|a;.rwa[I.ok.sT b o e a]
  .rwa[Ă (bp (ay e) (aq I.ok.Aq a)) (cM _)]
 .let(_,L,d,_):=f b h;rcases aw.mp (I.zL b l)with z|z;.rwa[L z]
  .rwa[d z]
def Kj{σ:Ç}{fp:Ł À}(S:eM X N' scope)(I:Inv X bb σ H s)(t:∀b∈fp,lG X bb H b)(M:∀b∈fp,b<s.heap.objs.size)(n:kh X N' scope σ σ')(hn:d.Ns s.heap.objs.size λ_=>ao)(h:∀b o,s.heap.get? b=O o->d.get? b=O o):Inv (gZ X N' scope fp s H) [] σ' H {s with heap:=d,toks:=T}:=by
 let sub:=pQ (acc:=[]) (λy w h=>I.ok.has y.1 (.inl (S.fre y w h))) (λx c e=>by cases e);erw[(Qi S I t M,Ŗ,I.bare,Un.kept h,(_,hn,λi x v A B C=>?_),λx c e=>?_,I.fresh,λx c e=>I.gz x c (sub x c e),λp D=>Ă (show p∈[]from D) ⋯,I.c4.kept h,n.1)]
 .let(f,j,F,G):=n.2 i x v A B;let(m,_,K):=I.loc;let g:=S.fre _ f Ŗ;let(u,r,l):=K j x v F G (.inr (.inl g));erw[(u,r,.inr ?_)];rcases l with ⟨k,_⟩|⟨_,c,L,z⟩;.left
  .let(N,E):=uC (.inr f);let a:=sub x N E;rw[L]at a;cases a;erw[(?_,c,E,z.keeps h)];rcases C with q|q|q;.exfalso;rwa[S.own x f q]
   .rwa[.inl q]
   .rwa[.inr q]
 .let(v,z):=I.cell x c (sub x c e);exact(v,z.keeps h)
def pJ(X:Cx)(i:Ł Å)(t:TT):ß:=∀(p:Ł _)(s:be)(σ:Ç)(H:Hp)(Q:Þ->Hp->ß),Inv X p σ H s->t σ H Q->bn (b' X.prog X.w) X.A (forIn i J λc r=>if r=J then(do let ok<-isTrue c X.env (Ê c X.env);pure (ñ ok))else pure (ñ r)) (TP X p σ Q) X.xe s
def Nj:pJ X [] λ_ H Q=>Q J H:=by intro p s σ H Q I h;rwa[ai (H,I,h)]
def Nk(h:PT X c t):pJ X [c] t:=by intro p s σ H Q I a;rw[jl];rwa[aa (aa (iL (h _ s σ H Q I a) λb s1 q=>ai (ai q)))]
def sf(wi:TI)(g:TG)(t:TT)(T:TE)(e:Ç->Ç):TE:=λσ H Q=>wi σ H λj f=>∀a,f a=ao->∃W:Ń->Ń->Ç->ϕ->Hp->ß,(∃m,W 0 m (e σ) [] (dq f a (.L [])))/\∀i m d Y h,W i m d Y h->h a=O (.L Y)/\(j.stop i h/\Q (.A a) h\/j.go i h/\Á Y<Ã/\∀x k,j.δ i h x k->g x d k λc o=>t c o λb l=>if b=J then T c l λy n=>n a=O (.L Y)/\∃M,M<m/\W (i+1) M c (Y++[y]) (dq n a (.L (Y++[y])))else ∃M,M<m/\W (i+1) M c Y l)
def tS(ok:jX P w H h)(a:H C=ao)(hs:Û C h h'):jX P w H h':=λb o e=>(ok b o e).sW (λc u d q=>(hs.2 c ()).trans q) (λ_ q=>q) λ_ _ q=>q
section
variable{P:ci}{w:cc}{A:cr}{E:dC}{s:be}
def uM{Q:dC}(hd:s.heap.IsTupleIter d t k)(c:s.heap.IsTuple t b)(hu:b[k]?=O u)(e:∀h,h.IsTupleIter d t (k+1)->Û d s.heap h->Q u {s with heap:=h}):bn (b' P w) A (q0' (.ref d)) Q E s:=by let(o,F,H,R):=id hd;let(f,a,_,n,Y):=c;erw[aa (bV hd.typeIs dR (bW dR hd.typeIs mK ?_ (md _)))];show bn _ _ (field _ 0>>=_) _ _ s;erw[aa (bY F R (x:=.ref t) Ŗ ?_)];erw[aa (bY F R (x:=.int k 0) Ŗ ?_)];erw[aa (dX a Y ?_)];simp only[fD,hu];erw[aa (cK F R ⋯ (ai (u,Ŗ,ai (e _ (_,bE _ F (cX (bN R _)),(jQ ..).trans H,?_) (cj ..)))))];rw[bN R];simp[ed]
def pU{Q:dC}(c:A.handled=ao)(hd:s.heap.IsTupleIter d t k)(f:s.heap.IsTuple t b)(hu:b[k]?=ao)(g:∀h e,è d s.heap h->(∃o,h.get? e=O o/\o.cls=.type "StopIteration")->E (.ref e) {s with heap:=h}):bn (b' P w) A (q0' (.ref d)) Q E s:=by
 let(j,F,i,R):=id hd;let(l,H,_,n,Y):=f;erw[aa (bV hd.typeIs dR (bW dR hd.typeIs mK ?_ (md _)))];show bn _ _ (field _ 0>>=_) _ _ s;erw[aa (bY F R (x:=.ref t) Ŗ ?_)];erw[aa (bY F R (x:=.int k 0) Ŗ ?_)];erw[aa (dX H Y ?_)];simp only[fD,hu];erw[aa (jv (aa (cK F R ⋯ ?_)))];erw[aa ?_];erw[aa (bU ?_ (by size_fits))];erw[aa (pq (a:=Ó) Ŗ ?_)];erw[bU ?_ (by size_fits)];erw[aa (pG ?_)];first|rw[c]|rfl
 rwa[aa (ai (pA (g _ _ (((cj ..).extBut.push _).push _) (_,ax _ Ŗ,Ŗ))))]
structure OT(z a b c d:À):ß where
 az:a≠z
 bz:b≠z
 cz:c≠z
 dz:d≠z
 ab:a≠b
 ac:a≠c
 ad:a≠d
 bc:b≠c
 bd:b≠d
 cd:c≠d
structure BN(e:È->À->À->Ń->ß)(h:È)(z a b c d t1 t2:À)(k:Ń)(f0:Â):ß where
 zip:IsZip h z a b f0
 bT:IsPair h a (.ref c) (.ref d)own:∃x y,IsPair h b x y
 i1:e h c t1 k
 i2:e h d t2 k
def OO{Q:dC}(D:OT z a b c d)(Z:BN ì s.heap z a b c d t T k .none)(o1:t≠z/\t≠b/\t≠c/\t≠d)(B:T≠z/\T≠b/\T≠c/\T≠d)(FA:s.heap.IsTuple t xs)(HD:s.heap.IsTuple T ys)(hx:xs[k]?=O x)(hy:ys[k]?=O y)(hQ:∀H,BN ì H z a b c d t T (k+1) (ed s.heap.objs.size)->IsPair H s.heap.objs.size x y->(∀e o,e≠z->e≠b->e≠c->e≠d->s.heap.get? e=O o->H.get? e=O o)->Q (.ref s.heap.objs.size) {s with heap:=H}):bn (b' P w) A (Builtin.«zip.__next__» ([.ref z],[])) (λF s'=>∃v,F=.done (.ret v)/\Q v s') E s:=by
 obtain⟨h,R,⟨p,q,zo⟩,z1,z2⟩:=Z;show bn _ _ (field (.ref z) 2>>=_) _ _ _;erw[aa (bY h Ŗ (x:=.bool a5) Ŗ ?_)];show bn _ _ (field (.ref z) 3>>=_) _ _ _;erw[aa (bY h Ŗ (x:=.ref a) Ŗ ?_)];erw[aa (dX R Ŗ ?_)];show bn _ _ (q2' (.ref z)>>=_) _ _ _;erw[aa ?_];delta q2';erw[aa (bY h Ŗ (x:=.none) Ŗ (ai ?_))];simp only[pk];erw[aa (jv ?_)];erw[aa (bY h Ŗ (x:=.ref b) Ŗ ?_)];erw[aa (gv h ⋯ λk1 C s1=>?_)];replace C:IsZip k1 z a b .ellipsis:=C;erw[aa ?_];simp only[List.zipIdx_cons,List.zipIdx_nil,jl,List.forIn_nil];erw[aa (aa (zS ?_))];show bn _ _ (q0' (.ref c)>>=_) _ _ _;erw[aa (uM (z1.extBut s1.extBut D.cz) (FA.extBut s1.extBut o1.1) hx λk2 y2 s2=>ai ?_)];let W:IsPair k2 b p q:=s2.extBut _ _ D.bc (s1.extBut _ _ D.bz zo);erw[aa (dX W Ŗ ?_)];erw[aa (vX W λk3 G S=>?_)];replace G:IsPair k3 b x q:=G;erw[aa (wp (ai ?_))];erw[aa (aa (zS ?_))];show bn _ _ (q0' (.ref d)>>=_) _ _ _;erw[aa (uM (((z2.extBut s1.extBut D.dz).extBut s2.extBut D.cd.symm).extBut S.extBut D.bd.symm) (((HD.extBut s1.extBut B.1).extBut s2.extBut B.2.2.1).extBut S.extBut B.2.1) hy λk4 y4 i=>ai ?_)];let U:IsPair k4 b x q:=i.extBut _ _ D.bd G;erw[aa (dX U Ŗ ?_)];erw[aa (vX U λK Y j=>?_)];replace Y:IsPair K b x y:=Y;erw[aa (wp (ai (ai ?_)))];erw[aa (dX Y Ŗ ?_)];erw[aa (Pk ?_)];let sz:K.objs.size=s.heap.objs.size:=by rw[j.1,i.1,S.1,s2.1,s1.1]
 let l:=j.extBut _ _ D.bz.symm (i.extBut _ _ D.dz.symm (S.extBut _ _ D.bz.symm (s2.extBut _ _ D.cz.symm C)));let u:∀e o,e≠z->e≠b->e≠c->e≠d->s.heap.get? e=O o->K.get? e=O o:=λe o f n I L g=>j.extBut _ _ n (i.extBut _ _ L (S.extBut _ _ n (s2.extBut _ _ I (s1.extBut _ _ f g))));let m:=ay l;show bn _ _ (q1' _ (.ref K.objs.size)>>=_) _ _ _;erw[aa ?_];erw[aa (gv (af _ l) ⋯ λk7 M X=>?_)];replace M:IsZip k7 z a b _:=M;erw[gv M ⋯ λN r s8=>?_];replace r:IsZip N z a b _:=r;let up:∀e o,e≠z->K.get? e=O o->N.get? e=O o:=λe o f g=>s8.extBut _ _ f (X.extBut _ _ f (af _ g));let t8:=s8.extBut _ _ (eR m) (X.extBut _ _ (eR m) (ax _ Ŗ));rw[sz]at r t8;erw[ai (_,Ŗ,?_)];rw[sz];rwa[hQ N (r,up _ _ D.az (u _ _ D.az D.ab D.ac D.ad R),(x,y,up _ _ D.bz Y),(((y2.extBut S.extBut D.bc.symm).extBut i.extBut D.cd).extBut j.extBut D.bc.symm).at λo g=>up _ o D.cz g,(y4.extBut j.extBut D.bd.symm).at λo g=>up _ o D.dz g) t8 λe o f n I L g=>up e o f (u e o f n I L g)]
def U4(C:A.handled=ao)(D:OT z a b c d)(Z:BN ì s.heap z a b c d t T k .none)(o1:t≠z/\t≠b/\t≠c/\t≠d)(l:T≠z/\T≠b/\T≠c/\T≠d)(G:s.heap.IsTuple t xs)(U:s.heap.IsTuple T ys)(X:xs[k]?=ao\/ys[k]?=ao)(I:∀m e,(∀f o,f≠z->f≠b->f≠c->f≠d->s.heap.get? f=O o->m.get? f=O o)->(∃o,m.get? e=O o/\o.cls=.type "StopIteration")->E (.ref e) {s with heap:=m}):bn (b' P w) A (Builtin.«zip.__next__» ([.ref z],[])) Q E s:=by obtain⟨j,Y,⟨p,q,zo⟩,K,z2⟩:=Z;show bn _ _ (field (.ref z) 2>>=_) _ _ _;erw[aa (bY j Ŗ (x:=.bool a5) Ŗ ?_)];show bn _ _ (field (.ref z) 3>>=_) _ _ _;erw[aa (bY j Ŗ (x:=.ref a) Ŗ ?_)];erw[aa (dX Y Ŗ ?_)];show bn _ _ (q2' (.ref z)>>=_) _ _ _;erw[aa ?_];delta q2';erw[aa (bY j Ŗ (x:=.none) Ŗ (ai ?_))];simp only[pk];erw[aa (jv ?_)];erw[aa (bY j Ŗ (x:=.ref b) Ŗ ?_)];erw[aa (gv j ⋯ λk1 y s1=>?_)];replace y:IsZip k1 z a b .ellipsis:=y;erw[aa ?_];simp only[List.zipIdx_cons,List.zipIdx_nil,jl,List.forIn_nil];erw[aa (aa (zS ?_))];induction L:xs[k]? with
 |a=>erw[aa (pU C (K.extBut s1.extBut D.cz) (G.extBut s1.extBut o1.1) L λk2 e s2 n=>?_)];let(r,H,i):=n;let u:IsZip k2 z a b _:=s2 _ _ D.cz.symm y;rwa[gv u ⋯ λM _ S=>I M e (λf o F _ v _ g=>S.extBut _ _ F (s2 _ _ v (s1.extBut _ _ F g))) (r,S.extBut _ _ λg=>by lia H,i)]
 |c x=>erw[aa (uM (K.extBut s1.extBut D.cz) (G.extBut s1.extBut o1.1) L λk2 y2 s2=>ai ?_)];let W:=s2.extBut _ _ D.bc (s1.extBut _ _ D.bz zo);erw[aa (dX W Ŗ ?_)];erw[aa (vX W λM y3 S=>?_)];erw[aa (wp (ai ?_))];erw[aa (aa (zS ?_))];erw[aa (pU C (((z2.extBut s1.extBut D.dz).extBut s2.extBut D.cd.symm).extBut S.extBut D.bd.symm) (((U.extBut s1.extBut l.1).extBut s2.extBut l.2.2.1).extBut S.extBut l.2.1) (by
   rcases X with h|h;.lia
   .rwa[h]) λk4 e N n=>?_)];let(r,H,i):=n;let B:IsZip k4 z a b _:=N _ _ D.dz.symm (S.extBut _ _ D.bz.symm (s2.extBut _ _ D.cz.symm y));rwa[gv B ⋯ λk5 _ R=>I k5 e (λf o F f2 v f4 g=>R.extBut _ _ F (N _ _ f4 (S.extBut _ _ f2 (s2.extBut _ _ v (s1.extBut _ _ F g))))) (r,R.extBut _ _ λg=>by lia H,i)]
def OP(D:OT z a b c d)(Z:BN ì s.heap z a b c d t T k .none)(o1:t≠z/\t≠b/\t≠c/\t≠d)(f:T≠z/\T≠b/\T≠c/\T≠d)(g:s.heap.IsTuple t xs)(i:s.heap.IsTuple T ys)(j:xs[k]?=O x)(l:ys[k]?=O y)(m:∀h,BN ì h z a b c d t T (k+1) (ed s.heap.objs.size)->IsPair h s.heap.objs.size x y->(∀e o,e≠z->e≠b->e≠c->e≠d->s.heap.get? e=O o->h.get? e=O o)->Q (O (.ref s.heap.objs.size)) {s with heap:=h}):bn (b' P w) A (em (.ref z)) Q E s:=by let H:s.TypeIs (.ref z) _:=(_,Z.zip,Ŗ);rwa[aa (fP (bV H tu (bW tu H F.entry_zip_next (OO D Z o1 f g i j l λh q n p=>ai (m h q n p)) (F.args_zip_next_1 _))))]
def OQ(g:A.handled=ao)(D:OT z a b c d)(Z:BN ì s.heap z a b c d t T k .none)(o1:t≠z/\t≠b/\t≠c/\t≠d)(i:T≠z/\T≠b/\T≠c/\T≠d)(j:s.heap.IsTuple t xs)(l:s.heap.IsTuple T ys)(L:xs[k]?=ao\/ys[k]?=ao)(m:∀h,(∀f o,f≠z->f≠b->f≠c->f≠d->s.heap.get? f=O o->h.get? f=O o)->Q ao {s with heap:=h}):bn (b' P w) A (em (.ref z)) Q E s:=by let H:s.TypeIs (.ref z) _:=(_,Z.zip,Ŗ);erw[aa (fP (bV H tu (bW tu H F.entry_zip_next (U4 g D Z o1 i j l L λh e n p=>?_) (F.args_zip_next_1 _))))];let(o,q,r):=p;rwa[aa (ij (o,q,r) nV (ai (m _ n)))]
end
def U3(n:Ń):OT (n+4) (n+2) (n+3) n (n+1):=by let h:∀i j:Ń,i≠j->n+i≠n+j:=λi j h e=>h (Nat.add_left_cancel e);exact(h 2 4 ∅,h 3 4 ∅,h 0 4 ∅,h 1 4 ∅,h 2 3 ∅,h 2 0 ∅,h 2 1 ∅,h 3 0 ∅,h 3 1 ∅,h 0 1 ∅)
def ε(n:Ń)(e:À)(h:e ∈[n+4,n+2,n+3,n,n+1]):n<=e:=by
 simp only[aw,dQ,or_false]at h;rcases h with rfl|rfl|rfl|rfl|rfl;.rwa[aQ _ _]
 .rwa[aQ _ _]
 .rwa[aQ _ _]
 .rwa[ah _]
 .rwa[aQ _ _]
def wm(sq:Hp->À->ϕ->ß)(t a:À):It:=(λi H=>∃X Y x y,sq H t X/\sq H a Y/\X[i]?=O x/\Y[i]?=O y,λi H v h=>∃T,H T=ao/\v=.A T/\∀X Y x y,sq H t X->sq H a Y->X[i]?=O x->Y[i]?=O y->h=dq H T (.T [x,y]),λi H=>∃X Y,sq H t X/\sq H a Y/\(Á X<=i\/Á Y<=i))
def Iy{p:Ł _}{σ:Ç}(I:Inv X p σ H s)(h:gX X.K H t xs)(f:lG X p H b):t≠b:=by
 rintro rfl;let(a,c,d,F,g,i):=f;rcases h with(h|⟨o,h⟩)|⟨o,B,n,k,_⟩;.left
 .left
 .let e:=I.ok.mod.FR t o k;rcases F with q|q;.rwa[I.ok.sT t o e q]
  .rwa[Ă (bp (ay e) (aq I.ok.Aq q)) (cM _)]
section
variable{z a b c d e:À}
def xZ(h:e ∈[z,b,c,d]):e ∈[z,a,b,c,d]:=(aw.mp h).elim (λq=>q▸.head _) λh=>.tail _ (.tail _ h)
def nk:b ∈[z,a,b,c,d]:=.tail _ (.tail _ (.head _))
def kt:c ∈[z,a,b,c,d]:=.tail _ (.tail _ (.tail _ (.head _)))
def lq:d ∈[z,a,b,c,d]:=.tail _ (.tail _ (.tail _ (.tail _ (.head _))))
def C2{P:ß}(h:e ∉[z,b,c,d])(k:e≠z->e≠b->e≠c->e≠d->P):P:=k (λq=>h (q▸.head _)) (λq=>h (q▸.tail _ (.head _))) (λq=>h (q▸.tail _ (.tail _ (.head _)))) λq=>h (q▸.tail _ (.tail _ (.tail _ (.head _))))
def ů{P:À->ß}(h:e ∈[z,a,b,c,d])(hz:P z)(H:P a)(f:P b)(g:P c)(i:P d):P e:=(aw.mp h).elim (λq=>q▸hz) λh=>(aw.mp h).elim (λq=>q▸H) λh=>(aw.mp h).elim (λq=>q▸f) λh=>(aw.mp h).elim (λq=>q▸g) λh=>(aw.mp h).elim (λq=>q▸i) λh=>nomatch h
end
def BD{K:Æ}{C:È->À->Array Â->ß}(ob:∀{h c t k},j h c t k->∃o,h.get? c=O o/\∀v,o.data≠.cell v)(at':∀{h h' c t k},j h c t k->(∀o,h.get? c=O o->h'.get? c=O o)->j h' c t k)(of:∀{X F σ H s t xs},X.K=K->Inv X F σ H s->sq H t xs->∃bT:Ł _,Vals xs bT/\C s.heap t bT.toArray/\Á xs<=Ã)(inj:∀{X F σ H s t xs ys},X.K=K->Inv X F σ H s->sq H t xs->sq H t ys->xs=ys)(ap:∀{X F σ H s t b xs},X.K=K->Inv X F σ H s->sq H t xs->lG X F H b->t≠b)(nx:∀{A E s k xs ys x y}{Q:Ő _->be->ß},BN j s.heap z a b c d L M k .none->L≠z/\L≠b/\L≠c/\L≠d->M≠z/\M≠b/\M≠c/\M≠d->C s.heap L xs->C s.heap M ys->xs[k]?=O x->ys[k]?=O y->(∀hp,BN j hp z a b c d L M (k+1) (ed s.heap.objs.size)->IsPair hp s.heap.objs.size x y->(∀e o,e≠z->e≠b->e≠c->e≠d->s.heap.get? e=O o->hp.get? e=O o)->Q (O (.ref s.heap.objs.size)) {s with heap:=hp})->bn (b' P w) A (em (.ref z)) Q E s)(no:∀{A E s k xs ys}{Q:Ő _->be->ß},A.handled=ao->BN j s.heap z a b c d L M k .none->L≠z/\L≠b/\L≠c/\L≠d->M≠z/\M≠b/\M≠c/\M≠d->C s.heap L xs->C s.heap M ys->xs[k]?=ao\/ys[k]?=ao->(∀hp,(∀f o,f≠z->f≠b->f≠c->f≠d->s.heap.get? f=O o->hp.get? f=O o)->Q ao {s with heap:=hp})->bn (b' P w) A (em (.ref z)) Q E s)(D:OT z a b c d):uv P w K (.Tuple es k pos) (wm sq L M) [z,a,b,c,d] z λi h=>BN j h z a b c d L M i .none:=have obj:∀{h i e},BN j h z a b c d L M i .none->e ∈[z,a,b,c,d]->∃o,h.get? e=O o/\∀v,o.data≠.cell v:=λ{h i e}st l=>by obtain⟨zz,zi,⟨p,q,zo⟩,i1,i2⟩:=st;rwa[ů (P:=λe=>∃o,h.get? e=O o/\∀v,o.data≠.cell v) l (_,zz,λv g=>í g) (_,zi,λv g=>í g) (_,zo,λv g=>í g) (ob i1) (ob i2)]
 {mem:=.head _
  obj:=λi h st e l=>obj st l
  keep:=λi h h' st W=>by obtain⟨zz,zi,⟨p,q,zo⟩,z1,z2⟩:=st;exact(W z (.head _) _ zz,W a (.tail _ (.head _)) _ zi,(p,q,W b nk _ zo),at' z1 λo e=>W c kt o e,at' z2 λo e=>W d lq o e)
  item:=by
   intro X hP hw hK hc i F s σ H E I N st hg;subst hP hw hK;erw[cps λG k=>?_];let(xs,ys,x,y,R,U,hx,hy):=hg;let(RM,r1,p1,l1):=of Ŗ I R;let(yS,r2,p2,l2):=of Ŗ I U;let(u1,Rx,ru1):=r1.get hx;let(u2,hu2,ru2):=r2.get hy;let Y:=λ(e:À)(l:e ∈[z,a,b,c,d])=>ap Ŗ I R (N e l);let Z:=λ(e:À)(l:e ∈[z,a,b,c,d])=>ap Ŗ I U (N e l);erw[k (nx st (Y z (.head _),Y b nk,Y c kt,Y d lq) (Z z (.head _),Z b nk,Z c kt,Z d lq) p1 p2 (x:=u1) (y:=u2) (by simpa using Rx) (by simpa using hu2) λhp Z' pr W=>?_)];erw[(_,Ŗ,wpAny_letOwnedTupleGo_zip Z'.zip λhq zq sb=>?_)];let nT:H s.heap.objs.size=none:=I.fresh;let S:∀e o,e ∉[z,b,c,d]->s.heap.get? e=O o->hq.get? e=O o:=λe o l g=>by rwa[C2 l λR U h3 h4=>sb.extBut _ _ R (W e o R U h3 h4 g)]
   let Tz:s.heap.objs.size≠z:=eR (ay st.zip);let prq:IsPair hq s.heap.objs.size u1 u2:=sb.extBut _ _ Tz pr;let B:∀e u,H e=O u->e ∉[z,b,c,d]:=λe u l hm=>by let:H e=none:=(N e (xZ hm)).1;rw[this]at l;cases l
   let Lo:jX X.prog X.w (dq H s.heap.objs.size (.T [x,y])) hq:=λe u l=>by
    by_cases ee:e=s.heap.objs.size;.subst ee;rw[bC]at l;cases l;exact(by show 2<=Ã;decide,[u1,u2],.cons ru1 (.cons ru2 .nil),(_,prq,Ŗ,_,Ŗ))
    .rw[bw ee]at l;erw[(I.c4 e u l).sW (λf o Le g=>S f o ?_ g) (λf g=>by rw[bw (b8 g nT)];rwa[g]) λf zs g=>by rw[bw (b8 g nT)];rwa[g]]
     rcases Le with rfl|Le;.rwa[B f u l]
     .rwa[B f _ Le]
   let I1:Inv X F σ (dq H s.heap.objs.size (.T [x,y])) {s with heap:=hq}:=by
    erw[I.step (g':=s.gens) (d':=s.drawn) (t':=s.toks) (ch:=[z,b,c,d]) (λe l=>?_) (λe o _ _ l g _=>S e o l g) (λe o _ _ l g _=>(o.slots,S e o l g)) (λe o _ g n=>by rw[bw (aR (ay g))];rwa[n]) (λe o l g=>(o,S e o l g)) (λe zs g=>by rw[bw (b8 g nT)];rwa[g]) (λe o u g=>by rw[bw (b8 g nT)];rwa[g]) (λe ps g=>(#[],by rw[bw (b8 g nT),g];simp)) (λm hm=>?_) Lo I.bare];.let(f0,f1,f2,f3,f4,f5):=N e (xZ l);exact(f3,f1,f4,f5)
    .let(o,KZ,ep,ho,r):=hm;erw[(o,KZ,ep,S _ o (λLj=>?_) ho,r)];exact(N X.env.locals (xZ Lj)).2.1 Ŗ
   erw[(.A s.heap.objs.size,_,I1,Ŗ,(_,nT,Ŗ,λxs' ys' x' y' g1 g2 gx gy=>?_),?_,λe l=>?_)];.let e1:=inj Ŗ I g1 R;let e2:=inj Ŗ I g2 U;subst e1;subst e2;rw[hx]at gx;rw[hy]at gy;cases gx;cases gy;rfl
   .obtain⟨_,zi,⟨p,q,zo⟩,z1,z2⟩:=Z';exact(zq,sb.extBut _ _ D.az zi,(p,q,sb.extBut _ _ D.bz zo),at' z1 λo g=>sb.extBut _ _ D.cz g,at' z2 λo g=>sb.extBut _ _ D.dz g)
   .rw[bw];.exact(N e l).1
    .let(o,ho,_):=obj st l;rwa[aR (ay ho)]
  done:=by
   intro X hP hw hK hc i F s σ H E I N st hg;subst hP hw hK;erw[cps λG k=>?_];let(xs,ys,R,U,hx):=hg;let(RM,r1,p1,l1):=of Ŗ I R;let(yS,r2,p2,l2):=of Ŗ I U;let e1:=r1.length;let e2:=r2.length;let Y:=λ(e:À)(l:e ∈[z,a,b,c,d])=>ap Ŗ I R (N e l);let Z:=λ(e:À)(l:e ∈[z,a,b,c,d])=>ap Ŗ I U (N e l);erw[k (no (I.ok.hd hc) st (Y z (.head _),Y b nk,Y c kt,Y d lq) (Z z (.head _),Z b nk,Z c kt,Z d lq) p1 p2 nofun λhq W=>(Ŗ,?_))];let S:=λe o l g=>by rwa[C2 l λR U h3 h4=>W e o R U h3 h4 g]
   let B:∀e u,H e=O u->e ∉[z,b,c,d]:=λe u l hm=>by let:=(N e (xZ hm)).1;rw[this]at l;cases l
   erw[I.step (λe l=>?_) (λe o _ _ l g _=>S e o l g) (λe o _ _ l g _=>(_,S e o l g)) (λe o _ g n=>n) (λe o l g=>(o,S e o l g)) (λe zs g=>g) (λe o u g=>g) (λe ps g=>(#[],by done)) (λm hm=>?_) (λe u l=>?_) I.bare];.let(f0,f1,f2,f3,f4,f5):=N e (xZ l);exact(f3,f1,f4,f5)
   .let(o,KZ,ep,ho,r):=hm;exact(o,KZ,ep,S _ o (λLj=>(N _ (xZ Lj)).2.1 Ŗ) ho,r)
   .erw[(I.c4 e u l).sW (λf o Le g=>S f o ?_ g) (λf g=>g) λf zs g=>g];rcases Le with rfl|Le;.rwa[B f u l]
    .rwa[B f _ Le]
  self:=λ_ _ _ _ _ st h=>wpAny_pyIter_zip st.zip h}
abbrev oa(h:È)(t:À):È:=h.push {cls:=.type "tuple_iterator",data:=.fields #[.ref t,.int 0 0]}
abbrev tt(h:È)(t T:À):È:=(oa h t).push {cls:=.type "tuple_iterator",data:=.fields #[.ref T,.int 0 0]}
abbrev ul(h:È)(t T:À):È:=(tt h t T).push {cls:=.type "tuple",data:=.seq #[.ref h.objs.size,.ref (oa h t).objs.size]}
abbrev pv(h:È)(t T:À):È:=(ul h t T).push {cls:=.type "tuple",data:=.seq #[.none,.none]}
abbrev iT(h:È)(t T:À):È:=(pv h t T).push {cls:=.type "zip",data:=.fields #[.none,.bool a5,.bool a5,.ref (tt h t T).objs.size,.ref (ul h t T).objs.size]}
def BK(t T:À)(xs ys:Array Â):Meets (Builtin.«zip.__new__» ([.type "zip",.ref t,.ref T],[])) λ_ R s=>s.heap.IsTuple t xs/\s.heap.IsTuple T ys/\R (.ok (.ret (.ref (pv s.heap t T).objs.size))) {s with heap:=iT s.heap t T}:=.of_wp λp w A R s h=>by let(a,g,d,k,os):=s;let(F,D,h):=h;let C:=sub_zip;let H:Heap.IsTuple (Shared.heap _) t xs:=F;wp_walk using ju H,ju (Heap.IsTuple.push D _);exact(_,Ŗ,h)
def Ry(sq:Hp->À->ϕ->ß)(a:TA):TI:=λσ H R=>a σ H λv h=>∃t T,v=[.A t,.A T]/\(∃x,sq h t x)/\(∃y,sq h T y)/\R (wm sq t T) h
def Nh(u:Gl X "zip")(v:X.mg "zip"=ao)(x:PA X [a,b] m)(hs:dN [a,b] X.env=[(a5,Ê a X.env),(a5,Ê b X.env)])(y:dN [b] X.env=[(a5,Ê b X.env)])(mk:∀{E P s σ H t c xs ys}{Q:dC},Inv X P σ H s->sq H t xs->sq H c ys->(∀h',BN j h' (s.heap.objs.size+4) (s.heap.objs.size+2) (s.heap.objs.size+3) s.heap.objs.size (s.heap.objs.size+1) t c 0 .none->(∀e o,s.heap.get? e=O o->h'.get? e=O o)->Q (.ref (s.heap.objs.size+4)) {s with heap:=h'})->bn (b' X.prog X.w) X.A (call (.type "zip") [.ref t,.ref c]) Q E s)(T:∀n t c,OT (n+4) (n+2) (n+3) n (n+1)->uv X.prog X.w X.K (.Tuple es k l) (wm sq t c) [n+4,n+2,n+3,n,n+1] (n+4) λi h=>BN j h (n+4) (n+2) (n+3) n (n+1) t c i .none):PI X (.Tuple es k l) (.Call (.Name "zip" p) [a,b] [] pos) (Ry sq m):=by intro P s σ H R I h;erw[Call_ (rh I u v (show eU _=O (.type "zip")from Ŗ) (eS (iL (x pos _ s σ H _ I h) λU s1 (L,z,f,B,C)=>?_) nofun (by rw[y];rfl)))];obtain⟨t,c,e,⟨xs,G⟩,⟨ys,D⟩,q⟩:=C;subst e;let(M,u2,rfl,r,g):=B.two;cases r;cases g;erw[mk f G D λh' Z up=>?_];let T:=T s1.heap.objs.size t c (U3 _);erw[T.self X.A 0 _ _ _ Z ?_];erw[(_,_,_,_,z,Ŗ,f.kept up,T,Z,λe F=>?_,q)];let d:=ε _ e F;rwa[f.AK d (f.c4.fresh d)]
def Tn(B:Gl X "zip")(C:X.mg "zip"=ao)(G:PA X [a,b] s)(hs:dN [a,b] X.env=[(a5,Ê a X.env),(a5,Ê b X.env)])(L:dN [b] X.env=[(a5,Ê b X.env)]):PI X (.Tuple es k R) (.Call (.Name "zip" p) [a,b] [] pos) (Ry (gX X.K) s):=Nh (j:=ì) B C G hs L (λ{E P s1 σ H t T xs ys Q}u M N q=>by
  let(S,r1,U,l1):=u.tuple M;let(W,r2,p2,l2):=u.tuple N;erw[callType_new F.called_zip ∅ (F.typeCall_zip_2 _ _) (F.newCall_zip_2 _ _) (λi=>F.args_object_init_3 i _ _) F.entry_zip_new (BK t T S.toArray W.toArray) (U,p2,?_)];let Z:(oa s1.heap t).objs.size=s1.heap.objs.size+1:=hJ ..;let l:(tt s1.heap t T).objs.size=s1.heap.objs.size+2:=by rw[hJ,Z]
  let m:(ul s1.heap t T).objs.size=s1.heap.objs.size+3:=by rw[hJ,l]
  let w:(pv s1.heap t T).objs.size=s1.heap.objs.size+4:=by rw[hJ,m]
  let y:(iT s1.heap t T).get? (pv s1.heap t T).objs.size=O _:=ax _ Ŗ;let Y:(iT s1.heap t T).get? (ul s1.heap t T).objs.size=O _:=af _ (ax _ Ŗ);let x:(iT s1.heap t T).get? (tt s1.heap t T).objs.size=O _:=af _ (af _ (ax _ Ŗ));let A:(iT s1.heap t T).get? (oa s1.heap t).objs.size=O _:=af _ (af _ (af _ (ax _ Ŗ)));let y1:(iT s1.heap t T).get? s1.heap.objs.size=O _:=af _ (af _ (af _ (af _ (ax _ Ŗ))));rw[l,m,w]at y;rw[Z,l]at x;rw[m]at Y;rw[Z]at A;rw[w];exact((_,y,Ŗ),q _ (y,x,(_,_,Y),(_,y1,Ŗ,Ŗ),(_,A,Ŗ,Ŗ)) λe o g=>af _ (af _ (af _ (af _ (af _ g)))))) λn t T D=>BD (λ(o,e,c,d)=>(o,e,λv g=>í (d.symm.trans g))) (λz k=>z.at k) (λe I q=>I.tuple (e▸q)) (λe I q r=>I.xT (e▸q) (e▸r)) (λe I q f=>Iy I (e▸q) f) (OP D) (λh=>OQ h D) D
def kg(h:H p=ao)(o:HO):ir H (dq H p o):=λb u q=>by rw[bw (b8 q h)];rwa[q]
def Cu{lo:Ő Î}(h:HT.kX (Á xs) 0 lo=0/\HT.kX (Á xs) (Á xs) hi=Á xs):qV xs lo hi=xs:=by delta qV;rw[h.1,h.2,fj,Nat.sub_zero,fU]
def sM{E:dC}{lo:Ő Î}{Q:dC}(H:IsTup s.heap t ce)(hs:s.heap.IsSliceOf sl v u .none)(p:IsPart v lo)(b:IsPart u hi)(d:HT.kX ce.size 0 lo=0/\HT.kX ce.size ce.size hi=ce.size)(h:Q (.ref t) s):bn (b' P w) A (getItem (.ref t) (.ref sl)) Q E s:=by
 let(os,Y,a,c):=id hs;delta getItem;try with_reducible erw[b7 ?_]
 erw[aa (wpAny_sequenceKey H.typeIs Ŗ ?_)];erw[aa (bV H.typeIs dy (bW dy H.typeIs Ď ?_ (args_tuple_getitem _ _)))];show bn _ _ (Builtin.Tuple.tupleItemsOf _>>=_) _ _ s;erw[aa (tupleItemsOf_ H ?_)];erw[aa (jV (os,Y,a) ?_)];erw[aa (HT.kY hs p b ?_)];show bn _ _ (if((HT.kX _ 0 lo:Î)==0&&1==1&&HT.kX _ _ hi-HT.kX _ 0 lo==ce.size)=J then _ else _) _ _ s;rw[b9 nofun];erw[aa ?_];erw[aa (jV H.typeIs (ai ?_))];first|rwa[aa (jv (ai (_,Ŗ,ai h)))]|rfl|rfl
structure B8(w:cc)(K:Æ)(a:À)(tab:Ä->Ő ϐ):ß where
 ex:∃(es:Array gn)(n:Ń),K.lookup a=O (.type "dict",ao,.dict es n,#[])/\KeysLit w.params es.toList/\∀x,match tab x with|O ks=>∃b,findBy â es x=O (.ref b)/\∃(o:Ø)(bT:Array Â)(m:Ń),K.lookup b=O o/\o.cls=.type "tuple"/\o.data=.seq bT m/\bT.size<=Ã/\Vals (ks.map V.S) bT.toList|ao=>findBy â es x=ao
 lo:(a==fb)=a5
structure Src(K:Æ)(mg:c3)(x:Ä)(st:É)(ps:ϐ):ß where ex:∃(f:À)(fd:d4),BM K x x st f fd/\mg x=O (.ref f)/\Binds K fd ps []
def cL:Å->Þ|.Starred _ _=>a5|_=>J
def cA(h:cL e):dN (e::es) env=(a5,Ê e env)::dN es env:=by cases e<;>first|rfl|cases h
theorem fB:∀{es:Ł _},es.all cL=J->(eP pos (dN es env)).any (·.1)=a5|[],_=>Ŗ|e::es,h=>by rw[cw,aM]at h;rw[cA h.1];show(a5||(eP pos _).any _)=a5;rw[fB (env:=env) (pos:=pos) h.2];rfl
def ZF(H:PE X e T)(r:PA X es t)(h:ø (cL e=J) v0):PA X (e::es) (Wy T t):=Sl H r (cA h)
def V7{id:String}(h:fR X (.builtin id) r)(H:Gl X x)(m:X.mg x=ao)(v:eU x=O (.builtin id))(a:PA X (e::es) t)(hn:ø (x≠"__name__") P3)(k:ø ((x==("__debug__":Ä))=a5) P3)(d:ø ((e::es).all cL=J) v0):PE X (.Call (.Name x p) (e::es) [] pos) (qc r t):=MK h H m v a hn k (cA (by rw[cw,aM]at d;rwa[d.1])) (fB (by rw[cw,aM]at d;rwa[d.2]))
def V8{id:String}(h:fR X (.type id) r)(H:Gl X x)(m:X.mg x=ao)(v:eU x=O (.type id))(a:PA X (e::es) t)(hn:ø (x≠"__name__") P3)(k:ø ((x==("__debug__":Ä))=a5) P3)(d:ø ((e::es).all cL=J) v0):PE X (.Call (.Name x p) (e::es) [] pos) (qc r t):=HV h H m v a hn k (cA (by rw[cw,aM]at d;rwa[d.1])) (fB (by rw[cw,aM]at d;rwa[d.2]))
def rQ(k:Ń)(s:Ϙ)(σ:Ç):Ç:=Ð k ao++s.map λj=>σ[j]?.join
def ň(k:Ń)(a:Ϙ)(d:k+Á a=Á n)(hn:a.map (λj=>X.N[j]?)=(n.drop k).map O)(f:∀x∈n.drop k,(x,ä)∈s.names):∀σ:Ç,Á σ=Á X.N->kh X n s σ (rQ k a σ):=by
 intro σ _;erw[(by delta rQ;rw[aj,bP,ae];rwa[d],λi x v g h=>?_)];delta rQ at h;by_cases H:i<k;.rw[aT (by simpa using H),eK,b9 H]at h;cases h
 .rw[aK (by simpa using H),bP,aN]at h;induction b:a[i-k]? with|a=>left|c j=>
   rw[b]at h;let h3:=by simpa using h
   let e:(n.drop k)[i-k]?=O x:=by grind
   let e2:=bL (λl=>l[i-k]?) hn;simp only[aN,b,e,Option.map_some]at e2;erw[(f x (aL e),j,dG e2,?_)];induction c:σ[j]? with|a=>rw[c]at h3;cases h3|c o=>rw[c]at h3;let:o=O v:=h3;rw[this]
def Cs{X:Cx}{N:ϐ}{scope:Í}(sc:Í)(h:ø (X.env.scope=sc) v0)(a:ø (scope.kind=.function) i4)(b:ø N.Nodup i4)(c:ø (∀y∈scope.names,y.2≠.cell) i4)(d:ø (∀y∈scope.names,y.2=.local->scope.names.lookup y.1=O .local) i4)(e:ø (∀y∈scope.names,y.2=.free->sc.names.lookup y.1=O .cell) i4)(f:ø (∀y∈scope.names,y.2=.free->(scope.names.map λ(n,k)=>if k==.free&&sc.kind==.function&&sc.names.lookup n==O .cell then(n,NameKind.cell)else(n,k)).lookup y.1≠O .local) i4):eM X N scope:=by subst h;exact(a,b,c,d,e,λx H=>f _ H Ŗ)
def Xg:eU "len"=O (.builtin "len"):=PySem.boot_len
def PU:eU "list"=O (.type "list"):=by rfl
def As:eU "tuple"=O (.type "tuple"):=by rfl
def Xf:eU "int"=O (.type "int"):=by rfl
def yI(C t:À)(d:Ő À)(T:Â):Ø:={cls:=.ref C,dict:=d,data:=.fields #[.ref t,T,.none,.none,.bool a5,.none]}
def Ex(h:È)(a C:À)(d:Ő À)(T:À)(fl:Â):ß:=(∃t,h.get? a=O (yI C t d (.ref T)))/\T≠a/\∃o s,h.get? T=O o/\o.data=.fields s/\s[3]?=O fl
structure Mv(fs:Ł À)(a T:À)(h h':È):ß where
 keep:∀b o,h.get? b=O o->b∉fs->b≠a->b≠T->h'.get? b=O o
 slot:∀b o,h.get? b=O o->b∈fs->b≠a->b≠T->∃sl,h'.get? b=O {o with slots:=sl}
def Mv.any(m:Mv fs a T h h')(e:h.get? b=O o)(H:b≠a)(c:b≠T):∃sl,h'.get? b=O {o with slots:=sl}:=by
 by_cases d:b∈fs;.rwa[m.slot b o e d H c]
 .exact(_,m.keep b o e d H c)
def uR{E:dC}{s:be}(D:A.frames=O (env::outer))(l:s.heap.FunFrames base (env::outer))(w:env.frame=O L)(m:s.heap.get? a=O (yI C t d v))(h:∀h' g,s.heap.get? g=ao->s.heap.objs.size<=g->Ex h' a C d g (ed L)->Mv ((env::outer).filterMap (·.frame)) a a s.heap h'->Q ⟨⟩ {s with heap:=h'}):bn M A (do let x<-frameOf env;let p<-entryPlaceOf L R;let b<-EntryCells.newEntry head x .none (ed L) .none p;setField (.ref a) 1 b) Q E s:=by
 erw[aa (wpAny_frameOf_fun D l w λn H=>?_)];erw[aa (wpAny_entryPlaceOf λp Y=>?_)];erw[aa (bU ?_ (Y.sizeOk5 _ _ _ _ _))];let c:=(H.2.1 a λy=>by let(_,o,r,hn):=l.mem y;rw[m]at r;cases r;rwa[hn _ Ŗ]).trans m;let f:=af {cls:=.type "traceback",dict:=ao,data:=.fields ([head,.ref L,.none,ed L,.none]++if p.isEmpty then Ð 6 Ó else p).toArray} c;erw[cK f Ŗ (Nat.lt_of_sub_pos (yf 4)) ?_];let K:=eR (ay c);let i:∀b o,s.heap.get? b=O o->b≠n.objs.size:=λb o e=>by let(sl,j):=H.2.2 b o e;rwa[aR (ay j)]
 erw[h _ _ (by induction q:s.heap.get? _ with|a=>rfl|c o=>rwa[Ă Ŗ (i _ o q)]) (gm H.1.symm) ((t,bE _ f Ŗ),K,{cls:=.type "traceback",dict:=ao,data:=.fields ([head,.ref L,.none,ed L,.none]++if p.isEmpty then Ð 6 Ó else p).toArray},_,?_,Ŗ,?_) (λb o e u k _=>?_,λb o e u k _=>?_)];.rw[bG _ _ (cY K)];rwa[ax n Ŗ]
 .rfl
 .rw[bG _ _ (cY k)];rwa[af _ ((H.2.1 b u).trans e)]
 .let(sl,j):=H.2.2 b o e;erw[(sl,?_)];rw[bG _ _ (cY k)];rwa[af _ j]
def acR{E:dC}{s:be}(m:A.frames=O (env::outer))(l:s.heap.FunFrames base (env::outer))(H:env.frame=O L)(e:s.heap.get? a=O (yI C t d .none))(h:∀h' b,s.heap.get? b=ao->s.heap.objs.size<=b->Ex h' a C d b (ed L)->Mv ((env::outer).filterMap (·.frame)) a a s.heap h'->Q ⟨⟩ {s with heap:=h'}):bn M A (hA (.ref a) env) Q E s:=by delta hA;simp only[H];rwa[aa (bY e Ŗ (x:=.none) Ŗ (uR m l H e h))]
def VW{E:dC}{s:be}(D:A.frames=O (env::outer))(r:s.heap.FunFrames base (env::outer))(l:env.frame=O L)(u:Ex s.heap a C d T .none)(h:∀h' c,s.heap.get? c=ao->s.heap.objs.size<=c->Ex h' a C d c (ed L)->Mv ((env::outer).filterMap (·.frame)) a T s.heap h'->Q ⟨⟩ {s with heap:=h'}):bn M A (hA (.ref a) env) Q E s:=by
 obtain⟨⟨t,m⟩,K,y,G,i,j,n⟩:=u;delta hA;simp only[l];erw[aa (bY m Ŗ (x:=.ref T) Ŗ ?_)];erw[aa (bY i j n ?_)];erw[aa (cK i j (fh.mp n).1 ?_)];let B:∀b,b≠T->(s.heap.update T (à (·.setIfInBounds 3 Ó))).get? b=s.heap.get? b:=λb H=>bG _ _ (cY H);erw[uR D (r.of_keeps λb o H f=>(o,(B b (λb o H f q=>by left b o H f)).trans H,Ŗ)) l ((B a (cY K)).trans m) λh' c F v w p=>?_];erw[h h' c ?_ ?_ w (λb o e H g k=>p.keep b o ((B b k).trans e) H g g,λb o e H g k=>p.slot b o ((B b k).trans e) H g g)]
 .by_cases q:c=T;.rw[q]at F;let z:=bE (à (·.setIfInBounds 3 Ó)) i (cX (bN j _));rw[z]at F;cases F
  .exact(B c q).symm.trans F
 .left
def ϲ{E:dC}{L:À}(H:env.frame=O L)(e:Ex s.heap a C d T (ed L))(h:Q ⟨⟩ s):bn M A (hA (.ref a) env) Q E s:=by obtain⟨⟨t,b⟩,k,o,i,c,f,g⟩:=e;delta hA;simp only[H];erw[aa (bY b Ŗ (x:=.ref T) Ŗ ?_)];erw[aa (bY c f g ?_)];rw[b9 ⋯];rwa[ai h]
def QY{E:dC}(e:Ex s.heap a C d T fl)(h:∀h',Ex h' a C d T .none->Û T s.heap h'->Q ⟨⟩ {s with heap:=h'}):bn M A (setFlight (.ref a) ao) Q E s:=by obtain⟨⟨t,b⟩,k,o,g,c,H,f⟩:=e;let hz:=(fh.mp f).1;rwa[aa (bY b Ŗ (x:=.ref T) Ŗ (cK c H hz (h _ ((t,(bG _ _ k).trans b),k,_,_,bE _ c (cX (bN H _)),bN H _,nofun) (cj ..))))]
def we:entryFor table "proto.unchain"=O Builtin.«proto.unchain»:=GP Ŗ
def EB{E:dC}{Q:dC}(H:s.heap.get? e=O (yI C t d tb))(h:Q .none s):bn (b' prog w) A (runValue (.builtin "proto.unchain" ([x,.ref e,.ref e,.bool a5],[]))) Q E s:=by rwa[vW (dH we (aa (bY H Ŗ (x:=.none) Ŗ (ai h))))]
def NK{E:dC}{Q:α->be->ß}(H:A.handled=O (.ref e))(a:s.heap.get? e=O (yI C t d tb))(b:s.heap.get? x=O o)(c:o.data=.fields vs)(hz:2<vs.size)(k:e≠x)(h:E (.ref x) {s with heap:=s.heap.update x (à (·.setIfInBounds 2 (.ref e)))}):bn (b' prog w) A (raiseNew (.ref x)) Q E s:=by erw[aa (pG ?_)];rw[H];show bn _ _ (if(Ò e !=Ò x)=J then _ else _) _ _ _;rw[b9 (by simp[k])];rwa[aa (b7 (EB a (aa (cK b c hz (pA h)))))]
def Er{E:dC}{I}(j:A.handled=O (.ref e))(m:s.heap.get? e=O (yI C t d tb))(K:e≠it)(hit:s.heap.IsTupleIter it T i)(n:s.heap.IsTuple T I)(p:I[i]?=ao)(r:∀h',è it s.heap h'->Q ao {s with heap:=h'}):bn (b' prog w) A (em (.ref it)) Q E s:=by let(o,h,z,H):=id hit;let(ol,l,_,N,c):=n;delta em;erw[aa (fP (bV (name:=ê "__next__") hit.typeIs dR (bW dR hit.typeIs mK ?_ (md _))))];show bn _ _ (field (.ref it) 0>>=_) _ _ s;erw[aa (bY h H (x:=.ref T) Ŗ ?_)];show bn _ _ (if(Ò T==Ó)=J then _ else _) _ _ s;rw[bS (show ¬(Ò T==Ó)=J from aJ)];show bn _ _ (field (.ref it) 1>>=_) _ _ s;erw[aa (bY h H (x:=.int i 0) Ŗ ?_)];show bn _ _ (seqItems? (.ref T)>>=_) _ _ s;erw[aa (dX l c ?_)];simp only[fD,p];erw[aa (jv (aa (cK h H ⋯ ?_)))];show bn _ _ (newExc (.type "StopIteration") []>>=_) _ _ _;erw[aa ?_];erw[aa (bU ?_ (by size_fits))];erw[aa (pq (a:=Ó) Ŗ ?_)];erw[bU ?_ (by size_fits)];let k1:∀{f:È}{u:Ø},f.get? e=O (yI C t d tb)->(f.push u).get? e=O _:=λq=>af _ q;let k:(s.heap.update it (à (·.setIfInBounds 0 Ó))).get? e=O _:=(bG _ _ (cY K)).trans m;erw[NK j (k1 (k1 k)) (ax _ Ŗ) rfl (by rw[Array.size_append];rwa[bp (show 2<6 by ext) (aQ 6 _)]) (aR (ay (k1 k))) ?_];erw[aa (ij (_,bE _ (ax _ Ŗ) Ŗ,Ŗ) nV ?_)];erw[ai (r _ ?_)];intro b o v q;let y:(s.heap.update it (à (·.setIfInBounds 0 Ó))).get? b=O o:=(bG _ _ (cY v)).trans q;let g:=af {cls:=.type "tuple",data:=.seq #[]} y;exact(bG _ _ (cY (aR (ay g)))).trans (af _ g)
def fq.there(x:fq P w H h a o):∃ob,h.get? a=O ob:=by induction o with|L X=>let(_,_,_,_,e):=x;exact(_,e)|T X=>let(_,_,_,o,e,_):=x;exact(_,e)|dK A=>let(_,_,_,_,o,_,_,e,_):=x;exact(_,e)|dT A=>let(_,_,_,_,o,_,_,e,_):=x;exact(_,e)|set S n=>let(o,_,_,_,e,_):=x;exact(_,e)|ins C d fs=>let(_,_,_,e,_):=x;exact(_,e)|own y=>rwa[x]|xd fs=>obtain⟨_,⟨o,_,_,e,_⟩,_⟩:=x;exact(_,e)|rng lo i=>let(_,_,_,e):=x;exact(_,e)|mX ob u=>let(e,_):=x;exact(_,e)|UA ps=>exact(_,x)|met f y=>exact(_,x)|ext φ=>rwa[x.2.1]
def jX.none_of(x:jX P w H h)(e:h.get? a=ao):H a=none:=by induction q:H a with|a=>rfl|c o=>let(b,z):=(x a o q).there;rw[e]at z;cases z
def jX.keep(x:jX P w H h)(k:∀b u o,H b=O u->h.get? b=O o->h'.get? b=O o):jX P w H h':=λa o e=>(x a o e).sW (λb u c q=>by
  rcases c with rfl|c;.rwa[k _ _ _ e q]
  .rwa[k _ _ _ c q]) (λ_ q=>q) λ_ _ q=>q
structure Fl(P:ci)(w:cc)(l:Ł Ù)(H:Hp)(s:be)(H':Hp)(a C:À)(d:Ő À)(fl:Â)(s':be):ß where
 os:s'.os=s.os
 bare:AllBare s'.gens
 un:Un (oV l) [] H H' s.heap s'.heap
 c4:jX P w H' s'.heap
 na:H' a=ao
 new:s.heap.get? a=ao
 ex:∃T,Ex s'.heap a C d T fl/\H' T=ao/\s.heap.get? T=ao
def vP(P:ci)(w:cc):uo:=λl H s E e S=>∃a C d h,e=.ref a/\Fl P w l H s h a C d .none S/\E (.ref C) d h
def Fl.inv{σ:Ç}(I:Inv X bb σ H s)(f:Fl X.prog X.w X.stack H s H' a C d fl s'):Inv X bb σ H' s':=I.Av f.os f.un f.c4 f.bare λb h=>Ă h ⋯
def Fl.frF{σ:Ç}(I:Inv X bb σ H s)(f:Fl X.prog X.w X.stack H s H' a C d fl s'):∀b∈oV X.stack,H' b=none:=λb h=>by let(_,o,c,_):=I.stack.mem h;rwa[f.un.free b o c (I.qp b h) ⋯]
def Fl.move{X:Cx}(f:Fl X.prog X.w l H s H' a C d fl s')(M:∀b∈oV l,H' b=ao)(i:H' T=ao)(R:s.heap.get? T=ao)(m:Mv (oV l) a T s'.heap h')(e:Ex h' a C d t v)(c:H' t=ao)(A:s.heap.get? t=ao):Fl X.prog X.w l H s H' a C d v {s' with heap:=h'}where
 os:=f.os;bare:=f.bare;un:=by
  let na:∀b o,s.heap.get? b=O o->b≠a:=λb o q z=>by rw[z,f.new]at q;cases q
  let N:∀b o,s.heap.get? b=O o->b≠T:=λb o q z=>()
  erw[(λb o q n h x=>m.keep b o (f.un.keep b o q n h x) h (na b o q) (N b o q),λb o q n h x=>?_,f.un.free,λb o q x=>?_,f.un.oy,f.un.mw,f.un.oq)];.let(sl,Q):=f.un.slot b o q n h x;let(S,g):=m.slot b _ Q h (na b o q) (N b o q);exact(S,g)
  .let(j,Q):=f.un.there b o q x;let(sl,g):=m.any Q (na b o q) (N b o q);exact(_,g)
 c4:=f.c4.keep λb u o e q=>m.keep b o q λz=>by left (λz=>by rw[z,f.na]at e;cases e) (λz=>nofun);na:=f.na;new:=f.new;ex:=(t,e,c,A)
theorem Fl.fresh{X:Cx}(f:Fl X.prog X.w l H s H' a C d fl s')(hn:s'.heap.get? T=ao)(hs:s'.heap.objs.size<=T):H' T=ao/\s.heap.get? T=none:=by erw[(f.c4.fresh hs,?_)];induction q:s.heap.get? T with|a=>rfl|c o=>let(b,z):=f.un.there T o q ⋯;rw[hn]at z;cases z
def Fl.kj{σ:Ç}(I:Inv X bb σ H s)(f:Fl X.prog X.w X.stack H s H' a C d fl s'):s'.heap.FunFrames X.base X.stack:=(f.inv I).stack
def Fl.note{σ:Ç}{E:dC}(I:Inv X bb σ H s)(U:X.stack=X.env::o)(b:X.env.frame=O X.env.locals)(D:A.frames=O X.stack)(f:Fl X.prog X.w X.stack H s H' a C d .none s')(h:∀i,Fl X.prog X.w X.stack H s H' a C d (ed X.env.locals) i->Q ⟨⟩ i):bn M A (hA (.ref a) X.env) Q E s':=by let(T,e,c,R):=f.ex;let hl:=f.kj I;rw[U]at D hl;erw[VW D hl b e λk t n N g m=>h _ ?_];let(G,j):=f.fresh n N;rwa[f.move (f.frF I) c R (by rw[U];rwa[m]) g G j]
def Fl.land{X:Cx}{E:dC}(f:Fl X.prog X.w l H s H' a C d fl s')(m:∀b∈oV l,H' b=ao)(h:∀I,Fl X.prog X.w l H s H' a C d .none I->Q ⟨⟩ I):bn M A (setFlight (.ref a) ao) Q E s':=by let(T,e,g,R):=f.ex;rwa[QY e λj i S=>h _ (f.move m g R (λb o q _ _ c=>(S.2 b c).trans q,λb o q _ _ c=>(_,(S.2 b c).trans q)) i g R)]
def Fl.out{σ:Ç}(I:Inv X bb σ H s)(h:X.ex=[])(f:Fl X.prog X.w X.stack H s H' a C d fl s'):Fl X.prog X.w X.outer X.H₀ X.s₀ H' a C d fl s':=by
 let j:=f.inv I;let c:∀b,s.heap.get? b=ao->X.s₀.heap.get? b=none:=λb q=>by induction z:X.s₀.heap.get? b with|a=>rfl|c o=>let(i,y):=I.base.there b o z nofun;rw[q]at y;cases y
 let(T,e,g,R):=f.ex;let un:=j.base;rw[h]at un;exact(j.os,j.bare,un,j.c4,f.na,c _ f.new,T,e,g,c _ R)
structure B4(X:Cx):ß where
 st:X.stack=X.env::X.outer
 fr:X.env.frame=O X.env.locals
 ex:X.ex=[]fn:∀x,X.fn x=J
def gN(X:Cx)(E:XK):ß:=∀e s,bn (b' X.prog X.w) X.A (leaving X.env e) (λ_ I=>vP X.prog X.w X.outer X.H₀ X.s₀ E e I) (λa I=>vP X.prog X.w X.outer X.H₀ X.s₀ E a I) s->X.xe e s
def gN.pass(fr:B4 X)(o:gN X E):iq (vP X.prog X.w) X E:=by intro p σ H s e S I h;let(a,C,d,b,rfl,f,q):=h;rwa[o _ _ (aa (f.note I fr.st fr.fr I.ok.frames λs2 f2=>f2.land (f2.frF I) λc F=>(a,C,d,b,Ŗ,F.out I fr.ex,q)))]
def gN.VS{p:Ł _}{σ:Ç}(fr:B4 X)(o:gN X E)(I:Inv X p σ H s)(os:s1.os=s.os)(un:Un (oV X.stack) [] H c s.heap s1.heap)(k:jX X.prog X.w c s1.heap)(B:AllBare s1.gens)(l:s1.heap.get? a=O (yI C t d .none))(hn:c a=ao)(new:s.heap.get? a=ao)(q:E (.ref C) d c):X.xe (.ref a) s1:=by
 erw[o _ _ ?_];let j:=I.Av os un k B λb h=>Ă h ⋯;let F:=j.qp;let hl:=j.stack;let M:=j.ok.frames;rw[fr.st]at hl M;let g:∀b,s1.heap.get? b=ao->s.heap.get? b=none:=λb q=>by induction z:s.heap.get? b with|a=>rfl|c o=>let(r,y):=un.there b o z ⋯;rw[q]at y;cases y
 erw[aa (acR M hl fr.fr l λh2 T v A e mv=>?_)];let f:Fl X.prog X.w X.stack H s c a C d (ed X.env.locals) {s1 with heap:=h2}:=by
  let N:∀b o,s.heap.get? b=O o->b≠a:=λb o q z=>()
  let m:Mv (oV X.stack) a a s1.heap h2:=by rw[fr.st];rwa[mv]
  erw[(os,j.bare,(λb o q n h x=>m.keep b o (un.keep b o q n h x) h (N b o q) (N b o q),λb o q n h x=>?_,un.free,λb o q x=>?_,un.oy,un.mw,un.oq),(j.c4.keep λb u o e q=>m.keep b o q λz=>by left (λz=>by rw[z,hn]at e;cases e) λz=>by rw[z,hn]at e;cases e),hn,new,T,e,j.c4.fresh A,g T v)];.let(sl,Q):=un.slot b o q n h x;let(S,i):=m.slot b _ Q h (N b o q) (N b o q);exact(S,i)
  .let(r,Q):=un.there b o q x;let(sl,i):=m.any Q (N b o q) (N b o q);exact(_,i)
 rwa[f.land F λG D=>(a,C,d,c,Ŗ,D.out I fr.ex,q)]
def gN.made{p:Ł _}{σ:Ç}(fr:B4 X)(o:gN X E)(I:Inv X p σ H s)(m:Heap.MadeExcOf s.heap h' a (.ref C) vs)(q:E (.ref C) ao H):X.xe (.ref a) {s with heap:=h'}:=by let(t,h,n,b):=m.there;let j:Inv X _ σ H {s with heap:=h'}:=I.kept m.keeps;rwa[o.VS fr I rfl (Un.kept m.keeps) j.c4 j.bare h (I.c4.none_of m.new) m.new q]
nonrec abbrev Mi:Ł Â:=[.type "ValueError",.type "Exception",.type "BaseException",.type "object"]
def JJ(K:Æ)(C:À):ß:=excIn K C Mi "ValueError.__new__"=J
def İ{P:Ő Ø->ß}(k:∀d c s,f d c s=J->P (O (.type "type",d,.cls c,s)))(q:excIn.match_6 (λ_=>Þ) o f (λ_=>a5)):P o:=by
 induction o with|a=>exact(aJ q).elim|c o=>let(T,d,dt,s):=o;induction T with|type t=>
  by_cases h:t="type";.subst h;induction dt with|cls c=>rwa[k _ _ _ q]|_=>exact(aJ q).elim
  .delta excIn.match_6 nsOkIn._sparseCasesOn_4 excIn._sparseCasesOn_6 at q;dsimp only at q;rw[dif_neg h]at q;exact(aJ q).elim|_=>exact(aJ q).elim
def ĵ{P:Ł Â->Ł (Ő Â)->ß}(k:∀C m k0 k1 k2 k3 n k5,f C m k0 k1 k2 k3 n k5=J->P (.ref C::m) [k0,k1,k2,k3,O (.builtin n),k5])(q:excIn.match_1 (λ_ _=>Þ) a b f (λ_ _=>a5)):P a b:=by
 obtain _|⟨a,m⟩:=a;.exact(aJ q).elim
 induction a with
 |ref C=>
  obtain _|⟨k0,b⟩:=b;.exact(aJ q).elim
  obtain _|⟨k1,b⟩:=b;.exact(aJ q).elim
  obtain _|⟨k2,b⟩:=b;.exact(aJ q).elim
  obtain _|⟨k3,b⟩:=b;.exact(aJ q).elim
  obtain _|⟨k4,b⟩:=b;.exact(aJ q).elim
  obtain _|k4:=k4;.exact(aJ q).elim
  induction k4 with|builtin n=>
   obtain _|⟨k5,b⟩:=b;.exact(aJ q).elim
   obtain _|_:=b;.rwa[k _ _ _ _ _ _ _ _ q]
   .exact(aJ q).elim|_=>exact(aJ q).elim
 |_=>exact(aJ q).elim
inductive Pp(h:È)(C:À):ß|mk(bm N nm qn bs hdct sn sub ab col dd k0 k1 k2 k3 k5 mN):h.get? C=O (hY nm qn C N bs bm hdct sn sub ab col dd k0 k1 k2 k3 k5 "ValueError.__new__")->h.Ns N mN->mN "__init__"=ao->OwnTail h Mi bm->Pp h C
def QU{K:Æ}(X:K.In h)(q:JJ K C):Pp h C:=by erw[İ (P:=λo=>K.lookup C=o->Pp h C) (λd c s q H=>?_) q Ŗ];let(N,bs,mro,e,Q,f,S,sub,g,a,D):=c;revert H;erw[ĵ (P:=λm l=>K.lookup C=O (_,d,.cls (N,bs,m,e,Q,f,S,sub,g,a,D),⟨l⟩)->Pp h C) (λj m k k1 k2 p n r q H=>?_) q];simp only[aM,su,Bool.not_eq_true']at q;obtain⟨⟨⟨⟨⟨rfl,rfl⟩,A⟩,t⟩,b⟩,i⟩:=q;cases A;rwa[.mk _ _ _ _ _ _ _ _ _ _ _ _ _ _ _ _ _ (X _ _ H) (.of_isNs (Ac X b)) (fO X b i) (PySem.W.tail_of_in X t)]
def Oi(E:XK)(C:À)(t:TE):TS:=λ_ σ H=>t σ H λ_ h=>E (.ref C) ao h
def Nw(fr:B4 X)(o:gN X E)(c:X.calm)(g:Gl X x)(b:X.mg x=O (.ref C))(f:JJ X.K C)(j:PE X e0 t)(Y:ø (cL e0=J) v0)(k:ø ((x==("__debug__":Ä))=a5) P3):PS X (.Raise (O (.Call (.Name x n) [e0] [] d)) ao pos) (Oi E C t):=by intro p s σ H D I h;let(B,N,nm,Q,bs,hdct,sn,sub,ab,col,dd,k0,k1,k2,k3,k5,M,l,u,a,T):=QU I.mod.FR f;let hs:=cA (es:=[]) (env:=X.env) Y;erw[wpAny_Raise_call_subT (nm:=nm) (q:=Q) (N:=N) (bs:=bs) (hdct:=hdct) (sn:=sn) (sub:=sub) (ab:=ab) (col:=col) (dd:=dd) (k0:=k0) (k1:=k1) (k2:=k2) (k3:=k3) (k5:=k5) PySem.F.excBase_ValueError (T.hasType (by rfl)) (I.ok.hd c) (by rw[hs];rfl) a (jz I g b (Ŗ,?_) k)];rw[hs];rwa[fC (dJ (kr (j _ s σ H _ I h) λv s2 y w i r q=>gT (Ŗ,by show 1<=Ã;decide,i.bk _ _ l,u.keeps i.bk,T.keeps i.bk,λz e m=>o.made fr i m q)))]
structure nY(P:ci)(w:cc)(K:Æ)(mg:c3)(base:È)(k:Ń)(x:Ä)(ps:ϐ)(sp:Sp):ß where ex:∃(f:À)(fd:d4),il P w K mg base (vP P w) k f fd ps sp/\mg x=O (.ref f)/\keepIn K (.ref f)/\Binds K fd ps []
def Src.okX{K:Æ}{st:É}(S:Src K mg x st ps)(F:c7 N ps (aG st))(len:∀vs H Q E,sp vs H Q E->Á vs=Á ps)(i:∀(f:À)(e:Â)(A:cr)(o:Ł Ù)(s:be)(H:Hp)(vs:ϕ)(Q:VK)(E:XK),fJ k (A.deeper (envOfC x (aG st) s.heap.objs.size f e))->sp vs H Q E->∃t,iY (oQ (vP P w) P w K mg base N x (aG st) f e A o s H E) (bX st) t/\t {nx:=λ_ H'=>Q .jn H',rt:=Q} (start N vs) H):nY P w K mg base (k+1) x ps sp:=by let(f,d,a,h,b):=S.ex;let(oc,g,kV,doc,m,n,e,ct,l,rfl,lk,p):=a.ex;exact(f,_,AJ lk p F len λA o s H vs Q E r c=>i f e A _ s H vs Q E r c,h,a.kp,b)
theorem nY.mono{K:Æ}(D:nY P w K mg base j x ps sp)(h:j<=k):nY P w K mg base k x ps sp:=by let(f,d,F,r):=D.ex;exact(f,d,F.mono h,r)
theorem nY.imp{K:Æ}(D:nY P w K mg base k x ps sp)(h:∀vs H Q E,Bu vs H Q E->sp vs H Q E):nY P w K mg base k x ps Bu:=by let(f,d,F,r):=D.ex;exact(f,d,F.imp h,r)
def qW{K:Æ}:B4 (oQ CX P w K mg base N x sc f e A o s H E):=(Ŗ,Ŗ,Ŗ,λ_=>Ŗ)
def rD{K:Æ}:gN (oQ (vP P w) P w K mg base N x sc f e A o s H E) E:=λ_ _ h=>h
def BA(sp:Sp)(E:XK)(t:TA):TE:=λσ H Q=>t σ H λv h=>sp v h Q E
def Sz(D:nY X.prog X.w X.K X.mg X.base k x ps sp)(r:fJ k X.A)(a:iq (vP X.prog X.w) X E)(g:Gl X x)(b:PA X (e::es) t)(m:ø ((x==("__debug__":Ä))=a5) P3)(d:ø ((e::es).all cL=J) v0):PE X (.Call (.Name x p) (e::es) [] pos) (BA sp E t):=by
 let(f,n,F,c,i,j):=D.ex;intro P s σ H Q I h;rw[cw,aM]at d;erw[(Su (p:=p) (pos:=pos) F r g c i j .nil a b m (cA d.1) (fB d.2) _ s σ H Q I) ?_];let l:xQ sp [] E t=BA sp E t:=by delta xQ BA;simp only[aV]
 rw[l];rwa[h]
def DL(h:env.frame=env'.frame):hA e env=hA e env':=by delta hA PySem.frameOf;rw[h]
def acT{E:dC}{L:À}{Q:Unit->be->ß}(D:A.frames=O (env::outer))(v:s.heap.FunFrames base (env::outer))(j:env.frame=O L)(m:Ex s.heap a C d T fl)(f:fl=ed L->Q ⟨⟩ s)(h:∀h' c,s.heap.get? c=ao->s.heap.objs.size<=c->Ex h' a C d c (ed L)->Mv ((env::outer).filterMap (·.frame)) a T s.heap h'->Q ⟨⟩ {s with heap:=h'}):bn M A (hA (.ref a) env) Q E s:=by
 by_cases n:fl=ed L;.subst n;rwa[ϲ j m (f Ŗ)]
 obtain⟨⟨t,p⟩,K,G,I,k,l,r⟩:=m;delta hA;simp only[j];erw[aa (bY p Ŗ (x:=.ref T) Ŗ ?_)];erw[aa (bY k l r ?_)];rw[bS λz=>n (GQ z)];erw[aa (cK k l (fh.mp r).1 ?_)];let B:∀b,b≠T->(s.heap.update T (à (·.setIfInBounds 3 Ó))).get? b=s.heap.get? b:=λb H=>bG _ _ (cY H);erw[uR D (v.of_keeps λb o H g=>(o,(B b (λb o H g q=>by grind b o H g)).trans H,Ŗ)) j ((B a (cY K)).trans p) λh' c F w y u=>?_];erw[h h' c ?_ ?_ y (λb o e H i f=>u.keep b o ((B b f).trans e) H i i,λb o e H i f=>u.slot b o ((B b f).trans e) H i i)]
 .by_cases q:c=T;.rw[q]at F;let z:=bE (à (·.setIfInBounds 3 Ó)) k (cX (bN l _));rw[z]at F;cases F
  .exact(B c q).symm.trans F
 .left
def QZ{E:dC}(e:Ex s.heap a C d T fl)(h:∀h' v,Ex h' a C d T v->Û T s.heap h'->Q ⟨⟩ {s with heap:=h'}):bn M A (setFlight (.ref a) fr) Q E s:=by obtain⟨⟨t,b⟩,k,o,i,c,H,g⟩:=e;let hz:=(fh.mp g).1;rwa[aa (bY b Ŗ (x:=.ref T) Ŗ (cK c H hz (h _ (fr.elim .none λf=>ed f) ((t,(bG _ _ k).trans b),k,_,_,bE _ c (cX (bN H _)),bN H _,nofun) (cj ..))))]
def Sn{E:dC}{q:α->be->ß}(H:Ex s.heap a C d T fl)(h:∀h' w,Ex h' a C d T w->Û T s.heap h'->E (.ref a) {s with heap:=h'}):bn M A (PySem.passOn v (.ref a) g) q E s:=by let Y:=H;obtain⟨⟨t,b⟩,_⟩:=Y;rwa[aa (bY b Ŗ (x:=.ref T) Ŗ (aa (QZ H λh' w e S=>pA (h h' w e S))))]
def Inv.toX{p:Ł _}{σ:Ç}(I:Inv X p σ H s):Inv {X with xe:=E} p σ H s:=((I.ok.mod,I.ok.kind,I.ok.glob,I.ok.blt,I.ok.above,I.ok.inj,I.ok.has,I.ok.OW,I.ok.hd,I.ok.frames,I.ok.N9,I.ok.QX,I.ok.bs,I.ok.Aq,I.ok.sT,I.ok.wj,I.ok.kj,I.ok.Hv),I.os,I.bare,I.base,I.loc,I.cell,I.free,I.gz,I.pin,I.c4,I.len)
def Inv.ofX{p:Ł _}{σ:Ç}(I:Inv {X with xe:=E} p σ H s):Inv X p σ H s:=((I.ok.mod,I.ok.kind,I.ok.glob,I.ok.blt,I.ok.above,I.ok.inj,I.ok.has,I.ok.OW,I.ok.hd,I.ok.frames,I.ok.N9,I.ok.QX,I.ok.bs,I.ok.Aq,I.ok.sT,I.ok.wj,I.ok.kj,I.ok.Hv),I.os,I.bare,I.base,I.loc,I.cell,I.free,I.gz,I.pin,I.c4,I.len)
def c5(X:Cx)(N:ϐ)(S:Í)(f:Ł À)(a:be)(h:Hp)(E1:XK):Cx:={gZ X N S f a h with xe:=λe b=>∃p σ H s,Inv (gZ X N S f a h) p σ H s/\vP X.prog X.w X.stack H s E1 e b}
def Cr:iq (vP X.prog X.w) (c5 X N S f a b E1) E1:=λp σ H s e c I h=>(_,σ,H,s,I.ofX,h)
def wK{Ee:dC}(I:Ń->be->ß)(z:∀e s',Ee e s'->notedBy (b' prog w) A env (λe s'=>R (.error e) s') e s')(l:∀n s,I n s->bn (b' prog w) A (em it) (λr S=>r=ao/\R (.ok .next) S\/∃v,r=O v/\bn (b' prog w) A (letOwnedTupleGo T it v) (λ_ b=>bn (b' prog w) A (assign T env v) (λ_ d=>bn (b' prog w) A (forIn k J λc r=>if r=J then(do let ok<-isTrue c env (Ê c env);pure (ñ ok))else pure (ñ r)) (λok a=>if ok=J then bn (b' prog w) A (Ê E env) (λx f=>bn (b' prog w) A (call (.builtin "list.append") [acc,x]) (λ_ g=>∃m,m<n/\I m g) Ee f) Ee a else ∃m,m<n/\I m a) Ee d) Ee b) Ee S) Ee s)(n:Ń)(h:I n s):fm (b' prog w) A (.compLoop (.ListComp E [(T,iter,k,0)] j pos) 0 it acc env) R s:=by
 let no:∀{α:Type}{t:Sem α}{Q:α->be->ß}{s:be},bn (b' prog w) A t Q Ee s->bn _ A t Q _ s:=λh=>cZ h (λ_ _ q=>q) z;erw[codeAny_loop Ŗ I (λn s B=>?_) n h];show bn _ A _ _ _ s;erw[wpAny_noted ?_];rw[compTurn_list];erw[aa (iX (aa (no (iL (l n s B) λr S H=>?_))))];rcases H with ⟨rfl,H⟩|⟨v,rfl,H⟩;.rwa[ai H]
 .erw[aa (no (iL H λ_ b o=>aa (no (iL o λ_ d p=>aa (no (iL p λok a i=>?_))))))];induction ok with|e=>rwa[ai (Ŗ,i)]|d=>rwa[aa (aa (no (iL i λx f u=>aa (no (iL u λ_ g y=>ai (ai (Ŗ,y)))))))]
def BE{X:Cx}(A:X.stack=X.env::X.outer)(f:X.env.frame=O X.env.locals)(ab:X.s₀.heap.objs.size<=X.env.locals):Un (oV X.outer) [] X.H₀ H' X.s₀.heap h↔Un (oV X.stack) [] X.H₀ H' X.s₀.heap h:=by
 let m:∀b o,X.s₀.heap.get? b=O o->(b∈oV X.stack↔b∈oV X.outer):=λb o e=>by rw[A];delta oV;rw[iM,f];simp only[aw];exact(λh=>h.resolve_left λz=>by let:=ay e;rw[z]at this;rwa[Ă this (da.mpr ab)],.inr)
 constructor;.intro u;exact(λb o e n H x=>u.keep b o e n (λz=>H ((m b o e).mpr z)) x,λb o e n H x=>u.slot b o e n ((m b o e).mp H) x,u.free,u.there,u.oy,u.mw,u.oq)
 .intro u;exact(λb o e n H x=>u.keep b o e n (λz=>H ((m b o e).mp z)) x,λb o e n H x=>u.slot b o e n ((m b o e).mpr H) x,u.free,u.there,u.oy,u.mw,u.oq)
def gN.marked{p:Ł _}{σ:Ç}(fr:B4 X)(o:gN X E)(I:Inv X p σ H s)(h:Ex s.heap a C d T fl)(g:H a=ao)(n:H T=ao)(i:X.s₀.heap.get? a=ao)(b:X.s₀.heap.get? T=ao)(q:E (.ref C) d H):X.xe (.ref a) s:=by
 erw[o _ _ ?_];let F:=I.qp;let hl:=I.stack;let M:=I.ok.frames;rw[fr.st]at hl M;let u:=I.base;rw[fr.ex]at u;let c:Fl _ X.w _ _ _ H a C d fl s:=(I.os,I.bare,(BE fr.st fr.fr I.ok.above).mp u,I.c4,g,i,T,h,n,b);let out:∀s',Fl X.prog X.w _ _ _ H a C d _ s'->vP _ X.w _ _ _ E _ s':=λs' f=>by exact(a,C,d,H,Ŗ,(f.os,f.bare,(BE fr.st fr.fr I.ok.above).mpr f.un,f.c4,f.na,f.new,f.ex),q)
 rwa[aa (acT M hl fr.fr h (λ_=>c.land F λs' f=>out s' f) λj t k N e m=>(c.move F n b (by rw[fr.st];rwa[m]) e (I.c4.fresh N) (by induction z:X.s₀.heap.get? t with|a=>rfl|c l=>rwa[Ă (bp (ay z) (aq I.sz N)) (cM _)])).land F λs' f=>out s' f)]
def li(n:Ń)(X:Cx)(e:Å)(t:TE):ß:=∀(p:Ł _)(s:be)(σ:Ç)(H:Hp)(Q:VK),Inv X p σ H s->n<=s.toks->t σ H Q->bn (b' X.prog X.w) X.A (Ê e X.env) (EP X p σ Q) X.xe s
def BC{R:α->be->ß}{E:dC}(H:n<=s.toks)(h:bn M A t Q E s)(k:∀v s',n<=s'.toks->Q v s'->R v s'):bn M A t R E s:=wpAny_with_toks H (cZ h (λv s' q t=>k v s' t q) λ_ _ e _=>e)
theorem PE.n(h:PE X e t)(n:Ń):li n X e t:=λp s σ H Q I _ q=>h _ s σ H Q I q
def yr{R:dC}{σ:Ç}(S:eM X F a)(kK:X.calm)(hσ:∀σ:Ç,Á σ=Á X.N->kh X F a σ (Z σ))(hi:PI X tg iter wi)(hg:∀fp m t,PG (c5 X F a fp m t E1) tg g)(hc:∀fp m t,pJ (c5 X F a fp m t E1) D tc)(he:∀fp m t,li nt (c5 X F a fp m t E1) E te)(hs:∀x,hF iter X.env x=pure x)(fin:∀{fp:Ł À}{s3 s':be}{σ':Ç}{H3 H':Hp}{acc:À},Inv X P σ H3 s3->(∀b∈fp,lG X P H3 b)->Inv (c5 X F a fp s3 H3 E1) [] σ' H' s'->Q (.A acc) H'->compPost (b' X.prog X.w) X.A X.xe use R (.ref acc) s3.heap.objs.size (.ok .next) s')(bad:∀{fp:Ł À}{s3:be}{H3:Hp}{acc:À},Inv X P σ H3 s3->(∀b∈fp,lG X P H3 b)->∀e s',(c5 X F a fp s3 H3 E1).xe e s'->notedBy (b' X.prog X.w) X.A (compEnvC a (pP X.env.cells a.names []) s3.heap.objs.size X.env) (λe s'=>compPost (b' X.prog X.w) X.A X.xe use R (.ref acc) s3.heap.objs.size (.error e) s') e s')(I:Inv X P σ H s)(ht:nt<=s.toks)(h:sf wi g tc te Z σ H Q):bn (b' X.prog X.w) X.A (comprehension (.ListComp E [(tg,iter,D,0)] a pos) a X.env p' (newList []) a5 (Ê iter X.env) use) R X.xe s:=by
 let AO:∀y∈a.names,y.2=.free->∃c,X.env.cells.lookup y.1=O c:=λy hy hk=>I.ok.has y.1 (.inl (S.fre y hy hk));let sub:=pQ (cells:=X.env.cells) (names:=a.names) (acc:=[]) AO (λx c e=>by cases e);erw[wpAny_comprehension_free (use:=use) rfl hs (Cp AO) S.kind S.loc (BC ht (hi P s σ H _ I h) λv s1 t1 h1=>BC t1 h1 λitv s2 t2 h2=>cps λG k=>?_)];let(it,fp,tn,j,H2,rfl,I2,T,Pc,f2,h2):=h2;obtain⟨W,⟨m0,w0⟩,turn⟩:=h2 s2.heap.objs.size I2.fresh;let lt2:∀b∈fp,b<s2.heap.objs.size:=λb l=>by let(o,ho,_):=T.obj _ _ Pc b l;rwa[ay ho]
 erw[k (bU (wpAny_newFunctionEnv S.Mu (by intro y hy;simp at hy) (λh₁ CV CY=>?_) S.kind))];dsimp only at CV CY⊢;let I3:Inv X P σ (dq H2 s2.heap.objs.size (.L [])) {s2 with heap:=s2.heap.push {cls:=.type "list",data:=.seq ([]:Ł Â).toArray}}:=I2.Zb (t':=s2.toks) (ys:=[]) .nil (aP _);generalize hs3:({s2 with heap:=s2.heap.push {cls:=.type "list",data:=.seq ([]:Ł Â).toArray}}:be)=s3 at I3;let e3:s2.heap.push {cls:=.type "list",data:=.seq ([]:Ł Â).toArray}=s3.heap:=by rw[<-hs3]
 let sz3:s3.heap.objs.size=s2.heap.objs.size+1:=by rw[<-e3,hJ]
 let ajs:∀b o,s2.heap.get? b=O o->s3.heap.get? b=O o:=λb o e=>by rw[<-e3];rwa[af _ e]
 let f3:∀b∈fp,lG X P (dq H2 s2.heap.objs.size (.L [])) b:=λb l=>by let(q1,q2):=f2 b l;exact(by rw[bw (aR (lt2 b l))];rwa[q1],q2)
 let lt3:∀b∈fp,b<s3.heap.objs.size:=λb l=>by rw[sz3];rwa[fG (lt2 b l)]
 rw[e3]at CV CY⊢;let up1:∀b o,s3.heap.get? b=O o->h₁.get? b=O o:=λb o e=>CY.extBut b o (aR (ay e)) (af _ e);let ahv:h₁.Ns s3.heap.objs.size λ_=>ao:=by let q:=CV;simpa using q
 let I4:Inv (c5 X F a fp s3 (dq H2 s2.heap.objs.size (.L [])) E1) [] (Z σ) (dq H2 s2.heap.objs.size (.L [])) {s3 with heap:=h₁,toks:=s2.toks}:=(Kj S I3 f3 lt3 (hσ σ I.len) ahv up1).toX;let st4:tn 0 h₁:=T.keep _ _ _ Pc λb l o e=>up1 b o (ajs b o e);let abG:=λ{s' σ' H'}=>fin (s':=s') (σ':=σ') (H':=H') (acc:=s2.heap.objs.size) I3 f3;let hE:=bad (acc:=s2.heap.objs.size) I3 f3;generalize B:c5 X F a fp s3 (dq H2 s2.heap.objs.size (.L [])) E1=f at I4 abG hE;let xP:f.prog=X.prog:=by rw[<-B];rfl
 let xw:f.w=X.w:=by rw[<-B];rfl
 let xK:f.K=X.K:=by rw[<-B];rfl
 let xA:f.A=X.A:=by rw[<-B];rfl
 let xc:f.calm=true:=by rw[<-B];rwa[kK]
 let xe:f.env=compEnvC a (pP X.env.cells a.names []) s3.heap.objs.size X.env:=by rw[<-B];rfl
 let hg':PG f tg g:=by rw[<-B];rwa[hg _ _ _]
 let hc':pJ f D tc:=by rw[<-B];rwa[hc _ _ _]
 let Yw:li nt f E te:=by rw[<-B];rwa[he _ _ _]
 let M:f.ex=fp:=by rw[<-B];rfl
 let fs0:f.fs=oV X.stack:=by rw[<-B];rfl
 let pn0:f.pn=[]:=by rw[<-B];rfl
 let s00:f.s₀=s3:=by rw[<-B];rfl
 let H00:f.H₀=dq H2 s2.heap.objs.size (.L []):=by rw[<-B];rfl
 let ok4:=I4.ok;let Ei:∀{H':Hp},(∀b∈fp,H' b=ao)->∀b∈fp,lG f [] H' b:=λ{H'}hn b l=>by let(_,q1,q2,q3,q4,q5):=f3 b l;erw[(hn b l,(ok4.QX b (by rw[M];rwa[l])).1,ok4.wj b (by rw[M];rwa[l]),.inl (by rw[M];rwa[l]),(ok4.QX b (by rw[M];rwa[l])).2,λp hp=>?_)];rw[pn0]at hp;rwa[Ă (show p∈([]:db)from hp) ⋯]
 let Y:fm (b' X.prog X.w) X.A (.compLoop (.ListComp E [(tg,iter,D,0)] a pos) 0 (.ref it) (.ref s2.heap.objs.size) (compEnvC a (pP X.env.cells a.names []) s3.heap.objs.size X.env)) (compPost (b' X.prog X.w) X.A X.xe use R (.ref s2.heap.objs.size) s3.heap.objs.size) {s3 with heap:=h₁,toks:=s2.toks}:=by
  erw[wK (Ee:=f.xe) (λn s'=>nt<=s'.toks/\∃i σ' ys H',Inv f [] σ' H' s'/\tn i s'.heap/\(∀b∈fp,H' b=ao)/\W i n σ' ys H') hE ?_ m0 (t2,0,_,[],_,I4,st4,λb l=>(f3 b l).1,w0)];erw[λn s5 z=>cps λG k=>?_];let(t5,i,U,ys,H5,I5,st5,fr5,w5):=z;let(qY,hh):=turn i n U ys H5 w5;rcases hh with ⟨stop,q⟩|⟨go,Jn,step⟩;.let d:=T.done f xP xw xK xc i [] s5 U H5 f.xe I5 (Ei fr5) st5 stop;rw[xA]at d;rwa[k (iL d λr s6 (hr,I6)=>.inl (hr,abG I6 q))]
  .let d:=T.item f xP xw xK xc i [] s5 U H5 f.xe I5 (Ei fr5) st5 go;rw[xA]at d;erw[k (BC t5 d λr s6 t6 zz=>zz.elim λu zz=>zz.elim λhr h6=>.inr (u,hr,BC t6 h6 λ_ s7 t7 x=>?_))];let(x,H7,I7,r7,y7,st7,fr7):=x;let I7':=I7.pinned (Ei fr7) (T.obj _ _ st7);let a1:=hg' _ s7 U H7 x u _ I7' r7 (step x H7 y7);rw[xP,xw,xA,xe]at a1;erw[BC t7 a1 λ_ s8 t8 C=>?_];let(C,H8,I8,q8):=C;let a2:=hc' _ s8 C H8 _ I8 q8;rw[xP,xw,xA,xe]at a2;erw[BC t8 a2 λok s9 t9 zz=>zz.elim λH9 zz=>zz.elim λI9 q9=>?_];let back:∀{σz:Ç}{Hz:Hp}{sz:be},Inv f ([]++vx fp s7.heap) σz Hz sz->tn (i+1) sz.heap/\∀b∈fp,Hz b=none:=λ{σz Hz sz}Iz=>by erw[(T.keep _ _ _ st7 λb l o e=>(Iz.pin (b,o) (aW _ (aW _ (jI l e)))).1,λb l=>?_)];let(o,e,_):=T.obj _ _ st7 b l;exact(Iz.pin (b,o) (aW _ (aW _ (jI l e)))).2.1
   induction ok with|e=>let(m',hm,w'):=q9;exact(m',hm,t9,_,C,ys,H9,I9.lj,(back I9).1,(back I9).2,w')|d=>let a3:=Yw _ s9 C H9 _ I9 t9 q9;rw[xP,xw,xA,xe]at a3;erw[BC t9 a3 λy sa ta yv=>?_];let(yv,Ha,Ia,ra,abY,m',hm,w'):=yv;let a4:=xu _ sa C Ha (.A _) _ _ [y] (λv H'=>H'=dq Ha _ _) Ia rfl (.cons ra .nil) (_,ys,yv,Ŗ,Ŗ,abY,Jn,Ŗ);rw[xP,xw,xA]at a4;erw[BC ta a4 λ_ sb tb Hb=>?_];let(_,Hb,Ib,_,eb):=Hb;subst eb;exact(m',hm,tb,_,C,_,_,Ib.lj,(back Ib).1,(back Ib).2,w')
 let es:{s2 with heap:=h₁,toks:=s2.toks+Á ([]:Ł (Ä×Â))}={s3 with heap:=h₁,toks:=s2.toks}:=by rw[<-hs3];rfl
 rwa[codeAny_compStart_list (es▸Y) (T.self _ 0 _ _ _ st4 (es▸Y))]
def AA{p:Ł _}{σ:Ç}{σ':Ç}(i:Inv X p σ H S)(F:∀b∈f,lG X p H b)(I:Inv (c5 X N s f S H E1) [] σ' H' s')(q:Q (.A acc) H'):compPost (b' X.prog X.w) X.A X.xe ao (EP X p σ Q) (.ref acc) S.heap.objs.size (.ok .next) s':=by let(m,a,_):=id I.loc;erw[(m,a,λh' j=>(.A acc,H',?_,Ŗ,q))];let un:Un (oV X.stack) f H H' S.heap _:=I.base;let v:∀b o,S.heap.get? b=O o->b≠S.heap.objs.size:=λb o e=>aR (ay e);let u:Un _ f H H' _ h':=(λb o e n h x=>(j.2 b (v b o e)).trans (un.keep b o e n h x),λb o e n h x=>let (sl,z):=un.slot b o e n h x;(sl,(j.2 b (v b o e)).trans z),un.free,λb o e x=>let (c,z):=un.there b o e x;(c,(j.2 b (v b o e)).trans z),un.oy,un.mw,un.oq);erw[i.Av I.os u (tS I.c4 I.free j) I.bare λb h=>?_];.let(_,d,r,g,k,l):=F b h;exact(g,d,k,l)
def Az{R:dC}{p:Ł _}{σ:Ç}(fr:B4 X)(o:gN X E1)(r:Inv X p σ g c)(M:∀b∈F,lG X p g b):∀e s',(c5 X L S F c g E1).xe e s'->notedBy (b' X.prog X.w) X.A (compEnvC S (pP X.env.cells S.names []) c.heap.objs.size X.env) (λe s'=>compPost (b' X.prog X.w) X.A X.xe use R (.ref acc) c.heap.objs.size (.error e) s') e s':=by
 intro e u h5;let(Nl,σ',H5,s4,I,a,C,d,P,rfl,f,q):=h5;let j:=Fl.inv I f;let(T,e1,hT,Ri):=f.ex;let W:u.heap.FunFrames X.base X.stack:=j.stack;let Y:=r.ok.frames;let AU:=fr.st;rw[AU]at W Y;show bn _ _ _ _ _ u;rw[DL (env:=compEnvC _ _ _ _) (env':=X.env) Ŗ];erw[VW Y W fr.fr e1 λh6 y n1 N e6 m6=>?_];let(G,g2):=f.fresh n1 N;let v:=Fl.inv I (f.move (λb h=>Fl.frF I f b h) hT Ri (by rw[AU];rwa[m6]) e6 G g2);let B:(gZ X L S F c g).env.locals=c.heap.objs.size:=Ŗ;let(m,hm,_):=id v.loc;erw[(m,hm,λh7 H abg aj8=>?_)];let aC:a≠c.heap.objs.size:=λz=>by obtain⟨m4,⟨o4,es4,ep4,i,_⟩,_⟩:=id I.loc;rw[B]at i;let nw:=f.new;rw[z,i]at nw;cases nw
 let k:c.heap.objs.size<=u.heap.objs.size:=j.sz;let e7:Ex h7 a C d y (ed X.env.locals):=by obtain⟨⟨t,ha⟩,kn,oT,ts,D,hd,h3⟩:=e6;exact((t,(H.2 a aC).trans ha),kn,oT,ts,(H.2 y λz=>by rw[z]at N;rwa[Ă j.lt (da.mpr N)]).trans D,hd,h3)
 erw[Sn (s:={u with heap:=h7}) e7 λh8 fl8 e8 l=>?_];let E:∀b o,c.heap.get? b=O o->h8.get? b=h6.get? b:=λb o e=>(l.2 b ((λb o e=>aR (bp (ay e) (aq k N))) b o e)).trans (H.2 b ((λb o e=>aR (ay e)) b o e));let un:Un (oV X.stack) F g P c.heap h6:=v.base;let U:Un _ F g P _ h8:=(λb o e n h x=>(E b o e).trans (un.keep b o e n h x),λb o e n h x=>let (sl,z):=un.slot b o e n h x;(sl,(E b o e).trans z),un.free,λb o e x=>let (K,z):=un.there b o e x;(K,(E b o e).trans z),un.oy,un.mw,un.oq);erw[o.marked fr (by erw[r.Av j.os U (tS (tS v.c4 (by rwa[v.free]) H) G l) j.bare λb h=>?_];let(_,q1,q2,Q,q4,q5):=M b h;exact(Q,q1,q4,q5)) e8 f.na G ?_ ?_ q];.induction z:X.s₀.heap.get? a with
  |a=>rfl|c ob=>let(K,z'):=r.base.there a ob z (by rw[fr.ex];simp);let(o'',Z):=I.base.there a K z' (λh=>by
    let(_,q1,q2,Q,q4,q5):=M a h;rcases Q with Q|Q;.rw[fr.ex]at Q;simp at Q
    .rwa[Ă (ay z) (da.mpr Q)]);let nw:=f.new;rw[Z]at nw;cases nw
 .cases z:X.s₀.heap.get? y with|a=>rfl|c ob=>rwa[Ă (bp (ay z) (aq r.sz (aq k N))) (cM _)]
def HW(fr:B4 X)(o:gN X E1)(S:eM X n e)(K:X.calm)(d:∀σ:Ç,Á σ=Á X.N->kh X n e σ (c σ))(hi:PI X t iter wi)(l:∀f a b,PG (c5 X n e f a b E1) t g)(m:∀f a b,pJ (c5 X n e f a b E1) i T)(q:∀f a b,li j (c5 X n e f a b E1) E k)(hs:∀x,hF iter X.env x=pure x):li j X (.ListComp E [(t,iter,i,0)] e pos) (sf wi g T k c):=by intro p s σ H Q I r h;rwa[yr S K d hi l m q hs AA (λu F=>Az fr o u F) I r h]
def MM(fr:B4 X)(o:gN X E1)(S:eM X c e)(K:X.calm)(j:∀σ:Ç,Á σ=Á X.N->kh X c e σ (d σ))(hi:PI X t iter wi)(l:∀f a b,PG (c5 X c e f a b E1) t g)(m:∀f a b,pJ (c5 X c e f a b E1) i T)(q:∀f a b,PE (c5 X c e f a b E1) E k)(hs:ø (∀x,hF iter X.env x=pure x) hO):PE X (.ListComp E [(t,iter,i,0)] e pos) (sf wi g T k d):=λp s σ H Q I h=>HW fr o S K j hi l m (λf a b=>(q f _ _).n 0) hs _ s σ H Q I (aP _) h
def Cx.Ok.pnx{X:Cx}(ok:X.Ok)(p:Ł _)(E:dC):Cx.Ok {X with pn:=p,xe:=E}:=(ok.mod,ok.kind,ok.glob,ok.blt,ok.above,ok.inj,ok.has,ok.OW,ok.hd,ok.frames,ok.N9,ok.QX,ok.bs,ok.Aq,ok.sT,ok.wj,ok.kj,ok.Hv)
abbrev Cx.hn(X:Cx)(pn:db)(a:À):Cx:={X with A:=X.A.mark (O (.ref a)),calm:=a5,pn:=pn,xe:=λ_ _=>ŧ}
structure Hd(X:Cx)(a C:À)(d:Ő À):ß where hd:X.A.handled=O (.ref a)pn:∃t tb,(a,yI C t d tb)∈X.pn
def Inv.ajp{σ:Ç}(I:Inv X bb σ H s)(E:dC):Inv {X with pn:=X.pn++bb,xe:=E} [] σ H s:=(I.ok.pnx _ _,I.os,I.bare,I.base,I.loc,I.cell,I.free,I.gz,λp h=>I.pin p (by simpa using h),I.c4,I.len)
def Inv.aiE{σ:Ç}(ok:X.Ok)(I:Inv {X with pn:=X.pn++bb,xe:=E} [] σ H s):Inv X bb σ H s:=(ok,I.os,I.bare,I.base,I.loc,I.cell,I.free,I.gz,λp h=>I.pin p (by simpa using h),I.c4,I.len)
def Inv.ajo{X:Cx}{σ:Ç}(I:Inv {X with pn:=pn} [] σ H s)(b:s.heap.get? a=O o)(hn:H a=ao)(l:a≠X.env.locals)(f:a∉X.fs)(c:∀v,o.data≠.cell v):Inv (X.hn ((a,o)::pn) a) [] σ H s:=by
 erw[((I.ok.mod,I.ok.kind,I.ok.glob,I.ok.blt,I.ok.above,I.ok.inj,I.ok.has,I.ok.OW,λz=>(aJ z).elim,I.ok.frames,I.ok.N9,I.ok.QX,I.ok.bs,I.ok.Aq,I.ok.sT,I.ok.wj,I.ok.kj,I.ok.Hv),I.os,I.bare,I.base,I.loc,I.cell,I.free,I.gz,λp h=>?_,I.c4,I.len)];let Y:p∈(a,o)::pn:=by simpa using h
 rcases aw.mp Y with rfl|Y;.done
 .rwa[I.pin p (by simpa using Y)]
def Inv.aiD{X:Cx}{σ:Ç}(ok:Cx.Ok {X with pn:=pn})(I:Inv (X.hn ((a,o)::pn) a) [] σ H s):Inv {X with pn:=pn} [] σ H s:=(ok,I.os,I.bare,I.base,I.loc,I.cell,I.free,I.gz,λp h=>I.pin p (by simpa using Or.inr (by simpa using h)),I.c4,I.len)
def Inv.ag2{σ:Ç}(I:Inv X bb σ H s)(E:X.N.Nodup)(hi:X.N[i]?=O n)(hl:X.env.kindOf n=O .local)(hn:s.heap.Ns X.env.locals m)(G:h'.Ns X.env.locals λx=>if x=n then v else m x)(hs:Û X.env.locals s.heap h'):Inv X bb (σ.set i ao) H {s with heap:=h',toks:=T}:=by
 let(m1,d,L):=id I.loc;let K:m1=m:=by funext x;let(o,es,ep,M,P,_,R):=d;let(w,KZ,S,F,A,_,e):=hn;rw[M]at F;cases F;rw[P]at A;cases A;rw[<-R,<-e]
 subst K;let ln:∀{b:À}{o:Ø},X.s₀.heap.get? b=O o->b≠X.env.locals:=λq=>aR (bp (ay q) I.ok.above);erw[(I.ok,I.os,I.bare,(λb o q n f h=>(hs.2 b (ln q)).trans (I.base.keep b o q n f h),λb o q n f h=>?_,I.base.free,λb o q h=>?_,I.base.oy,I.base.mw,I.base.oq),(_,G,λj y g B Q U=>?_),λy c q=>?_,I.free,I.gz,λp W=>?_,I.c4.keep λb u o q z=>(hs.2 b λy=>by rw[y,I.free]at q;cases q).trans z,by simpa using I.len)];.let(sl,z):=I.base.slot b o q n f h;exact(sl,(hs.2 b (ln q)).trans z)
 .let(w,z):=I.base.there b o q h;exact(w,(hs.2 b (ln q)).trans z)
 .by_cases l:j=i
  .subst l;rw[List.getElem?_set]at Q;split at Q;.lia
   .done
  .rw[cy (cY l)]at Q;let(u,r,z):=L j y g B Q U;erw[(u,r,?_)];rcases z with ⟨k,z⟩|⟨k,c,Z,t⟩;.let:y≠n:=λz=>l (vo E B (z▸hi));rwa[.inl (k,by simp[this,z])]
   .rwa[.inr (k,c,Z,t.sameBut hs (I.Qh y c Z))]
 .let(g,z):=I.cell y c q;exact(g,z.sameBut hs (I.Qh y c q))
 .let(Z,t,D,Y,z5):=I.pin p W;exact((hs.2 p.1 D).trans Z,t,D,Y,z5)
structure Pq(K:Æ)(R:À):ß where
 ty:typeIn K (.ref R)=O (.type "type")cl:(clsIn K R).isSome=J
 ba:subIn K (.ref R) (.type "BaseException")=O J
def HE{K:Æ}(X:K.In h)(q:(clsIn K R).isSome):Looks M h (isType (.ref R)) true:=by
 delta clsIn at q;split at q;.ext C d c s H;intro A Q E S k z;rwa[aa (wpAny_loadPart (k _ _ (X _ _ H)) (ai z))]
 .cases q
def QT{K:Æ}{E:dC}(X:K.In s.heap)(H:Pq K R)(b:s.heap.get? a=O o)(c:o.cls=.ref C)(e:subIn K (.ref C) (.ref R)=O J)(q:Q J s):bn M A (excMatches (.ref a) (.ref R)) Q E s:=by let(h,g,d,t,os):=s;let L:Looks M h (typeOf (.ref R)) _:=PySem.W.looks_typeIn X H.ty;let l:Looks M h (typeOf (.ref a)) (.ref C):=c▸(Looks.ld b).andThen .now;erw[aa ((L.andThen (Looks.of_pure tc_notTuple)).at ?_)];erw[aa (ai ?_)];erw[aa ?_];rw[jl];erw[aa (aa (((HE X H.cl).andThen (ċ X H.ba)).at ?_))];erw[ai ?_];erw[ai ?_];erw[aa (l.at ?_)];erw[aa ?_];rw[jl];rwa[aa (aa ((ċ X e).at (ai (ai (ai q)))))]
structure gK(K:Æ)(C:À)(x cN:Ä)(st:É)(ps:ϐ):ß where ex:∃(f:À)(fd:d4),BM K x cN st f fd/\ya K C x f/\Binds K fd ps []
structure pK(K:Æ)(C:À)(cN:Ä)(st:É)(ps:ϐ):ß where ex:∃(f:À)(fd:d4),BM K "__init__" cN st f fd/\Mk K C f/\Binds K fd ps []
structure x8(P:ci)(w:cc)(K:Æ)(mg:c3)(base:È)(CX:uo)(k:Ń)(C:À)(x:Ä)(ps:ϐ)(sp:Sp):ß where ex:∃(f:À)(fd:d4),il P w K mg base CX k f fd ps sp/\ya K C x f/\Binds K fd ps []
structure lF(P:ci)(w:cc)(K:Æ)(mg:c3)(base:È)(k:Ń)(x:Ä)(C:À)(ps:ϐ)(sp:Sp):ß where ex:∃(f:À)(fd:d4)(Jq:ϐ)(Jr:Sp)(ds:Ł Â)(dvs:ϕ),il P w K mg base BL k f fd Jq Jr/\Mk K C f/\Binds K fd Jq ds/\Vals dvs ds/\(∀vs H Q E,sp vs H Q E->Jr (vs++dvs) H Q E)/\mg x=O (.ref C)
def gK.okX{K:Æ}{st:É}(S:gK K C x cN st ps)(F:c7 N ps (aG st))(len:∀vs H Q E,sp vs H Q E->Á vs=Á ps)(i:∀(f:À)(e:Â)(A:cr)(o:Ł Ù)(s:be)(H:Hp)(vs:ϕ)(Q:VK)(E:XK),fJ k (A.deeper (envOfC cN (aG st) s.heap.objs.size f e))->sp vs H Q E->∃t,iY (oQ (vP P w) P w K mg base N cN (aG st) f e A o s H E) (bX st) t/\t {nx:=λ_ H'=>Q .jn H',rt:=Q} (start N vs) H):x8 P w K mg base (vP P w) (k+1) C x ps sp:=by let(f,d,a,h,b):=S.ex;let(oc,g,kV,doc,m,n,e,ct,l,rfl,lk,p):=a.ex;exact(f,_,AJ lk p F len λA o s H vs Q E r c=>i f e A _ s H vs Q E r c,h,b)
theorem pK.ok{K:Æ}{mg:c3}{base:È}{x cN:Ä}{st:É}{ps N:ϐ}{k:Ń}{sp:Sp}{C:À}(S:pK K C cN st ps)(a:mg x=O (.ref C))(F:c7 N ps (aG st))(len:∀vs H Q E,sp vs H Q E->Á vs=Á ps)(i:∀(f:À)(e:Â)(A:cr)(o:Ł Ù)(s:be)(H:Hp)(vs:ϕ)(Q:VK)(E:XK),fJ k (A.deeper (envOfC cN (aG st) s.heap.objs.size f e))->sp vs H Q E->∃t,iY (oQ BL P w K mg base N cN (aG st) f e A o s H E).BR (bX st) t/\t {nx:=λ_ H'=>Q .jn H',rt:=Q} (start N vs) H):lF P w K mg base (k+1) x C ps sp:=by let(f,d,b,m,c):=S.ex;exact(f,d,ps,sp,[],[],b.ok F len (i f),m,c,.nil,λ_ _ _ _ h=>by rw[aV];rwa[h],a)
theorem x8.mono{K:Æ}(D:x8 P w K mg base CX j C x ps sp)(h:j<=k):x8 P w K mg base CX k C x ps sp:=by let(f,d,F,r):=D.ex;exact(f,d,F.mono h,r)
theorem lF.mono{K:Æ}(D:lF P w K mg base j x C ps sp)(h:j<=k):lF P w K mg base k x C ps sp:=by let(f,a,q,b,ds,d,F,r):=D.ex;exact(f,a,q,b,ds,d,F.mono h,r)
def MR(D:lF X.prog X.w X.K X.mg X.base k x C ps sp)(g:fJ (k+1) X.A)(j:Gl X x)(l:PA X (e::es) t)(n:ø ((x==("__debug__":Ä))=a5) P3)(d:ø ((e::es).all cL=J) v0):PE X (.Call (.Name x p) (e::es) [] pos) (Ś C sp [] E0 t):=by let(f,N,R,S,ds,u,F,M,v,y,z,B):=D.ex;rw[cw,aM]at d;intro P s σ H Q I h;rwa[gr (jz I j B (gq I.ok.mod.FR M.kp (iL (l pos _ s σ H _ I h) λU s1 Z=>by let(G,T,i,r,q):=Z;exact(i.qC,NR M F g v y adg i r λx L a b c=>z (.A x::G) _ _ _ (by let q:=q x L a b c;rw[aV]at q;rwa[q]))) (cA d.1) (fB d.2)) n)]
def og(e:Î×Â):Ä:=strOf e.2
def kD(P:ci)(w:cc)(h:È)(a:À)(ws:ϐ):ß:=∃(o:Ø)(e:Array _)(E:Ń)(t:e9),h.get? a=O o/\o.ExactSet/\o.data=.set e E t/\ElemsOf (Ú P w) e.toList/\(e.toList.map og).Perm ws/\ws.Nodup/\e.size<scanBound/\t.fits e.size=J/\(w.params.followText "set-order"=a5->t.led=J/\(e.size≠0->t.plain=a5))
def oY(ws:ϐ)(x:Ä):ϐ:=if x∈ws then ws else ws++[x]
def IB(t:e9)(n:Ń):(t.orStandIn n).led=t.led:=by delta SetTable.orStandIn;split<;>rfl
def Dz(t:e9)(es:Array _)(h:Î)(x:Â):(layNew t es h x).2.1.led=t.led:=by
 delta layNew;split;.rw[IB];rfl
 .rfl
def D4{t:e9}{os:Array Ń}(h:t.relaid hs n=O (t',os)):t'.led=t.led/\t'.plain=t.plain:=by delta SetTable.relaid SetTable.laid at h;induction H:SetTable.layClean _ hs with|a=>rw[H]at h;cases h|c ow=>rw[H]at h;cases h;exact(Ŗ,Ŗ)
def Ir(t:e9)(es:Array _)(n:Ń):(relayAll t es n).2.1.led=t.led/\(t.plain=a5->(relayAll t es n).2.1.plain=a5):=by
 delta relayAll;split
 .ext T os e;let:=D4 e;dsimp only;split;.exact(this.1,λh=>this.2.trans h)
  .exact(Ŗ,λ_=>Ŗ)
 .exact(Ŗ,λ_=>Ŗ)
def yU(u:ElemsOf (Ú P w) es)(h:e∈es):∃t,e.2=.str (og e) t:=by obtain⟨⟨k,H,_⟩,_⟩:=u e h;let(t,a):=x6 H;exact(t,by delta og;rw[a];rfl)
def xk(u:ElemsOf (Ú P w) es)(x:Ä):(∃e∈es,(Ú P w).is x e.2=J)↔x∈es.map og:=by
 constructor;.rintro⟨e,H,p⟩;let(t,a):=x6 p;erw[cx.mpr (e,H,?_)];delta og;rw[a];rfl
 .intro h;let(e,H,rfl):=cx.mp h;let(t,a):=yU u H;exact(e,H,by rw[a];rwa[nW P w _ t])
def stored{s:be}(b:s.heap.get? a=O o)(hex:o.ExactSet)(h:o.data=.set es ep t)(u:ElemsOf (Ú P w) n.toList)(p:(n.toList.map og).Perm ws)(N:ws.Nodup)(c:n.size<scanBound)(f:T.fits n.size)(l:w.params.followText "set-order"=a5->T.led/\(n.size≠0->T.plain=a5)):(s.heap.update a (ú n T)).get? a=O {o with data:=.set n (ep+1) T}/\kD P w (s.heap.update a (ú n T)) a ws:=by
 let H:=by let q:=bE (ú n T) b (by rw[putSet_of n T h];rfl);rw[putSet_of n T h]at q;rwa[q]
 exact(H,_,n,_,T,H,hex,Ŗ,u,p,N,c,f,l)
def JS{E:dC}(hS:kD P w s.heap a ws)(akr:Á ws+1<scanBound)(h:∀(b:Þ)(h':È),Û a s.heap h'->kD P w h' a (oY ws x)->Q b {s with heap:=h'}):bn (b' P w) A (setAddHashed a (.str x k) ((Ú P w).hash x)) Q E s:=by
 let(o,c,ep,t,i,hex,l,u,m,nd,hb,I,K):=hS;let AQ:=nW P w x k;let hlen:c.size=Á ws:=by rw[<-m.length_eq,ae,b5]
 delta setAddHashed setAddHashedIn;erw[b7 (aa (fH i l I ?_))];dsimp only;rw[byScan_of (x:=.str x k) Ŗ hb u];simp only[↓reduceIte];delta setAddByScan;erw[aa (aa (jv (aa (wpAny_setScan_of AQ i l I u ?_))))];induction hr:List.findIdx? (λe=>(Ú P w).is x e.2) c.toList with|c j=>dsimp only;let(hj,M,_):=List.findIdx?_eq_some_iff_getElem.mp hr;let d:x∈ws:=m.mem_iff.mp ((xk u x).mp (_,eW hj,M));erw[ai (ai ?_)];let q:=h a5 s.heap (Heap.SameBut.refl a s.heap) (o,c,ep,t,i,hex,l,u,by delta oY;rw[b9 d];rwa[m],by delta oY;rw[b9 d];rwa[nd],hb,I,K);rwa[q]|a=>
  dsimp only;let d:x∉ws:=λd=>by let(e,he,hp):=(xk u x).mpr (m.mem_iff.mpr d);let:=List.findIdx?_eq_none_iff.mp hr e he;rw[hp]at this;cases this
  let ei:oY ws x=ws++[x]:=by delta oY;rw[bS d]
  rw[ei]at h;let N:(ws++[x]).Nodup:=dg.mpr (nd,⋯,λy hy z hz=>by rw[aB]at hz;subst hz;rwa[λe=>d (e▸hy)]);let p:=layNew_perm t c ((Ú P w).hash x) (.str x k);let H:=layNew_fits t c ((Ú P w).hash x) (.str x k);let G:=Dz t c ((Ú P w).hash x) (.str x k);generalize layNew t c ((Ú P w).hash x) (.str x k)=L at p H G⊢;let(n,t1,OI,ams):=L;dsimp only at p H G⊢;rw[Array.toList_push]at p;let v:ElemsOf (Ú P w) n.toList:=(u.push AQ Ŗ).perm p;let W:(n.toList.map og).Perm (ws++[x]):=(p.map og).trans (by rw[aD];rwa[m.append (vU _)]);let ant:n.size=Á ws+1:=by rw[<-b5,<-ae (f:=og),W.length_eq,aj];rfl
  let B:n.size<scanBound:=()
  let gw:∀(b:Þ){s₁:be}{U:Unit->be->ß},U ⟨⟩ s₁->bn (b' P w) A (match b with|J=>rule "set.scan.the-table-gave-way"|a5=>pure ⟨⟩) U E s₁:=λb s₁ U hq=>by
   induction b;.rwa[ai hq]
   .rwa[jv hq]
  erw[aa (gw _ ?_)];let tail:∀T:e9,T.fits n.size=J->T.led=t.led->T.plain=a5->bn (b' P w) A (do storeSet a n T if(!OI&&T.tooFull)=J then do(match(relayAll T n (ó n.size)).2.2 with|J=>rule "set.scan.the-table-gave-way"|a5=>pure ⟨⟩)storeSet a (relayAll T n (ó n.size)).1 (relayAll T n (ó n.size)).2.1pure (O J)else pure (O J)) (λr S=>∃h',r=O J/\S={s with heap:=h'}/\Û a s.heap h'/\kD P w h' a (ws++[x])) E s:=by
   intro T X Yz O4;erw[aa (wpAny_storeSet_of i l ?_ (B0 B))];let(Lm,Y):=stored i hex l v W N B X λz=>(Yz.trans (K z).1,λ_=>O4);let C:=cj s.heap a (ú n T);split
   .let Ru:=relayAll_perm T n (ó n.size);let mD:=relayAll_fits T n (ó n.size);let g:=Ir T n (ó n.size);generalize relayAll T n _=R at Ru mD g⊢;let(D,t3,ajY):=R;let Jn:D.size=n.size:=by rw[<-b5,Ru.length_eq,b5]
    let VA:D.size<scanBound:=()
    erw[aa (gw _ ?_)];erw[aa (wpAny_storeSet_of Lm Ŗ ?_ (B0 VA))];let(_,Z):=stored (s:={s with heap:=s.heap.update a _}) Lm hex rfl (v.perm Ru) ((Ru.map _).trans W) N VA mD λz=>(g.1.trans (Yz.trans (K z).1),λ_=>g.2 O4);rwa[ai (_,Ŗ,Ŗ,C.trans (cj _ a _),Z)]
   .rwa[ai (_,Ŗ,Ŗ,C,Y)]
  let F:∀(r:Ő _)(S:be),(∃h',r=O J/\S={s with heap:=h'}/\Û a _ h'/\kD P w h' a _)->∃h',r=O _/\S={s with heap:=h'}/\Q J _:=λr S zz=>(by let(h',e1,e2,e3,e4):=zz;exact(h',e1,e2,h _ h' e3 e4));split;.erw[aa ?_];erw[ai (cZ (tail _ (SetTable.fits_plain_off H) G Ŗ) (λr S z=>?_) λ_ _ e=>e)];let(h',rfl,rfl,q):=F r S z;rwa[ai q]
  .ext dY;erw[cZ (tail t1 H G (bF.mpr dY)) (λr S z=>?_) λ_ _ e=>e];let(h',rfl,rfl,q):=F r S z;rwa[ai q]
def dO(l:ϐ):ϐ:=l.foldl oY []
def CM(l:ϐ)(x:Ä):dO (l++[x])=oY (dO l) x:=by delta dO;rw[List.foldl_append];rfl
def C9(h:ws.Nodup)(x:Ä):(oY ws x).Nodup:=by
 delta oY;split;.rwa[h]
 .ext a;rwa[dg.mpr (h,⋯,λy b z H=>by rw[aB]at H;subst H;rwa[λe=>a (e▸b)])]
def LA:y∈oY ws x↔y∈ws\/y=x:=by
 delta oY;split;.left
 .rw[bu,aB]
def iS(l:ϐ):(dO l).Nodup/\∀y,y∈dO l↔y∈l:=by
 suffices h:∀(l:ϐ)(ws:ϐ),ws.Nodup->(l.foldl _ ws).Nodup/\∀y,y∈l.foldl _ ws↔y∈ws\/y∈l by let(a,b):=h l [] hU;exact(a,λy=>(b y).trans ⋯)
 intro l;induction l with|f=>intro ws h;exact(h,λy=>⋯)|g x r i=>intro ws h;let(a,b):=i _ (C9 h x);exact(a,λy=>(b y).trans (by rw[LA,aw,or_assoc]))
def kD.at(H:kD P w h a ws)(k:∀o,h.get? a=O o->h'.get? a=O o):kD P w h' a ws:=by let(o,e,E,t,b,r):=H;exact(o,e,E,t,k o b,r)
def Hu{R:Result->be->ß}{I S l:À}{B:Array Â}{xs:ϐ}(W:Walks P w A.in1 I [I,l] [I] B.size (λi v=>B[i]?=O v) λi h=>h.IsListIter I l i/\h.IsList l B)(H:S≠I)(C:S≠l)(D:∀(i:Ń)(v:Â),B[i]?=O v->∃x t,xs[i]?=O x/\v=.str x t)(hn:Á xs=B.size)(F:∀i,Á (dO (xs.take i))+1<scanBound):∀(k i:Ń)(s:be),B.size-i=k->i<=B.size->s.heap.IsListIter I l i/\s.heap.IsList l B->kD P w s.heap S (dO (xs.take i))->(∀(h':È)(T:Ń),(∀b o,b≠S->b≠I->s.heap.get? b=O o->h'.get? b=O o)->kD P w h' S (dO xs)->R (.ok (.ret .none)) {s with heap:=h',toks:=T})->fm (b' P w) A (.builtin "set.update.loop" ([.ref S,.ref I],[])) R s:=by
 intro k;induction k with|h=>
  intro i s G L st f q;obtain rfl:i=B.size:=()
  erw[dH ζ ?_];rw[lB qF _];show bn _ A.in1 (em (.ref I)>>=_) _ _ s;erw[aa (W.done s _ _ st λh' T K=>?_)];show bn _ A.in1 (ret Ó) _ _ _;let e:dO (xs.take B.size)=dO xs:=by rw[<-hn,fU]
  rwa[ai (q h' T (λb o _ j g=>K b o (by simp[j]) g) (e▸f.at λo g=>K S o (by simp[H]) g))]|j k N=>
  intro i s G L st f q;let M:i<B.size:=()
  erw[dH ζ ?_];rw[lB qF _];show bn _ A.in1 (em (.ref I)>>=_) _ _ s;erw[aa (W.item i s _ _ M st λv h' T Q U K=>?_)];let(x,t,m,rfl):=D i v Q;let n:kD P w h' S (dO (xs.take i)):=f.at λo g=>K S o (by simp[H]) g;show bn _ A.in1 (holding [ù x t] (setAdd S (.str x t))>>=_) _ _ _;erw[aa (b7 ?_)];delta setAdd;erw[b7 (aa ((Ú P w).pyHash (k:=x) (nW _ _ _ _) ?_))];erw[JS (s:={s with heap:=h',toks:=T+1}) n (F i) λb Y z p=>?_];let e:dO (xs.take (i+1))=oY (dO (xs.take i)) x:=by rw[pj,m];rwa[CM _ _]
  erw[ai (gM qF _,N (i+1) _ () M (W.frame _ _ _ U λc Z o g=>?_) (e▸p) λX r u y=>?_)];.rw[z.2 c (by grind)];rwa[g]
  .erw[q X r (λc o a d g=>u c o a d ?_) y];rw[z.2 c a];rwa[K c o (by simp[d]) g]
def R9{E:dC}(a:Â){Q₁:dC}(h:Q₁ (.ref s.heap.objs.size) {s with heap:=s.heap.push {cls:=.type "set",dict:=ao,data:=.set #[] 0 (.fresh 0 0 !w.params.followText "set-order")}}):fm (b' P w) A (.call (.builtin "set.__new__") ([.type "set",a],[])) (wants Q₁ E) s:=by erw[codeAny_of_tree ?_];show bn _ A.in1 (do checkBuiltinCall "set.__new__" ([.type "set",a],[]);again _) _ _ s;erw[aa (pq (F.newCall_set_1 a) (ai (gM F.plain_set_new _,dH F.entry_set_new ?_)))];let H:=sub_set_self;wp_walk;rwa[kx (ai (aa (wpAny_alloc (ai (ai h)))))]
section
variable{P:ci}{w:cc}{A:cr}{E:dC}{s:be}
def N3{x:Â}{Q:dC}(d:bn (b' P w) A.in1.in1 (Builtin.«set.__init__» ([.ref s.heap.objs.size,x],[])) (λn s'=>match n with|.done f=>wants (λr S=>r=.none/\Q (.ref s.heap.objs.size) S) E (.ok f) s'|.again C=>C.quiet=J/\fm (b' P w) A.in1 C (wants (λr S=>r=.none/\Q (.ref s.heap.objs.size) S) E) s') (λe s'=>wants (λr S=>r=.none/\Q (.ref s.heap.objs.size) S) E (.error e) s') {s with heap:=s.heap.push {cls:=.type "set",dict:=ao,data:=.set #[] 0 (.fresh 0 0 !w.params.followText "set-order")}}):bn (b' P w) A (call (.type "set") [x]) Q E s:=by
 let t:=F.called_set;let(c,l,b):=t.mro;let k:=t.made;let j:=t.sub;let h1:=t.notType;let h2:=t.canCreate;let H:=F.typeCall_set_1 x;erw[sx (codeAny_of_tree (show bn _ _ (callAny (.type "set") _) _ _ _ from ai (Code.quiet_builtin _ ∅,dH F.entry_type_call ?_)))];rw[Around.under_plain (weight_type_call_type "set" [x] []) Ŗ];repeat(any_goals(first|assumption|wp_step))
 erw[dU (R9 (P:=P) (w:=w) x (E:=E) (Q₁:=λo a=>o=.ref s.heap.objs.size/\a={s with heap:=s.heap.push {cls:=.type "set",dict:=ao,data:=.set #[] 0 (.fresh 0 0 !w.params.followText "set-order")}}) (Ŗ,Ŗ)) λr a h=>?_];match r,h with
 |.error e,h=>rwa[h]|.ok (.ret o),h=>
  let(rfl,rfl):=h;let T:Shared.TypeIs {s with heap:=s.heap.push {cls:=.type "set",dict:=ao,data:=.set #[] 0 (.fresh 0 0 !w.params.followText "set-order")}} (.ref s.heap.objs.size) "set":=(_,ax _ Ŗ,Ŗ);let i:=t.init.lookup;let g:=t.init.bind (.ref s.heap.objs.size);repeat(any_goals(first|assumption|wp_step))
  erw[dU (vV t.init.plain F.entry_set_init (check_set_init_1 T d)) λR S m=>?_];match R,m with|.error e,m=>rwa[m]|.ok (.ret u),m=>let(rfl,q):=m;repeat(any_goals(first|assumption|wp_step))|.ok .next,m=>rwa[m.elim]|.ok .brk,m=>rwa[m.elim]|.ok .cont,m=>rwa[m.elim]
 |.ok .next,h=>rwa[h.elim]|.ok .brk,h=>rwa[h.elim]|.ok .cont,h=>rwa[h.elim]
def zG{Q:dC}(r:A.handled=ao)(u:s.heap.IsList l bT)(B:∀(i:Ń)(v:Â),bT[i]?=O v->∃x t,xs[i]?=O x/\v=.str x t)(hn:Á xs=bT.size)(C:∀i,Á (dO (xs.take i))+1<scanBound)(h:∀(h':È)(T:Ń),kD P w h' s.heap.objs.size (dO xs)->(∀b o,s.heap.get? b=O o->h'.get? b=O o)->Q (.ref s.heap.objs.size) {s with heap:=h',toks:=T}):bn (b' P w) A (call (.type "set") [.ref l]) Q E s:=by
 erw[N3 ?_];generalize f:({cls:=.type "set",dict:=ao,data:=.set #[] 0 (.fresh 0 0 !w.params.followText "set-order")}:Ø)=o;let D:(s.heap.push o).get? s.heap.objs.size=O o:=ax _ (by rw[<-f];rfl);let j:kD P w (s.heap.push o) s.heap.objs.size (dO (xs.take 0)):=by
  erw[(o,#[],0,.fresh 0 0 !w.params.followText "set-order",D,by rw[<-f];exact(Ŗ,Ŗ,Ŗ),by rw[<-f],λe K=>by simp at K,?_,?_,∅,by rfl,λz=>(?_,λy=>Ă Ŗ y))];.rwa[vU _]
  .rwa[hU]
  .show(!w.params.followText "set-order")=J;rw[z];rfl
 let(ol,d,H,N,a):=u;let k:=af o d;let L:(s.heap.push o).IsList l bT:=(_,k,H,N,a);let S:l<s.heap.objs.size:=ay d;let n:(s.heap.push o).objs.size=s.heap.objs.size+1:=jr _ _;let(oc,X,M,Y):=ol;simp only at H a;subst H;subst a;let e1:=F.sub_list_set;let e2:=F.sub_list_frozenset;let Z:(ã "list"==ã "dict")=false:=∅
 let R:l≠(s.heap.push o).objs.size:=by rw[n];rwa[aR (fG S)]
 let U:s.heap.objs.size≠(s.heap.push o).objs.size:=by rw[n];rwa[aR (fW _)]
 subst f;delta Builtin.«set.__init__» noKeywords;delta Builtin.Frozenset.updateFrom;generalize I:pyIter=PI;wp_walk;subst I;erw[B2 L ?_];erw[aa (vW ?_)];let m:A.in1.in1.in1.handled=none:=by simp[r]
 erw[Hu (P:=P) (w:=w) (A:=A.in1.in1) (xs:=xs) (Walks.list m _ l R bT) U (eR S) B hn C (bT.size-0) 0 _ rfl (aP _) ((_,ax _ Ŗ,Ŗ,Ŗ),L.push _) (j.at λq g=>af _ g) λh' T W p=>?_];show bn _ _ _ _ _ _;erw[ai ?_];show bn _ _ (ret Ó) _ _ _;erw[ai (Ŗ,h h' T p λc q g=>?_)];let G:=ay g;rwa[W c q (aR G) (by rw[n];rwa[aR (fG G)]) (af _ (af _ g))]
def g9:Slot "set_iterator" "__next__" "set_iterator.__next__":=by
 erw[.of (owner:="set_iterator") (n:="__next__") ?_ ?_ ?_ ?_ ?_ ?_];.kernel_rfl
 .rfl
 .rfl
 .rfl
 .first|rwa[.inl (by rfl)]|lia
 .rfl
def ql:entryFor table "set_iterator.__next__"=O Builtin.«set_iterator.__next__»:=GP Ŗ
def ud(a:Â):argsOk "set_iterator.__next__" ([a],[]):=by rfl
def nB:entryFor table "set.__iter__"=O Builtin.«frozenset.__iter__»:=by
 erw[entryFor_alias (id':="frozenset.__iter__") ?_ Ŗ ?_ ?_];.kernel_rfl
 .decide+kernel
 .kernel_rfl
def Ai(h:È)(I a:À)(first:Â)(i n ep:Ń):ß:=∃o,h.get? I=O o/\o.cls=.type "set_iterator"/\o.data=.fields #[first,.int i 0,.ref a,.int n 0,.int ep 0]
def Ai.typeIs(h:Ai s.heap I a first i n ep):s.TypeIs (.ref I) "set_iterator":=let (o,H,c,_):=h;(o,H,c)
def Gy{slot nx:Ń}(hit:Ai s.heap I a (.int slot 0) i n ep)(h:s.heap.get? a=O o)(H:o.data=.set es ep t)(f:t.fits es.size)(hn:es.size=n)(x:∀(c:cr)(e:dC)(b:Ő _->be->ß),b (O (v,nx)) s->bn (b' P w) c (setNext a slot i ep) b e s)(q:∀h',Ai h' I a (.int nx 0) (i+1) n ep->Û I s.heap h'->Q (O v) {s with heap:=h'}):bn (b' P w) A (em (.ref I)) Q E s:=by let(oI,F,d,N):=id hit;erw[aa (fP (bV hit.typeIs g9 (bW g9 hit.typeIs ql ?_ (ud _))))];erw[aa (ai ?_)];erw[aa (jU F N ?_)];erw[aa (fT h H f ?_)];rw[bS (by rw[hn];simp)];erw[aa (x _ _ _ ?_)];erw[aa (cK F N ⋯ ?_)];let g:=bE (à (·.setIfInBounds 0 (ed nx))) F (cX (bN N _));let d1:=bN N (·.setIfInBounds 0 (ed nx));erw[aa (cK g d1 ⋯ ?_)];erw[ai (v,Ŗ,ai (q _ (_,(bE (à (·.setIfInBounds 1 (ed (i+1)))) g (cX (bN d1 _))),(jQ ..).trans ((jQ ..).trans d),?_) ((cj ..).trans (cj ..))))];rw[(bN d1 (·.setIfInBounds 1 (ed (i+1))))];simp[ed]
def Ec{slot:Ń}(h:A.handled=ao)(hit:Ai s.heap I a (.int slot 0) i n ep)(H:s.heap.get? a=O o)(d:o.data=.set es ep t)(f:t.fits es.size)(hn:es.size=n)(x:∀(c:cr)(e:dC)(b:Ő (Â×Ń)->be->ß),b ao s->bn (b' P w) c (setNext a slot i ep) b e s)(q:∀h',è I s.heap h'->Q ao {s with heap:=h'}):bn (b' P w) A (em (.ref I)) Q E s:=by let(oI,F,g,N):=id hit;delta em;erw[aa (fP (bV (name:=ê "__next__") hit.typeIs g9 (bW g9 hit.typeIs ql ?_ (ud _))))];delta Builtin.«set_iterator.__next__»;erw[aa (ai (aa (jU F N ?_)))];erw[aa (fT H d f ?_)];rw[bS (by rw[hn];simp)];erw[aa (x _ _ _ ?_)];erw[aa (cK F N ⋯ ?_)];erw[aa ?_];erw[aa (bU ?_ (by size_fits))];erw[aa (pq (a:=Ó) Ŗ ?_)];erw[bU ?_ (by size_fits)];erw[aa (pG ?_)];rw[h];erw[aa (ai (pA ?_))];rwa[aa (ij (_,ax _ Ŗ,Ŗ) nV (ai (q _ (((cj ..).extBut.push _).push _))))]
def Ua{k:Ń}(hit:Ai s.heap I a (.ref p) i n ep)(b:s.heap.get? a=O o)(d:o.data=.set es ep t)(f:t.fits es.size)(hn:es.size=n)(c:s.heap.IsTuple p ps)(e:ps[i]?=O (.int k T))(g:es[k]?=O (z,v))(q:∀h',Ai h' I a (.ref p) (i+1) n ep->Û I s.heap h'->Q (O v) {s with heap:=h'}):bn (b' P w) A (em (.ref I)) Q E s:=by let(oI,F,j,N):=id hit;let(m,h,l,mp,H):=c;erw[aa (fP (bV hit.typeIs g9 (bW g9 hit.typeIs ql ?_ (ud _))))];erw[aa (ai (aa (jU F N ?_)))];erw[aa (fT b d f ?_)];rw[bS (by rw[hn];simp)];erw[aa (dX h H ?_)];simp only[fD,e];erw[aa ?_];erw[aa (fH b d f ?_)];dsimp only;rw[bS ⋯];simp only[g];erw[ai ?_];erw[aa (cK F N ⋯ ?_)];erw[ai (v,Ŗ,ai (q _ (_,(bE (à (·.setIfInBounds 1 (ed (i+1)))) F (cX (bN N _))),(jQ ..).trans j,?_) (cj ..)))];rw[bN N];simp[ed]
def y_(b:A.handled=ao)(hit:Ai s.heap I a (.ref p) i n ep)(c:s.heap.get? a=O o)(d:o.data=.set es ep t)(f:t.fits es.size)(hn:es.size=n)(e:s.heap.IsTuple p ps)(k:ps[i]?=ao)(q:∀h',è I s.heap h'->Q ao {s with heap:=h'}):bn (b' P w) A (em (.ref I)) Q E s:=by let(oI,F,j,N):=id hit;let(l,h,g,mp,H):=e;delta em;erw[aa (fP (bV (name:=ê "__next__") hit.typeIs g9 (bW g9 hit.typeIs ql ?_ (ud _))))];delta Builtin.«set_iterator.__next__»;erw[aa (ai (aa (jU F N ?_)))];show bn _ _ (setEntries a>>=_) _ _ s;erw[aa (fT c d f ?_)];rw[bS (by rw[hn];simp)];show bn _ _ _ _ _ s;erw[aa (dX h H ?_)];simp only[fD,k];erw[aa (cK F N ⋯ ?_)];erw[aa (cK (bE (à (·.setIfInBounds 0 (ed 0))) F (cX (bN N _))) (bN N _) ⋯ ?_)];erw[aa ?_];simp only[newExc,newTuple];erw[aa (bU ?_ (by size_fits))];erw[aa (pq (a:=Ó) Ŗ ?_)];erw[bU ?_ (by size_fits)];erw[aa (pG ?_)];rw[b];erw[aa (ai (pA ?_))];rwa[aa (ij (_,ax _ Ŗ,Ŗ) nV (ai (q _ ((((cj ..).trans (cj ..)).extBut.push _).push _))))]
end
section
variable{P:ci}{w:cc}{A:cr}{E:dC}
def U2(hn:n≠0)(h:∀i,i<n->∀d,Q i {s with drawn:=d}):bn (b' P w) A (choose S n) Q E s:=by intro Γ p H;exact(hn,h _ (Nat.mod_lt _ (Nat.pos_of_ne_zero hn)) _)
theorem o7{α:Type}:∀{xs:Ł α}{i:Ń}{x:α},xs[i]?=O x->(x::xs.eraseIdx i).Perm xs|y::r,0,x,h=>by simp at h;subst h;rwa[vU _]|y::r,i+1,x,h=>by exact(List.Perm.swap y x _).trans ((o7 (by done)).cons y)
theorem BJ:∀(n:Ń)(xs:Ł α)(s:be){Q:Ł α->be->ß},Á xs=n->(∀ys d,ys.Perm xs->Q ys {s with drawn:=d})->bn (b' P w) A (drawOrder n xs) Q E s|0,xs,s,Q,H,h=>by obtain rfl:=θ.mp H;rwa[ai (h [] _ (vU _))]|n+1,[],s,Q,H,h=>by done|n+1,y::r,s,Q,H,h=>by erw[aa (U2 () λi a d=>?_)];obtain⟨x,b⟩:∃x,(y::r)[i]?=O x:=(_,av a);simp only[b];rwa[aa (BJ n _ _ (by rw[Ć,b9 a];simp at H⊢;rwa[‹_›]) λys D p=>ai (h _ D ((p.cons x).trans (o7 b))))]
theorem Gd(next:Ń->Ń):∀(f k:Ń)(left:Ł α)(out:Array α),Á left=f->((pickOrder.go next f k left out).toList).Perm (out.toList++left)|0,k,left,out,h=>by obtain rfl:=θ.mp h;delta pickOrder.go;simp|f+1,k,left,out,h=>by delta pickOrder.go;let i:next k%Á left<Á _:=Nat.mod_lt _ ();obtain⟨x,H⟩:∃x,left[next k%Á _]?=O x:=(_,av i);simp only[H];erw[(Gd _ f _ _ _ (by rw[Ć];lia)).trans ?_];rw[Array.toList_push,bA];rwa[List.Perm.append_left _ (o7 H)]
def xB(next:Ń->Ń)(xs:Array α):(pickOrder next xs).toList.Perm xs.toList:=by let:=Gd next xs.size 0 _ #[] rfl;delta pickOrder;simpa using this
def Gz:Slot "set_iterator" "__iter__" "set_iterator.__iter__":=by
 erw[.of (owner:="set_iterator") (n:="__iter__") ?_ ?_ ?_ ?_ ?_ ?_];.kernel_rfl
 .rfl
 .rfl
 .rfl
 .first|rwa[.inl (by rfl)]|lia
 .rfl
def wH:entryFor table "set_iterator.__iter__"=O Builtin.«dict_keyiterator.__iter__»:=by
 erw[entryFor_alias (id':="dict_keyiterator.__iter__") ?_ Ŗ ?_ ?_];.kernel_rfl
 .decide+kernel
 .kernel_rfl
def zH(a:Â):argsOk "set_iterator.__iter__" ([a],[]):=by rfl
def tE(P:ci)(w:cc)(A:cr)(I:À)(f:Ł À)(xs:ϐ)(Ç:Ń->È->ß):ß:=Walks P w A I f [I] (Á xs) (λi v=>∃x t,xs[i]?=O x/\v=.str x t) Ç
def zI{Q:dC}(hit:Ai s.heap I a first i n ep)(h:Q (.ref I) s):bn (b' P w) A (pyIter (.ref I)) Q E s:=by rwa[pz hit.typeIs Gz (bW Gz hit.typeIs wH (ai (_,Ŗ,_,_,hit.typeIs,g9.lookup,h)) (zH _))]
def Ai.at(x:Ai h I a first i n ep)(k:∀o,h.get? I=O o->h'.get? I=O o):Ai h' I a first i n ep:=let (o,H,r):=x;(o,k o H,r)
def xv(H:s.heap.get? a=O o)(d:o.data=.set es ep t)(f:t.fits es.size)(b:w.params.followText "set-order"=J)(h:Q ((pickOrder (w.params.setOrder a ep) es)[i]?.map λe=>(e.2,slot)) s):bn (b' P w) A (setNext a slot i ep) Q E s:=by erw[aa (fH H d f ?_)];erw[eN (λ_=>?_) λz=>Ă b z];rw[bS ⋯];rwa[aa (aa (fH H d f (aa (aa (kx (ai (eN (λ_=>aa (kx (ai (ai h)))) λz=>Ă b z)))))))]
def vn{s:be}{a:À}{i ep slot:Ń}{o:Ø}{es:Array _}{t:e9}{Q:Ő _->be->ß}(H:s.heap.get? a=O o)(d:o.data=.set es ep t)(f:t.fits es.size)(b:w.params.followText "set-order"=a5)(l:t.led)(hs:es.size<=1)(h:Q (match es[õ t.place slot]?,t.place[õ t.place slot]? with|O (Prod.mk _ x),O j=>O (Prod.mk x (j+1))|_,_=>ao) s):bn (b' P w) A (setNext a slot i ep) Q E s:=by
 erw[aa (fH H d f ?_)];erw[eN (λz=>Ă (b.symm.trans z) ∅) λ_=>?_];erw[eN (λz=>Ă z ?_) λ_=>?_];.show ¬(!t.plain&&Đ _)=J;rw[cq (),Pe];decide
 erw[aa ?_];show bn _ _ (if(!t.led&&!es.isEmpty)=J then unsupported _ else pure Unit.unit) _ _ _;rw[l];rwa[ai (ai h)]
def vc{Q:dC}(H:s.heap.get? a=O o)(hex:o.ExactSet)(d:o.data=.set es ep t)(f:t.fits es.size)(b:w.params.followText "set-order"=J\/es.size<=1)(h:Q (.ref s.heap.objs.size) {s with heap:=s.heap.push {cls:=.type "set_iterator",data:=.fields #[.int 0 0,.int 0 0,.ref a,.int es.size 0,.int ep 0]}}):bn (b' P w) A (pyIter (.ref a)) Q E s:=by
 let T:s.TypeIs (.ref a) _:=(o,H,hex.1);erw[pz T tj (bW tj T nB ?_ (F.args_set_iter_1 _))];show bn _ _ (Builtin.Frozenset.sizeOf a>>=_) _ _ s;erw[aa ?_];erw[aa (fT H d f (ai ?_))];erw[aa ?_];erw[aa (fH H d f ?_)];erw[aa (aa (kx (ai (ai ?_))))];erw[eN (λz=>Ă z ?_) λ_=>aa (ai ?_)]
 .show ¬(!w.params.followText _&&(!t.plain&&Đ _))=J;rcases b with b|b;.rw[b];rwa[aJ]
  .rw[cq (),Pe,Pe];decide
 rwa[aa (wpAny_setEpoch_of H d f (aa (bU (ai (_,Ŗ,_,_,(_,ax _ Ŗ,Ŗ),g9.lookup,h)))))]
def Dh{s:be}{Q:dC}(H:s.heap.get? a=O o)(hex:o.ExactSet)(b:o.data=.set es ep t)(f:t.fits es.size)(hz:es.size<=Ã)(c:w.params.followText "set-order"=a5)(hs:1<es.size)(p:t.plain=a5)(h:∀(ys:Ϙ)(d:Drawn),ys.Perm (á es.size)->Q (.ref (s.heap.objs.size+1)) {s with heap:=(s.heap.push {cls:=.type "tuple",data:=.seq (ys.map λi=>ed (i:Ń)).toArray}).push {cls:=.type "set_iterator",data:=.fields #[.ref s.heap.objs.size,.int 0 0,.ref a,.int es.size 0,.int ep 0]},drawn:=d}):bn (b' P w) A (pyIter (.ref a)) Q E s:=by let T:s.TypeIs (.ref a) _:=(o,H,hex.1);erw[pz T tj (bW tj T nB ?_ (F.args_set_iter_1 _))];show bn _ _ (Builtin.Frozenset.sizeOf a>>=_) _ _ s;erw[aa ?_];erw[aa (fT H b f (ai ?_))];erw[aa ?_];erw[aa (fH H b f ?_)];erw[aa (aa (kx (ai (ai ?_))))];erw[eN (λ_=>?_) λz=>Ă (show(!w.params.followText _&&(!t.plain&&Đ _))=J by rw[c,p,cJ hs];rfl) z];erw[aa (BJ _ _ s eL λys d Y=>?_)];erw[aa (Pk ?_ (by rw[ae,Y.length_eq,eL];rwa[hz]))];erw[aa (wpAny_setEpoch_of (s:={s with heap:=s.heap.push _,drawn:=d}) (af {cls:=.type "tuple",data:=.seq (ys.map λi=>ed (i:Ń)).toArray} H) b f ?_)];let hq:=h ys d Y;rw[<-jr _ _]at hq;rwa[aa (bU (ai (_,Ŗ,_,_,(_,ax _ Ŗ,Ŗ),g9.lookup,hq)))]
def Ci(p:Ń):õ #[p] 0=0:=rfl
def Cj(p:Ń):õ #[p] (p+1)=1:=by delta õ;simp[SetTable.below.go]
def IU(p:A.handled=ao)(K:a≠I)(H:o.data=.set es ep t)(u:ElemsOf (Ú P w) es.toList)(f:t.fits es.size)(l:w.params.followText "set-order"=J):tE P w A I [I,a] ((pickOrder (w.params.setOrder a ep) es).toList.map og) λi h=>Ai h I a (.int 0 0) i es.size ep/\h.get? a=O o where
 sub:=λb l=>nofun
 frame:=λi h c st k=>(st.1.at λd e=>k I ⋯ d e,k a ⋯ o st.2);item:=λi s Q E n st m=>by rw[ae]at n;obtain⟨e,j⟩:∃e,(pickOrder _ es)[i]?=O e:=(_,d9 n);let(r,v):=yU u ((xB _ es).mem_iff.mp (by rw[<-c9]at j;rwa[aL j]));rwa[Gy (slot:=0) st.1 st.2 H f rfl (λx y z q=>xv st.2 H f l (by rw[j];rwa[q])) λc W S=>m e.2 c _ (_,r,by rw[aN,c9,j];rfl,v) (W,by rw[S.2 a K];rwa[st.2]) λb d T g=>by rw[S.2 b (by simpa using T)];rwa[g]]
 done:=λs Q E st m=>by erw[Ec (slot:=0) p st.1 st.2 H f rfl (λx y z q=>xv st.2 H f l ?_) λc ex=>m c _ λb d T g=>ex b d (by simpa using T) g];rw[ae,b5,gi (ah _)];rwa[q]
 self:=λi s Q E st h=>zI st.1 h
def OH(u:A.handled=ao)(K:a≠I)(f:o.data=.set es ep t)(U:ElemsOf (Ú P w) es.toList)(H:t.fits es.size)(j:w.params.followText "set-order"=a5)(n:t.led)(hs:es.size<=1):tE P w A I [I,a] (es.toList.map og) λi h=>Ai h I a (.int (if i=0 then 0 else((t.place.getD 0 0+1:Ń):Î)) 0) i es.size ep/\h.get? a=O o where
 sub:=λb j=>by simp at j;simp[j]
 frame:=λi h c st k=>(st.1.at λl e=>k I ⋯ l e,k a ⋯ o st.2);item:=λi s Q E x st r=>by
  rw[ae,b5]at x;obtain rfl:i=0:=()
  let G:t.place.size=1:=by simp only[SetTable.fits,aM,su]at H;lia
  obtain⟨p,D⟩:∃p,t.place=#[p]:=aeH.mp G;obtain⟨e,m⟩:∃e,es[0]?=O e:=(_,d9 x);let L:e∈es.toList:=by rw[<-c9]at m;rwa[aL m]
  let(M,N):=yU U L;let d:Ai s.heap I a (.int ((0:Ń):Î) 0) 0 es.size ep:=st.1;erw[Gy (nx:=p+1) (v:=e.2) d st.2 f H rfl (λy z B q=>vn st.2 f H j n hs ?_) λc W S=>?_];.rw[D,Ci,m];rwa[q]
  erw[r e.2 c s.toks (og e,M,by rw[aN,c9,m];rfl,N) (?_,by rw[S.2 a K];rwa[st.2]) λb l T g=>by rw[S.2 b (by simpa using T)];rwa[g]]
  rw[D];rwa[W]
 done:=λs Q E st r=>by
  rw[ae,b5]at st;let R:=by simp only[SetTable.fits,aM,su]at H;rwa[H.1]
  let F:∀c,è I _ c->Q _ {s with heap:=c}:=λc ex=>r c _ λb l T g=>ex b l (by simpa using T) g;by_cases C:es.size=0;.rw[b9 C]at st;erw[Ec u st.1 st.2 f H rfl (λy z B q=>vn st.2 f H j n hs ?_) F];rw[gi ()];rwa[q]
  .rw[bS C]at st;obtain⟨p,D⟩:∃p,t.place=#[p]:=aeH.mp ();let d:Ai s.heap I a (.int (p+1:Ń) 0) es.size es.size ep:=by let:=st.1;rw[D]at this;rwa[this]
   erw[Ec u d st.2 f H rfl (λy z B q=>vn st.2 f H j n hs ?_) F];rw[D,Cj,gi (aq ‹_› ⋯)];rwa[q]
 self:=λi s Q E st h=>zI st.1 h
def EF{ys:Ϙ}(q:A.handled=ao)(K:a≠I)(D:p≠I)(l:o.data=.set es ep t)(u:ElemsOf (Ú P w) es.toList)(m:t.fits es.size)(Y:ys.Perm (á es.size)):tE P w A I [I,a,p] (ys.map λk=>og (es.getD k (0,.none))) λi h=>Ai h I a (.ref p) i es.size ep/\h.get? a=O o/\h.IsTuple p (ys.map λi=>ed (i:Ń)).toArray where
 sub:=λb y=>nofun
 frame:=λi h H st k=>(st.1.at λc e=>k I ⋯ c e,k a ⋯ o st.2.1,let (c,F,r):=st.2.2;(c,k p ⋯ c F,r));item:=λi s Q E n st f=>by
  rw[ae]at n;obtain⟨k,j⟩:∃k,ys[i]?=O k:=(_,av n);obtain⟨e,d⟩:∃e,es[k]?=O e:=(_,d9 (List.mem_range.mp (Y.mem_iff.mp (aL j))));let(v,x):=yU u (by rw[<-c9]at d;rwa[aL d]);erw[Ua st.1 st.2.1 l m rfl st.2.2 (by rw[fk,aN,j];rfl) (by rw[d]) λH W S=>?_];erw[f e.2 H _ (_,v,?_,x) (W,by rw[S.2 a K];rwa[st.2.1],?_) λb c T g=>by rw[S.2 b (by simpa using T)];rwa[g]]
  .rw[aN,j];show O (og _)=_;rw[mI,d];rfl
  .let(c,F,r):=st.2.2;exact(c,by rw[S.2 p D];rwa[F],r)
 done:=λs Q E st f=>by rwa[y_ q st.1 st.2.1 l m rfl st.2.2 (by rw[fk,aN,ae,cW (ah _)];rfl) λH ex=>f H _ λb c T g=>ex b c (by simpa using T) g]
 self:=λi s Q E st h=>zI st.1 h
end
section
variable{P:ci}{w:cc}{A:cr}{E:dC}{s:be}
def La(es:Array _):((á es.size).map λk=>og (es.getD k (0,.none)))=es.toList.map og:=by
 let e:es.toList=(á es.size).map λk=>es.getD k (0,.none):=by erw[List.ext_getElem ⋯ λi h H=>?_];rw[List.getElem_map,List.getElem_range,mI,d9 h];simp
 rw[e,bB];rfl
def N4{Q:dC}(i:A.handled=ao)(S:kD P w s.heap a ws)(h:∀(I:À)(F:Ł _)(xs:ϐ)(Ç:Ń->È->ß)(h':È)(d:Drawn),tE P w A I F xs Ç->Ç 0 h'->xs.Perm ws->(∀b o,s.heap.get? b=O o->h'.get? b=O o)->s.heap.objs.size<=I->(∀b∈F,b=a\/s.heap.objs.size<=b)->Q (.ref I) {s with heap:=h',drawn:=d}):bn (b' P w) A (pyIter (.ref a)) Q E s:=by let(o,l,p,t,H,hex,c,u,q,N,j,f,L):=S;let ha:=ay H;induction e:w.params.followText _ with
 |d=>
  erw[vc H hex c f (.inl e) (h _ _ _ _ _ _ (IU i (aR ha) c u f e) ((_,ax _ Ŗ,Ŗ,Ŗ),af _ H) (((xB _ l).map _).trans q) (λb k g=>af _ g) (ah _) λb T=>?_)];simp only[aw,dQ,or_false]at T;rcases T with rfl|rfl;.rwa[.inr (ah _)]
  .rwa[.inl Ŗ]|e=>
  let(n,D):=L e;by_cases m:l.size<=1
  .erw[vc H hex c f (.inr m) (h _ _ _ _ _ _ (OH i (aR ha) c u f e n m) ((_,ax _ Ŗ,Ŗ,Ŗ),af _ H) q (λb k g=>af _ g) (ah _) λb T=>?_)];simp only[aw,dQ,or_false]at T;rcases T with rfl|rfl;.rwa[.inr (ah _)]
   .rwa[.inl Ŗ]
  .erw[Dh H hex c f (B0 j) e (Nat.not_le.mp ‹_›) (D ()) λy d Y=>?_];let G:∀o1 o2:Ø,o2.isFreed=a5->((s.heap.push o1).push o2).get? (s.heap.objs.size+1)=O o2:=λo1 o2 M=>by rw[<-(λk=>jr _ _) o1];rwa[ax _ M]
   erw[h _ _ _ _ _ d (EF i (aR (fG ha)) (aR (fW _)) c u f Y) ((_,G _ _ Ŗ,Ŗ,Ŗ),af _ (af _ H),(_,af _ (ax _ Ŗ),Ŗ,_,Ŗ)) (((Y.map _).trans (by rw[La])).trans q) (λb k g=>af _ (af _ g)) (bt _) λb T=>?_]
   .simp only[aw,dQ,or_false]at T;rcases T with rfl|rfl|rfl;.rwa[.inr (bt _)]
    .rwa[.inl Ŗ]
    .rwa[.inr (ah _)]
def Lg(H:s.TypeIs (.ref r) "set")(h:Q a5 s):bn (b' P w) A (Builtin.List.listLengthHint (.ref r)) Q E s:=by erw[aa (Jv H F.slot_set_len.lookup ?_)];generalize d:"set.__len__"=i;subst d;rwa[aa (ij H sub_set_self (eN (λz=>Ă z ∅) λ_=>eN (λ_=>aa (jV H (ai h))) λz=>Ă (by rfl) z))]
def wO(acc:Array Â)(xs:ϐ):ß:=acc.size=Á xs/\∀(j:Ń)(v:Â),acc[j]?=O v->∃x t,xs[j]?=O x/\v=.str x t
def Ea{R:Result->be->ß}{a S:À}{ws:ϐ}{g:Ń}(U:A.handled=ao)(D:kD P w s.heap a ws)(hn:Á ws<=Ã)(j:S≠a)(G:s.heap.get? S=O {cls:=.type "list",data:=.seq #[] g})(Y:∀(h':È)(t:Ń)(d:Drawn)(acc:Array Â)(c:Ń)(xs:ϐ),(∀b o,b≠S->s.heap.get? b=O o->h'.get? b=O o)->h'.get? S=O {cls:=.type "list",dict:=ao,data:=.seq acc c,slots:=#[]}->wO acc xs->xs.Perm ws->R (.ok (.ret (.ref S))) {s with heap:=h',toks:=t,drawn:=d}):bn (b' P w) A.in1 (ĉ (.ref S) (.ref a) (.ref S)) (λF s'=>match F with|.done f=>R (.ok f) s'|.again p=>p.quiet=J/\fm (b' P w) A p R s') (λe s'=>R (.error e) s') s:=by
 let L:s.TypeIs (.ref a) "set":=by let(o,_,_,_,q,hex,_):=D;exact(o,q,hex.1)
 let k:=ay G;delta ĉ;erw[aa (jV (T:="set") L ?_)];let Z:ć (.ref S) (.ref a)=false:=by simp[ć,j]
 simp only[Z,show(ã "set"==ã "list")=a5 by ext,show(ã "set"==ã "tuple")=a5 by ext,Bool.or_false,fi,jS];erw[aa (N4 (A:=A.in1) U D λI fp xs Ç X d W st M K N r=>?_)];let hSI:S≠I:=aR (bp k N);let l:S∉fp:=λz=>(r S z).elim j λy=>Ă k (da.mpr y);let x:Á xs<=Ã:=by rw[M.length_eq];rwa[hn]
 let key:∀(h:È)(C t:Ń),Ç 0 h->(∀b o,b≠S->s.heap.get? b=O o->h.get? b=O o)->h.get? S=O {cls:=.type "list",data:=.seq #[] C}->fm (b' P w) A (.builtin "list.extend.loop" ([.ref S,.ref I,.ref S],[])) R {s with heap:=h,toks:=t,drawn:=d}:=by
  intro h C t AU hk u;erw[codeAny_extend_loopS (Walks.toS W) x S l (.ref S) (Á xs) 0 {s with heap:=h,toks:=t,drawn:=d} #[] C rfl (aP _) AU u (ItemsOf.nil _) λs' W4 p Q v qY=>?_];rw[Moved.eq_with Q];erw[Y s'.heap s'.toks d W4 p xs (λb o H e=>Q.heap b o (λz=>?_) (hk b o H e)) v qY M];rcases aw.mp z with e'|z;.rwa[H e']
  .rw[aB]at z;rwa[Ă (ay e) (da.mpr (by rw[z];rwa[N]))]
 let i:=K S _ G;erw[aa (b7 (Lg (s:={s with heap:=X,drawn:=d}) (by let(o,q,hc):=L;exact(o,K a o q,hc)) ?_))];erw[eN (λ_=>?_) λ_=>ai (gM Va _,key _ g _ st (λb o _ e=>K b o e) i)];erw[aa (jv (aa ?_))];show bn _ _ (updateSeq S (·.push .none)>>=λ_=>updateSeq S (·.pop)) _ _ _;erw[aa (wpAny_updateSeq (s:={s with heap:=X,drawn:=d}) i Ŗ ?_)];let m:=bE (ë (·.push Ó)) i Ŗ;erw[wpAny_updateSeq (hz:=by seq_fits) m Ŗ ?_];let B:=bE (ë (·.pop)) m Ŗ;erw[ai (gM Va _,key _ _ _ (W.frame 0 _ _ st λb H o e=>?_) (λb o H e=>(bG _ _ (cY H)).trans ((bG _ _ (cY H)).trans (K b o e))) B)];.let n:b≠S:=λz=>l (z▸H);exact(bG _ _ (cY n)).trans ((bG _ _ (cY n)).trans e)
theorem xR:∀{vs:Ł _}{xs:ϐ},Á vs=Á xs->(∀(j:Ń)(v:Â),vs[j]?=O v->∃x t,xs[j]?=O x/\v=.str x t)->StrsAre vs xs
 |[],[],_,_=>.nil|[],_::_,h,_=>by cases h|_::_,[],h,_=>by cases h|v::vs,x::xs,h,k=>by
  let(y,t,H,rfl):=k 0 v Ŗ;let e:=by simpa using H
  subst e;rwa[.cons x t (xR (by simpa using h) λj u hu=>by simpa using k (j+1) u (by done))]
def wO.strs(h:wO acc xs):StrsAre acc.toList xs:=xR (by rwa[h.1]) λj v H=>h.2 j v (by rw[<-c9];rwa[H])
theorem xU{α:Type}{R:α->α->ß}(c:∀a b,R a b->R b a->a=b):∀{l1 l2:Ł α},l1.Perm l2->l1.Pairwise R->l2.Pairwise R->l1=l2
 |[],l2,p,_,_=>(List.nil_perm.mp p).symm|a::r,[],p,_,_=>Ă p.length_eq ⋯|a::r,b::t,p,h,H=>by
  let e:a=b:=by
   let ha:=p.mem_iff.mp aF;let hb:=p.mem_iff.mpr aF;rcases aw.mp ha with e|ha;.rwa[e]
   rcases aw.mp hb with e|hb;.lia
   rwa[c a b ((gj.mp h).1 b hb) ((gj.mp H).1 a ha)]
  subst e;rw[xU c (List.Perm.cons_inv p) (gj.mp h).2 (gj.mp H).2]
def w4(a b:Ä):ß:=a.cps.toList<=b.cps.toList
theorem xF:∀{x:Ä}{r:ϐ},risingS x r=J->(x::r).Pairwise w4
 |x,[],_=>List.pairwise_singleton _ _|x,y::r,h=>by
  simp only[risingS,aM]at h;let a:w4 x y:=by let z:=h.1;rw[ltCps_eq]at z;rwa[List.not_lt.mp ()]
  let h2:=xF h.2;erw[gj.mpr (λz H=>?_,h2)];rcases aw.mp H with rfl|H;.done
  .rwa[List.le_trans a ((gj.mp h2).1 z H)]
def xJ(h:sortedS l):l.Pairwise w4:=by induction l with|f=>rwa[List.Pairwise.nil]|g x r=>rwa[xF h]
def Ed(p1:l1.Perm ws)(p2:l2.Perm ws)(h:sortedS l1)(H:sortedS l2):l1=l2:=by erw[xU (λa b x y=>?_) (p1.trans p2.symm) (xJ h) (xJ H)];induction a;congr;rwa[Array.toList_inj.mp (List.le_antisymm x y)]
def Bt(i:A.handled=ao)(W:kD P w s.heap a ws)(hn:Á ws<=Ã)(h:∀(h':È)(t:Ń)(d:Drawn)(acc:Array _)(xs:ϐ),(∀b o,s.heap.get? b=O o->h'.get? b=O o)->s.heap.objs.size<h'.objs.size->wO acc xs->xs.Perm ws->R acc.toList {s with heap:=h',toks:=t,drawn:=d}):bn (b' P w) A (collect (.ref a)) R E s:=by
 erw[aa (vW (dH Qa ?_))];erw[aa (bU (ai (gM μ _,dH entry_list_iadd' ?_)))];let F:∀(q:Result)(s':be),(∃(h':È)(t:Ń)(d:Drawn)(acc:Array _)(c:Ń)(xs:ϐ),q=.ok (.ret (.ref s.heap.objs.size))/\s'={s with heap:=h',toks:=t,drawn:=d}/\(∀b o,s.heap.get? b=O o->h'.get? b=O o)/\h'.get? s.heap.objs.size=O {cls:=.type "list",dict:=ao,data:=.seq acc c,slots:=#[]}/\wO acc xs/\xs.Perm ws)->wants (λv S=>bn (b' P w) A (match v with
    |.ref a=>do match(<-load a).data with|.seq xs _=>pure xs.toList|_=>unsupported "internal:collect"
    |_=>unsupported "internal:collect") R E S) E q s':=by rintro q s' ⟨h',t,d,acc,c,xs,rfl,rfl,k,g,T,H⟩;rwa[aa (Pj g (ai (h h' t d acc xs k (ay g) T H)))]
 erw[cZ (Ea (s:={s with heap:=s.heap.push _}) (R:=λq s'=>∃(h':È)(t:Ń)(d:Drawn)(acc:Array _)(c:Ń)(xs:ϐ),q=.ok _/\s'={s with heap:=h',toks:=t,drawn:=d}/\(∀b o,s.heap.get? b=O o->h'.get? b=O o)/\h'.get? _=O {cls:=.type "list",dict:=ao,data:=.seq acc c,slots:=#[]}/\wO acc xs/\xs.Perm ws) i (W.at λo g=>af _ g) hn (eR (by let(o,_,_,_,j,_):=W;rwa[ay j])) (ax _ Ŗ) λh' t d acc c xs k g T H=>(h',t,d,acc,c,xs,Ŗ,Ŗ,λb o e=>k b o (aR (ay e)) (af _ e),g,T,H)) (λf s' x=>?_) λe s' x=>?_];.induction f with|done f=>rwa[F _ _ x]|again C=>exact(x.1,dU x.2 λq S y=>F _ _ y)
 .let(_,_,_,_,_,_,l,_):=x;cases l
def Ef{Q:dC}(i:A.handled=ao)(W:kD P w s.heap a ws)(Ω:Á ws<64)(h:∀(h':È)(t:Ń)(d:Drawn)(D:À)(e:Ń)(out:Ł _)(ss:ϐ),(∀b o,s.heap.get? b=O o->h'.get? b=O o)->s.heap.objs.size<=D->h'.get? D=O (seqObj "list" out.toArray e)->StrsAre out ss->ss.Perm ws->sortedS ss->Q (.ref D) {s with heap:=h',toks:=t,drawn:=d}):bn (b' P w) A (call (.builtin "sorted") [.ref a]) Q E s:=by
 let l:64<=Ã:=∅
 erw[U6 kind_sorted plain_sorted entry_sorted (args_sorted1 _) ?_];erw[aa (ai (aa (Bt i W () λh' t d c x k m T p=>?_)))];let y:Á c.toList=Á ws:=by rw[b5,T.1,p.length_eq]
 let H:=T.strs;erw[aa (WO ?_ ())];let R:(h'.push (seqObj "list" c.toList.toArray 0)).get? _=O _:=ax _ Ŗ;erw[aa (b7 (bW slot_list_sort (_,R,Ŗ) entry_list_sort (list_sort_treeK (s:={s with heap:=h'.push (seqObj "list" _ 0),toks:=t,drawn:=d}) strKind_oneLt R H.keysOf (λv f r e=>keyKind_strs (by rw[<-e];rwa[H])) () λj a1 n=>(_,Ŗ,?_)) (args_list_sort _)))];let(ss,z,Z,q):=sorted_out_str H a1 n;let(e,u):=sortedHeap_at R;erw[ai (_,Ŗ,h _ t d _ e ((arrOf j).map _).toList ss (λb o g=>?_) (dF m) u z (Z.trans p) q)];.let G:=ay (k b o g);rw[sortedHeap_old (aR G) (by rw[jr];rwa[fG G])];rwa[af _ (k b o g)]
end
def Inv.drew{p:Ł _}{σ:Ç}(I:Inv X p σ H s)(d:Drawn):Inv X p σ H {s with drawn:=d}:=(I.ok,I.os,I.bare,I.base,I.loc,I.cell,I.free,I.gz,I.pin,I.c4,I.len)
theorem xX:∀{ws:ϐ}{us:Ł _},Vals (ws.map V.S) us->StrsAre us ws|[],us,h=>by cases h;rwa[.nil]|x::r,us,h=>by cases h with|g a b=>let(t,rfl):=a;rwa[.cons x t (xX b)]
theorem xO:∀{ws:ϐ}{us:Ł _},StrsAre us ws->Vals (ws.map V.S) us|[],us,h=>by cases h;rwa[.nil]|x::r,us,h=>by cases h with|g _ t b=>rwa[.cons (t,Ŗ) (xO b)]
theorem uT:∀(l ws:ϐ),Á ws<=Á (l.foldl oY ws)
 |[],ws=>ah _|x::r,ws=>by
  erw[aq ?_ (uT r _)];delta oY;split;.lia
  .grind
def CN(ws:ϐ)(i:Ń):Á (dO (ws.take i))<=Á (dO ws):=by
 let e:dO ws=(ws.drop i).foldl oY (dO (ws.take i)):=by delta dO;rw[<-List.foldl_append,uk]
 rw[e];rwa[uT _ _]
def uA(d:X.calm):fR X (.type "set") λxs H Q=>∃(l:À)(ws:ϐ),xs=[.A l]/\gh X.K H l (ws.map V.S)/\Á (dO ws)<64/\∀a,H a=ao->Q (.A a) (dq H a (.ext λh=>kD X.prog X.w h a (dO ws))):=by
 intro p s σ H xs U Q I r h;let(l,ws,rfl,e,Ω,q):=h;let(u,rfl,f):=r.one;cases f;let(B,R,P,C):=I.list e;let g:64<scanBound:=∅
 let n:Á ws=B.toArray.size:=by rw[bg,<-R.length,ae]
 erw[zG (I.ok.hd d) P.isList (λi v b=>?_) n λi=>by let:=CN ws i;lia λj T W m=>(.A _,_,I.laid m (ah _) (show fq _ X.w _ j _ (.ext _)from(W,let (o,_,_,_,x,_):=W;(o,x),λD E z k=>z.at k)),Ŗ,q _ I.fresh)]
 .rw[fk]at b;let c:i<Á ws:=by rw[n];exact(ar.mp b).1
  let(t,y):=(xX R).at (av c);rw[y]at b;exact(_,t,av c,by injection b with b;rwa[b.symm])
def sG(f:X.calm):fR X (.builtin "sorted") λxs H Q=>∃(a:À)(ws:ϐ),xs=[.A a]/\H a=O (.ext λh=>kD X.prog X.w h a ws)/\Á ws<64/\∀(D:À)(ss:ϐ),H D=ao->ss.Perm ws->sortedS ss=J->Q (.A D) (dq H D (.L (ss.map V.S))):=by
 intro p s σ H xs U Q I r h;let(a,ws,rfl,g,Ω,q):=h;let(u,rfl,R):=r.one;cases R;let l:64<=Ã:=∅
 rwa[Ef (I.ok.hd f) (I.c4 a _ g).1 Ω λi t d D e out ss k b o j c m=>(.A D,_,(I.laid k b (show fq _ X.w _ i _ (.L _)from(by rw[ae];exact(by rw[c.length_eq];lia),out,e,xO j,o))).drew d,Ŗ,q D ss (I.c4.fresh b) c m)]
end L2
namespace L2
open PySem.SeqAt
end L2
namespace L2
def rA:fillsNumberSlot (.type "tuple") "mul"=pure false:=PySem.fillsNumberSlot_seq (id:="tuple.__mul__") (r:=O (.builtin "tuple.__rmul__")) ic.lookup ∅ F.slot_tuple_rmul.lookup ∅
def zC:seqRepeat? (.type "tuple")=pure (O (.builtin "tuple.__mul__")):=by delta seqRepeat?;rw[PySem.seqSlot_of (T:="tuple") (name:="__mul__") (id:="tuple.__mul__") ic.lookup ∅,PySem.seqSlot_of (T:="tuple") (name:="__rmul__") (id:="tuple.__rmul__") F.slot_tuple_rmul.lookup ∅];rfl
def uZ(a:Î)(t:Tok)(l:À)(i:Array Â)(n:Ń)(dd:Ő À)(sl:Array (Ő Â)):Meets (Builtin.«int.__rmul__» ([.int a t,.ref l],[])) λ_ R s=>s.heap.get? l=O {cls:=.type "tuple",dict:=dd,data:=.seq i n,slots:=sl}/\R (.ok (.ret Value.notImplemented)) s:=.of_wp λp w A R s h=>by let(H,g,d,T,os):=s;let(b,h):=h;wp_walk;exact(_,Ŗ,h)
def Et(t:Tok)(l:À)(i:Array Â)(n:Ń)(dd:Ő À)(sl:Array (Ő Â)):Meets (Builtin.«tuple.__mul__» ([.ref l,.int 1 t],[])) λ_ R s=>s.heap.get? l=O {cls:=.type "tuple",dict:=dd,data:=.seq i n,slots:=sl}/\R (.ok (.ret (.ref l))) s:=.of_wp λp w A R s h=>by let(H,g,d,T,os):=s;let(a,h):=h;delta Builtin.«tuple.__mul__»;wp_walk;exact(_,Ŗ,h)
def Ew(k:Î)(t:Tok)(l:À)(ce:Array Â)(n:Ń)(dd:Ő À)(sl:Array (Ő Â))(a:ce.isEmpty=a5)(m:2<=k)(c:k<=1000)(o:ce.size<=10):Meets (Builtin.«tuple.__mul__» ([.ref l,.int k t],[])) λ_ R s=>s.heap.get? l=O {cls:=.type "tuple",dict:=dd,data:=.seq ce n,slots:=sl}/\R (.ok (.ret (.ref s.heap.objs.size))) {s with heap:=s.heap.push {cls:=.type "tuple",data:=.seq (ò (λx X=>x++X) #[] (Ð k.toNat ce))}}:=.of_wp λp w A R s h=>by
  let(q,g,d,T,os):=s;let(r,h):=h;let C:(Đ (k< -(2^63:Î))||Đ (k>=2^63))=false:=by rw[cq (),cq ()];rfl
  let f:(ce.isEmpty||k==1)=false:=by rw[a,Bool.false_or];rwa[c8.mpr ()]
  let i:(Đ (k<=0)||ce.isEmpty)=false:=by rw[a,cq ()];rfl
  delta Builtin.«tuple.__mul__»;let L:(100000:Ń)<Ã:=by rw[jC];decide
  let H:(ce.size:Î)*k<=10*1000:=Int.mul_le_mul () c () ();wp_walk;rw[bS (by rw[C];rwa[aJ])];wp_walk;rw[bS (by rw[f];rwa[aJ])];wp_walk;rw[bS (by rw[i];rwa[aJ])];wp_walk;rw[bS ()];wp_walk;let b:(ò (λx X=>x++X) #[] (Ð k.toNat ce)).size<=Ã:=by
   let e:=GR ce.toList k.toNat [];rw[List.nil_append]at e;let E:ò (λx X=>x++X) #[] (Ð k.toNat ce)=(Ð k.toNat ce.toList).flatten.toArray:=e;rw[E,bg,yY];let j:(k.toNat:Î)=k:=I0 ();let:((k.toNat*Á ce.toList:Ń):Î)<=10000:=by rw[Int.natCast_mul,j,Int.mul_comm,b5];rwa[H]
   lia
  rw[bS (by delta Builtin.Tuple.tupleTooMany;rw[gU];lia)];wp_walk;exact(_,Ŗ,h)
def Eu(k:Î)(t:Tok)(l:À)(n:Ń)(dd:Ő À)(sl:Array (Ő Â))(H:0<=k)(a:k<=1000):Meets (Builtin.«tuple.__mul__» ([.ref l,.int k t],[])) λ_ R s=>s.heap.get? l=O {cls:=.type "tuple",dict:=dd,data:=.seq #[] n,slots:=sl}/\R (.ok (.ret (.ref l))) s:=.of_wp λp w A R s h=>by
  let(b,g,d,T,os):=s;let(e,h):=h;let c:(Đ (k< -(2^63:Î))||Đ (k>=2^63))=false:=by rw[cq (),cq ()];rfl
  delta Builtin.«tuple.__mul__»;wp_walk;rw[bS (by rw[c];rwa[aJ])];wp_walk;first|rw[b9 Ŗ]|skip
  wp_walk;exact(_,Ŗ,h)
def Ey(t:Tok)(l:À)(ce:Array Â)(n:Ń)(dd:Ő À)(sl:Array (Ő Â))(H:ce.isEmpty=a5):Meets (Builtin.«tuple.__mul__» ([.ref l,.int 0 t],[])) λ_ R s=>s.heap.get? l=O {cls:=.type "tuple",dict:=dd,data:=.seq ce n,slots:=sl}/\R (.ok (.ret (.ref s.heap.objs.size))) {s with heap:=s.heap.push {cls:=.type "tuple",data:=.seq #[]}}:=.of_wp λp w A R s h=>by let(a,g,d,T,os):=s;let(b,h):=h;delta Builtin.«tuple.__mul__»;wp_walk;exact(_,Ŗ,h)
def Ÿ(K:Æ)(a:À)(t:Ä->Ő ϐ):R2:=λx y H Q=>x=.A a/\∃k s,y=.S k/\t k=O s/\∀b,gX K H b (s.map V.S)->Q (.A b) H
def YZ(T:B8 X.w X.K a c):JP X (Ÿ X.K a c):=by intro e S p s σ H x y v u Q I r R h d;let(rfl,k,i,rfl,f,q):=h;cases r;let(t,rfl):=R;let(E,m,lk,keys,look):=T.ex;let hm:=mj (prog:=X.prog) I.qC lk keys;let lx:=look k;rw[f]at lx;let(b,F,o,B,M,l1,l2,l,L,g):=lx;rwa[jT hm.typeIs oO.lookup (GU (nW _ X.w k t) hm F (Ŗ,(.A b,H,I.tok _,Ŗ,q b (.inr (o,B,M,l1,l2,l,L,g))))) d]
end L2
namespace L2
open PySem.SeqAt PySem.MeetsSeq PySem.Builtin PySem.Builtin.Tuple
end L2
namespace L2
def Wi(K:Æ):V->Ő Î->Ő Î->Hp->VK->ß:=λx lo i H Q=>∃a X,x=.A a/\gX K H a X/\∀p h,ir H h->gX K h p (qV X lo i)->Q (.A p) h
def Ue:Py X (Wi X.K):=by
 intro P s σ H x v e f lo i sl Q I R d l u h;let(a,b,rfl,c,q):=h;by_cases w:HT.kX (Á b) 0 lo=0/\HT.kX (Á b) (Á b) i=Á b
 .cases R;let(B,r,t,z):=I.tuple c;let n:B.toArray.size=Á b:=by rwa[r.length.symm]
  exact(_,_,dy.lookup,t.typeIs,sM t d l u (by rw[n];rwa[w]) (.A a,H,I,Ŗ,q a H (ir.refl H) (by rw[Cu w];rwa[c])))
 .rwa[E_ _ s σ H _ v e f lo i sl Q I R d l u (a,b,Ŗ,c,w,λp g=>q p _ (kg g _) (gX.of bC))]
def NI(K:Æ):R2:=λx y H Q=>∃a b X Y,x=.A a/\y=.A b/\gX K H a X/\gX K H b Y/\Á X+Á Y<=Ã/\∀p h,ir H h->gX K h p (X++Y)->Q (.A p) h
def MG:mm X (binaryOp .Add) (NI X.K):=by
 intro P s σ H x y v u Q I r R h;let(a,b,f,Y,rfl,rfl,g,d,z,q):=h;by_cases i:f=[];.cases r;cases R;subst i;let(T,m,t,_):=I.tuple g;let(F,G,w,_):=I.tuple d;obtain⟨⟨cls,B,data,sl⟩,o,j,n,k⟩:=id t;obtain⟨⟨C,D,data2,S⟩,L,l,N,c⟩:=id w;simp only at j k l c;subst j k l c;obtain rfl:=m.zero;rwa[wP (_,o,Ŗ) (_,L,Ŗ) GS WN sk qJ (pF _ _) (tuple_addW0 a b #[] _ n N B D sl S rfl) (o,L,(.A b,H,I.tok _,Ŗ,q b H (ir.refl H) d))]
 .rwa[Si _ s σ H _ _ v u Q I r R (a,b,f,Y,Ŗ,Ŗ,g,d,i,z,λe=>q a H (ir.refl H) nofun,λ_ p E=>q p _ (kg E _) (gX.of bC))]
def uQ:entryFor table "dict.update.loop"=O Builtin.«dict.update.loop»:=GP Ŗ
def Mp{E:dC}{id:String}(S:Slot T "__getattribute__" id)(e0:entryFor table id=O Builtin.«object.__getattribute__»)(n:∀x y,argsOk id ([x,y],[]))(G:typeLookup (.type T) "__getattr__"=pure ao)(me:∀sl u,Meets (Builtin.«object.__getattribute__» ([.ref a,.str "keys" u],[])) λA R s=>s.heap.get? a=O {cls:=.type T,data:=.seq xs k,slots:=sl}/\raisesAttr (.ref a) "keys" A R s)(f:s.heap.get? a=O o)(i:o.cls=.type T)(C:o.data=.seq xs k)(j:o.dict=ao)(p:A.handled=ao)(h:∀h' t,(∀b l,s.heap.get? b=O l->h'.get? b=O l)->Q ao {s with heap:=h',toks:=t}):bn (b' prog w) A (getAttr? (.ref a) "keys") Q E s:=by
 let(c,D,q,sl):=o;simp only at i C j;subst i C j;let(r,g,d,t,os):=s;let m:∀W,((r,g,d,W,os):be).TypeIs (.ref a) T:=λ_=>(_,f,Ŗ);let F:=sub_AttributeError;let v:=S.lookup;let z:=S.bind (.ref a);delta getAttr? getAttrBy?;delta getAttrBy;repeat(any_goals(first|assumption|rwa[m _]|((with_reducible show bn _ _ (call (ð id) _ _) _ _ _);erw[jq S (m _) e0 (n _ _) (me sl _) (f,p,λh' W e H=>?_)])|wp_step))
 let(B,U,I):=H.there;show bn _ _ (getattributeRaised _ _ _ _ _ _ _) _ _ _;delta getattributeRaised;repeat(any_goals(first|rfl|wp_step))
 rwa[h _ _ H.keeps]
def lU:plainId "dict.update.loop"=true:=∅
def ur{P:ci}{w:cc}{κ:Type}[DecidableEq κ](knd:KeyKind P w κ)(h:È)(u:Â)(p:κ×Â):ß:=∃t key,u=Ò t/\h.IsTuple t #[key,p.2]/\knd.is p.1 key=J
section
variable{P:ci}{w:cc}{κ:Type}[DecidableEq κ]{knd:KeyKind P w κ}{A:cr}
theorem DD{it l:À}{B:Array Â}{ps:Ł (κ×Â)}{R:Result->be->ß}{Ç:Ń->È->ß}(W:Walks P w A.in1 it [it,l] [it] B.size (λi v=>B[i]?=O v) Ç)(hn:∀(j:Ń)t,B[j]?=O (.ref t)->t≠d/\t≠it)(D:d≠it)(dl:d≠l)(x:B.size=Á ps)(hz:Á ps<=1000):∀(m i:Ń)(U:Ł (κ×Â))(s:be),i+m=Á ps->Ç i s.heap->s.heap.DictOf knd d U->Á U<=i->(∀(j:Ń)(u:Â)(p:κ×Â),B[j]?=O u->ps[j]?=O p->ur knd s.heap u p)->(∀h' k,h'.DictOf knd d (merged U (ps.drop i))->(∀b o,b≠d->b≠it->s.heap.get? b=O o->h'.get? b=O o)->R (.ok (.ret .none)) {s with heap:=h',toks:=k})->fm (b' P w) A (.builtin "dict.update.loop" ([.ref d,.ref it,ed i,.none],[])) R s:=by intro m;induction m with|h=>intro i U s Q st hd y h z;erw[dH uQ ?_];rw[lB lU];delta Builtin.«dict.update.loop»;let hi:i=B.size:=Q.trans x.symm;subst hi;erw[aa (W.done s _ _ st λh' k K=>?_)];let E:∀b o,b≠it->s.heap.get? b=O o->h'.get? b=O o:=λb o n g=>K b o (λq=>n (aB.mp q)) g;show bn _ _ (Builtin.Dict.addKeywords d []>>=_) _ _ _;erw[aa (ai (ai ?_))];erw[z h' k ?_ λb o _=>E b o];rw[List.drop_eq_nil_of_le (gm x.symm)];rwa[hd.extBut E D]|j m ih=>
  intro i U s Q st hd y h z;erw[dH uQ ?_];rw[lB lU];delta Builtin.«dict.update.loop»;let M:i<Á ps:=()
  let H:=av M;let Rm:=U7 M;generalize ps[i]=p at H Rm;erw[aa (W.item i s _ _ (x▸M) st λu X k C F K=>?_)];let S:∀b o,b≠it->s.heap.get? b=O o->X.get? b=O o:=λb o n g=>K b o (λq=>n (aB.mp q)) g;let Y:∀{j:Ń}{u:Â}{p:κ×Â},B[j]?=O u->ps[j]?=O p->ur knd X u p:=λe G=>by obtain⟨t,key,rfl,⟨o,g,r⟩,y⟩:=h _ _ _ e G;exact(t,key,Ŗ,(o,S _ _ (hn _ _ e).2 g,r),y)
  obtain⟨t,key,rfl,⟨o,e,c,n,I⟩,AQ⟩:=Y C H;erw[aa (b7 (aa (wpAny_tryCatch ?_)))];delta Builtin.Dict.pairItems;erw[aa (jV (T:="tuple") (o,e,c) ?_)];rw[b9 ∅];erw[aa ?_];delta seqItems?;erw[aa (Pj e ?_)];rw[I];erw[ai (ai ?_)];let l3:(1000:Ń)<=Ã:=∅
  erw[b7 (wpAny_dictSet_pairs AQ (hd.extBut S D) (λh2 L a=>?_) ())];erw[ai (gM lU _,?_)];let e1:ed ((i:Î)+1)=ed ((i+1:Ń):Î):=Ŗ;erw[ih (i+1) (PySem.stored U p.1 p.2) {s with heap:=h2,toks:=k+1} () (W.frame _ _ _ F λc N o g=>(a.2 c ?_).trans g) L ?_ ?_ λh' k Jj k'=>?_]
  .rcases aw.mp N with rfl|N;.rwa[cY D]
   .rw[aB.mp N];rwa[cY dl]
  .delta PySem.stored;split;.rw[ae];rwa[aS ‹_›]
   .left
  .intro j u' p' f YE;obtain⟨t',anQ,rfl,⟨o',G,r'⟩,Ro⟩:=Y f YE;exact(t',_,Ŗ,(o',(a.2 _ (hn _ _ f).1).trans G,r'),Ro)
  .erw[z h' k ?_ λb ob Z Ji E=>k' b ob Z Ji ((a.2 _ Z).trans (S _ _ Ji E))];rw[Rm];rwa[Jj]
def CG{B:Array _}{ps:Ł _}{T:String}{Ç:À->Ń->È->ß}{Q:dC}{E:dC}{s:be}(e:s.heap.get? l=O o)(c:o.cls=.type T)(N:(ã T !=ã "dict"))(U:∀{E s}{Q:Ő _->be->ß},s.heap.get? l=O o->(∀h' k,(∀b g,s.heap.get? b=O g->h'.get? b=O g)->Q ao {s with heap:=h',toks:=k})->bn (b' P w) A.in1.in1 (getAttr? (.ref l) "keys") Q E s)(ni:∀{E s}{Q:dC},s.heap.get? l=O o->Q (.ref s.heap.objs.size) {s with heap:=s.heap.push f}->bn (b' P w) A.in1.in1 (pyIter (.ref l)) Q E s)(W:∀I,l≠I->Walks P w A.in1.in1 I [I,l] [I] B.size (λi v=>B[i]?=O v) (Ç I))(X:∀h:È,h.get? l=O o->Ç h.objs.size 0 (h.push f))(G:B.size=Á ps)(hz:Á ps<=1000)(H:∀(j:Ń)(u:Â)(p:κ×Â),B[j]?=O u->ps[j]?=O p->ur knd s.heap u p)(h:∀h' k,h'.DictOf knd s.heap.objs.size (merged [] ps)->(∀b o,s.heap.get? b=O o->h'.get? b=O o)->Q (.ref s.heap.objs.size) {s with heap:=h',toks:=k}):bn (b' P w) A (call (.type "dict") [.ref l]) Q E s:=by
 erw[callType_codes (Q₁:=λd S=>d=.ref _/\S={s with heap:=s.heap.push _}) F.kt_called_dict (F.kt_typeCall_dict_1 _) F.entry_dict_init (kt_code_dict_new _ (Ŗ,Ŗ)) ?_];rintro d S ⟨rfl,rfl⟩;let L:(s.heap.push _).DictOf knd _ []:=Heap.DictOf.new _;erw[(L.typeIs,F.args_dict_init_2 _ _,?_)];erw[aa ?_];erw[aa (X1 L.typeIs ?_)];erw[ai ?_];show bn _ _ (Builtin.Dict.updateFrom _ _ _ [] _) _ _ _;let m:(s.heap.push {cls:=.type "dict",data:=.dict #[]}).get? l=O o:=af _ e;erw[aa (jV (o,m,c) ?_)];rw[b9 N];erw[aa (U m λy C k1=>?_)];erw[aa (jv ?_)];let(x,Y,Z,a,r):=L;erw[aa (ni (k1 _ _ m) ?_)];erw[ai (gM lU _,?_)];let K:∀b o,s.heap.get? b=O o->(y.push f).get? b=O o:=λb o q=>af _ (k1 _ _ (af _ q));let n:∀{b o},s.heap.get? b=O o->b≠s.heap.objs.size/\b≠y.objs.size:=λq=>(aR (ay q),aR (ay (k1 _ _ (af _ q))));erw[DD (W _ (n e).2) (λj t q=>?_) (aR (ay (k1 _ _ a))) (n e).1.symm G hz _ 0 [] {s with heap:=y.push f,toks:=C} (cR _) (X _ (k1 _ _ m)) (x,Y,Z,af _ (k1 _ _ a),r) (ah _) (λj u p hu D=>?_) λh' k Jj k'=>(Ŗ,h h' k Jj λb g q=>k' b g (n q).1 (n q).2 (K _ _ q))];.let hj:=G▸(fh.mp q).1;obtain⟨t',key,z,⟨x,a,R⟩,M⟩:=H j _ _ q (av hj);cases z;rwa[n a]
 .obtain⟨t,key,rfl,⟨x,a,R⟩,M⟩:=H j u p hu D;exact(t,key,Ŗ,(x,K _ _ a,R),M)
end
def Paired.at'(p:Paired F xs ys):∀{i:Ń},xs[i]?=O x->ys[i]?=O y->F x y:=by induction p with|f=>intro i e;cases e|g h _ I=>intro i E a;induction i with|h=>left|j i=>rwa[I E a]
end L2
namespace L2
open PySem.SeqAt PySem.MeetsSeq PySem.Builtin PySem.Builtin.Str
end L2
namespace L2
def Ul(h:(dZ P w).is (Ü x) v):∃t,v=.str x t:=by rw[(dZ P w).strs (Ü x) x 0 v (rW (k:=Ü x) (0,Ŗ))]at h;induction v with|str y t=>exact(t,by rw[show y=x from by simpa[Value.isStr]using h])|_=>simp[Value.isStr]at h
def MJ{p:Ł _}{σ:Ç}(I:Inv X p σ H s)(h:gX X.K H b [kV k,v]):∃r,RelV v r/\ur (dZ X.prog X.w) s.heap (.ref b) (k,r):=by let(B,a,c,_):=I.tuple h;let(u,r,rfl,R,d):=a.two;erw[(r,d,b,u,Ŗ,c,?_)];induction k with|inl i=>let(t,rfl):=R;rwa[rZ _ X.w i t]|inr x=>let(t,rfl):=R;rwa[r8 _ X.w x t]
def HS{P:Ł _}{s:be}{σ:Ç}{H:Hp}(I:Inv X P σ H s):∀{T:ϕ}{U:Ł _}{B:Ł _},Vals T B->Paired (λt k=>∃b,t=V.A b/\gX X.K H b [kV k.1,k.2]) T U->∃ps:Ł _,KV U ps/\Paired (ur (dZ X.prog X.w) s.heap) B ps:=by intro T U B a;induction a generalizing U with|f=>intro b;cases b;exact([],.nil,.nil)|g r R i=>intro b;cases b with|g p pp=>let(ps,a,b):=i pp;let(c,rfl,h):=p;cases r;let(w,d,e):=MJ I h;exact(_,.cons (Ŗ,d) a,.cons e b)
def xg{P:Ł _}{σ:Ç}{E:dC}{Q:V->Hp->ß}{Ç:À->Ń->È->ß}(I:Inv X P σ H s)(r:Vals n B)(hz:Á U<=100)(x:Paired (λt y=>∃b,t=V.A b/\gX X.K H b [kV y.1,y.2]) n U)(q:∀a,H a=ao->Q (.A a) (dq H a (.dK (jJ [] U))))(e:s.heap.get? l=O o)(c:o.cls=.type T)(N:(ã T !=ã "dict"))(F:∀{E s}{Q:Ő _->be->ß},s.heap.get? l=O o->(∀h' z,(∀b C,s.heap.get? b=O C->h'.get? b=O C)->Q ao {s with heap:=h',toks:=z})->bn (b' X.prog X.w) X.A.in1.in1 (getAttr? (.ref l) "keys") Q E s)(ni:∀{E s}{Q:dC},s.heap.get? l=O o->Q (.ref s.heap.objs.size) {s with heap:=s.heap.push m}->bn (b' X.prog X.w) X.A.in1.in1 (pyIter (.ref l)) Q E s)(W:∀I,l≠I->Walks X.prog X.w X.A.in1.in1 I [I,l] [I] B.toArray.size (λi v=>B.toArray[i]?=O v) (Ç I))(S:∀h:È,h.get? l=O o->Ç h.objs.size 0 (h.push m)):bn (b' X.prog X.w) X.A (call (.type "dict") [.ref l]) (EP X P σ Q) E s:=by
 let D:Á B=Á U:=by rw[<-r.length,x.length]
 let(ps,k,d):=HS I r x;let Y:=k.length.symm;let M:1000<=Ã:=∅
 erw[CG (knd:=dZ _ X.w) (ps:=ps) e c N F ni W S nofun () (λj u p hu f=>?_) λh' z G L=>?_];.rw[fk]at hu;rwa[Paired.at' d hu f]
 .let g:=oJ U [];exact(.A _,_,I.laid L (ah _) (CH (by simp at g;lia) (c8.mpr (cY (aR I.big))) (KV.merge k .nil) G),Ŗ,q _ (I.c4.fresh (ah _)))
def kE(g:X.calm):fR X (.type "dict") λxs H Q=>∃(l:À)(T:ϕ)(U:Ł _),xs=[.A l]/\gh X.K H l T/\Á U<=100/\Paired (λt v=>∃b,t=V.A b/\gX X.K H b [kV v.1,v.2]) T U/\∀a,H a=ao->Q (.A a) (dq H a (.dK (jJ [] U))):=by intro p s σ H xs w Q I r h;let(l,T,U,rfl,i,z,j,q):=h;let(u,rfl,R):=IZ r;cases R;obtain⟨B,m,⟨o,n,e,c,dn,d⟩,_⟩:=I.list i;let f:X.A.in1.in1.handled=none:=I.ok.hd g;rwa[xg I m z j q e c rfl (λe k=>Mp F.slot_list_getattribute am_entry_list_getattribute F.args_list_getattribute_2 am_list_getattr_none (λsl u=>meets_getattribute_miss_list l _ _ sl _ _ rfl rfl (by size_fits)) e c d dn f k) (λe q=>B2 (o,e,c,n,d) q) (λI n=>Walks.list f I l n _) λh e=>((_,ax _ Ŗ,Ŗ,Ŗ),o,af _ e,c,n,d)]
def AM(i:Ń)(D:Ô):Ô:={nx:=λσ H=>D.nx (σ.set i ao) H,rt:=D.rt,bk:=λσ H=>D.bk (σ.set i ao) H,ct:=λσ H=>D.ct (σ.set i ao) H}
def Ov{ts:À->À->Ő _->TS}{p:Ł _}(fr:B4 X)(hN:X.N.Nodup)(hi:X.N[i]?=O n)(G:X.env.scope.names.lookup n=O .local)(hf:X.fn n)(hg:Gl X x)(hm:X.mg x=O (.ref R))(hR:Pq X.K R)(ok:X.Ok)(hs:∀pn a C d,Hd (X.hn pn a) a C d->iY (X.hn pn a) (Y::W) (ts a C d))(hb:bn (b' X.prog X.w) X.A (execs B X.env) (SP X p D) (λe s1=>∃(E1:XK)(σ':Ç)(E:Hp)(l:be),Inv {X with pn:=X.pn++p} [] σ' E l/\vP X.prog X.w X.stack E l E1 e s1/\∀C od H' a,E1 (.ref C) od H'->subIn X.K (.ref C) (.ref R)=O J/\ts a C od (AM i D) (σ'.set i (O (.A a))) H') s)(hd:ø ((x=="__debug__")=a5) P3):bn (b' X.prog X.w) X.A (exec (.Try B [.ExceptHandler (O (.Name x np)) (O n) (Y::W) Z] [] [] pos) X.env) (SP X p D) X.xe s:=by
 erw[wpAny_Try_except (cZ hb (λf s1 q'=>?_) λe s1 q=>cps λR k0=>?_)];.induction f with|next=>rwa[gH q']|brk=>done|cont=>done|ret u=>done
 obtain⟨E1,σ',E,l,j,⟨a,C,d,H',rfl,L,hE⟩,hh⟩:=q;let(HC,M):=hh C d H' a hE;let P:∀{b:À},l.heap.get? b=ao->b≠X.env.locals:=λz e=>by obtain⟨m,⟨o,_,_,y,_⟩,_⟩:=j.loc;rw[e]at z;rw[z]at y;cases y
 let h:∀{fl:Â}{s2:be}(f2:Fl X.prog X.w _ E l H' a C d fl s2),∃t T,s2.heap.get? a=O _/\Inv _ [] σ' H' s2:=λ{fl s2}f2=>by obtain⟨T,⟨⟨t,ha⟩,_⟩,_⟩:=f2.ex;exact(t,T,ha,(f2.inv j).ajo ha f2.na (P f2.new) ((λz e=>by let(_,o,y,_):=j.kj.mem e;rw[z]at y;cases y) f2.new) (by intro v z;cases z))
 erw[k0 (L.note (X:={X with pn:=X.pn++p}) j fr.st fr.fr ok.frames λs2 f2=>?_)];erw[f2.land (f2.frF j) λs3 U=>cps λR k1=>?_];let(t3,T3,Rj,I3):=h U;erw[k1 (wpAny_handleBy_cons (codeAny_handlers_test ?_) (by intro z;cases z))];erw[jz I3 hg hm ?_ hd];erw[QT I3.qC hR Rj rfl HC ?_];erw[codeAny_handlers_suite_as ?_];erw[U.land (U.frF j) λs4 f4=>cps λR k2=>?_];let(t4,T4,ha4,I4):=h f4;erw[k2 (nC (X:=X.hn _ a) (v:=.A a) I4 hN hi (.inl G) rfl (λs5 I5=>?_) (.inl hf))];erw[cZ (hs _ a C d (Ŗ,t4,_,aF) [] s5 _ H' _ I5 M) (λfl s6 F=>?_) λ_ _ z=>z.elim];let go:∀{c:Ç}{H:Hp}{Q:Unit->be->ß},Inv (X.hn ((a,yI C t4 d (.ref T4))::(X.pn++p)) a) [] c H s6->(∀S,Inv X _ _ H S->Q ⟨⟩ S)->bn (b' X.prog X.w) X.A (do bindName _ n _;unbindBehindTheSuite _ n Z) Q X.xe s6:=λ{c H Q}I k=>by let J6:=Inv.aiE ok (I.aiD (ok.pnx _ _));let(m,hn,_):=id J6.loc;rwa[wpAny_nameGoes_keeps G hn (by rw[ok.kind];rfl) λh' v VC Jk=>k _ (J6.ag2 hN hi G hn VC Jk)]
 induction fl with|next=>let(c,H,I,q):=F;rwa[go I λS g=>(_,_,g,q)]|brk=>let(c,H,I,q):=F;rwa[go I λS g=>(_,_,g,q)]|cont=>let(c,H,I,q):=F;rwa[go I λS g=>(_,_,g,q)]|ret u=>let(v,c,H,I,r,q):=F;rwa[go I λS g=>(v,_,_,g,r,q)]
end L2
namespace L2
open PySem.W
end L2
namespace L2
open PySem.SeqAt
def wW:eU "sorted"=O (.builtin "sorted"):=∅
def Xi:eU "set"=O (.type "set"):=by rfl
end L2
namespace L2
structure sA(w:cc)(K:Æ)(mg:c3)(gR:Ń->Ä)(a:À)(tab:Ä->Ő ϐ):ß where
 ex:∃(es:Array gn)(n:Ń),K.lookup a=O (.type "dict",ao,.dict es n,#[])/\KeysLit w.params es.toList/\∀x,match tab x with|O ks=>∃f,findBy â es x=O (.ref f)/\mg (gR (Á ks))=O (.ref f)|ao=>findBy â es x=ao
 lo:(a==fb)=a5
def œ(m:c3)(gR:Ń->Ä)(a:À)(tab:Ä->Ő ϐ):R2:=λx y H Q=>x=.A a/\∃k K,y=.S k/\tab k=O K/\∀f,m (gR (Á K))=O (.ref f)->Q (.A f) H
def RQ(T:sA X.w X.K X.mg gR a tab):JP X (œ X.mg gR a tab):=by intro e S p s σ H x y v u Q I r R h b;let(rfl,k,d,rfl,c,q):=h;cases r;let(t,rfl):=R;let(E,m,lk,keys,look):=T.ex;let hm:=mj (prog:=X.prog) I.qC lk keys;let lx:=look k;rw[c]at lx;let(f,F,M):=lx;rwa[jT hm.typeIs oO.lookup (GU (nW _ X.w k t) hm F (Ŗ,(.A f,H,I.tok _,Ŗ,q f M))) b]
def Zv(T:sA X.w X.K X.mg gR a tab):mm X (compareOp .In) λx y H Q=>y=.A a/\∃k,x=.S k/\Q (.B (tab k).isSome) H:=by intro p s σ H x y v u Q I r R h;let(rfl,k,rfl,q):=h;cases R;let(t,rfl):=r;let(e,m,lk,keys,look):=T.ex;erw[wpAny_in_of (nW _ X.w k t) T.lo (mj I.qC lk keys) ?_];erw[(_,H,I.tok _,?_,q)];let lx:=look k;induction b:tab k with|c c=>rw[b]at lx;let(f,F,M):=lx;rw[F];rfl|a=>rw[b]at lx;rw[lx];rfl
def ML(x:PE X (.Subscript a b p) tx)(m:fJ k X.A)(n:iq (vP X.prog X.w) X E)(o:PA X (e::es) t)(d:(e::es).all cL):PE X (.Call (.Subscript a b p) (e::es) [] pos) λσ H Q=>tx σ H λv c=>∃(f:À)(g:d4)(ps:ϐ)(sp:Sp),v=.A f/\il X.prog X.w X.K X.mg X.base (vP X.prog X.w) k f g ps sp/\keepIn X.K (.ref f)=J/\Binds X.K g ps []/\t σ c λvs i=>sp vs i Q E:=by intro P s σ H Q I h;rw[cw,aM]at d;erw[aa (kr (x _ s σ H _ I h) λv s1 y c j r f=>?_)];let(f,g,ps,sp,u,F,z,B,q):=f;subst u;cases r;rwa[gq j.ok.mod.FR z (iL (o pos _ s1 σ c _ j q) λU s2 Z=>by let(vs,i,l,R,C):=Z;exact(l.qC,D6 F m B .nil n l R (by rw[aV];rwa[C]))) (cA d.1) (fB d.2)]
structure gO(k:Ń)(A:cr):ß where
 dp:A.depth+3*k+5<recursionLimit
 un:A.units+16*k+200<Ï
def fJ.u(r:fJ k A):gO k A:=(r.dp,r.un)
def gO.room(r:gO k A)(h:A.handled=ao):fJ k A:=(h,r.dp,r.un)
def gO.mono(r:gO k A)(h:j<=k):gO j A:=(by let:=r.dp;lia,by let:=r.un;lia)
theorem gO.deeper(r:gO (k+1) A)(env:Ù):gO k (A.deeper env):=(by let:=r.dp;show A.depth+1+3*k+5<_;lia,by let:=r.un;show A.units+3+16*k+200<_;lia)
theorem gO.units(r:gO k A):A.units+64<Ï:=by let:=r.un;lia
def gO.F'(r:gO k A):A.units+1<Ï:=by let:=r.un;lia
def A'(A:cr)(s:be)(H:Hp)(fs:Ł À):ß:=A.handled=ao\/∃a C t d T,A.handled=O (.ref a)/\s.heap.get? a=O (yI C t d T)/\H a=ao/\a∉fs
def Hq(X:Cx):ß:=X.A.handled=ao\/∃a C t d T,X.A.handled=O (.ref a)/\(a,yI C t d T)∈X.pn
def Hq.at{p:Ł _}{σ:Ç}(q:Hq X)(I:Inv X p σ H s):A' X.A s H (oV X.stack):=by
 rcases q with q|⟨a,C,t,d,T,q,h⟩;.rwa[.inl q]
 .let(Z,b,c,f,_):=I.pin _ (dP _ h);erw[.inr (a,C,t,d,T,q,Z,b,λz=>?_)];rcases aw.mp (I.zL a z)with e|e;.rwa[c e]
  .rwa[f e]
structure OS(P:ci)(w:cc)(K:Æ)(mg:c3)(base:È)(k:Ń)(f:À)(fd:d4)(ps:ϐ)(sp:Sp):ß where len:∀vs H Q E,sp vs H Q E->Á vs=(Á ps)run:∀(A:cr)(outer:Ł Ù)(s:be)(H:Hp)(args:Args)(us:Ł Â)(vs:ϕ)(Q:VK)(E:XK),gO k A->x9 P w K mg base A outer s H->A' A s H (oV outer)->BindsTo s fd args (ps.zip us)->Vals vs us->sp vs H Q E->fm (b' P w) A (.call (.ref f) args) (CR BL outer P w H s Q E0) s
abbrev XB(P:ci)(w:cc)(K:Æ)(m:c3)(b:È)(N:ϐ)(q:Ä)(S:Í)(f:À)(c:Â)(A:cr)(o:Ł Ù)(s:be)(H:Hp)(pn:db):Cx:={(oQ BL P w K m b N q S f c A o s H E0).BR with calm:=a5,pn:=pn}
section
variable{P:ci}{w:cc}{K:Æ}{mg:c3}{base:È}{x cN:Ä}{st:É}{ps N:ϐ}{j k:Ń}{sp:Sp}{f C:À}{fd:d4}
theorem OS.ok(F:OS P w K mg base k f fd ps sp):il P w K mg base CX k f fd ps sp:=(F.len,λA o s H args U v Q E h e0 b r q=>dU (F.run A _ s H _ U v Q E h.u e0 (.inl h.hd) b r q) λr S z=>by induction r with|error e=>rwa[z.elim]|ok fl=>induction fl<;>rwa[z])
theorem OS.mono(F:OS P w K mg base j f fd ps sp)(h:j<=k):OS P w K mg base k f fd ps sp:=(F.len,λA o s H args u v Q E r=>F.run A _ s H _ u v Q E (r.mono h))
def BM.okU(Y:BM K x cN st f fd)(F:c7 N ps (aG st))(len:∀vs H Q E,sp vs H Q E->Á vs=Á ps)(Z:∀(i:Â)(A:cr)(h:Ł Ù)(s:be)(H:Hp)(vs:ϕ)(Q:VK)(E:XK)(pn:Ł _),gO k (A.deeper (envOfC cN (aG st) s.heap.objs.size f i))->sp vs H Q E->Hq (XB P w K mg base N cN (aG st) f i A h s H pn)->∃T,iY (XB P w K mg base N cN (aG st) f i A h s H pn) (bX st) T/\T {nx:=λ_ H'=>Q .jn H',rt:=Q} (start N vs) H):OS P w K mg base (k+1) f fd ps sp:=by
 let(oc,od,kV,doc,pm,an,i,ct,sd,rfl,lk,pC):=Y.ex;erw[(len,λA h s H args us vs Q E S e0 m G r U=>?_)];let X:=e0.mod.FR.keeps λb o e=>(e0.bs b o e).1;erw[um (by let:=S.dp;lia) (X _ _ lk) rfl F.co F.gen rfl (Ab X pC) (G _ _ _ _ ?_)];erw[nX F.kind (λ(n,v) hy=>by
  rcases F.par n (mh hy).1 with q|q;.rwa[.inl q]
  .rwa[.inr (q,jR _ _ _ (.inl q))]) λenv he s1 y=>?_];subst he;erw[((e0.mod.nolimit.keeps λb o e=>(e0.bs b o e).1).keeps y.toInCall.keep,xL ?_)];let g:Inv (oQ BL P w K mg _ N _ _ f i {A with handled:=ao} _ s H E0) [] _ H s1:=rf F rfl (e0.frames,e0.mod,e0.bs,e0.Aq,e0.kj,e0.Hv,e0.c4,e0.bare) (len _ _ _ _ U) r y;obtain⟨pn,D,I⟩:∃pn,(∀p∈pn,s1.heap.get? p.1=O p.2/\H p.1=ao/\p.1≠s.heap.objs.size/\p.1∉oV h/\∀v,p.2.data≠.cell v)/\Hq (XB P w K mg _ N _ _ f i A _ s H pn):=by
  rcases m with m|⟨a,C,t,d,W,m,B,L,M⟩;.exact([],λp D=>by done,.inl m)
  .erw[([(a,yI C t d W)],λp D=>?_,.inr (a,C,t,d,W,m,aF))];rw[aB.mp D];exact(y.toInCall.keep _ _ B,L,aR (ay B),M,by intro v z;cases z)
 let(T,ht,I):=Z i A _ s H vs Q E pn (S.deeper _) U I;erw[cZ (ht [] s1 _ H _ ((g.ok.mod,g.ok.kind,g.ok.glob,g.ok.blt,g.ok.above,g.ok.inj,g.ok.has,g.ok.OW,λz=>(aJ z).elim,g.ok.frames,g.ok.N9,g.ok.QX,g.ok.bs,g.ok.Aq,g.ok.sT,g.ok.wj,g.ok.kj,g.ok.Hv),g.os,g.bare,g.base,g.loc,g.cell,g.free,g.gz,λp q=>D p (by simpa using q),g.c4,g.len) I) (λfl s' l=>?_) λe s' l=>l.elim];induction fl with|ret u=>let(v,R,H',c,rv,q):=l;exact(v,H',c.os,c.bare,c.base,c.c4,rv,q)|next=>let(R,H',c,q):=l;exact(.jn,H',c.os,c.bare,c.base,c.c4,Ŗ,q)|brk=>let(_,_,_,q):=l;rwa[å q]|cont=>let(_,_,_,q):=l;rwa[å q]
structure sy(P:ci)(w:cc)(K:Æ)(mg:c3)(base:È)(k:Ń)(x:Ä)(ps:ϐ)(sp:Sp):ß where ex:∃(f:À)(fd:d4),OS P w K mg base k f fd ps sp/\mg x=O (.ref f)/\keepIn K (.ref f)/\Binds K fd ps []
structure qN(P:ci)(w:cc)(K:Æ)(mg:c3)(base:È)(k:Ń)(C:À)(x:Ä)(ps:ϐ)(sp:Sp):ß where ex:∃(f:À)(fd:d4),OS P w K mg base k f fd ps sp/\ya K C x f/\Binds K fd ps []
def sy.toX(D:sy P w K mg base k x ps sp):nY P w K mg base k x ps sp:=let (f,fd,F,r):=D.ex;(f,fd,F.ok,r)
def qN.toM(D:qN P w K mg base k C x ps sp):x8 P w K mg base CX k C x ps sp:=let (f,fd,F,r):=D.ex;(f,fd,F.ok,r)
theorem sy.mono(D:sy P w K mg base j x ps sp)(h:j<=k):sy P w K mg base k x ps sp:=let (f,fd,F,r):=D.ex;(f,fd,F.mono h,r)
theorem qN.mono(D:qN P w K mg base j C x ps sp)(h:j<=k):qN P w K mg base k C x ps sp:=let (f,fd,F,r):=D.ex;(f,fd,F.mono h,r)
theorem Src.okU(S:Src K mg x st ps)(F:c7 N ps (aG st))(len:∀vs H Q E,sp vs H Q E->Á vs=Á ps)(i:∀(f:À)(e:Â)(A:cr)(o:Ł Ù)(s:be)(H:Hp)(vs:ϕ)(Q:VK)(E:XK)(pn:Ł _),gO k (A.deeper (envOfC x (aG st) s.heap.objs.size f e))->sp vs H Q E->Hq (XB P w K mg base N x (aG st) f e A o s H pn)->∃t,iY (XB P w K mg base N x (aG st) f e A o s H pn) (bX st) t/\t {nx:=λ_ H'=>Q .jn H',rt:=Q} (start N vs) H):sy P w K mg base (k+1) x ps sp:=by let(f,fd,a,h,b):=S.ex;exact(f,fd,a.okU F len (i f),h,a.kp,b)
theorem gK.okU(S:gK K C x cN st ps)(F:c7 N ps (aG st))(len:∀vs H Q E,sp vs H Q E->Á vs=Á ps)(i:∀(f:À)(e:Â)(A:cr)(o:Ł Ù)(s:be)(H:Hp)(vs:ϕ)(Q:VK)(E:XK)(pn:Ł _),gO k (A.deeper (envOfC cN (aG st) s.heap.objs.size f e))->sp vs H Q E->Hq (XB P w K mg base N cN (aG st) f e A o s H pn)->∃t,iY (XB P w K mg base N cN (aG st) f e A o s H pn) (bX st) t/\t {nx:=λ_ H'=>Q .jn H',rt:=Q} (start N vs) H):qN P w K mg base (k+1) C x ps sp:=by let(f,fd,a,h,b):=S.ex;exact(f,fd,a.okU F len (i f),h,b)
end
structure Po(P:ci)(w:cc)(K:Æ)(mg:c3)(base:È)(k:Ń)(x:Ä)(sp:Sp):ß where ex:∃(f:À)(fd:d4)(Jq:ϐ)(Jr:Sp)(ds:Ł Â)(dvs:ϕ),il P w K mg base (vP P w) k f fd Jq Jr/\mg x=O (.ref f)/\keepIn K (.ref f)/\Binds K fd Jq ds/\Vals dvs ds/\∀vs H Q E,sp vs H Q E->Jr (vs++dvs) H Q E
theorem Po.mono{K:Æ}{m:Ä->Ő _}(D:Po P w K m b j x sp)(h:j<=k):Po P w K m b k x sp:=by let(f,a,q,c,ds,d,F,r):=D.ex;exact(f,a,q,c,ds,d,F.mono h,r)
def gJ(X:Cx)(f:À)(sp:Sp)(dvs:ϕ)(E:XK):ß:=∀(p:Ł _)(σ:Ç)(H:Hp)(s:be)(Q:VK)(u:Ł _)(v:ϕ),Inv X p σ H s->Vals v u->sp (v++dvs) H Q E->bn (b' X.prog X.w) X.A (call (.ref f) u) (EP X p σ Q) X.xe s
section
variable{X:Cx}{CX:uo}{k:Ń}{f C:À}{fd:d4}{ps:ϐ}{sp:Sp}{dvs:ϕ}{ds:Ł Â}{E:XK}{x m:Ä}{p pos cs:Õ}{e o:Å}{es:Ł Å}{ta:TE}{t:TA}
def il.runs(F:il X.prog X.w X.K X.mg X.base CX k f fd ps sp)(H:fJ k X.A)(b:Binds X.K fd ps ds)(d:Vals dvs ds)(a:iq CX X E):gJ X f sp dvs E:=λ_ _ _ _ _ _ _ I r h=>D6 F H b d a I r h
def OS.runs(F:OS X.prog X.w X.K X.mg X.base k f fd ps sp)(a:gO k X.A)(q:Hq X)(b:Binds X.K fd ps ds)(d:Vals dvs ds):gJ X f sp dvs E:=λP σ H s Q U v I r h=>by let R:=r.append d;erw[sx (dU (F.run X.A _ s H _ _ _ Q E a I.KU (q.at I) (b s U I.qC (by rw[<-R.length];rwa[F.len _ _ _ _ h])) R h) λr S q=>?_)];induction r with|error e=>rwa[q.elim]|ok fl=>induction fl with|ret u=>rwa[I.after q]|next=>assumption|brk=>assumption|cont=>assumption
def Bc(R:gJ X f sp dvs E)(g:Gl X x)(a:X.mg x=O (.ref f))(b:keepIn X.K (.ref f))(c:PA X (e::es) t)(d:ø ((x=="__debug__")=a5) P3)(j:ø (dN (e::es) X.env=(a5,Ê e X.env)::dN es X.env) v0)(D:ø ((eP pos (dN es X.env)).any (·.1)=a5) v0):PE X (.Call (.Name x p) (e::es) [] pos) (xQ sp dvs E t):=by intro P s σ H Q I h;rwa[gr (jz I g a (gq I.ok.mod.FR b (iL (c pos _ s σ H _ I h) λu s1 z=>by let(v,l,i,r,q):=z;exact(i.qC,R _ σ l s1 Q u v i r q)) j D) d)]
def MS{g:Sem _}(j:PE X o ta)(c:Jy X.K C)(b:ya X.K C m f)(R:gJ X f sp dvs E)(n:PA X (e::es) t)(U:ø (dN (e::es) X.env=(a5,Ê e X.env)::dN es X.env) v0)(D:ø ((eP pos (dN es X.env)).any (·.1)=a5) v0)(w:ø (Ê (.Call (.Attribute o m cs) (e::es) [] pos) X.env=do
   let v<-Ê o X.env
   standAt cs.atName let(f,first)<-holding [v] (getMethod v m g)callWith pos f first (eP pos (dN (e::es) X.env)) (backToKw pos (hG [] X.env))) v0):PE X (.Call (.Attribute o m cs) (e::es) [] pos) (Wz C m sp dvs E ta t):=by intro P s σ H Q I h;erw[C1 (kr (j _ s σ H _ I h) λu s1 x y i z a=>?_) w];let(a,M,fs,ex,B,l,q):=a;subst ex;obtain rfl:u=Ò a:=z;rwa[uW i B c b l (gq I.ok.mod.FR b.kp (V_ (n pos _ s1 σ y _ i q) λN s2 F G d r L=>(d.qC,R _ σ G s2 Q _ (.A a::F) d (.cons Ŗ r) L)) U D)]
def HX{d:Sem _}(g:PE X o ta)(c:Jy X.K C)(b:ya X.K C m f)(R:gJ X f sp dvs E)(j:ø (Ê (.Call (.Attribute o m cs) [] [] pos) X.env=do
   let v<-Ê o X.env
   standAt cs.atName let(f,first)<-holding [v] (getMethod v m d)callWith pos f first (eP pos (dN [] X.env)) (backToKw pos (hG [] X.env))) v0):PE X (.Call (.Attribute o m cs) [] [] pos) (Wz C m sp dvs E ta Rv):=by intro P s σ H Q I h;erw[C1 (kr (g _ s σ H _ I h) λu s1 x n i r a=>?_) j];let(a,D,fs,ex,w,l,q):=a;subst ex;obtain rfl:u=Ò a:=r;rwa[uW i w c b l (PySem.W.callWith_K0 i.qC b.kp (R _ σ n s1 Q [.ref a] [.A a] i (.cons Ŗ .nil) q))]
end
def wa{E:dC}{x}(i:A' A s H fs)(k:s.heap.IsTuple t ce)(hn:(gc c env).length=ce.size)(v:(gc c env).findIdx? (·.1)=ao)(h:∀h',è s.heap.objs.size s.heap h'->bn (b' prog w) A (assignInOrder ((gc c env).map (·.2)) ce.toList) Q E {s with heap:=h'}):bn (b' prog w) A (assign (.Tuple c x pos) env (.ref t)) Q E s:=by
 rcases i with i|⟨a,C,T,d,y,i,g,q,r⟩;.rwa[assign_Tuple_tuple i k hn v h]
 let f:=k;let m:t≠s.heap.objs.size:=by let(o,u,_):=k;rwa[aR (ay u)]
 erw[aa (iX ?_)];delta unpack;rw[hn,v];erw[aa (b7 ?_)];erw[aa ?_];erw[aa (Jv f.typeIs slot_tuple_iter.lookup ?_)];erw[ai ?_];erw[aa (b7 (iter_tuple f ?_))];erw[aa (b7 (draw_tuple m _ 0 _ _ (_,ax _ Ŗ,Ŗ,Ŗ) (f.push _) () λj Y L=>?_))];let U:List.take ce.size (List.drop 0 ce.toList)=ce.toList:=by rw[fj];rwa[jP ⋯]
 rw[U,bS ⋯];rwa[aa (b7 (Er (s:={s with heap:=j}) i ((L.2 a (aR (ay g))).trans (af _ g)) (aR (ay g)) Y ((f.push _).extBut L.extBut m) ⋯ λn l=>ai (h _ λb o p e=>l b o p (L.extBut b o p (af _ e)))))]
def Td(q:Hq X)(h:mu X es t)(hn:ø (Á (gc es X.env)=n) v0)(A:ø ((gc es X.env).findIdx? (·.1)=ao) v0):PG X (.Tuple es k pos) (Yl X.K n t):=by intro p s σ H v u Q I r w;let(a,x,E,c,l,w):=w;subst E;cases r;let(B,R,d,z):=I.tuple c;rwa[wa (q.at I) d (by simp[hn,<-l,R.length]) A λg f=>h _ _ σ H x _ Q (I.kept λb o e=>f b o (aR (ay e)) e) (by done) w]
end L2
namespace L2
open Builtin Builtin.ObjectAttr
abbrev vl:Ł Â:=[.type "Exception",.type "BaseException",.type "object"]
def QW{E:dC}{os:OsState}{mN:c3}(S:StoreFacts B bm M owner)(a:h.get? C=O (hY nm q C N bs bm J sn sub ab col dd k0 k1 k2 k3 k5 newId))(hn:h.Ns N mN)(P:mN "__setattr__"=ao)(f:mN name=ao)(R:typeLookup (.type B) name=pure ao)(H:h.get? x=O o)(i:o.cls=.ref C)(j:∀c,o.data≠.cls c)(n:o.dict=ao)(T:∀h' W,h'.get? x=O {o with dict:=O h.objs.size}->h'.Ns1 h.objs.size (λy=>if y=name then O v else ao)->(∀b k,b≠x->h.get? b=O k->h'.get? b=O k)->Q ⟨⟩ (h',g,d,W,os)):bn (b' prog w) A (setAttr (.ref x) name v) Q E (h,g,d,t,os):=by
 let Z:=S.slot.bind (.ref x);let l:=S.passes (.ref x);delta setAttr callSpecial?;delta specialOf;repeat(any_goals(first|assumption|(with_reducible erw[dW H ?_];rw[i])|(with_reducible erw[hV a hn S.mro S.slot.lookup ?_];rw[P])|wp_step))
 erw[vV S.slot.plain S.entry (wpAny_check_sa S a H i ?_)];delta Builtin.«object.__setattr__»;repeat(first|rw[refuse_eq]|(rw[refuseLoop_ref,l])|(with_reducible erw[dW H ?_];rw[i])|with_reducible erw[wpAny_mroOf_exc a ?_]|(with_reducible erw[hV a hn S.mro R ?_];rw[f])|wp_step)
 rw[n,bS (by simp[typeHasDict])];split;.ext p;cases p
 split;.ext c p;rwa[Ă p (j c)]
 let G:(h.push {cls:=.type "dict",data:=.dict #[]}).get? x=O o:=af _ H;let s:x≠h.objs.size:=aR (ay H);erw[aa (wpAny_alloc' ?_)];erw[aa (wpAny_update' G ?_)];erw[ai ?_];let m:((h.push {cls:=.type "dict",data:=.dict #[]}).update x λo=>{cls:=o.cls,dict:=O h.objs.size,data:=o.data,slots:=o.slots}).Ns h.objs.size λ_=>ao:=(_,#[],_,(x3 _ _ _ _ s.symm).trans (Heap.get?_push_at Ŗ Ŗ),Ŗ,λe U=>Ă U ⋯,λ_=>Ŗ);show bn _ _ (storeInDict h.objs.size _ name v) _ _ _;delta storeInDict newKeyGuard;erw[aa (ai (aa (wpAny_nsSet1 (Heap.Ns1.of_empty m) λh' I K=>?_)))];let(oD,X,Y,D,r,u):=I.count (Within.cons name v Within.nil);erw[aa (wpAny_lookBehind D (by rw[r];rwa[pastItsLine_dict (aq u (by rw[aO,List.length_nil,jC];rwa[aH _ _]))]) ?_)];wp_walk;erw[T h' _ ?_ I λb k z L=>(K.2 b (aR (ay L))).trans ((x3 _ _ _ _ z).trans (af _ L))];erw[(K.2 x s).trans (bE _ G ?_)];let(oc,od,F,sd):=o;induction F<;>first|rfl|exact(Heap.get?_some_iff.mp H).2
def QS{E:dC}{os:OsState}{mN:c3}{m:c3}{Q:dC}(FB:ExcAttrBase B bm)(H:h.get? C=O (hY nm q C N bs bm J sn sub ab col dd k0 k1 k2 k3 k5 newId))(hn:h.Ns N mN)(f:mN "__getattribute__"=ao)(i:mN "__getattr__"=ao)(j:mN name=ao)(n:typeLookup (.type B) name=pure ao)(a:h.get? x=O o)(b:o.cls=.ref C)(k:∀c,o.data≠.cls c)(L:o.dict=O D)(p:h.Ns D m)(r:m name=O v)(G:handedOut v=pure v)(s:Q v (h,g,d,t+1,os)):bn (b' prog w) A (getAttr (.ref x) name e) Q E (h,g,d,t,os):=by
 let I:=FB.ga.bind (.ref x);let u:(e&&onTheHeap (ð "BaseException.__getattribute__"))=false:=by cases e<;>rfl
 let y:(ð "BaseException.__getattribute__"==ð "object.__getattribute__")=false:=∅
 let Z:(onTheHeap (Ò C)&&ð "BaseException.__getattribute__"==ð "object.__getattribute__")=false:=by rw[y];rfl
 let l:(Ò C::bm).contains (.type "BaseException")=true:=by rw[List.contains_cons,FB.hasBase,mJ]
 delta getAttr getAttrBy;repeat(any_goals(first|assumption|(with_reducible erw[dW a ?_];rw[b])|(with_reducible erw[hV H hn FB.mro FB.ga.lookup ?_];rw[f])|(with_reducible erw[hV H hn FB.mro FB.noGetattr ?_];rw[i])|wp_step))
 let z:builtinKind "BaseException.__getattribute__"=O .slot:=∅
 let Y:splitId "BaseException.__getattribute__"=O ("BaseException","__getattribute__"):=∅
 erw[vV FB.ga.plain PySem.F.entry_bexc_ga ?_];show bn _ _ (checkBuiltinCall "BaseException.__getattribute__" ([.ref x,.str name t],[])) _ _ _;let ha:=PySem.F.args_bexc_ga (.ref x) (.str name t);simp only[checkBuiltinCall,z,Y];erw[aa ?_];delta isInstance;repeat(first|(with_reducible erw[dW a ?_];rw[b])|(with_reducible erw[UF H ?_];rw[l])|wp_step)
 repeat(first|(with_reducible erw[dW a ?_];rw[b])|(with_reducible erw[hV H hn FB.mro n ?_];rw[j])|wp_step)
 split;.ext c P;rwa[Ă P (k c)]
 delta instanceDict;repeat(first|(with_reducible erw[dW a ?_];rw[b])|with_reducible erw[dW H ?_]|wp_step)
 rw[L];repeat(first|(with_reducible erw[wpAny_nsGet p ?_];rw[r])|wp_step)
 rwa[s]
end L2
namespace L2
structure GW(K:Æ)(C fI:À):ß where ex:∃nm q N bs sn sub ab col dd k0 k1 k2 k3 k5,K.lookup C=O (hY nm q C N bs vl J sn sub ab col dd k0 k1 k2 k3 k5 "Exception.__new__")/\nsOkIn K N/\nsIn K N "__init__"=O (O (.ref fI))/\nsIn K N "__setattr__"=O ao/\nsIn K N "__getattribute__"=O ao/\nsIn K N "__getattr__"=O ao/\nsIn K N "number"=O ao
inductive ğ(h:È)(C fI:À):ß|mk(nm q N bs sn sub ab col dd k0 k1 k2 k3 k5 mN):h.get? C=O (hY nm q C N bs vl J sn sub ab col dd k0 k1 k2 k3 k5 "Exception.__new__")->h.Ns N mN->mN "__init__"=O (.ref fI)->mN "__setattr__"=ao->mN "__getattribute__"=ao->mN "__getattr__"=ao->mN "number"=ao->ğ h C fI
def Sa{K:Æ}(X:K.In h)(G:h.Ns N m)(e:nsIn K N n=O (O v)):m n=O v:=by
 let(o,E,p,H,d,_,f):=G;delta nsIn at e;split at e
 .ext q;let:=X _ _ q;rw[H]at this;cases this;cases d;split at e;.ext a;cases e;rw[<-f];delta nsFind findBy;rw[<-zY,a];rfl
  .lia
 .cases e
def yL{K:Æ}(X:K.In h)(q:GW K C fI):ğ h C fI:=by let(n,Q,N,bs,s,sub,A,c,D,k,k1,k2,i,j,a,H,b,d,e,f,g):=q.ex;rwa[.mk _ _ _ _ _ _ _ _ _ _ _ _ _ _ _ (X _ _ a) (.of_isNs (Ac X H)) (Sa X (.of_isNs (Ac X H)) b) (fO X H d) (fO X H e) (fO X H f) (fO X H g)]
def xt:typeLookup (.type "Exception") "number"=pure none:=by kernel_rfl
structure WQ(P:ci)(w:cc)(fs:Ł À)(H:Hp)(s:be)(e C t:À)(dx:À)(n:Î)(s':be):ß where
 os:s'.os=s.os
 bare:AllBare s'.gens
 obj:s'.heap.get? e=O (yI C t (O dx) .none)ne:dx≠e
 new:s.heap.get? dx=ao
 c4:jX P w (dq H dx (.xd [("number",.I n)])) s'.heap
 keep:∀b o,b≠e->s.heap.get? b=O o->H b=ao->b∉fs->s'.heap.get? b=O o
 slot:∀b o,b≠e->s.heap.get? b=O o->H b=ao->b∈fs->∃sl,s'.heap.get? b=O {o with slots:=sl}there:∀b o,s.heap.get? b=O o->∃o',s'.heap.get? b=O o'
def jX.agA(x:jX P w H h)(fr:H a=ao)(new:fq P w (dq H a o) h a o):jX P w (dq H a o) h:=λb u e=>by
 let st:∀{c v},H c=O v->dq H a o c=O v:=λq=>by rw[bw (b8 q fr)];rwa[q]
 by_cases d:b=a;.subst d;rw[bC]at e;cases e;rwa[new]
 .rw[bw d]at e;exact(x b u e).sW (λ_ _ _ q=>q) (λ_ q=>st q) λ_ _ q=>st q
def K6(d:X.N=(["self","number"]:ϐ))(j:ο X.env.scope "self")(v2:ο X.env.scope "number")(I:Inv X [] (start ["self","number"] [.A e,.I n]) H s)(k:X.s₀.heap.get? e=O (yI C t ao .none))(hn:X.H₀ e=ao)(l:e∉X.fs)(x:X.ex=[])(m:GW X.K C g):bn (b' X.prog X.w) X.A (execs [.Assign [.Attribute (.Name "self" p1) "number" p2] (.Name "number" p3) p4] X.env) (λfl s'=>fl=.next/\∃S h' T u,Inv X [] (start ["self","number"] [.A e,.I n]) H S/\s'={S with heap:=h',toks:=T}/\h'.get? e=O (yI C t (O S.heap.objs.size) .none)/\h'.Ns1 S.heap.objs.size (λy=>if y="number"then O u else ao)/\RelV (.I n) u/\∀b o,b≠e->S.heap.get? b=O o->h'.get? b=O o) X.xe s:=by let ps:PE X (.Name _ p1) (BB 0):=zp (by rw[d];rfl) j;let pn:PE X (.Name _ p3) (BB 1):=zp (by rw[d];rfl) v2;erw[qL (EI (kr (pn [] s _ H (λv h=>v=.I n/\h=H) I (_,Ŗ,Ŗ,Ŗ)) λu s2 v f p r q=>?_) Ŗ)];let(rfl,rfl):=q;erw[kr (ps [] s2 _ f (λv h=>v=.A e/\h=f) p (_,Ŗ,Ŗ,Ŗ)) λP S v U i R q=>?_];let(rfl,rfl):=q;cases R;let(Y,Z,N,bs,sn,sub,ab,B,dd,k0,k1,k2,k3,k5,mN,D,a,_,E,_,_,G):=yL i.qC m;rwa[QW PySem.F.store_Exception D a E G xt (i.base.keep e _ k hn l (by rw[x];rwa[dQ])) rfl (λc z=>by cases z) rfl λh' W Q L M=>gH (Ŗ,_,h',W,u,i,Ŗ,Q,L,r,M)]
def Q0{K:Æ}{M:Ä->Ő _}{st:É}(R:BM K "__init__" Q st g D)(F:c7 ["self","number"] ["self","number"] (aG st))(h:bX st=[.Assign [.Attribute (.Name "self" p1) "number" p2] (.Name "number" p3) p4])(l:Binds K D ["self","number"] [])(E:fJ k A)(e0:x9 P w K M B A a s H)(G:s.heap.get? e=O (yI C t ao .none))(hn:H e=ao)(c:e∉oV a)(S:GW K C g)(T:RelV (.I n) N):fm (b' P w) A (.call (.ref g) ([.ref e,N],[])) (λr s'=>r=.ok (.ret .none)/\∃U,WQ P w (oV a) H s e C t U n s') s:=by
 let(oc,od,kV,doc,pm,an,W,ct,sd,rfl,lk,Y):=R.ex;let X:=e0.mod.FR.keeps λb o e=>(e0.bs b o e).1;erw[um E.depth (X _ _ lk) rfl F.co F.gen rfl (Ab X Y) ((l s [.ref e,N] X Ŗ) _ _ _ _ ?_)];erw[nX F.kind (λ(n,v) Z=>by
  rcases F.par n (mh Z).1 with q|q;.rwa[.inl q]
  .rwa[.inr (q,jR _ _ _ (.inl q))]) λenv Yw s1 y=>?_];subst Yw;erw[((e0.mod.nolimit.keeps λb o e=>(e0.bs b o e).1).keeps y.toInCall.keep,xL ?_)];let I:Inv (oQ BL P w K M _ _ Q _ g W A _ s H E0).BR [] _ H s1:=(rf (vs:=[.A e,.I n]) F E.hd e0 rfl (.cons Ŗ (.cons T .nil)) y).sY _;let d:∀x∈(["self","number"]:ϐ),ο _ x:=λx hx=>(F.par x hx).elim .inl λq=>.inr (.inl q);let z:=K6 (p1:=p1) (p2:=p2) (p3:=p3) (p4:=p4) rfl (d _ ⋯) (d _ ⋯) I G hn c rfl S;rw[<-h]at z;erw[cZ z (λfl s' m=>?_) λe s' m=>m.elim];let(rfl,s3,h',tk,u,i,rfl,L,q2,ru,j):=m;erw[(Ŗ,_,i.os,i.bare,L,eR (ay (i.base.keep e _ G hn c dQ)),F3 i.sz,?_,λb o h q n p=>j b o h (i.base.keep b o q n p dQ),λb o h q n p=>?_,λb o q=>?_)]
 .erw[(i.c4.keep λb v o h q=>j b o λz=>by lia q).agA (i.c4.fresh (ah _)) (_,q2,λf=>?_)];rw[ig];by_cases c:f="number";.subst c;rwa[ru]
  .rw[bS c,c8.mpr c];rwa[ï]
 .let(sl,z):=i.base.slot b o q n p dQ;exact(sl,j b _ h z)
 .by_cases h:b=e;.exact(_,h▸L)
  .let(o',z):=i.base.there b o q dQ;exact(o',j b _ h z)
def D2{E:dC}(c:bm.contains (.type "BaseException"))(f:A.handled=ao)(h:bn M A x (λv S=>∃e t d,v=.ref e/\S.heap.get? C=O (hY nm q C N bs bm hdct sn sub ab col dd k0 k1 k2 k3 k5 newId)/\S.heap.get? e=O (yI C t d .none)/\E (.ref e) S) E s):bn M A (raiseStmt env (O x) ao) Q E s:=by
 let B:(Ò C::bm).contains (.type "BaseException")=true:=by rw[List.contains_cons,c,mJ]
 delta raiseStmt;erw[aa (cZ h (λv S H=>?_) λ_ _ x=>x)];let(e,t,d,rfl,a,b,i):=H;let(p,g,D,T,os):=S;delta yI at b;repeat(first|with_reducible erw[dW b ?_]|with_reducible erw[dW a ?_]|(with_reducible erw[UF a ?_];rw[B])|wp_step)
 rwa[wpAny_raiseNew_none f i]
def GI(E:XK)(C:À)(t:TE):TS:=λ_ σ H=>t σ H λv h=>∃n:Î,v=.I n/\∀d,h d=ao->E (.ref C) (O d) (dq h d (.xd [("number",.I n)]))
structure GX(K:Æ)(C:À):ß where
 ex:∃(fI:À)(fd:d4)(cN:Ä)(st:É)(p1 p2 p3 p4:Õ)(oI:Ø),GW K C fI/\BM K "__init__" cN st fI fd/\c7 ["self","number"] ["self","number"] (aG st)/\bX st=[.Assign [.Attribute (.Name "self" p1) "number" p2] (.Name "number" p3) p4]/\Binds K fd ["self","number"] []/\K.lookup fI=O oI/\oI.cls=.type "function"hit:Pq K C
 sub:subIn K (.ref C) (.ref C)=O J
def WQ.un{s:be}(B:WQ P w fs H {s with heap:=a} e C t d n s')(m:Heap.MadeExcOf s.heap a e (.ref C) vs)(f:H d=ao):Un fs [] H (dq H d (.xd [("number",.I n)])) s.heap s'.heap:=by
 let N:∀b o,s.heap.get? b=O o->b≠e:=λb o q z=>by rw[z,m.new]at q;cases q
 let st:∀{c v},H c=O v->dq H d (.xd [("number",.I n)]) c=O v:=λq=>by rw[bw (b8 q f)];rwa[q]
 erw[(λb o q n h _=>B.keep b o (N b o q) (m.keeps b o q) n h,λb o q n h _=>B.slot b o (N b o q) (m.keeps b o q) n h,λb o q n _=>?_,λb o q _=>B.there b o (m.keeps b o q),λb x q=>st q,λb o u q=>st q,λb ps q=>(#[],by rw[st q];simp))];rw[bw λz=>?_];.rwa[n]
 .let:=B.new;rw[<-z,m.keeps b o q]at this;cases this
def Ih(fr:B4 X)(o:gN X E)(M:X.calm)(R:fJ (k+1) X.A)(T:Gl X x)(m:X.mg x=O (.ref C))(U:GX X.K C)(W:PE X e0 t)(Y:ø (cL e0=J) v0)(Z:ø ((x=="__debug__")=a5) P3):PS X (.Raise (O (.Call (.Name x w) [e0] [] G)) ao pos) (GI E C t):=by intro P s σ H D I h;let(fI,fd,Q,st,p1,p2,p3,p4,oI,F,F0,Fs,b,d,hI,f):=U.ex;let(nm,qn,N,bs,sn,sub,ab,col,dd,k0,k1,k2,k3,k5,mN,g,l,hi,h1,_,_,h2):=yL I.mod.FR F;erw[aa (iX (D2 (C:=C) (nm:=nm) (q:=qn) (N:=N) (bs:=bs) (bm:=vl) (hdct:=J) (sn:=sn) (sub:=sub) (ab:=ab) (col:=col) (dd:=dd) (k0:=k0) (k1:=k1) (k2:=k2) (k3:=k3) (k5:=k5) (newId:="Exception.__new__") U9.hasBase (I.ok.hd M) (aa (cZ (wpAny_Call_ofName (jz I T m ?_ Z)) (λv S c=>aa (iX (ai c))) λ_ _ x=>x))))];simp only[cA (es:=[]) (env:=X.env) Y];erw[aa (b7 (fC (dJ (kr (W _ s σ H _ I h) λv s2 y H1 i r q=>gT (aa (iX ?_))))))];let(n,rfl,q):=q;let(h2,g2,d2,t2,o2):=s2;let a:=i.bk _ _ g;erw[aa (wpAny_keeperOf_exc a ?_)];erw[aa (wpAny_call_exc_init U9 a (l.keeps i.bk) hi (i.qC _ _ hI) f λh' e m=>?_)];let(t0,p,_,_):=m.there;let j:Inv X _ σ H1 {heap:=h',gens:=g2,drawn:=d2,toks:=t2,os:=o2}:=i.kept m.keeps;let u:=i.c4.none_of m.new;erw[sx (dU (Q0 F0 Fs b d (R.make C [v] []) (j.KU.make C [v] []) p u (λb=>by let(_,ob,ho,_):=i.stack.mem b;let:=m.new;rw[ho]at this;cases this) F r) λres s' hq=>?_)];let(rfl,dx,B):=hq;let L:=j.c4.none_of B.new;exact(Ŗ,aa (b7 (wpAny_point (ai (e,t0,_,Ŗ,(B.keep C _ (λz=>by let:=m.new;rw[<-z,a]at this;cases this) (m.keeps _ _ a) (i.bs _ _ g).2 λb=>by let:=(i.stack.mem b).1;rw[g]at this;cases this),B.obj,o.VS fr i B.os (B.un m L) B.c4 B.bare B.obj (by rw[bw (cY B.ne)];rwa[u]) m.new (q dx L))))))
structure GZ(w:cc)(K:Æ)(a:À)(tab:Ä->Ő ϐ):ß where
 ex:∃(es:Array gn)(n:Ń),K.lookup a=O (.type "dict",ao,.dict es n,#[])/\KeysLit w.params es.toList/\∀x,match tab x with|O ks=>∃y t,ks=[y]/\findBy â es x=O (.str y t)|ao=>findBy â es x=ao
 lo:(a==fb)=a5
def WG(t:Ä->Ő ϐ)(T a:TE):TE:=λσ H Q=>T σ H λy b=>∃x,y=.S x/\a σ b λz h=>match t x with|O k=>∀y,k=[y]->Q (.S y) h|ao=>Q z h
def SD(T:GZ X.w X.K a b)(o:Gl X n)(r:X.mg n=O (.ref a))(v:PE X e g)(A:PE X f j)(B:(n==("__debug__":Ä))=a5)(C:ge (.Name n p) "get" X.env (Ê (.Name n p) X.env)=Ê (.Name n p) X.env)(Y:((eP D (dN [e,f] X.env)).all (λx=>!x.1)&&(backToKw D (hG [] X.env)).all (λx=>x.1.isSome)&&Đ (Á [e,f]+Á ([]:Ł g5)+(if([]:Ł g5).isEmpty then 0 else 1)<30))=J)(R:(cs.endLine==D.line))(hs:dN [e,f] X.env=[(a5,Ê e X.env),(a5,Ê f X.env)]):PE X (.Call (.Attribute (.Name n p) "get" cs) [e,f] [] D) (WG b g j):=by intro P s σ H Q I h;let(es,k,lk,keys,look):=T.ex;let c:=mj (prog:=X.prog) I.qC lk keys;erw[TW C Y R Ŗ (jz I o r ?_ B)];erw[(_,_,qK,gS,Tl,c.typeIs,c.noDict,?_)];rw[hs];erw[jN Ŗ (fC (dJ (kr (v _ s σ H _ I h) λu s1 y E F G Z=>Z.elim λx Z=>Z.elim λL M=>dJ (kr (A _ s1 σ E _ F M) λN s2 z l i U q=>gT ?_))))];subst L;let(t,rfl):=G;let d:=mj (prog:=X.prog) i.qC lk keys;erw[BZ gS d.typeIs sj (qI _ _ _) (UV _ a (nW _ X.w x t) T.lo N) (_,d,?_)];let lx:=look x;induction m:b x with|c ks=>rw[m]at lx q;let(y,t',rfl,W):=lx;rw[W];exact(.S y,l,i.tok _,(_,Ŗ),q y Ŗ)|a=>rw[m]at lx q;rw[lx];exact(z,l,i.tok _,U,q)
def oR:c5 X N s f S H₀ (λ_ _ _=>ŧ)=gZ X N s f S H₀:=by
 let e:(c5 X N s f S H₀ λ_ _ _=>ŧ).xe=λ_ _=>ŧ:=by funext e a;erw[propext (λh=>?_,å)];let(_,_,_,_,_,_,_,_,_,_,_,q):=h;rwa[q]
 show{gZ X N _ f _ _ with xe:=(c5 X N s f S H₀ λ_ _ _=>ŧ).xe}=_;rw[e];rfl
def Mq{P:ß}(h:(c5 X N s f S H λ_ _ _=>ŧ).xe e s'):P:=by rw[oR]at h;rwa[h.elim]
def Sy(S:eM X d a)(K:X.calm)(j:∀σ:Ç,Á σ=Á X.N->kh X d a σ (f σ))(hi:PI X t iter wi)(l:∀F b c,PG (gZ X d a F b c) t g)(m:∀F b c,pJ (gZ X d a F b c) i T)(o:∀F b c,PE (gZ X d a F b c) E k)(hs:ø (∀x,hF iter X.env x=pure x) hO):PE X (.ListComp E [(t,iter,i,0)] a pos) (sf wi g T k f):=by intro p s σ H Q I h;rwa[yr S K j hi (λ_ _ _=>by rw[oR];rwa[l _ _ _]) (λ_ _ _=>by rw[oR];rwa[m _ _ _]) (λ_ _ _=>by rw[oR];exact(o _ _ _).n 0) hs AA (λ_ _ e q h=>Mq h) I (aP _) h]
def Bd(K:X.N.Nodup)(L:X.N[i0]?=O y)(M:Loc X.env.scope y)(S:eM X k a)(kK:X.calm)(P:∀σ:Ç,Á σ=Á X.N->kh X k a σ (r σ))(hi:PI X t iter wi)(hg:∀F c d,PG (c5 X k a F c d E1) t g)(hc:∀F c d,pJ (c5 X k a F c d E1) i tc)(he:∀F c d,PE (c5 X k a F c d E1) E te)(T:∀{use:Ő (Â->Sem Unit)}{R:dC}{p:db}{σ:Ç}{F:Ł À}{j:be}{u:Hp}{acc:À},Inv X p σ u j->(∀b∈F,lG X p u b)->∀e s',(c5 X k a F j u E1).xe e s'->notedBy (b' X.prog X.w) X.A (compEnvC a (pP X.env.cells a.names []) j.heap.objs.size X.env) (λe s'=>compPost (b' X.prog X.w) X.A X.xe use R (.ref acc) j.heap.objs.size (.error e) s') e s')(hs:ø (∀x,hF iter X.env x=pure x) hO)(U:ø (g6 (.ListComp E [(t,iter,i,0)] a pos) (O (.Name y py)) Bv.line X.env=pure J) v0)(W:ø (X.fn y=J\/X.env.scope.names.lookup y=O .local) hH):PS X (.Assign [.Name y py] (.ListComp E [(t,iter,i,0)] a pos) Bv) (sX (sf wi g tc te r) (kJ i0)):=by
 intro p s σ H D I h;rw[exec_Assign_Name_used _ _ _ _ U];erw[aa (iX (aa ?_))];erw[aa (cZ (yr S kK P hi hg hc (λ_ _ _=>(he _ _ _).n 0) hs (λ{F j s' σ' u H' acc}z Y l q=>?_) (λz Y=>T z Y) I (aP _) h) (λ_ s' hq=>ai (ai hq)) λ_ _ e=>e)];let(m,B,_):=id l.loc;let B:s'.heap.Ns j.heap.objs.size m:=B;let IX:=by erw[z.Av l.os l.base l.c4 l.bare λb f=>?_];.let(_,Q,q2,Z,q4,q5):=Y b f;exact(Z,Q,q4,q5)
 let Δ:=z.AK (ah _) l.free;let(oC,esC,epC,C,hrC):=id B;erw[wpAny_assign_Name (nC (IX.pinned (λb f=>by rw[aB.mp f];rwa[Δ]) λb f=>by rw[aB.mp f];exact(oC,C,λv g=>nofun)) K L M (v:=.A acc) rfl (λsa Ia=>?_) W)];erw[(m,B.at' λo e=>?_,λh' Jk=>(_,H',?_,q))];.rw[C]at e;rwa[e▸(Ia.pin _ (aW _ (aW _ (jI ⋯ C)))).1]
 .let(q0,Q,q2,Z,q4,q5):=Δ;let Iu:=Ia.lj;let G:∀b o,b ∉[j.heap.objs.size]->sa.heap.get? b=O o->h'.get? b=O o:=λb o f e=>(Jk.2 b (by simpa using f)).trans e;erw[Iu.step (λb f=>?_) (λb o _ _ f e _=>G b o f e) (λb o _ _ f e _=>(_,G b o f e)) (λb o _ _ n=>n) (λb o f e=>(o,G b o f e)) (λ_ _ e=>e) (λ_ _ _ e=>e) (λb ps e=>(#[],by done)) (λm' hm'=>hm'.at' λo e=>G _ o (by simpa using cY Q) e) (tS Iu.c4 q0 Jk) Iu.bare];rw[aB.mp f];exact(Z,Q,q4,q5)
def Tt(b:X.N.Nodup)(d:X.N[I]?=O y)(j:Loc X.env.scope y)(S:eM X n s)(K:X.calm)(k:∀σ:Ç,Á σ=Á X.N->kh X n s σ (c σ))(hi:PI X t iter wi)(o:∀f a H,PG (gZ X n s f a H) t g)(q:∀f a H,pJ (gZ X n s f a H) i T)(r:∀f a H,PE (gZ X n s f a H) E m)(hs:ø (∀x,hF iter X.env x=pure x) hO)(w:ø (g6 (.ListComp E [(t,iter,i,0)] s pos) (O (.Name y p)) B.line X.env=pure J) v0)(l:ø (X.fn y=J\/X.env.scope.names.lookup y=O .local) hH):PS X (.Assign [.Name y p] (.ListComp E [(t,iter,i,0)] s pos) B) (sX (sf wi g T m c) (kJ I)):=Bd b d j S K k hi (λ_ _ _=>by rw[oR];rwa[o _ _ _]) (λ_ _ _=>by rw[oR];rwa[q _ _ _]) (λ_ _ _=>by rw[oR];rwa[r _ _ _]) (λ_ _ e u h=>Mq h) hs w l
def Nv(fr:B4 X)(o:gN X E1)(h:X.N.Nodup)(b:X.N[I]?=O y)(d:Loc X.env.scope y)(S:eM X n s)(K:X.calm)(j:∀σ:Ç,Á σ=Á X.N->kh X n s σ (c σ))(hi:PI X t iter wi)(m:∀f a H,PG (c5 X n s f a H E1) t g)(q:∀f a H,pJ (c5 X n s f a H E1) i T)(r:∀f a H,PE (c5 X n s f a H E1) e l)(hs:ø (∀x,hF iter X.env x=pure x) hO)(w:ø (g6 (.ListComp e [(t,iter,i,0)] s pos) (O (.Name y p)) B.line X.env=pure J) v0)(k:ø (X.fn y=J\/X.env.scope.names.lookup y=O .local) hH):PS X (.Assign [.Name y p] (.ListComp e [(t,iter,i,0)] s pos) B) (sX (sf wi g T l c) (kJ I)):=Bd h b d S K j hi m q r (λu F=>Az fr o u F) hs w k
end L2
namespace PySem
open Builtin Builtin.Str
end PySem
namespace L2
open PySem.SeqAt PySem.MeetsSeq PySem.Builtin PySem.Builtin.Str
end L2
namespace L2
def WH(K:Æ)(R:À)(i j:Ń)(sp:Sp)(t:TA)(T:À->À->Ő À->TS):TS:=λD σ H=>t σ H λs b=>∃E1:XK,sp s b (λv c=>D.nx (σ.set j (O v)) c) E1/\∀C o h a,E1 (.ref C) o h->subIn K (.ref C) (.ref R)=O J/\T a C o (AM i D) (σ.set i (O (.A a))) h
theorem Inv.BR{p:Ł _}{σ:Ç}(I:Inv X.BR p σ H s):Inv X p σ H s:=(I.ok.lX,I.os,I.bare,I.base,I.loc,I.cell,I.free,I.gz,I.pin,I.c4,I.len)
def Tv(fr:B4 X)(E:X.N.Nodup)(hi:X.N[i]?=O n)(Z:X.env.scope.names.lookup n=O .local)(hf:X.fn n)(hg:Gl X x)(hm:X.mg x=O (.ref R))(hR:Pq X.K R)(hs:∀pn a C d,Hd (X.hn pn a) a C d->iY (X.hn pn a) (o::B) (t a C d))(D0:nY X.prog X.w X.K X.mg X.base k f ps sp)(hr:fJ k X.A)(c:Gl X f)(ha:PA X.BR (e::es) T)(hj:X.N[j]?=O y)(hy:Loc X.env.scope y)(g:X.fn y\/X.env.scope.names.lookup y=O .local)(hd:(x=="__debug__")=a5)(Yv:(f=="__debug__")=a5)(Y:(e::es).all cL):PS X (.Try [.Assign [.Name y Q] (.Call (.Name f S) (e::es) [] p) W] [.ExceptHandler (O (.Name x L)) (O n) (o::B) M] [] [] pos) (WH X.K R i j sp T t):=by intro P s σ H D I h;let(fa,fd,F,l,hk,hb):=D0.ex;rw[cw,aM]at Y;erw[Ov fr E hi Z hf hg hm hR I.ok hs ?_ hd];erw[qL (wpAny_Assign_Name (gr (jz I c l (gq I.ok.mod.FR hk (cZ (ha p _ s σ H _ (I.sY _) h) (λU s1 zz=>?_) λ_ _ z=>z.elim) (cA Y.1) (fB Y.2)) Yv)) Ŗ)];let(vs,G,I1,r,E1,q,hh):=zz;replace I1:=I1.BR;erw[(I1.qC,?_)];erw[sx (dU (F.run X.A _ s1 G (U,[]) U vs _ E1 hr I1.KU (by simpa using hb s1 U I1.qC (by simpa using by rw[<-r.length];rwa[F.len _ _ _ _ q])) r q) λm s' b=>?_)];induction m with|error e=>exact(E1,σ,G,s1,I1.ajp _,b,hh)|ok fl=>induction fl with|ret u=>let(v,H2,I2,rv,q2):=I1.after b;rwa[nC I2 E hj hy rv (λs2 I3=>gH (_,H2,I3,q2)) g]|next=>rwa[b.elim]|brk=>rwa[b.elim]|cont=>rwa[b.elim]
def Uf(i:Ń)(a:À)(d:Ő À):TE:=λσ H Q=>σ[i]?=O (O (.A a))/\∃D m,d=O D/\H D=O (.xd [("number",.I m)])/\Q (.I m) H
def ZK(g:Hd X a C d)(j:GW X.K C f)(hn:PE X (.Name n p) (BB i)):PE X (.Attribute (.Name n p) "number" p2) (Uf i a d):=by intro P s σ H Q I h;let(k,D,m,rfl,L,q):=h;erw[ES Ŗ (kr (hn _ s σ H (λv l=>v=.A a/\l=H) I (_,k,Ŗ,Ŗ)) λu s1 v o b R z=>?_)];let(rfl,rfl):=z;cases R;let(t,U,w):=g.pn;let(Z,_):=b.pin _ (dP _ w);let(W,Y,N,bs,sn,sub,ab,x,dd,k0,k1,k2,k3,k5,mN,y,e,_,_,B,E,G):=yL b.qC j;let(mA,M,r):=b.c4 D _ L;let(w',S,T):=mq.some_of (r "number");let(tk,rfl):=T;rwa[QS PySem.F.attrBase_Exception y e B E G xt Z rfl (λc z=>by cases z) rfl M.ns S rfl (.I m,o,b.tok _,(_,Ŗ),q)]
def NF(X:Cx)(a:À):ß:=∀o u,X.H₀ a≠O (.mX o u)
def Inv.adL{σ:Ç}(I:Inv X bb σ H s)(e:H a=O o)(t:∀xs,o≠.T xs)(g:∀ps,o≠.UA ps)(nw:∀y,o≠.own y)(i:NF X a)(new:fq X.prog X.w (dq H a u) s.heap a u):Inv X bb σ (dq H a u) s:=by
 let N:∀{b v},H b=O v->v≠o->dq H a u b=O v:=λ{b v}q n=>by rw[bw λz=>n nofun];rwa[q]
 let d:∀{b},H b=ao->dq H a u b=none:=λ{b}q=>by rw[bw λz=>nofun];rwa[q]
 erw[(I.ok,I.os,I.bare,(I.base.keep,I.base.slot,λb o q n j=>d (I.base.free b o q n j),I.base.there,λb xs q=>N (I.base.oy b xs q) λz=>t xs z.symm,λb f U q=>?_,λb ps q=>?_),I.loc,I.cell,d I.free,λx c q=>d (I.gz x c q),λp k=>?_,λb v q=>?_,I.len)]
 .by_cases h:b=a;.subst h;rwa[Ă q (i f U)]
  .rw[bw h];rwa[I.base.mw b f U q]
 .let(m,z):=I.base.oq b ps q;exact(_,N z λy=>g _ y.symm)
 .let(Z,l,r):=I.pin p k;exact(Z,d l,r)
 .by_cases h:b=a;.subst h;rw[bC]at q;cases q;rwa[new]
  .rw[bw h]at q;exact(I.c4 b v q).sW (λ_ _ _ z=>z) (λc z=>N z λy=>nw _ y.symm) λc xs z=>N z λy=>t xs y.symm
theorem Inv.mX{σ:Ç}(I:Inv X bb σ H s)(e:H a=O (.dK aU)):∃ob,s.heap.get? a=O ob/\NF X a/\Inv X bb σ (dq H a (.mX ob (.dK aU))) s:=by
 let(ob,h):=(I.c4 a _ e).there;let n:NF X a:=λo u q=>by let:=I.base.mw a o u q;rw[e]at this;cases this
 exact(ob,h,n,I.adL e (λ_ z=>by cases z) (λ_ z=>by cases z) (λ_ z=>by cases z) n (h,I.c4 a _ e))
def Inv.ajk{σ:Ç}(I:Inv X bb σ H s)(e:H a=O (.mX ob (.dK aU)))(n:NF X a):Inv X bb σ (dq H a (.dK aU)) s:=by let(_,q):=I.c4 a _ e;rwa[I.adL e (λ_ z=>by cases z) (λ_ z=>by cases z) (λ_ z=>by cases z) n q]
def tz(a:À)(o:Ø)(k:ϐ)(H:Hp):ß:=∃A:Ł _,H a=O (.mX o (.dK A))/\A.map (·.1)=k.map Ü
def ξ(a:À)(o:Ø)(k:ϐ):It:=(λi H=>tz a o k H/\i<Á k,λi H x h=>h=H/\∀y,k[i]?=O y->x=.S y,λi H=>tz a o k H/\Á k<=i)
def Fe{p:Ł _}{σ:Ç}(I:Inv X p σ H s)(e:tz a b k H)(h:∃es,b.data=.dict es ep):∃vs:Ł (cp×Â),(vs.map (·.1))=k.map Ü/\s.heap.DictAt (dZ X.prog X.w) a vs ep:=by let(A,e,g):=e;let(c,_,_,vs,rel,o,es,E,d,i,f,j):=I.c4 a _ e;rw[c]at d;cases d;let(K,h):=h;rw[f]at h;cases h;exact(vs,by rw[<-rel.keys];rwa[g],b,es,c,i,f,j)
def IH{K:Æ}(v:∃es,u.data=.dict es ep):uv P w K T (ξ a u g) [it] it λi h=>h.IsKeyIter it a i (Á g) ep:=lg (n:="dict_keyiterator") rfl (λ(o,e,c,d)=>(o,_,e,c,d)) (λst k=>st.at k) (λ{X i p s σ H E Q}j l m x I st r q=>by
  subst j l m;let(t,z):=r;let(A,f,D):=Fe I t v;let hl:=by let:=bL Á f;simpa using this
  let b:(A.map (·.1))[i]?=O (Ü g[i]):=by rw[f,aN,av z];rfl
  rw[aN]at b;obtain⟨⟨k,W⟩,B,b⟩:=cE.mp b;cases b;rw[<-hl]at st;erw[wpAny_pyNext_dict_item st D B λkey C F G L=>?_];let(M,rfl):=Ul F;rwa[q _ (.S _) C _ (_,Ŗ) (Ŗ,λy N=>nofun) (by rw[<-hl];rwa[G]) L.extBut]) (λ{X i p s σ H E Q}j l m x I st r q=>by
  subst j l m;let(t,z):=r;let(A,f,D):=Fe I t v;let hl:=by let:=bL Á f;simpa using this
  rw[<-hl]at st;rwa[wpAny_pyNext_dict_end (I.ok.hd x) st D (cW ()) q]) λst h=>Ix st h
def FC(X:Cx)(t:TE):TI:=λσ H R=>t σ H λx h=>∃a U k,x=.A a/\U.map (·.1)=k.map Ü/\((h a=O (.dK U)/\∀o,NF X a->R (ξ a o k) (dq h a (.mX o (.dK U))))\/∃o,h a=O (.mX o (.dK U))/\R (ξ a o k) h)
def Th(j:PE X l T):PI X t l (FC X T):=by
 intro p s σ H R I h;erw[kr (j _ s σ H _ I h) λv s1 x F m u Q=>?_];let(a,U,K,e,w,Q):=Q;subst e;cases u;let f:∀{g:Hp}{c:Ø},Inv X p σ g s1->g a=O (.mX c (.dK U))->R _ g->bn _ X.A _ (xp X _ σ t R) X.xe s1:=λ{g c}i d q=>by
  let(k,_,y,z,rel,o,E,G,n,B,r,C):=i.c4 a _ d;rw[k]at n;cases n;let j:Á z=Á K:=by let:=bL Á w;rw[<-rel.length];simpa using this
  erw[wpAny_pyIter_dict y (c,E,k,B,r,C) ?_];erw[(_,_,_,_,_,Ŗ,i.kept λb o e=>af _ e,IH (E,r),(_,ax _ Ŗ,Ŗ,by rw[j];rfl),λb D=>?_,q)];let e:=by simpa using D
  subst e;rwa[i.AK (ah _) (i.c4.fresh (ah _))]
 rcases Q with ⟨d,q⟩|⟨c,d,q⟩;.let(c,k,N,i):=m.mX d;rwa[f i bC (q c N)]
 .rwa[f m d q]
def Om(X:Cx)(D:Ô):Ô:={nx:=λσ H=>(∃a o A,NF X a/\H a=O (.mX o (.dK A))/\D.nx σ (dq H a (.dK A)))\/D.nx σ H,rt:=λ_ _=>ŧ,bk:=λ_ _=>ŧ,ct:=λ_ _=>ŧ}
def Gj(j:PassesOwn (b' X.prog X.w) X.A X.env X.xe)(k:X.calm)(hi:PE X iter T)(l:PG X t g)(m:iY X b d)(hs:∀x,hF iter X.env x=pure x):PS X (.For t iter b [] pos) λD σ H=>IE (FC X T) g d (Om X D) σ H:=by
 intro p s σ H D I h;erw[cZ (DV j k (Th hi) l m hs _ s σ H _ I h) (λf s1 q=>?_) λ_ _ z=>z]
 induction f with|next=>
  let(c,o,i,q):=q;rcases q with ⟨a,r,U,n,e,q⟩|q;.exact(c,_,i.ajk e n,q)
  .exact(c,_,i,q)|ret v=>let(_,_,_,_,_,q):=q;rwa[q.elim]|brk=>let(_,_,_,q):=q;rwa[q.elim]|cont=>let(_,_,_,q):=q;rwa[q.elim]
def vY(h:È)(d:À)(es:Array gn)(ep:Ń):ß:=∃o,h.get? d=O o/\o.ExactDict/\o.data=.dict es ep
def vY.typeIs{s:be}(x:vY s.heap d es ep):s.TypeIs (.ref d) "dict":=let (o,h,H,_):=x;(o,h,H.1)
def vY.at(x:vY h d es ep)(e:∀o,h.get? d=O o->h'.get? d=O o):vY h' d es ep:=let (o,H,r):=x;(o,e o H,r)
def NM{E:dC}{Q:dC}(b:(d==fb)=a5)(H:vY s.heap d es ep)(c:Q (.ref s.heap.objs.size) {s with heap:=s.heap.push {cls:=.type "dict_keyiterator",data:=.fields #[.ref d,.int 0 0,.int es.size 0,.int ep 0]}}):bn (b' prog w) A (pyIter (.ref d)) Q E s:=by let h:=H.typeIs;let(o,a,e,C):=H;erw[pz h PH (bW PH h PySem.F.entry_dict_iter ?_ (PySem.F.args_dict_iter_1 _))];erw[aa ?_];erw[aa (X1 h ?_)];show bn _ _ (pure (Ò d)) _ _ s;erw[ai ?_];show bn _ _ (Builtin.Dict.showsAll d>>=_) _ _ s;delta Builtin.Dict.showsAll;rw[bS (by rw[b];rwa[aJ])];rwa[aa (ai (aa (B1 a C (aa (Ju a C (aa (bU (ai (_,Ŗ,_,_,(_,ax _ Ŗ,Ŗ),dM.lookup,c)))))))))]
def NN{E:dC}(hit:s.heap.IsKeyIter it d i es.size ep)(m:vY s.heap d es ep)(a:es[i]?=O x)(b:∀h',h'.IsKeyIter it d (i+1) es.size ep->Û it s.heap h'->Q (O x.key) {s with heap:=h'}):bn (b' prog w) A (em (.ref it)) Q E s:=by
 let(o,H,c,h):=id hit;let(e,F,p,Y):=m;delta em;erw[aa (fP (bV (name:=ê "__next__") hit.typeIs dM (bW dM hit.typeIs zR ?_ (x4 _))))];erw[aa (ai ?_)];erw[aa ?_];erw[aa ?_];first|erw[aa (f9 hit.typeIs (ai ?_))]|erw[aa (pH hit.typeIs (ai ?_))]
 erw[aa (jU H h ?_)];let y:Builtin.Dict_items.ownsTuple "dict_keyiterator"=false:=∅
 simp only[y,fi,jS];show bn _ _ (if(Ò d==Ó)=J then _ else _) _ _ s;rw[bS (show ¬(Ò d==Ó)=J from aJ)];erw[aa (ai ?_)];erw[aa (B1 F Y ?_)];rw[bS ⋯];erw[aa (ai ?_)];erw[aa (Ju F Y ?_)];rw[bS ⋯];erw[ai ?_];simp only[show ¬ i<0 from (),jS,fD,a];erw[aa ?_];first|erw[aa (f9 hit.typeIs (ai ?_))]|rfl
 erw[aa (Ę hit.typeIs ?_)];show bn _ _ (setField _ 1 (ed (i+1))>>=_) _ _ s;erw[aa (cK H h ⋯ ?_)];let W:(s.heap.update it (à (·.setIfInBounds 1 (ed (i+1))))).IsKeyIter it d (i+1) es.size ep:=(_,bE _ H (cX (bN h _)),(jQ ..).trans c,by rw[bN h];simp[ed]);rwa[aa (b7 (aa (Ę W.typeIs (ai (ai (_,Ŗ,ai (b _ W (cj ..))))))))]
def TX{E:dC}(b:A.handled=ao)(hit:s.heap.IsKeyIter it d i es.size ep)(m:vY s.heap d es ep)(x:es.size<=i)(c:∀h',è it s.heap h'->Q ao {s with heap:=h'}):bn (b' prog w) A (em (.ref it)) Q E s:=by
 let(o,h,e,H):=id hit;let(f,F,p,Y):=m;delta em;erw[aa (fP (bV (name:=ê "__next__") hit.typeIs dM (bW dM hit.typeIs zR ?_ (x4 _))))];erw[aa (ai ?_)];erw[aa ?_];erw[aa ?_];first|erw[aa (f9 hit.typeIs (ai ?_))]|erw[aa (pH hit.typeIs (ai ?_))]
 erw[aa (jU h H ?_)];let y:Builtin.Dict_items.ownsTuple "dict_keyiterator"=false:=∅
 simp only[y,fi,jS];show bn _ _ (if(Ò d==Ó)=J then _ else _) _ _ s;rw[bS (show ¬(Ò d==Ó)=J from aJ)];erw[aa (ai ?_)];erw[aa (B1 F Y ?_)];rw[bS ⋯];erw[aa (ai ?_)];erw[aa (Ju F Y ?_)];rw[bS ⋯];erw[ai ?_];simp only[show ¬(i:Î)<0 from (),jS,fD,gi x];erw[aa ?_];first|erw[aa (f9 hit.typeIs (ai ?_))]|erw[aa (pH hit.typeIs (ai ?_))]
 show bn _ _ (setField (.ref it) 0 .none>>=_) _ _ s;erw[aa (cK h H ⋯ ?_)];show bn _ _ (newExc (.type _) []>>=_) _ _ _;erw[aa ?_];erw[aa (bU ?_ (by size_fits))];erw[aa (pq (a:=Ó) Ŗ ?_)];erw[bU ?_ (by size_fits)];erw[aa (pG ?_)];rw[b];erw[aa (ai (pA ?_))];rwa[aa (ij (_,ax _ Ŗ,Ŗ) nV (ai (c _ (((cj ..).extBut.push _).push _))))]
def Iq(f:A.handled=ao)(I:À)(K:d≠I):Walks prog w A I [I,d] [I] es.size (λi v=>∃e,es[i]?=O e/\v=e.key) λi h=>h.IsKeyIter I d i es.size ep/\vY h d es ep where
 sub:=λb a=>nofun
 frame:=λ_ _ _ st k=>(st.1.at λo e=>k I ⋯ o e,st.2.at λo e=>k d ⋯ o e);item:=λi s Q E g st H=>by rwa[NN st.1 st.2 (x:=es[i]) ⋯ λc W j=>H _ c _ (_,⋯,Ŗ) (W,st.2.at λo e=>(j.2 d K).trans e) λb o a e=>j.extBut b o (λh=>a (by simp[h])) e]
 done:=λs Q E st H=>TX f st.1 st.2 (ah _) λc Y=>H c _ λb o a e=>Y b o (λh=>a (by simp[h])) e;self:=λ_ _ _ _ st H=>Ix st.1 H
def TY(lo:(d==fb)=a5):KdlSrc prog w "dict" d d es.size (λi v=>∃e,es[i]?=O e/\v=e.key) λh=>vY h d es ep where type:=λ_ H=>H.typeIs;there:=λ_ H=>let (_,a,_):=H;(ay a,ay a);keep:=λ_ _ H k=>H.at λo e=>k d (.inl Ŗ) o e;notList:=Ŗ;notTuple:=Ŗ;hint:=λ_ _ _ _ H q=>PySem.W.kdl_hint_dict H.typeIs q;iter:=λ_ s b H=>(_,_,λ_ _ q=>NM lo H q,Iq b _ (aR (let (_,a,_):=H;ay a)),((_,ax _ Ŗ,Ŗ,Ŗ),H.at λo e=>af _ e))
end L2
namespace L2
open PySem.W
def lR{α:Type}(f:Ń->Ń->Þ):KasT α->α|.ret a=>a|.ask i j k=>lR f (k (f i j))
def hW{α:Type}(n:Ń)(R:α->ß):KasT α->ß|.ret a=>R a|.ask i j k=>i<n/\j<n/\∀b,hW n R (k b)
theorem hW.bind{R:α->ß}{r:β->ß}{f:α->KasT β}:∀{t:KasT α},hW n R t->(∀a,R a->hW n r (f a))->hW n r (t.bind f)|.ret a,h,H=>H a h|.ask i j k,h,H=>(h.1,h.2.1,λb=>hW.bind (h.2.2 b) H)
theorem AZ{f:Ń->Ń->Þ}{cmp:Ń->Ń->(Þ->be->ß)->be->ß}{G:α->be->ß}{s:be}(H:∀i j,i<n->j<n->∀C:Þ->be->ß,C (f i j) s->cmp i j C s):∀(t:KasT α),hW n R t->(R (lR f t)->G (lR f t) s)->t.kasWp cmp G s|.ret a,h,q=>q h|.ask i j k,h,q=>H i j h.1 h.2.1 _ (AZ H _ (h.2.2 _) q)
abbrev Pm(n:Ń)(p:Array Ń):ß:=p.Perm (á n).toArray
def Pm.lt(hn:0<n)(h:Pm n p)(i:Ń):p.getD i 0<n:=by rw[mI];induction e:p[i]? with|a=>done|c x=>let:=(h.mem_iff).mp (Array.mem_of_getElem? e);simpa using this
def Pm.rev(h:Pm n p)(i j:Ń):Pm n (kas_rev p i j):=(mirror_perm _ _ _ _).trans h
theorem C7(hn:0<n)(h:Pm n p):∀(f k:Ń),hW n (λ_=>æ) (kas_asc p f k)|0,k=>Ť|f+1,k=>(h.lt hn _,h.lt hn _,λb=>by induction b with|d=>done|e=>rwa[C7 hn h f _])
theorem tT(hn:0<n):∀(f:Ń){p:Array Ń}(k q:Ń),Pm n p->hW n (λr=>Pm n r.1) (kas_desc f p k q)|0,p,k,q,h=>h|f+1,p,k,q,h=>(h.lt hn _,h.lt hn _,λb=>by
  induction b with|d=>
   show hW n _ (if q>0 then _ else _);split;.rwa[tT hn f _ 0 (h.rev _ _)]
   .rwa[tT hn f _ 0 h]|e=>erw[(h.lt hn _,h.lt hn _,λb=>?_)];induction b with|d=>rwa[h]|e=>rwa[tT hn f _ _ h])
def FG(hn:0<n)(h:Pm n p)(k m:Ń):hW n (λr=>Pm n r.2) (kas_tail3 k m p):=(C7 hn (h.rev 0 k) _ _).bind λ_ _=>h.rev 0 k
def FF(hn:0<n)(h:Pm n p)(k m:Ń):hW n (λr=>Pm n r.2) (kas_descPart k m p):=(tT hn _ _ _ h).bind λr H=>by
 split;.rwa[FG hn (H.rev _ _) _ _]
 .rwa[FG hn H _ _]
def Lr(hn:0<n)(h:Pm n p)(m:Ń):hW n (λr=>Pm n r.2) (kas_count m p):=(C7 hn h _ _).bind λk _=>by
 split;.rwa[h]
 .split;.erw[(h.lt hn _,h.lt hn _,λb=>?_)];induction b with|d=>rwa[h]|e=>rwa[FF hn (h.rev _ _) _ _]
  .rwa[FF hn h _ _]
theorem uY(hn:0<n)(h:Pm n p)(k:Ń):∀(f l r:Ń),hW n (λ_=>æ) (kas_place p k f l r)
 |0,l,r=>Ť|f+1,l,r=>by
  delta kas_place;split;.done
  .erw[(h.lt hn _,h.lt hn _,λb=>?_)];induction b with|d=>rwa[uY hn h k f _ _]|e=>rwa[uY hn h k f _ _]
theorem Lq(hn:0<n):∀(f:Ń){p:Array Ń}(k:Ń),Pm n p->hW n (Pm n) (kas_bin f p k)|0,p,k,h=>h|f+1,p,k,h=>(uY hn h k _ _ _).bind λl _=>Lq hn f _ ((bubble_perm _ _ _).trans h)
def yP(hn:0<n):hW n (Pm n) (kas_sort n):=(Lr hn (Array.Perm.refl _) n).bind λr h=>by
 split;.rwa[Lq hn _ _ h]
 .done
def T2:cp->cp->Þ|.inl i,.inl j=>Đ (i<j)|.inr x,.inr y=>Đ (x.cps.toList<y.cps.toList)|_,_=>a5
def nc:cp->cp->Þ|.inl _,.inl _=>J|.inr _,.inr _=>J|_,_=>a5
def Mc:Ł cp->Ł cp->Þ|[],[]=>a5|[],_::_=>J|_::_,[]=>a5|a::r,b::q=>bif Đ (a=b)then Mc r q else T2 a b
def Xt:Ł cp->Ł cp->Þ|a::r,b::q=>nc a b&&(! Đ (a=b)||Xt r q)|_,_=>J
section
variable{prog:ci}{w:cc}{A:cr}{E:dC}{s:be}
theorem L6:∀{k ms:Ł cp}{xs ys:Ł Â}{i:Ń}{b:Þ}{f:Þ},Vals (k.map kV) xs->Vals (ms.map kV) ys->Xt k ms->(b=J->i=0->∃x r,k=Ü x::r)->f=Đ (Á k<Á ms)->Q (Mc k ms) s->KatLex prog w A b f Q (xs.zip ys) i s
 |[],ms,xs,ys,i,b,f,h,H,_,_,d,q=>by cases h;rw[List.zip_nil_left];erw[kat_nil ?_];rw[d];induction ms with|f=>rwa[q]|g _ _=>simpa[Mc]using q
 |a::r,[],xs,ys,i,b,f,h,H,_,_,d,q=>by cases H;rw[List.zip_nil_right];erw[kat_nil ?_];rw[d];simpa[Mc]using q|a::r,c::m,x::xs,y::ys,i,b,f,.cons h t,.cons H T,g,l,d,q=>by
  rw[List.zip_cons_cons];delta Xt at g;rw[aM]at g;let next:a=c->KatLex prog w A b f Q (xs.zip ys) (i+1) s:=λe=>by subst e;erw[L6 t T (by simpa using g.2) (λ_ z=>Ă z (Nat.succ_ne_zero i)) ?_ (by simpa[Mc]using q)];rw[d];simp only[aO,Nat.add_lt_add_iff_right]
  let out:a≠c->Q (T2 a c) s:=λe=>by simpa[Mc,e]using q
  erw[kat_cons ?_];induction a with
  |inl n=>cases c with|inr _=>cases g.1|inl N=>
    let(p,rfl):=h;let(W,rfl):=H;erw[wpAny_eqBool_int ?_];by_cases e:n=N;.rw[su.mpr e];rwa[kat_yes (next (by rw[e]))]
    .rw[c8.mpr e];erw[kat_no ?_];let j:(b&&i==0)=false:=by induction b with|e=>rfl|d=>rw[Bool.true_and];erw[c8.mpr λz=>?_];let(x,r,u):=l Ŗ z;cases u
     rw[j];rwa[kat_one _ _ (PyProof.Rows.lt_int (out λz=>e (by cases z;rfl)))]
  |inr X=>cases c with|inl _=>cases g.1|inr v=>
    let(p,rfl):=h;let(W,rfl):=H;erw[wpAny_eqBool_str ?_];by_cases e:X=v;.rw[cJ e];rwa[kat_yes (next ())]
    .rw[cq e];erw[kat_no ?_];let o:=out λz=>e ();induction j:b&&i==0 with|d=>rwa[oneLt_str o]|e=>rwa[kat_one _ _ (PyProof.Rows.lt_str o)]
def qo(n:Ń)(f:Ń->Ń->Þ):Ϙ:=if n<2 then á n else(lR f (kas_sort n)).toList
def H_:∀i∈qo n f,i<n:=λi H=>by
 delta qo at H;split at H;.simpa using H
 .let:∀{α:Type}{R:α->ß}(t:KasT α),hW n R t->R (lR f t):=λ{α R}t=>by induction t with|ret a=>rwa[λh=>h]|ask i j k I=>rwa[λh=>I _ (h.2.2 _)]
  let:=((this _ (yP ())).mem_iff).mp (J'.mp H);simpa using this
def Uk:Á (qo n f)=n:=by
 delta qo;split;.rwa[eL]
 .let:∀{α:Type}{R:α->ß}(t:KasT α),hW n R t->R (lR f t):=λ{α R}t=>by induction t with|ret a=>rwa[λh=>h]|ask i j k I=>rwa[λh=>I _ (h.2.2 _)]
  rw[b5,(this _ (yP ())).size_eq];simp
abbrev iG(h:È)(a:À)(vs:Ł Â):È:=((h.update a (ë λ_=>#[])).push (seqObj "tuple" vs.toArray 0)).push (seqObj "list" #[] 0)
def U5:∀{vs:Ł _},vs.length<2->(vs.toArray.zip vs.toArray).map (·.2)=((á vs.length).map λi=>vs.getD i Ó).toArray|[],_=>⋯|[x],_=>⋯|_::_::_,h=>by simp at h;lia
def wz(o:s.heap.get? a=O (seqObj "list" vs.toArray n))(Ω:vs.length<64)(k:2<=vs.length->∃κ,(∀(Q:SortKind->be->ß)(E:dC),Q κ {s with heap:=iG s.heap a vs}->bn (b' prog w) A (keyKind' vs.toArray) Q E {s with heap:=iG s.heap a vs})/\∀i j,i<vs.length->j<vs.length->∀C:Þ->be->ß,C (f i j) {s with heap:=iG s.heap a vs}->kas_ask prog w A κ vs i j C {s with heap:=iG s.heap a vs})(h:P (.done (.ret .none)) {s with heap:=sortedHeap s.heap a vs ((qo vs.length f).map λi=>vs.getD i Ó).toArray}):bn (b' prog w) A (Builtin.«list.sort» ([.ref a],[])) P E s:=by
 rw[list_sort_plain];let d:a<s.heap.objs.size:=ay o;erw[aa (listItems_at o Ŗ ?_)];erw[aa (WM o Ŗ ?_ (by rw[bg,jC];lia) (aP _))];obtain⟨c,L⟩:∃c,(s.heap.update a (ë λ_=>(#[]:Array Â))).get? a=O (seqObj "list" #[] c):=(_,get?_update_seq o λ_=>#[]);erw[aa (xz L Ŗ ?_)];erw[aa (Pk ?_ (by show vs.length<=_;rw[jC];lia))];erw[aa (WO ?_ (aP _))];erw[b7 ?_];let H:(iG s.heap a vs).get? a=O (seqObj "list" #[] c):=by delta iG;rw[ph _ _ _ (by rw[jr,qG];rwa[aR (fG d)]),ph _ _ _ (by rw[qG];rwa[aR d])];rwa[L]
 show bn (b' prog w) A _ P E {s with heap:=iG s.heap a vs};dsimp only;let l:vs.toArray.size=vs.length:=⋯
 by_cases b:vs.toArray.size<2
 .rw[b9 b,b9 b];erw[aa (ai ?_)];rw[StateT.run_pure];erw[aa (ai ?_)];dsimp only;erw[aa (xz H Ŗ ?_)];let e:(arrOf (SortSt.mk' general' (vs.toArray.zip vs.toArray) #[] 7 ao)).map (·.2)=((qo vs.length f).map λi=>vs.getD i Ó).toArray:=by delta qo;rw[b9 (by done)];rwa[U5 (by done)]
  rw[e];erw[aa (WM H Ŗ ?_ (aP _) (by rw[bg,ae];delta qo;rw[b9 (by done),eL,jC];lia))];simp only[bne_self_eq_false,fi,jS];rwa[ai h]
 .rw[bS b,bS b];rw[l]at b;let(κ,k1,k2):=k (da.mp ‹_›);erw[aa (k1 _ _ ?_)];erw[aa (cZ (kat_run (E:=E) (Q:=λv S=>∃p:Array Ń,p.size=vs.length/\arrOf v=p.map _/\failedOf v=ao/\S={s with heap:=iG _ a vs}/\p=lR f _) (G:=λp S=>S={s with heap:=iG _ a vs}/\p=lR f _) rfl (da.mp ‹_›) Ω (λp v S a1 m q g=>(p,a1,m,q,g.1,g.2)) (AZ k2 _ (yP ()) λ_=>(Ŗ,Ŗ))) ?_ λ_ _ e=>e)];rintro⟨⟨⟩,v⟩ S ⟨p,t,r,u,rfl,rfl⟩;rw[kat_snds Ŗ r];erw[aa (xz H Ŗ ?_)];erw[aa (WM H Ŗ ?_ (aP _) (by rw[bg,ae,b5,t,jC];lia))];rw[u];simp only[bne_self_eq_false,fi,jS];let e:qo vs.length f=(lR f (kas_sort vs.length)).toList:=by delta qo;rw[bS b]
  rw[e]at h;rwa[ai h]
end
def qd:Ł cp->Þ|.inr _::_=>J|_=>a5
def mY(K:Ł (Ł cp)):Þ:=K.all λk=>qd k&&K.all (Xt k)
def IA(k:Ł (Ł cp)):Ł (Ł cp):=(qo (Á k) λi j=>Mc (k.getD i []) (k.getD j [])).map λi=>k.getD i []
def AL{α:Type}{l:Ł α}{d:α}(h:i<Á l):l.getD i d∈l:=nofun
def Bw{E:dC}(K:KdlSrc prog w T r d n P OK)(H:A.handled=ao)(C:OK s.heap)(hn:n<=Ã)(h:∀(h':È)(t:Ń)(acc:Array _),(∀b o,s.heap.get? b=O o->h'.get? b=O o)->s.heap.objs.size<h'.objs.size->ItemsOf P acc n->R acc.toList {s with heap:=h',toks:=t}):bn (b' prog w) A (collect (.ref r)) R E s:=by
 let m:=K.there _ C;erw[aa (vW (dH Qa ?_))];erw[aa (bU (ai (gM μ _,dH entry_list_iadd' ?_)))];let F:∀(q:Result)(s':be),(∃(h':È)(t:Ń)(acc:Array _)(c:Ń),q=.ok (.ret (.ref s.heap.objs.size))/\s'={s with heap:=h',toks:=t}/\(∀b o,s.heap.get? b=O o->h'.get? b=O o)/\h'.get? s.heap.objs.size=O {cls:=.type "list",dict:=ao,data:=.seq acc c,slots:=#[]}/\ItemsOf P acc n)->wants (λv S=>bn (b' prog w) A (match v with
    |.ref a=>do match(<-load a).data with|.seq X _=>pure X.toList|_=>unsupported "internal:collect"
    |_=>unsupported "internal:collect") R E S) E q s':=by rintro q s' ⟨h',t,acc,c,rfl,rfl,k,g,i⟩;rwa[aa (Pj g (ai (h h' t acc k (ay g) i)))]
 erw[cZ (kdl_extend (s:={s with heap:=s.heap.push _}) (R:=λq s'=>∃(h':È)(t:Ń)(acc:Array _)(c:Ń),q=.ok (.ret (.ref s.heap.objs.size))/\s'={s with heap:=h',toks:=t}/\(∀b o,s.heap.get? b=O o->h'.get? b=O o)/\h'.get? _=O {cls:=.type "list",dict:=ao,data:=.seq acc c,slots:=#[]}/\ItemsOf P acc n) K H (K.keep _ _ C λb _ o e=>af _ e) _ (eR m.1) (eR m.2) _ 0 (ax _ Ŗ) (λh' t acc c k g i=>(h',t,acc,c,Ŗ,Ŗ,λb o e=>k b o (aR (ay e)) (af _ e),g,i)) hn) (λf s' x=>?_) λe s' x=>?_];.induction f with|done f=>rwa[F _ _ x]|again j=>exact(x.1,dU x.2 λq S y=>F _ _ y)
 .let(_,_,_,_,l,_):=x;cases l
def DP(r:Paired F l m):∀{i:Ń}(H:i<Á l)(a:i<Á m),F l[i] m[i]:=by induction r with|f=>simp|g h t I=>intro i H a;induction i with|h=>rwa[h]|j i=>rwa[I _ _]
theorem ve:∀{vs:Ł _},(∀v∈vs,∃a o xs n x t,v=Ò a/\h.get? a=O o/\o.cls=.type "tuple"/\o.data=.seq xs n/\xs[0]?=O (.str x t))->∃fs,KatTups h vs fs/\Á fs=Á vs/\∀f∈fs,∃x t,f=ù x t
 |[],_=>([],Ť,Ŗ,λ_ H=>by done)|v::vs,b=>by
  let(a,o,xs,n,x,t,rfl,c,d,e,g):=b v aF;let(fs,k1,k2,k):=ve λw i=>b w (aE _ i);erw[(_,KatTups.cons c d e g k1,by rw[aO,aO,k2],λf H=>?_)];rcases aw.mp H with z|z;.exact(x,t,z)
  .rwa[k f z]
def ED(hs:qd k)(v:Vals (k.map kV) b):∃x t,b[0]?=O (.str x t):=by cases k with|f=>done|g a r=>induction a with|inl _=>done|inr x=>cases v with|g h t=>let(T,rfl):=h;exact(x,T,Ŗ)
def ym(hc:X.calm):fR X (.builtin "sorted") (λxs H Q=>∃(a:À)(U:Ł (Ł cp×V)),xs=[.A a]/\H a=O (.dT U)/\Á U<64/\mY (U.map (·.1))=J/\∀(D:À)(vs:ϕ),H D=ao->Paired (λv(k:Ł cp)=>∃b,v=V.A b/\H b=O (.T (k.map kV))) vs (IA (U.map (·.1)))->Q (.A D) (dq H D (.L vs))):=by
 intro bb s σ H xs us Q I r h;let(a,U,rfl,ha,Ω,ok,q):=h;let(u,rfl,ru):=r.one;cases ru;let(z,hd,Y,S,o,es,ep,ho,hex,CU,W,_,_):=Vt I.c4 ha;let hsl:(64:Ń)<=Ã:=∅
 let hyl:Á Y=Á U:=(zQ S).symm;let uX:es.size=Á Y:=by rw[<-b5,W,ae]
 erw[U6 kind_sorted plain_sorted entry_sorted (args_sorted1 _) ?_];delta Builtin.«sorted»;erw[aa (m:=checkCount "sorted" 1 1 _) (ai (aa (Bw (A:=X.A.in1) (TY (es:=es) (ep:=ep) hd) (I.ok.hd hc) (o,ho,hex,CU) () λF tk E kp mE qY=>?_)))];let N:E.toList=Y.map λy=>Ò y.2.1:=by
  erw[List.ext_getElem? λj=>?_];rw[aN,c9];by_cases G:j<es.size
  .let Z:j<E.size:=by rw[qY.1];rwa[G]
   let(e,M,hv):=qY.2 j E[j] (d9 Z);rw[d9 Z,hv];rw[<-c9,W,aN]at M;induction hy:Y[j]? with|a=>rw[hy]at M;cases M|c y=>rw[hy]at M;cases M;rfl
  .rw[gi (by rw[qY.1];rwa[da.mp ‹_›]),cW ()];rfl
 let K:Á E.toList=Á U:=by rw[N,ae];rwa[hyl]
 erw[aa (WO ?_ ())];generalize hvl:E.toList=p at N K;let Rp:(F.push (seqObj "list" p.toArray 0)).get? F.objs.size=O (seqObj "list" p.toArray 0):=ax _ Ŗ;let old:∀b ob,s.heap.get? b=O ob->(iG (F.push (seqObj "list" p.toArray 0)) F.objs.size p).get? b=O ob:=λb ob e=>by let hb:=ay (kp b ob e);delta iG;rw[ph _ _ _ (by rw[jr,qG,jr];lia),ph _ _ _ (by rw[qG,jr];lia),x3 _ _ _ _ (aR ‹_›)];rwa[af _ (kp b ob e)]
 let tup:∀i,i<Á U->∃b ob P n,p.getD i Ó=.ref b/\H b=O (.T (((U.map (·.1)).getD i []).map kV))/\(iG (F.push (seqObj "list" p.toArray 0)) F.objs.size p).get? b=O ob/\ob.cls=.type "tuple"/\ob.data=.seq P n/\Vals (((U.map (·.1)).getD i []).map kV) P.toList:=λi B=>by
  let hiy:i<Á Y:=()
  let(r1,r2,_):=DP S B hiy;let ek:(U.map (·.1)).getD i []=U[i].1:=by rw[nR,aN,av B];rfl
  let ev:p.getD i Ó=.ref Y[i].2.1:=by rw[N,nR,aN,av hiy];rfl
  rw[ek];obtain⟨P,rv,⟨ob,h1,h2,n,h3⟩,_⟩:=I.tuple (gX.of r2);exact(_,ob,P.toArray,n,ev,r2,old _ _ h1,h2,h3,by simpa using rv)
 let R:∀i j,i<Á U->j<Á U->qd ((U.map (·.1)).getD i [])/\Xt ((U.map (·.1)).getD i []) ((U.map (·.1)).getD j [])=true:=λi j B G=>by let:=bJ.mp ok _ (AL (l:=U.map (·.1)) (i:=i) (d:=[]) (by rw[ae];rwa[B]));rw[aM]at this;exact(this.1,bJ.mp this.2 _ (AL (l:=U.map (·.1)) (i:=j) (d:=[]) (by rw[ae];rwa[G])))
 erw[aa (b7 (bW slot_list_sort (_,Rp,Ŗ) entry_list_sort (wz (s:={s with heap:=F.push (seqObj "list" p.toArray 0),toks:=tk}) (f:=λi j=>Mc ((U.map (·.1)).getD i []) ((U.map (·.1)).getD j [])) Rp () (λh2=>(tuples' J,λQ' E' hq=>?_,λi j B G C hC=>?_)) (_,Ŗ,?_)) (args_list_sort _)))]
 .let(fs,k1,k2,k3):=ve (h:=iG (F.push (seqObj "list" p.toArray 0)) F.objs.size p) (vs:=p) λv hv=>by
   let(i,B,rfl):=List.mem_iff_getElem.mp hv;rw[K]at B;let(b,ob,P,n,e,_,g,c,d,vv):=tup i B;let(x,t,hx):=ED (R i i B B).1 vv;let e2:p[i]=Ò b:=by rw[<-e,nR,av (dh ‹_›)];rfl
   exact(b,ob,P,n,x,t,e2,g,c,d,by rw[<-c9];rwa[hx])
  erw[kat_kind (T:=.type "str") k1 (by rw[k2];rwa[dF ‹_›]) (λf hf=>?_) ∅ hq];let(x,t,rfl):=k3 f hf;rwa[Looks.of_pure Ŗ]
 .rw[K]at B G;let(b1,o1,i1,n1,e1,_,g1,_,d1,v1):=tup i B;let(b2,o2,i2,n2,e2,_,g2,_,d2,v2):=tup j G;delta kas_ask;rw[e1,e2];erw[kat_lt (s:={s with heap:=_,toks:=tk}) g1 d1 g2 d2 (L6 v1 v2 (R i j B G).2 (λ_ _=>?_) ?_ hC)];.let:=(R i j B G).1;induction hk:(U.map (·.1)).getD i []with|f=>rw[hk]at this;cases this|g x r=>rw[hk]at this;induction x with|inl _=>cases this|inr x=>exact(x,r,Ŗ)
  .let l1:(Á ((U.map (·.1)).getD i []))=i1.size:=by simpa using v1.length
   let l2:(Á ((U.map (·.1)).getD j []))=i2.size:=by simpa using v2.length
   rw[l1,l2]
 .let(e,M):=sortedHeap_at (out:=((qo p.length λi j=>Mc ((U.map (·.1)).getD i []) ((U.map (·.1)).getD j [])).map λi=>p.getD i Ó).toArray) Rp;let hD:s.heap.objs.size<=F.objs.size:=dF mE;let hsn:∀i∈qo p.length λi j=>Mc ((U.map (·.1)).getD i []) ((U.map (·.1)).getD j []),i<Á U:=λi B=>by let:=H_ i B;lia
  generalize hsr:(qo p.length λi j=>Mc ((U.map (·.1)).getD i []) ((U.map (·.1)).getD j []))=sr at M hsn;let mk:∀(l:Ϙ),(∀i∈l,i<Á U)->∃vs:ϕ,Vals vs (l.map λi=>p.getD i Ó)/\Paired (λv(k:Ł cp)=>∃b,v=V.A b/\H b=O (.T (k.map kV))) vs (l.map λi=>(U.map (·.1)).getD i []):=λl=>by induction l with|f=>rwa[λ_=>([],.nil,.nil)]|g i l ih=>intro hl;let(vs,h1,h2):=ih λj G=>hl j (aE _ G);let(b,ob,P,n,e,hb,_):=tup i (hl i aF);erw[(.A b::vs,?_,.cons (b,Ŗ,hb) h2)];rw[cF,e];rwa[.cons Ŗ h1]
  let(vs,w1,w2):=mk sr hsn;let hlen:Á vs<=Ã:=by
   let e1:=w1.length;rw[ae]at e1;let:Á sr<64:=by rw[<-hsr,Uk];lia
   lia
  erw[ai (_,Ŗ,(.A _,_,I.laid (λb ob g=>?_) hD (show fq _ X.w _ _ _ (.L vs)from(hlen,_,e,w1,M)),Ŗ,q _ vs (I.c4.fresh hD) ?_))];.let gb:=ay (kp b ob g);rw[sortedHeap_old (aR gb) (by rw[jr];rwa[fG gb])];rwa[af _ (kp b ob g)]
  .delta IA;rw[ae,<-K,hsr];rwa[w2]
end L2
namespace L2
end L2
namespace F
open L2
inductive Pv where|N|B(b:Þ)|I(i:Î)|S(x:Ä)|T(xs:ϑ)|L(xs:ϑ)|scr(xs:ϑ)|dct(ks vs:ϑ)|obj(C:Ń)(fs:ϑ)|fn(i:Ń)|ty(c:Ń)|key(ks:Ł cp)|wld(xs:ϑ)
inductive Dv where|p(x:Pv)|r(i:Ń)
inductive Ob where|L(xs:ϑ)|D(xs:Ł Dv)|C(ks vs:ϑ)|I(C:Ń)(fs:Ł Dv)|K(ks:Ł (Ł cp))|E(ks:ϑ)(ds:Ł Dv)|F(ob:Ø)(ks us:ϑ)
def Oy:Ń->String|0=>"str"|1=>"int"|2=>"bool"|3=>"tuple"|_=>"list"
abbrev Hs:=Ł Ob
abbrev Es:=Ł (Ő Dv)
structure Tx where
 K:Æ
 mg:c3
 gR:Ń->Ä
 ca:Ń->À
 fl:Ń->ϐ
 G:Ł À
def NZ{K:Æ}(s:P/\Rd H a (.L vs)\/gh K (λ_=>ao) a vs):gh K H a vs:=s.elim (λh=>.inl h.2) λh=>h.elim (λz=>by rcases z with z|⟨_,z⟩<;>cases z) .inr
variable(Z:Tx)(M:Ł À)(H:Hp)
mutual
def eg:Pv->V->ß|.N,v=>v=.jn|.B b,v=>v=.B b|.I i,v=>v=.I i|.S x,v=>v=.S x|.T xs,v=>∃a vs,v=.A a/\gX Z.K H a vs/\aY xs vs|.L xs,v=>∃a vs,v=.A a/\(a∉M/\a∉Z.G)/\H a=O (.L vs)/\aY xs vs|.scr xs,v=>∃a vs,v=.A a/\((a∉M/\a∉Z.G)/\Rd H a (.L vs)\/gh Z.K (λ_=>ao) a vs)/\aY xs vs|.dct k us,v=>∃a U,v=.A a/\(a∉M/\a∉Z.G)/\Rd H a (.dK U)/\aY k (U.map λp=>kV p.1)/\aY us (U.map (·.2))|.obj C fs,v=>∃a d f,v=.A a/\(a∉M/\a∉Z.G)/\H a=O (.ins (Z.ca C) d f)/\f.map (·.1)=(Z.fl C).take (Á fs)/\aY fs (f.map (·.2))|.fn i,v=>∃a,Z.mg (Z.gR i)=O (.ref a)/\v=.A a|.ty c,v=>v=.ty (Oy c)|.key k,v=>∃a,v=.A a/\H a=O (.T (k.map kV))|.wld xs,v=>∃a bs,v=.A a/\(a∉M/\a∉Z.G)/\H a=O (sE a bs)/\aY xs (bs.map V.A)def aY:ϑ->ϕ->ß|[],[]=>æ|x::xs,v::vs=>eg x v/\aY xs vs|_,_=>ŧ
end
def eG:Dv->V->ß|.p x,v=>eg Z M H x v|.r i,v=>∃a,M[i]?=O a/\v=.A a
def cU:Ł Dv->ϕ->ß|[],[]=>æ|x::X,v::s=>eG Z M H x v/\cU X s|_,_=>ŧ
def uq(a:À):Ob->ß|.L x=>∃v,H a=O (.L v)/\aY Z M H x v|.D ds=>∃v,H a=O (.L v)/\cU Z M H ds v|.C s u=>∃A,H a=O (.dK A)/\aY Z M H s (A.map λp=>kV p.1)/\aY Z M H u (A.map (·.2))|.I C fs=>∃d f,H a=O (.ins (Z.ca C) d f)/\H d=O (.own a)/\f.map (·.1)=(Z.fl C).take (Á fs)/\cU Z M H fs (f.map (·.2))|.K s=>H a=O (.dT (s.map λk=>(k,.B J)))|.E s ds=>∃A,H a=O (.dK A)/\aY Z M H s (A.map λp=>kV p.1)/\cU Z M H ds (A.map (·.2))|.F o s u=>∃A,H a=O (.mX o (.dK A))/\aY Z M H s (A.map λp=>kV p.1)/\aY Z M H u (A.map (·.2))
structure bq(h:Hs):ß where
 nd:M.Nodup
 dj:∀a∈M,a∉Z.G
 ln:Á M=(Á h)gs:∀b∈Z.G,∃o,H b=O o
 ob:∀(i:Ń)a o,M[i]?=O a->h[i]?=O o->uq Z M H a o
structure dm(σ:Es)(τ:Ç):ß where ln:Á σ=(Á τ)at':∀(i:Ń)d,σ[i]?=O (O d)->∃v,τ[i]?=O (O v)/\eG Z M H d v
structure Ext(M:Ł À)(H:Hp)(M':Ł À)(H':Hp):ß where
 pre:∃l,M'=M++l
 keep:∀b o,b∉M->H b=O o->H' b=O o
 new:∀b∈M',b∉M->H b=ao
section
variable{Z:Tx}{M M' M₂:Ł À}{H H' H₂:Hp}{h h':Hs}
def Ext.refl:Ext M H M H:=(([],(aV M).symm),λ_ _ _ h=>h,λ_ h n=>Ă h n)
def Ext.trans(a:Ext M H M' H')(b:Ext M' H' M₂ H₂):Ext M H M₂ H₂:=by
 let(l,rfl):=a.pre;let(L,rfl):=b.pre;let k:∀c o,c∉M->H c=O o->c∉M++l:=λc o d h z=>by rw[a.new c z d]at h;cases h
 erw[((_,by rw[bA]),λc o d h=>b.keep c o (k c o d h) (a.keep c o d h),λc d hn=>?_)];by_cases z:c∈M++l;.rwa[a.new c z hn]
 .induction e:H c with|a=>rfl|c o=>let:=b.new c d z;rw[a.keep c o hn e]at this;cases this
def zd:HO->Þ|.L _=>J|.dK _=>J|.ins _ _ _=>J|.dT _=>J|.mX _ (.dK _)=>J|_=>a5
def bq.there(r:bq Z M H h)(f:a∈M):∃o,H a=O o/\zd o=true:=by
 let(i,d):=lE f;let l:i<Á h:=by rw[<-r.ln];exact(ar.mp d).1
 let b:=r.ob i a h[i] d (av l);induction c:h[i]with|L x=>rw[c]at b;let(_,e,_):=b;exact(_,e,Ŗ)|D x=>rw[c]at b;let(_,e,_):=b;exact(_,e,Ŗ)|C k v=>rw[c]at b;let(_,e,_):=b;exact(_,e,Ŗ)|I C fs=>rw[c]at b;let(_,_,e,_):=b;exact(_,e,Ŗ)|K k=>rw[c]at b;exact(_,b,Ŗ)|E k ds=>rw[c]at b;let(_,e,_):=b;exact(_,e,Ŗ)|F g k u=>rw[c]at b;let(_,e,_):=b;exact(_,e,Ŗ)
def bq.no(r:bq Z M H h){a:À}{o:HO}(e:H a=O o)(n:zd o=a5):a∉M:=λz=>by let(u,b,c):=r.there z;rw[e]at b;cases b;rw[n]at c;cases c
def bq.fresh(r:bq Z M H h)(a:H p=ao):p∉M:=λz=>by let(o,e,_):=r.there z;rw[a]at e;cases e
def bq.oU(r:bq Z M H h)(a:H p=ao):p∉M/\p∉Z.G:=(r.fresh a,λz=>by let(o,e):=r.gs p z;rw[a]at e;cases e)
def bq.Mr(r:bq Z M H h)(b:a∈M):¬Rd H a (.T vs):=λz=>by
 rcases z with z|⟨q,z⟩;.rwa[r.no z Ŗ b]
 .rwa[r.no z Ŗ b]
structure Mv(M:Ł À)(H:Hp)(M':Ł À)(H':Hp):ß where
 nt:∀a∈M,∀vs,¬Rd H a (.T vs)keep:∀b o,b∉M->H b=O o->H' b=O o
 new:∀b∈M',b∉M->H b=ao
def Mv.rd(m:Mv M H M' H')(b:a∉M)(r:Rd H a u):Rd H' a u:=by
 rcases r with r|⟨q,r⟩;.rwa[.inl (m.keep _ _ b r)]
 .rwa[.inr (q,m.keep _ _ b r)]
def Mv.sqT(m:Mv M H M' H'){K:Æ}(s:gX K H a vs):gX K H' a vs:=by
 rcases s with r|r;.rwa[.inl (m.rd (λz=>m.nt a z vs r) r)]
 .rwa[.inr r]
def Mv.ni(m:Mv M H M' H')(b:a∉M)(r:H a=O o):a∉M':=λz=>by rw[m.new a z b]at r;cases r
def ű:HO->Þ|.dK _=>a5|.mX _ (.dK _)=>a5|_=>J
structure Tf(Z:Tx)(G' M:Ł À)(H:Hp)(M':Ł À)(H':Hp):ß where
 k:∀{a vs},H a=O (.T vs)->H' a=O (.T vs)t:∀{a vs},Rd H a (.T vs)->Rd H' a (.T vs)n:∀{a o},a∉M/\a∉Z.G->Rd H a o->a∉M'/\a∉G'
 h:∀{a o},a∉M/\a∉Z.G->ű o->H a=O o->H' a=O o
 l:∀{a vs},a∉M/\a∉Z.G->Rd H a (.L vs)->Rd H' a (.L vs)d:∀{a ks},a∉M/\a∉Z.G->Rd H a (.dK ks)->Rd H' a (.dK ks)
mutual
theorem eg.tf{g:Ł À}(m:Tf Z g M H M' H'):∀{x:Pv}{v:V},eg Z M H x v->eg {Z with G:=g} M' H' x v|.N,_,h=>h|.B _,_,h=>h|.I _,_,h=>h|.S _,_,h=>h|.fn _,_,h=>h|.ty _,_,h=>h|.key K,_,h=>by let(a,e,s):=h;exact(a,e,m.k s)|.T xs,_,h=>by let(a,vs,e,s,q):=h;exact(a,vs,e,s.imp m.t id,aY.tf m q)|.L xs,_,h=>by let(a,vs,e,n,s,q):=h;exact(a,vs,e,m.n n (.inl s),m.h n Ŗ s,aY.tf m q)|.wld xs,_,h=>by let(a,vs,e,n,s,q):=h;exact(a,vs,e,m.n n (.inl s),m.h n Ŗ s,aY.tf m q)|.scr xs,_,h=>by let(a,vs,e,s,q):=h;exact(a,vs,e,s.imp (λs=>(m.n s.1 s.2,m.l s.1 s.2)) id,aY.tf m q)|.dct K us,_,h=>by let(a,A,e,n,s,q,Q):=h;exact(a,A,e,m.n n s,m.d n s,aY.tf m q,aY.tf m Q)|.obj C fs,_,h=>by let(a,D,f,e,n,s,l,q):=h;exact(a,D,f,e,m.n n (.inl s),m.h n Ŗ s,l,aY.tf m q)theorem aY.tf{g:Ł À}(m:Tf Z g M H M' H'):∀{xs:ϑ}{vs:ϕ},aY Z M H xs vs->aY {Z with G:=g} M' H' xs vs|[],[],h=>Ť|[],_::_,h=>h|_::_,[],h=>h|x::xs,v::vs,h=>(eg.tf m h.1,aY.tf m h.2)end
theorem Mv.tf(m:Mv M H M' H'):Tf Z Z.G M H M' H':=(λs=>m.keep _ _ (λz=>m.nt _ z _ (.inl s)) s,λs=>m.rd (λz=>m.nt _ z _ s) s,λn s=>(s.elim (m.ni n.1) λ(_,r)=>m.ni n.1 r,n.2),λn _ s=>m.keep _ _ n.1 s,λn s=>m.rd n.1 s,λn s=>m.rd n.1 s)
theorem eg.mv(m:Mv M H M' H')(h:eg Z M H x v):eg Z M' H' x v:=eg.tf m.tf h
theorem aY.mv(m:Mv M H M' H')(h:aY Z M H x v):aY Z M' H' x v:=aY.tf m.tf h
theorem Ext.mv(e:Ext M H M' H')(r:bq Z M H h):Mv M H M' H':=(λ_ a _=>r.Mr a,e.keep,e.new)
theorem Ext.at(e:Ext M H M' H'){i:Ń}(h:M[i]?=O a):M'[i]?=O a:=by let(l,rfl):=e.pre;rw[aT (ar.mp h).1];rwa[h]
theorem eG.mv(m:Mv M H M' H')(at':∀(i:Ń)a,M[i]?=O a->M'[i]?=O a)(h:eG Z M H d v):eG Z M' H' d v:=by induction d with|p x=>rwa[eg.mv m h]|r i=>let(a,b,c):=h;exact(a,at' i a b,c)
theorem cU.mv(m:Mv M H M' H')(at':∀(i:Ń)a,M[i]?=O a->M'[i]?=O a):∀{ds:Ł Dv}{vs:ϕ},cU Z M H ds vs->cU Z M' H' ds vs|[],[],_=>Ť|[],_::_,h=>h|_::_,[],h=>h|_::_,_::_,h=>(eG.mv m at' h.1,cU.mv m at' h.2)
theorem eG.ext(r:bq Z M H h)(e:Ext M H M' H')(q:eG Z M H d v):eG Z M' H' d v:=eG.mv (e.mv r) (λ_ _=>e.at) q
theorem cU.ext(r:bq Z M H h)(e:Ext M H M' H')(q:cU Z M H d v):cU Z M' H' d v:=cU.mv (e.mv r) (λ_ _=>e.at) q
theorem eg.ext(r:bq Z M H h)(e:Ext M H M' H')(q:eg Z M H d v):eg Z M' H' d v:=eg.mv (e.mv r) q
theorem aY.ext(r:bq Z M H h)(e:Ext M H M' H')(q:aY Z M H d v):aY Z M' H' d v:=aY.mv (e.mv r) q
theorem dm.ext(q:dm Z M H σ τ)(r:bq Z M H h)(e:Ext M H M' H'):dm Z M' H' σ τ:=(q.ln,λi d a=>let (v,b,q):=q.at' i d a;(v,b,q.ext r e))
theorem dm.set(q:dm Z M H σ τ)(c:eG Z M H d v):dm Z M H (σ.set i (O d)) (τ.set i (O v)):=(by rw[cn,cn];rwa[q.ln],λj e a=>by
 by_cases b:i=j
 .subst b;by_cases l:i<Á σ;.rw[cQ l]at a;cases a;exact(v,by rw[cQ (by rw[<-q.ln];rwa[l])],c)
  .left
 .rw[cy b]at a⊢;rwa[q.at' j e a])
theorem uq.mv(m:Mv M H M' H')(at':∀(i:Ń)a,M[i]?=O a->M'[i]?=O a)(k:∀u,H a=O u->H' a=O u)(x:∀d,H d=O (.own a)->H' d=O (.own a))(h:uq Z M H a o):uq Z M' H' a o:=by induction o with|L X=>let(v,e,q):=h;exact(v,k _ e,aY.mv m q)|D X=>let(v,e,q):=h;exact(v,k _ e,cU.mv m at' q)|C s U=>let(A,e,q,Q):=h;exact(A,k _ e,aY.mv m q,aY.mv m Q)|I C fs=>let(d,f,e,n,b,q):=h;exact(d,f,k _ e,x _ n,b,cU.mv m at' q)|K s=>rwa[k _ h]|E s ds=>let(A,e,q,Q):=h;exact(A,k _ e,aY.mv m q,cU.mv m at' Q)|F c s U=>let(A,e,q,Q):=h;exact(A,k _ e,aY.mv m q,aY.mv m Q)
theorem Ext.add(a:H p=ao):Ext M H M (dq H p o):=(([],(aV M).symm),λb u _ h=>by rw[bw (b8 h a)];rwa[h],λb h n=>Ă h n)
theorem qv(h:∃q,H b=O q):∃q,dq H p o b=O q:=by
 by_cases e:b=p;.subst e;exact(o,bC)
 .rw[bw e];rwa[h]
theorem bq.add(r:bq Z M H h)(c:H p=ao):bq Z M (dq H p o) h:=(r.nd,r.dj,r.ln,λb d=>qv (r.gs b d),λi a u f g=>uq.mv ((Ext.add c).mv r) (λ_ _ z=>z) (λq e=>by rw[bw (b8 e c)];rwa[e]) (λD e=>by rw[bw (b8 e c)];rwa[e]) (r.ob i a u f g))
theorem Ext.push(r:bq Z M H h)(a:H p=ao):Ext M H (M++[p]) (dq H p u):=(([p],Ŗ),λb o _ e=>by rw[bw (b8 e a)];rwa[e],λb c n=>by
 rcases bu.mp c with z|z;.done
 .rw[aB.mp z];rwa[a])
theorem bq.push(r:bq Z M H h)(c:H p=ao)(n:uq Z (M++[p]) (dq H p u) p o):bq Z (M++[p]) (dq H p u) (h++[o]):=by
 erw[(dg.mpr (r.nd,⋯,λa f b g z=>?_),λa f=>(bu.mp f).elim (r.dj a) λz=>by rw[aB.mp z];exact(r.oU c).2,by rw[aj,aj,r.ln];rfl,λb g=>qv (r.gs b g),λi a q d j=>?_)];.rw[aB.mp g]at z;subst z;rwa[r.fresh c f]
 .by_cases l:i<Á M;.rw[aT l]at d;rw[aT (by rw[<-r.ln];rwa[l])]at j;rwa[uq.mv ((Ext.push r c).mv r) (λ_ _=>(Ext.push (u:=u) r c).at) (λq e=>by rw[bw (b8 e c)];rwa[e]) (λD e=>by rw[bw (b8 e c)];rwa[e]) (r.ob i a q d j)]
  .rw[aK (da.mp ‹_›)]at d;rw[aK (by rw[<-r.ln];rwa[da.mp ‹_›]),<-r.ln]at j;induction m:i-Á M with|h=>left|j k=>rw[m]at d;cases d
theorem Ext.put(c:a∈M):Ext M H M (dq H a u):=(([],(aV M).symm),λb o n e=>by rw[bw λz=>n (by rw[z];rwa[c])];rwa[e],λb h n=>Ă h n)
theorem bq.put(r:bq Z M H h)(hi:M[i]?=O a)(k:uq Z M (dq H a u) a o):bq Z M (dq H a u) (h.set i o):=by
 let ha:=aL hi;erw[(r.nd,r.dj,by rw[cn];rwa[r.ln],λb f=>qv (r.gs b f),λj b q c d=>?_)];by_cases g:j=i
 .subst g;rw[hi]at c;cases c;let l:j<Á h:=by rw[<-r.ln];exact(ar.mp hi).1
  rw[cQ l]at d;cases d;rwa[k]
 .rw[cy (cY g)]at d;let f:b≠a:=λz=>g (by let(L,E):=ar.mp c;let(n,m):=ar.mp hi;exact(ie r.nd).mp (by rw[E,m,z]));rwa[uq.mv ((Ext.put ha).mv r) (λ_ _ z=>z) (λq e=>by rw[bw f];rwa[e]) (λD e=>by rw[bw λz=>by rw[z]at e;rwa[r.no e Ŗ ha]];rwa[e]) (r.ob j b q c d)]
def bD(k:Ń):Dv->Þ|.p _=>J|.r i=>Đ (i<k)
def PQ(k:Ń):Ł Dv->Þ|[]=>J|d::r=>bD k d&&PQ k r
def bO(k:Ń):Ob->Þ|.L _=>J|.D ds=>PQ k ds|.C _ _=>J|.I _ fs=>PQ k fs|.K _=>J|.E _ ds=>PQ k ds|.F _ _ _=>J
def bH(k:Ń):Hs->Þ|[]=>J|o::r=>bO k o&&bH k r
def Li(k:Ń):Ő Dv->Ő Dv|O d=>if bD k d then O d else ao|ao=>ao
def Qf(k:Ń):Es->Es|[]=>[]|d::r=>Li k d::Qf k r
theorem JX:∀{h:Hs},bH k h=J->∀o∈h,bO k o=J
 |[],_,o,a=>by grind|q::r,e,o,a=>by
  simp only[bH,aM]at e;rcases aw.mp a with z|z;.lia
  .rwa[JX e.2 o z]
theorem Mv.cut(r:bq Z M H h)(k:Ń):Mv M H (M.take k) H:=(λ_ a _=>r.Mr a,λ_ _ _ e=>e,λb c n=>Ă (fE c) n)
theorem eG.cut(r:bq Z M H h)(q:eG Z M H d v)(b:bD k d):eG Z (M.take k) H d v:=by induction d with|p x=>rwa[eg.mv (Mv.cut r k) q]|r i=>let(a,c,e):=q;exact(a,by rw[eo (bZ b)];rwa[c],e)
theorem cU.cut(r:bq Z M H h){k:Ń}:∀{ds:Ł Dv}{vs:ϕ},cU Z M H ds vs->PQ k ds->cU Z (M.take k) H ds vs|[],[],_,_=>Ť|[],_::_,q,_=>q|_::_,[],q,_=>q|_::_,_::_,q,b=>by simp only[PQ,aM]at b;exact(q.1.cut r b.1,cU.cut r q.2 b.2)
theorem bq.cut(r:bq Z M H h)(k:Ń)(b:bH k (h.take k)):bq Z (M.take k) H (h.take k):=by
 erw[(r.nd.sublist (fF k M),λa f=>r.dj a (fE f),by rw[bK,bK,r.ln],r.gs,λi a o d c=>?_)];let hb:=JX b o (aL c);let g:i<k:=by let:=(ar.mp c).1;rw[bK]at this;lia
 rw[eo g]at d c;let q:=r.ob i a o d c;induction o with|L x=>let(v,e,q):=q;exact(v,e,aY.mv (Mv.cut r k) q)|D x=>let(v,e,q):=q;exact(v,e,q.cut r hb)|C s u=>let(A,e,q,Q):=q;exact(A,e,aY.mv (Mv.cut r k) q,aY.mv (Mv.cut r k) Q)|I C fs=>let(j,m,e,n,l,q):=q;exact(j,m,e,n,l,q.cut r hb)|K s=>rwa[q]|E s ds=>let(A,e,q,Q):=q;exact(A,e,aY.mv (Mv.cut r k) q,Q.cut r hb)|F p s u=>let(A,e,q,Q):=q;exact(A,e,aY.mv (Mv.cut r k) q,aY.mv (Mv.cut r k) Q)
theorem E2:∀{σ:Es}{i:Ń},(Qf k σ)[i]?=O (O d)->σ[i]?=O (O d)/\bD k d=J
 |[],i,e=>by done|q::r,0,e=>by simp only[Qf,List.getElem?_cons_zero,Option.some.injEq]at e;induction q with|a=>cases e|c q=>
   simp only[Li]at e;split at e;.grind
   .lia
 |q::r,i+1,e=>by simp only[Qf,η]at e⊢;rwa[E2 e]
theorem E3(k:Ń):∀σ:Es,Á (Qf k σ)=Á σ|[]=>Ŗ|_::r=>by simp only[Qf,aO,E3 k r]
theorem dm.cut(q:dm Z M H σ τ)(r:bq Z M H h)(k:Ń):dm Z (M.take k) H (Qf k σ) τ:=((E3 k σ).trans q.ln,λi d a=>by let(b,c):=E2 a;let(v,e,q):=q.at' i d b;exact(v,e,q.cut r c))
theorem Ext.cut(e:Ext M H M' H')(a:Á M<=k):Ext M H (M'.take k) H':=by let(l,rfl):=e.pre;exact((_,by rw[List.take_append,jP a]),e.keep,λb c n=>e.new b (fE c) n)
end
end F
namespace F
open L2
def pW(C:Ń->À)(E:XK)(c:Ń)(H:Hp):ß:=match Ë 1000 c with|a5=>E (.ref (C c)) ao H|J=>∀d,H d=O (.xd [("number",.I (c-1000:Ń))])->E (.ref (C 999)) (O d) H
def pW.imp(h:pW C E c H)(i:∀c o H,E c o H->E1 c o H):pW C E1 c H:=by
 delta pW at h⊢;split at h;.rwa[i _ _ _ h]
 .rwa[λd e=>i _ _ _ (h d e)]
def pW.cls(h:pW C E c H)(a:Ë 1000 c=a5):E (.ref (C c)) ao H:=by simp only[pW,a]at h;rwa[h]
abbrev XP:=Ń->Hs->ß
abbrev KP:=Ł Dv->Hs->ß
abbrev Sm:=XP->Es->Hs->KP->ß
structure En where
 nx:Es->Hs->ß
 rt:Dv->Hs->ß
 bk:Es->Hs->ß
 ct:Es->Hs->ß
 xc:XP
abbrev Ss:=En->Es->Hs->ß
abbrev En.sq(N:En)(n:Ss):En:={N with nx:=λσ h=>n N σ h}
abbrev En.cu(N:En)(R:Es->Hs->ß):En:={N with nx:=R}
abbrev En.lp(N:En)(A B:Es->Hs->ß):En:={N with nx:=A,ct:=A,bk:=B}
structure Tb where
 gR:Ń->Ä
 ca:Ń->À
 fl:Ń->ϐ
structure T0 where
 K:Æ
 mg:c3
 t:Tb
abbrev T0.z(Y:T0)(G:Ł À):Tx:=(Y.K,Y.mg,Y.t.gR,Y.t.ca,Y.t.fl,G)
abbrev yx(t:Tb)(X:Cx):T0:=(X.K,X.mg,t)
section
variable(Z:Tx)
structure Kn(E:XK)(τ:Ç)(H:Hp)(QV:VK)(M:Ł À)(σ:Es)(h:Hs)(xc:XP)(Q:KP):ß where
 rel:bq Z M H h
 env:dm Z M H σ τ
 out:∀d h' M' H' v,Ext M H M' H'->bq Z M' H' h'->eG Z M' H' d v->Q [d] h'->QV v H'
 exc:∀C h' M' H',Ext M H M' H'->bq Z M' H' h'->xc C h'->pW Z.ca E C H'
structure ϙ(E:XK)(τ:Ç)(H:Hp)(QV:ϕ->Hp->ß)(M:Ł À)(σ:Es)(h:Hs)(xc:XP)(Q:KP):ß where
 rel:bq Z M H h
 env:dm Z M H σ τ
 out:∀d h' M' H' v,Ext M H M' H'->bq Z M' H' h'->cU Z M' H' d v->Q d h'->QV v H'
 exc:∀C h' M' H',Ext M H M' H'->bq Z M' H' h'->xc C h'->pW Z.ca E C H'
structure ύ(E:XK)(τ:Ç)(H:Hp)(QV:Þ->Hp->ß)(M:Ł À)(σ:Es)(h:Hs)(xc:XP)(Q:KP):ß where
 rel:bq Z M H h
 env:dm Z M H σ τ
 out:∀d h' M' H',Ext M H M' H'->bq Z M' H' h'->Q [d] h'->∃b,d=.p (.B b)/\QV b H'
 exc:∀C h' M' H',Ext M H M' H'->bq Z M' H' h'->xc C h'->pW Z.ca E C H'
structure WV(E:XK)(τ:Ç)(H:Hp)(D:Ô)(M:Ł À)(σ:Es)(h:Hs)(N:En):ß where
 rel:bq Z M H h
 env:dm Z M H σ τ
 nx:∀σ' h' M' H' τ',Ext M H M' H'->bq Z M' H' h'->dm Z M' H' σ' τ'->N.nx σ' h'->D.nx τ' H'
 rt:∀d h' M' H' v,Ext M H M' H'->bq Z M' H' h'->eG Z M' H' d v->N.rt d h'->D.rt v H'
 bk:∀σ' h' M' H' τ',Ext M H M' H'->bq Z M' H' h'->dm Z M' H' σ' τ'->N.bk σ' h'->D.bk τ' H'
 ct:∀σ' h' M' H' τ',Ext M H M' H'->bq Z M' H' h'->dm Z M' H' σ' τ'->N.ct σ' h'->D.ct τ' H'
 exc:∀C h' M' H',Ext M H M' H'->bq Z M' H' h'->N.xc C h'->pW Z.ca E C H'
inductive de(Y:T0)(E:XK)(m:Sm)(τ:Ç)(H:Hp)(QV:VK):ß|mk(G M:Ł À)(σ:Es)(h:Hs)(xc:XP)(Q:KP)(k:Kn (Y.z G) E τ H QV M σ h xc Q)(q:m xc σ h Q):de Y E m τ H QV
inductive f7(Y:T0)(E:XK)(m:Sm)(τ:Ç)(H:Hp)(QV:ϕ->Hp->ß):ß|mk(G M:Ł À)(σ:Es)(h:Hs)(xc:XP)(Q:KP)(k:ϙ (Y.z G) E τ H QV M σ h xc Q)(q:m xc σ h Q):f7 Y E m τ H QV
inductive k9(Y:T0)(E:XK)(m:Sm)(τ:Ç)(H:Hp)(QV:Þ->Hp->ß):ß|mk(G M:Ł À)(σ:Es)(h:Hs)(xc:XP)(Q:KP)(k:ύ (Y.z G) E τ H QV M σ h xc Q)(q:m xc σ h Q):k9 Y E m τ H QV
inductive eJ(Y:T0)(E:XK)(m:Ss)(D:Ô)(τ:Ç)(H:Hp):ß|mk(G M:Ł À)(σ:Es)(h:Hs)(N:En)(k:WV (Y.z G) E τ H D M σ h N)(q:m N σ h):eJ Y E m D τ H
end
def Kn.Ht{M M':Ł À}{σ:Es}{h:Hs}{xc:XP}{Q:KP}{b:VK}(k:Kn Z E τ H b M σ h xc Q)(e:Ext M H M' H'):∀C a m H1,Ext M' H' m H1->bq Z m H1 a->xc C a->pW Z.ca E C H1:=λC a m H1 x r q=>k.exc C a m H1 (e.trans x) r q
def Kn.on(k:Kn Z E τ H c M σ h xc Q)(e:Ext M H M' H')(r:bq Z M' H' h')(o:∀d b m a v,Ext M' H' m a->bq Z m a b->eG Z m a d v->Q' [d] b->q v a):Kn Z E τ H' q M' σ h' xc Q':=(r,k.env.ext k.rel e,o,k.Ht e)
def Kn.go(k:Kn Z E τ H q M σ h xc Q)(e:Ext M H M' H')(r:bq Z M' H' h'):Kn Z E τ H' q M' σ h' xc Q:=(r,k.env.ext k.rel e,λd a m b v x=>k.out d a m b v (e.trans x),k.Ht e)
def _root_.L2.PE.imp{X:Cx}{e:Å}{t t':TE}(h:PE X e t')(i:∀σ H Q,t σ H Q->t' σ H Q):PE X e t:=λp s σ H Q I q=>h _ s σ H Q I (i σ H Q q)
def _root_.L2.PT.imp{X:Cx}{e:Å}{t t':TT}(h:PT X e t')(i:∀σ H Q,t σ H Q->t' σ H Q):PT X e t:=λp s σ H Q I q=>h _ s σ H Q I (i σ H Q q)
def _root_.L2.PW.imp{X:Cx}{e:Å}{t t':TT}(h:PW X e t')(i:∀σ H Q,t σ H Q->t' σ H Q):PW X e t:=λwh p s σ H Q I q=>h wh _ s σ H Q I (i σ H Q q)
def _root_.L2.PA.imp{X:Cx}{e:Ł _}{t t':TA}(h:PA X e t')(i:∀σ H Q,t σ H Q->t' σ H Q):PA X e t:=λpos p s σ H Q I q=>h pos _ s σ H Q I (i σ H Q q)
def _root_.L2.PS.imp{X:Cx}{e:É}{t t':TS}(h:PS X e t')(i:∀D σ H,t D σ H->t' D σ H):PS X e t:=λp s σ H D I q=>h _ s σ H D I (i D σ H q)
def _root_.L2.iY.imp{X:Cx}{e:Ł _}{t t':TS}(h:iY X e t')(i:∀D σ H,t D σ H->t' D σ H):iY X e t:=λp s σ H D I q=>h _ s σ H D I (i D σ H q)
def gd(c:Þ)(A:ß):ß:=match c with|J=>A|a5=>ŧ
def bI{c:Þ}(h:c)(a:A):gd c A:=by subst h;rwa[a]
def cG(h:gd c A):c/\A:=by induction c with|d=>exact(Ŗ,h)|e=>rwa[h.elim]
def br(c:Þ)(A B:ß):ß:=match c with|J=>A|a5=>B
def d8{c:Þ}(a:c->A)(b:c=a5->B):br c A B:=by induction c with|d=>rwa[a Ŗ]|e=>rwa[b Ŗ]
def gG{α:Type}(o:Ő α)(A:α->ß)(B:ß):ß:=match o with|O x=>A x|ao=>B
def MF(h:gG o A B)(e:o=O x):A x:=by subst e;rwa[h]
def ME(h:gG o A B)(e:o=ao):B:=by subst e;rwa[h]
def aZ{x:α}(e:o=O x)(a:A x):gG o A B:=by subst e;rwa[a]
def cP(h:gG o A ŧ):∃x,o=O x/\A x:=by induction o with|c x=>exact(x,Ŗ,h)|a=>rwa[h.elim]
def d_:Ł Dv->Ő ϑ
 |[]=>O []|.p x::r=>match d_ r with|O X=>O (x::X)|ao=>ao
 |.r _::_=>ao
abbrev O1:=Dv->Hs->(Dv->Hs->ß)->ß
abbrev O2:=Dv->Dv->Hs->(Dv->Hs->ß)->ß
abbrev ON:=Ł Dv->Hs->(Dv->Hs->ß)->ß
def sV(i:Ń):Sm:=λ_ σ h Q=>match σ[i]? with|O (O d)=>Q [d] h|_=>ŧ
def sC(x:Pv):Sm:=λ_ _ h Q=>Q [.p x] h
def qD(Q:KP)(d:Dv)(h:Hs):ß:=Q [d] h
def m1(xs:Ł Dv)(k:Dv->ß):ß:=match xs with|[x]=>k x|_=>ŧ
def k1(o:O1)(Q:KP):KP:=λX h=>m1 X λx=>o x h (qD Q)
def s1(o:O1)(A:Sm):Sm:=λx σ h Q=>A x σ h (k1 o Q)
def k2'(o:O2)(Q:KP)(x:Dv):KP:=λY h=>m1 Y λy=>o x y h (qD Q)
def k2(o:O2)(B:Sm)(X:XP)(σ:Es)(Q:KP):KP:=λs h=>m1 s λx=>B X σ h (k2' o Q x)
def s2(o:O2)(A B:Sm):Sm:=λx σ h Q=>A x σ h (k2 o B x σ Q)
def kN(o:ON)(Q:KP):KP:=λx h=>o x h (qD Q)
def sN(o:ON)(A:Sm):Sm:=λx σ h Q=>A x σ h (kN o Q)
def dB:Sm:=λ_ _ h Q=>Q [] h
def kC'(Q:KP)(x:Dv):KP:=λy h=>Q (x::y) h
def kC(R:Sm)(X:XP)(σ:Es)(Q:KP):KP:=λs h=>m1 s λx=>R X σ h (kC' Q x)
def bj(A R:Sm):Sm:=λx σ h Q=>A x σ h (kC R x σ Q)
def mB(xs:Ł Dv)(k:Þ->ß):ß:=match xs with|[.p (.B b)]=>k b|_=>ŧ
def R7(q:mB [d] k):∃b,d=.p (.B b)/\k b:=by induction d with|r _=>rwa[q.elim]|p x=>cases x<;>first|exact(_,Ŗ,q)|rwa[q.elim]
def kB(Q:KP):KP:=λy h=>mB y λc=>Q [.p (.B c)] h
def kA(B:Sm)(x:XP)(σ:Es)(Q:KP):KP:=λX h=>mB X λb=>br b (B x σ h (kB Q)) (Q [.p (.B a5)] h)
def D7(A B:Sm):Sm:=λx σ h Q=>A x σ h (kA B x σ Q)
def kO(B:Sm)(x:XP)(σ:Es)(Q:KP):KP:=λX h=>mB X λb=>br b (Q [.p (.B J)] h) (B x σ h (kB Q))
def Ϻ(A B:Sm):Sm:=λx σ h Q=>A x σ h (kO B x σ Q)
def Ř(A B:Sm)(x:XP)(σ:Es)(Q:KP):KP:=λX h=>mB X λb=>br b (A x σ h Q) (B x σ h Q)
def T6(T A B:Sm):Sm:=λx σ h Q=>T x σ h (Ř A B x σ Q)
def aiN(h:PE X e (BB i)):PE X e (de 'X' E (sV i)):=h.imp λτ H j z=>by
 let(G,M,σ,s,x,Q,k,q):=z;delta sV at q;split at q;.ext d c;let(v,f,g):=k.env.at' i d c;exact(v,f,k.out d s M H v Ext.refl k.rel g q)
 .left
def MW(h:PE X e (tC v))(c:∀G M H,eg ('X'.z G) M H x v):PE X e (de 'X' E (sC x)):=h.imp λτ H d Z=>by let(G,M,σ,s,f,Q,k,q):=Z;rwa[k.out (.p x) s M H v Ext.refl k.rel (c G M H) q]
def Pr(Y:T0)(r:V->Hp->VK->ß)(o:O1):ß:=∀G M h H x v Q q,bq (Y.z G) M H h->eG (Y.z G) M H x v->o x h Q->(∀d f m c w,Ext M H m c->bq (Y.z G) m c f->eG (Y.z G) m c d w->Q d f->q w c)->r v H q
def jw(Y:T0)(r:R2)(o:O2):ß:=∀G M h H x y v u Q q,bq (Y.z G) M H h->eG (Y.z G) M H x v->eG (Y.z G) M H y u->o x y h Q->(∀d f m c w,Ext M H m c->bq (Y.z G) m c f->eG (Y.z G) m c d w->Q d f->q w c)->r v u H q
def qO(Y:T0)(r:ϕ->Hp->VK->ß)(o:ON):ß:=∀G M h H x v Q q,bq (Y.z G) M H h->cU (Y.z G) M H x v->o x h Q->(∀d f m c w,Ext M H m c->bq (Y.z G) m c f->eG (Y.z G) m c d w->Q d f->q w c)->r v H q
def Ww(c:Pr 'X' r o)(h:de 'X' E (s1 o A) τ H QV):J0 r (de 'X' E A) τ H QV:=by let(G,M,σ,s,x,Q,k,q):=h;exact(G,M,σ,s,x,_,(k.rel,k.env,λd f m g v e R i j=>c G m f g d v _ _ R i j λd2 l M2 n w p u I y=>k.out d2 l M2 n w (e.trans p) u I y,k.exc),q)
def vH(f:jw 'X' r o)(h:de 'X' E (s2 o A B) τ H QV):mf r (de 'X' E A) (de 'X' E B) τ H QV:=by let(G,M,σ,s,x,Q,k,q):=h;exact(G,M,σ,s,x,_,(k.rel,k.env,λd g m S v e R i j=>(G,m,σ,g,x,_,k.on e R λd2 l M2 n w c p I u=>f G M2 l n d d2 v w _ _ p (i.ext R c) I u λD y C F z K L N P=>k.out D y C F z (e.trans (c.trans K)) L N P,j),k.exc),q)
def ő(h:mm X (binaryOp p) r)(H:jw 'X' r o)(c:PE X a (de 'X' E A))(d:PE X b (de 'X' E B)):PE X (.BinOp a p b pos) (de 'X' E (s2 o A B)):=(ϻ h c d).imp λ_ _ _=>vH H
def ĭ(h:vE X (unaryOp p) r)(H:Pr 'X' r o)(c:PE X a (de 'X' E A)):PE X (.UnaryOp p a pos) (de 'X' E (s1 o A)):=(adk h c).imp λ_ _ _=>Ww H
def ZN(h:mm X (compareOp p) r)(H:jw 'X' r o)(c:PE X a (de 'X' E A))(d:PE X b (de 'X' E B))(m:hX p b=a5):PE X (.Compare a [p] [b] pos) (de 'X' E (s2 o A B)):=(Sv h c d m).imp λ_ _ _=>vH H
def GK(h:k9 'X' E m τ H f):de 'X' E m τ H λx H'=>∃k,x=.B k/\f k H':=by let(G,M,σ,s,g,Q,k,q):=h;erw[(G,M,σ,s,g,Q,(k.rel,k.env,λd j l H' v e r i n=>?_,k.exc),q)];let(c,rfl,o):=k.out d j l H' e r n;exact(c,i,o)
def SW(H:mm X (compareOp p) r)(c:jw 'X' r o)(d:PE X a (de 'X' E A))(f:PE X b (de 'X' E B))(m:hX p b=a5):PT X (.Compare a [p] [b] pos) (k9 'X' E (s2 o A B)):=(Gp H d f m).imp λ_ _ _ h=>vH c (GK h)
def SY(h:PE X e (de 'X' E A))(H:∀whole,isTrue e X.env whole=do let v<-whole;standAt e.pos;holding [v] (truthy v)):PT X e (k9 'X' E A):=(a_ h H).imp λ_ _ _ h=>GK h
def Oh(h:k9 'X' E (D7 A B) τ H QB):VB (k9 'X' E A) (k9 'X' E B) τ H QB:=by let(G,M,σ,s,m,Q,k,q):=h;erw[(G,M,σ,s,m,_,(k.rel,k.env,λd n o p e R i=>?_,k.exc),q)];let(b,j,i):=R7 i;erw[(b,j,?_)];induction b with|e=>let(c,f,g):=k.out _ n o p e R i;injection f with f;injection f with f;subst f;rwa[g]|d=>erw[(G,o,σ,n,m,_,(R,k.env.ext k.rel e,λd2 g M2 u v w l=>?_,λC f y z x r q=>k.exc C f y z (e.trans x) r q),i)];let(c,j,l):=R7 l;let(D,f,g):=k.out _ g M2 u (e.trans v) w l;injection f with f;injection f with f;subst f;exact(c,j,g)
def Ut(h:k9 'X' E (Ϻ A B) τ H QB):Iv (k9 'X' E A) (k9 'X' E B) τ H QB:=by let(G,M,σ,s,m,Q,k,q):=h;erw[(G,M,σ,s,m,_,(k.rel,k.env,λd n o p e R i=>?_,k.exc),q)];let(b,j,i):=R7 i;erw[(b,j,?_)];induction b with|d=>let(c,f,g):=k.out _ n o p e R i;injection f with f;injection f with f;subst f;rwa[g]|e=>erw[(G,o,σ,n,m,_,(R,k.env.ext k.rel e,λd2 g M2 u v w l=>?_,λC f y z x r q=>k.exc C f y z (e.trans x) r q),i)];let(c,j,l):=R7 l;let(D,f,g):=k.out _ g M2 u (e.trans v) w l;injection f with f;injection f with f;subst f;exact(c,j,g)
def Uu(h:de 'X' E (D7 A B) τ H QV):Wx (de 'X' E A) (de 'X' E B) τ H QV:=by let(G,M,σ,s,x,Q,k,q):=h;erw[(G,M,σ,s,x,_,(k.rel,k.env,λd l m n v e r i f=>?_,k.exc),q)];let(b,g,f):=R7 f;subst g;erw[(b,i,?_)];induction b with|e=>rwa[k.out _ l m n _ e r (by rfl) f]|d=>erw[(G,m,σ,l,x,_,k.on e r λd2 o M2 p w u R I j=>?_,f)];let(c,g,j):=R7 j;subst g;rwa[k.out _ o M2 p w (e.trans u) R I j]
def Uv(h:de 'X' E (T6 T A B) τ H QV):TD (k9 'X' E T) (de 'X' E A) (de 'X' E B) τ H QV:=by let(G,M,σ,s,x,Q,k,q):=h;erw[(G,M,σ,s,x,_,(k.rel,k.env,λd g m j e r f=>?_,k.exc),q)];let(b,i,f):=R7 f;erw[(b,i,?_)];induction b with|d=>exact(G,m,σ,g,x,_,k.go e r,f)|e=>exact(G,m,σ,g,x,_,k.go e r,f)
def ZR(h:PT X c (k9 'X' E T))(H:PE X a (de 'X' E A))(d:PE X b (de 'X' E B)):PE X (.IfExp c a b pos) (de 'X' E (T6 T A B)):=(MP h H d).imp λ_ _ _=>Uv
def SJ:PA X [] (f7 'X' E dB):=o6.imp λτ H d z=>by let(G,M,σ,h,x,Q,k,q):=z;rwa[k.out [] h M H [] Ext.refl k.rel Ť q]
def M8(h:PE X a (de 'X' E A))(j:PA X rest (f7 'X' E B))(p:cL a):PA X (a::rest) (f7 'X' E (bj A B)):=(ZF h j p).imp λτ H L z=>by let(G,M,σ,s,f,Q,k,q):=z;exact(G,M,σ,s,f,_,(k.rel,k.env,λd l m N v e R i n=>(G,m,σ,l,f,_,(R,k.env.ext k.rel e,λds o M2 u ws g w I y=>k.out (d::ds) o M2 u _ (e.trans g) w (i.ext R g,I) y,λC D F K x r q=>k.exc C D F K (e.trans x) r q),n),k.exc),q)
def WE(f:qO 'X' r o)(h:de 'X' E (sN o A) τ H QV):f7 'X' E A τ H λvs g=>r vs g QV:=by let(G,M,σ,s,x,Q,k,q):=h;exact(G,M,σ,s,x,_,(k.rel,k.env,λd j m l v e R i n=>f G m j l d v _ _ R i n λd2 p M2 u w y z I C=>k.out d2 p M2 u w (e.trans y) z I C,k.exc),q)
def MX{id:String}(h:fR X (.builtin id) r)(H:qO 'X' r o)(g:Gl X x)(m:X.mg x=ao)(v:eU x=O (.builtin id))(d:PA X (a::rest) (f7 'X' E A))(hn:x≠"__name__")(k:(x=="__debug__")=a5)(D:(a::rest).all cL):PE X (.Call (.Name x p) (a::rest) [] pos) (de 'X' E (sN o A)):=(V7 h g m v d hn k D).imp λ_ _ _=>WE H
def vt{id:String}(h:fR X (.type id) r)(H:qO 'X' r o)(g:Gl X x)(m:X.mg x=ao)(v:eU x=O (.type id))(d:PA X (a::rest) (f7 'X' E A))(hn:x≠"__name__")(k:(x=="__debug__")=a5)(D:(a::rest).all cL):PE X (.Call (.Name x p) (a::rest) [] pos) (de 'X' E (sN o A)):=(V8 h g m v d hn k D).imp λ_ _ _=>WE H
abbrev Ct:=Ł Dv->Hs->(Dv->Hs->ß)->XP->ß
inductive dI(Y:T0)(C:Ct)(vs:ϕ)(H:Hp)(QV:VK)(EV:XK):ß|mk(G M:Ł À)(h:Hs)(ds:Ł Dv)(Q:Dv->Hs->ß)(xc:XP)(r:bq (Y.z G) M H h)(i:cU (Y.z G) M H ds vs)(c:C ds h Q xc)(out:∀d h' M' H' v,Ext M H M' H'->bq (Y.z G) M' H' h'->eG (Y.z G) M' H' d v->Q d h'->QV v H')(exc:∀c h' M' H',Ext M H M' H'->bq (Y.z G) M' H' h'->xc c h'->pW Y.t.ca EV c H'):dI Y C vs H QV EV
def je(i:Ń):Ϙ->Þ|[]=>a5|j::r=>Ì i j||je i r
def sm:Ϙ->Þ|[]=>J|i::r=>!je i r&&sm r
def RO(i:Ń):Ϙ->Ń|[]=>0|j::r=>match Ì i j with|J=>0|a5=>RO i r+1
def J5(ρ:Ϙ):Dv->Þ|.p _=>J|.r i=>je i ρ
def C6(ρ:Ϙ):Ł Dv->Þ|[]=>J|d::r=>J5 ρ d&&C6 ρ r
def O3(ρ:Ϙ):Ob->Þ|.L _=>J|.D ds=>C6 ρ ds|.C _ _=>J|.I _ fs=>C6 ρ fs|.K _=>J|.E _ ds=>C6 ρ ds|.F _ _ _=>J
def iC(ρ:Ϙ):Dv->Dv|.p x=>.p x|.r i=>.r (RO i ρ)
def Yt(ρ:Ϙ):Ob->Ob|.L x=>.L x|.D ds=>.D (ds.map (iC ρ))|.C k v=>.C k v|.I C fs=>.I C (fs.map (iC ρ))|.K k=>.K k|.E k ds=>.E k (ds.map (iC ρ))|.F o k u=>.F o k u
def lh(ρ:Ϙ)(h:Hs):Ϙ->Ő Hs|[]=>O []|i::r=>match h[i]? with|ao=>ao|O o=>match O3 ρ o with|a5=>ao|J=>match lh ρ h r with|ao=>ao|O l=>O (Yt ρ o::l)
def OV(ρ:Ϙ)(n:Ń):Dv->Dv|.p x=>.p x|.r k=>match ρ[k]? with|O i=>.r i|ao=>.r (n+(k-Á ρ))
def JY(ρ:Ϙ)(n:Ń):Ob->Ob|.L x=>.L x|.D ds=>.D (ds.map (OV ρ n))|.C k v=>.C k v|.I C fs=>.I C (fs.map (OV ρ n))|.K k=>.K k|.E k ds=>.E k (ds.map (OV ρ n))|.F o k u=>.F o k u
def O8(ρ:Ϙ)(n:Ń):Ϙ->Hs->Hs->Hs|[],[],h=>h|[],o::os,h=>h++(o::os).map (JY ρ n)|_::_,[],h=>h|i::r,o::os,h=>O8 ρ n r os (h.set i (JY ρ n o))
def ϰ(ρ:Ϙ)(h:Hs)(Q:Dv->Hs->ß)(d:Dv)(l:Hs):ß:=Q (OV ρ (Á h) d) (O8 ρ (Á h) ρ l h)
def lfX(ρ:Ϙ)(h:Hs)(x:XP)(c:Ń)(l:Hs):ß:=x c (O8 ρ (Á h) ρ l h)
def R0(ρ:Ϙ)(C:Ct):Ct:=λds h Q x=>gd (sm ρ&&C6 ρ ds) (match lh ρ h ρ with|ao=>ŧ|O l=>C (ds.map (iC ρ)) l (ϰ ρ h Q) (lfX ρ h x))
theorem cV:∀{l:Ϙ},je i l=J↔i∈l|[]=>by simp[je]|j::r=>by simp only[je,jj,aw,cV,Nat.beq_eq]
theorem F6:∀{l:Ϙ},sm l=J->l.Nodup|[],_=>hU|i::r,h=>by simp only[sm,aM,Bool.not_eq_true']at h;erw[dA.mpr (λz=>?_,F6 h.2)];rw[cV.mpr z]at h;cases h.1
theorem FL:∀{l:Ϙ},i∈l->l[RO i l]?=O i
 |[],h=>by grind|j::r,h=>by
  delta RO;split;.ext e;rw[aX e];rfl
  .rwa[FL ((aw.mp h).resolve_left λz=>nofun)]
section
variable{Y:T0}{G M M':Ł À}{H H':Hp}{h l l':Hs}{ρ:Ϙ}
def mL(ρ:Ϙ)(M:Ł À):Ł À:=ρ.filterMap λi=>M[i]?
theorem L7:∀{ρ:Ϙ}{l:Hs},lh c h ρ=O l->Á l=Á ρ/\∀(k:Ń)i,ρ[k]?=O i->∃o,h[i]?=O o/\O3 c o/\l[k]?=O (Yt c o)
 |[],l,e=>by cases e;exact(Ŗ,λk i h=>by grind)|i::r,l,e=>by
  delta lh at e;split at e;.lia
  .split at e;.lia
   .split at e;.lia
    .ext l1 d;cases e;let(a,b):=L7 d;erw[(by grind,λk j f=>?_)];induction k with|h=>grind|j k=>rwa[b k j f]
def vj(E:∀i∈ρ,i<Á M):Á (mL ρ M)=Á ρ/\∀(k:Ń),(mL ρ M)[k]?=ρ[k]?.bind λi=>M[i]?:=by induction ρ with|f=>exact(Ŗ,λk=>Ŗ)|g i r I=>
  let(a,b):=I λj c=>E j (aE _ c);let e:M[i]?=O (M[i]'(E i aF)):=av _;let d:mL (i::r) M=M[i]'(E i aF)::mL r M:=by delta mL;rw[iM,e]
  rw[d];erw[(nofun,λk=>?_)];induction k with|h=>rwa[e.symm]|j k=>left
def y9(h:a∈mL ρ M):a∈M:=by let(i,_,e):=nS.mp h;rwa[aL e]
def Ű(e:M.Nodup)(a:ρ.Nodup):(mL ρ M).Nodup:=by erw[List.Pairwise.filterMap _ ?_ a];intro i j d b f c g z;subst z;erw[d ?_];let(l1,E):=ar.mp f;let(l2,k):=ar.mp g;exact(ie e).mp (E.trans k.symm)
def Vy(n:∀a,a∈M'\/a∈g->a∈M\/a∈G\/H a=ao):Tf (Y.z G) g M H M' H:=by
 erw[(id,id,λ{a _}k s=>not_or.mp λz=>?_,λ_ _ s=>s,λ_ s=>s,λ_ s=>s)];rcases n a z with z|z|z;.rwa[k.1 z]
 .rwa[k.2 z]
 .rcases s with s|⟨_,s⟩<;>rw[z]at s<;>cases s
def eg.fr(n:∀a,a∈M'\/a∈g->a∈M\/a∈G\/H a=ao)(h:eg (Y.z G) M H x v):eg (Y.z g) M' H x v:=eg.tf (Vy n) h
def aY.fr(n:∀a,a∈M'\/a∈g->a∈M\/a∈G\/H a=ao)(h:aY (Y.z G) M H x v):aY (Y.z g) M' H x v:=aY.tf (Vy n) h
def eg.up(n:∀a,a∉M'->a∉g->a∉M/\a∉G)(h:eg (Y.z g) M' H x v):eg (Y.z G) M H x v:=eg.fr (λa b=>by
 by_cases z:a∈M';.rwa[.inl z]
 .by_cases y:a∈g;.rwa[.inr (.inl y)]
  .let(p,q):=n a z y;exact(b.elim p q).elim) h
def aY.up(n:∀a,a∉M'->a∉g->a∉M/\a∉G)(h:aY (Y.z g) M' H x v):aY (Y.z G) M H x v:=aY.fr (λa b=>by
 by_cases z:a∈M';.rwa[.inl z]
 .by_cases y:a∈g;.rwa[.inr (.inl y)]
  .let(p,q):=n a z y;exact(b.elim p q).elim) h
def gL(ρ:Ϙ)(M G:Ł À):Ł À:=G++M.filter λa=>!(mL ρ M).contains a
def oX:a∈gL ρ M G↔a∈G\/a∈M/\a∉mL ρ M:=by delta gL;simp
def uL:∀a,a∈mL ρ M\/a∈gL ρ M G->a∈M\/a∈G\/H a=none:=λa h=>h.elim (λz=>.inl (y9 z)) λz=>(oX.mp z).elim (λz=>.inr (.inl z)) λz=>.inl z.1
def eG.dn(e:∀i∈ρ,i<Á M)(b:J5 ρ d)(q:eG (Y.z G) M H d v):eG (Y.z (gL ρ M G)) (mL ρ M) H (iC ρ d) v:=by induction d with|p x=>rwa[eg.fr uL q]|r i=>let(a,c,f):=q;erw[(a,?_,f)];rw[(vj e).2,FL (cV.mp b)];rwa[c]
theorem cU.dn(e:∀i∈ρ,i<Á M):∀{ds:Ł Dv}{vs:ϕ},C6 ρ ds=J->cU (Y.z G) M H ds vs->cU (Y.z (gL ρ M G)) (mL ρ M) H (ds.map (iC ρ)) vs|[],[],_,_=>Ť|[],_::_,_,q=>q|_::_,[],_,q=>q|_::_,_::_,hd,q=>by simp only[C6,aM]at hd;exact(q.1.dn e hd.1,cU.dn e hd.2 q.2)
theorem bq.dn(r:bq (Y.z G) M H h)(f:ρ.Nodup)(e:lh ρ h ρ=O l):bq (Y.z (gL ρ M G)) (mL ρ M) H l/\∀i∈ρ,i<Á M:=by
 let(x,p):=L7 e;let U:∀i∈ρ,i<Á M:=λi d=>by let(k,e):=lE d;let(o,g,_):=p k i e;rw[r.ln];exact(ar.mp g).1
 erw[((Ű r.nd f,λa t z=>(oX.mp z).elim (r.dj a (y9 t)) λz=>z.2 t,by rw[(vj U).1,x],λb y=>?_,λk a o j u=>?_),U)]
 .rcases oX.mp y with z|z;.rwa[r.gs b z]
  .let(o,e,_):=r.there z.1;exact(o,e)
 .rw[(vj U).2]at j;induction d:ρ[k]? with|a=>left|c i=>rw[d]at j;let(w,g,c,m):=p k i d;rw[m]at u;cases u;let q:=r.ob i a w j g;induction w with|L X=>let(v,e,q):=q;exact(v,e,aY.fr uL q)|D X=>let(v,e,q):=q;exact(v,e,q.dn U c)|C s B=>let(A,e,q,Q):=q;exact(A,e,aY.fr uL q,aY.fr uL Q)|I C fs=>let(N,P,e,n,R,q):=q;exact(N,P,e,n,by rw[ae];rwa[R],q.dn U c)|K s=>rwa[q]|E s ds=>let(A,e,q,Q):=q;exact(A,e,aY.fr uL q,Q.dn U c)|F S s B=>let(A,e,q,Q):=q;exact(A,e,aY.fr uL q,aY.fr uL Q)
def vJ:∀a,a∉mL ρ M++L->a∉gL ρ M G->a∉M++L/\a∉G:=λa b c=>(λz=>(bu.mp z).elim (λz=>c (oX.mpr (.inr (z,λy=>b (dP _ y))))) λz=>b (aW _ z),λz=>c (oX.mpr (.inl z)))
theorem eG.up(e:∀i∈ρ,i<Á M)(q:eG (Y.z (gL ρ M G)) (mL ρ M++L) H d v):eG (Y.z G) (M++L) H (OV ρ (Á M) d) v:=by induction d with|p x=>rwa[eg.up vJ q]|r k=>
  let(a,b,c):=q;let m:=vj e;let E:OV ρ (Á M) (.r k)=match ρ[k]? with|O i=>.r i|ao=>.r _:=Ŗ;rw[E];by_cases g:k<Á ρ;.rw[aT nofun,m.2]at b;induction f:ρ[k]? with|a=>left|c i=>rw[f]at b;exact(a,by rw[aT (ar.mp b).1];rwa[b],c)
  .rw[aK (by rw[m.1];rwa[da.mp ‹_›]),m.1]at b;rw[cW (da.mp ‹_›)];erw[(a,?_,c)];rw[aK (aQ _ _),show(Á M)+(k-Á ρ)-Á M=k-Á ρ by lia];rwa[b]
theorem cU.up(e:∀i∈ρ,i<Á M):∀{ds:Ł Dv}{vs:ϕ},cU (Y.z (gL ρ M G)) (mL ρ M++L) H ds vs->cU (Y.z G) (M++L) H (ds.map (OV ρ (Á M))) vs|[],[],_=>Ť|[],_::_,q=>q|_::_,[],q=>q|_::_,_::_,q=>(q.1.up e,cU.up e q.2)
theorem uq.up(U:∀i∈ρ,i<Á M)(q:uq (Y.z (gL ρ M G)) (mL ρ M++L) H a o):uq (Y.z G) (M++L) H a (JY ρ (Á M) o):=by induction o with|L x=>let(v,e,q):=q;exact(v,e,aY.up vJ q)|D x=>let(v,e,q):=q;exact(v,e,q.up U)|C k u=>let(A,e,q,Q):=q;exact(A,e,aY.up vJ q,aY.up vJ Q)|I C fs=>let(d,f,e,n,b,q):=q;exact(d,f,e,n,by rw[ae];rwa[b],q.up U)|K k=>rwa[q]|E k ds=>let(A,e,q,Q):=q;exact(A,e,aY.up vJ q,Q.up U)|F c k u=>let(A,e,q,Q):=q;exact(A,e,aY.up vJ q,aY.up vJ Q)
def R8{ρ:Ϙ}:∀{os h:Hs},ρ.Nodup->Á ρ<=Á os->(∀i∈ρ,i<Á h)->Á (O8 c n ρ os h)=Á h+(Á os-Á ρ)/\∀(j:Ń)o,(O8 c n ρ os h)[j]?=O o->(∃(k:Ń)(o':Ob),ρ[k]?=O j/\os[k]?=O o'/\o=JY c n o')\/j∉ρ/\h[j]?=O o\/∃o':Ob,Á h<=j/\os[Á ρ+(j-Á h)]?=O o'/\o=JY c n o':=by induction ρ with
 |f=>
  intro os h _ _ _;let s:O8 c n [] os h=h++os.map (JY c n):=by induction os with|f=>rw[List.map_nil,aV];rfl|g _ _=>rfl
  rw[s];erw[(by rw[aj,ae];rfl,λj o e=>?_)];by_cases f:j<Á h;.rw[aT f]at e;rwa[.inr (.inl (dQ,e))]
  .rw[aK (da.mp ‹_›),aN]at e;induction q:os[j-Á h]? with|a=>rw[q]at e;cases e|c o'=>rw[q]at e;cases e;rwa[.inr (.inr (o',da.mp ‹_›,by rw[List.length_nil,cR];rwa[q],Ŗ))]
 |g i r I=>intro os h hn p E;induction os with|f=>exact(Nat.not_succ_le_zero _ p).elim|g o1 os=>
   rw[dA]at hn;let(a,b):=I (os:=os) (h:=h.set i (JY c n o1)) hn.2 (Nat.le_of_succ_le_succ p) (λj f=>by rw[cn];rwa[E j (aE _ f)]);rw[cn]at a b;erw[(a.trans (by rw[aO,aO,Nat.add_sub_add_right]),λj o e=>?_)];rcases b j o e with ⟨k,o',g,d,m⟩|⟨g,d⟩|⟨o',g,d,m⟩;.rwa[.inl (k+1,o',g,d,m)]
   .by_cases f:i=j;.subst f;rw[cQ (E i aF)]at d;cases d;rwa[.inl (0,o1,Ŗ,Ŗ,Ŗ)]
    .rw[cy f]at d;rwa[.inr (.inl (λz=>(aw.mp z).elim (λz=>f z.symm) g,d))]
   .rwa[.inr (.inr (o',g,by rw[aO,zZ];rwa[d],m))]
theorem bq.up(r:bq (Y.z G) M H h)(g:ρ.Nodup)(E:∀i∈ρ,i<Á M)(e:Ext (mL ρ M) H (mL ρ M++L) H')(R:bq (Y.z (gL ρ M G)) (mL ρ M++L) H' l'):Ext M H (M++L) H'/\bq (Y.z G) (M++L) H' (O8 ρ (Á M) ρ l' h):=by
 let m:=vj E;let p:Á (mL ρ M++L)=Á l':=R.ln;rw[aj,m.1]at p;let ex:Ext M H (M++L) H':=by
  erw[((L,Ŗ),λb o n q=>e.keep b o (λz=>n (y9 z)) q,λb q n=>?_)];rcases bu.mp q with z|z;.rwa[Ă z n]
  .rwa[e.new b (aW _ z) λz=>n (y9 z)]
 let N:=λa w B=>by
  by_cases z:a∈mL ρ M;.exact(dg.mp R.nd).2.2 a z a w Ŗ
  .let h1:=e.new a (aW _ w) z;let(o,f,_):=r.there B;rw[h1]at f;cases f
 let(a,b):=R8 (os:=l') g () (λi s=>by rw[<-r.ln];rwa[E i s]);erw[(ex,(dg.mpr (r.nd,(dg.mp R.nd).2.1,λx d y C z=>N y C (z▸d)),λx d=>(bu.mp d).elim (r.dj x) λy z=>R.dj x (aW _ y) (oX.mpr (.inl z)),by rw[a,aj,<-r.ln];lia,λx d=>R.gs x (oX.mpr (.inl d)),λj c o h1 f=>?_))];rcases b j o f with ⟨k,t,k1,k2,rfl⟩|⟨k1,k2⟩|⟨t,k1,k2,rfl⟩;.rw[aT (E j (aL k1))]at h1;exact(R.ob k c t (by rw[aT (by rw[m.1];exact(ar.mp k1).1),m.2,k1];rwa[h1]) k2).up E
 .let D:j<Á M:=by rw[r.ln];exact(ar.mp k2).1
  rw[aT D]at h1;rwa[uq.mv (ex.mv r) (λ_ _=>ex.at) (λu hu=>e.keep c u (λz=>by let(i,s,v):=nS.mp z;let(l1,F):=ar.mp h1;let(l2,v):=ar.mp v;let:=(ie r.nd).mp (F.trans v.symm);rwa[k1 (this▸s)]) hu) (λI A=>ex.keep I _ (r.no A Ŗ) A) (r.ob j c o h1 k2)]
 .rw[aK (by rw[r.ln];rwa[k1])]at h1;erw[(R.ob _ c t ?_ k2).up E];rw[aK nofun,m.1,show(Á ρ)+(j-Á h)-Á ρ=j-Á M by rw[r.ln];lia];rwa[h1]
end
def rG(r:bq (Y.z G) M H h)(i:cU (Y.z G) M H ds vs)(q:R0 ρ C ds h Q x)(out:∀d h' m H' v,Ext M H m H'->bq (Y.z G) m H' h'->eG (Y.z G) m H' d v->Q d h'->k v H')(b:∀c h' m H',Ext M H m H'->bq (Y.z G) m H' h'->x c h'->pW Y.t.ca EV c H'):dI Y C vs H k EV:=by
 let(c,q):=cG q;rw[aM]at c;let a:=F6 c.1;split at q;.left
 .ext l n;let(o,E):=r.dn a n;erw[(_,_,l,_,_,_,o,i.dn E c.2,q,λd h' m H' v e f I g=>?_,λc h' m H' e f g=>?_)];.let(L,rfl):=e.pre;let(j,R):=r.up a E e f;rw[r.ln]at R;let i2:=I.up E;rw[r.ln]at i2;rwa[out _ _ _ _ v j R i2 g]
  .let(L,rfl):=e.pre;let(j,R):=r.up a E e f;rw[r.ln]at R;rwa[b _ _ _ _ j R g]
def qz(ρ:Ϙ)(C:Ct)(x:XP)(Q:KP):KP:=λds h=>R0 ρ C ds h (qD Q) x
def eX(ρ:Ϙ)(C:Ct)(A:Sm):Sm:=λx σ h Q=>A x σ h (qz ρ C x Q)
def Oe(h:de 'X' E (eX ρ C A) τ H m):f7 'X' E A τ H λvs n=>dI 'X' C vs n m E:=by let(G,M,σ,s,o,Q,k,q):=h;exact(G,M,σ,s,o,_,(k.rel,k.env,λd y z D v e R i u=>rG R i u (λd2 f M2 g w j r I l=>k.out d2 f M2 g w (e.trans j) r I l) λc f M2 g j r l=>k.exc c f M2 g (e.trans j) r l,k.exc),q)
def Pa:Ss:=λN σ h=>N.nx σ h
def om(m n:Ss):Ss:=λN σ h=>m (N.sq n) σ h
def adR(m n:Ss):Ss:=λN σ h=>∃R:Es->Hs->ß,m (N.cu R) σ h/\∀a H,R a H->n N a H
def BS:Ss:=λN σ h=>N.ct σ h
def Ļ(N:En)(σ:Es):KP:=λ_ h=>N.nx σ h
def wl(A:Sm):Ss:=λN σ h=>A N.xc σ h (Ļ N σ)
def kR(N:En):KP:=λx h=>m1 x λd=>N.rt d h
def qj(A:Sm):Ss:=λN σ h=>A N.xc σ h (kR N)
def kI(m n:Ss)(N:En)(σ:Es):KP:=λx h=>mB x λb=>br b (m N σ h) (n N σ h)
def T5(T:Sm)(m n:Ss):Ss:=λN σ h=>T N.xc σ h (kI m n N σ)
def kS(i:Ń)(N:En)(σ:Es):KP:=λx h=>m1 x λd=>N.nx (σ.set i (O d)) h
def zF(i:Ń)(A:Sm):Ss:=λN σ h=>A N.xc σ h (kS i N σ)
def rE:Ϙ->ϑ->Es->Ő Es|[],[],σ=>O σ|i::I,x::X,σ=>rE I X (σ.set i (O (.p x)))|_,_,_=>ao
def kU(is:Ϙ)(N:En)(σ:Es):KP:=λx h=>match x with
 |[.p (.T y)]=>match rE is y σ with|O a=>N.nx a h|ao=>ŧ
 |_=>ŧ
def IR(is:Ϙ)(A:Sm):Ss:=λN σ h=>A N.xc σ h (kU is N σ)
def ώ(C:Ń)(N:En):KP:=λ_ h=>N.xc C h
def v_(C:Ń)(A:Sm):Ss:=λN σ h=>A N.xc σ h (ώ C N)
def WV.Ht{Z:Tx}{τ:Ç}{H H':Hp}{D:Ô}{M g:Ł _}{σ:Es}{h:Hs}{N:En}(k:WV Z E τ H D M σ h N)(e:Ext M H g H'):∀C d f H1,Ext g H' f H1->bq Z f H1 d->N.xc C d->pW Z.ca E C H1:=λC d f H1 x r q=>k.exc C d f H1 (e.trans x) r q
def WV.go(k:WV Z E τ H D M σ h N)(e:Ext M H f H')(r:bq Z f H' h')(v:dm Z f H' σ' d):WV Z E d H' D f σ' h' N:=(r,v,λ_ _ _ _ _ x=>k.nx _ _ _ _ _ (e.trans x),λ_ _ _ _ _ x=>k.rt _ _ _ _ _ (e.trans x),λ_ _ _ _ _ x=>k.bk _ _ _ _ _ (e.trans x),λ_ _ _ _ _ x=>k.ct _ _ _ _ _ (e.trans x),k.Ht e)
def SQ:iY X [] (eJ 'X' E Pa):=Tw.imp λD τ H z=>by let(G,M,σ,h,N,k,q):=z;rwa[k.nx σ h M H τ Ext.refl k.rel k.env q]
def B_(h:eJ 'X' E (om m n) D τ H):P_ (eJ 'X' E m) (eJ 'X' E n) D τ H:=by let(G,M,σ,h,N,k,q):=h;exact(G,M,σ,h,N.sq n,(k.rel,k.env,λd f g j i e r v q=>(G,g,d,f,N,k.go e r v,q),k.rt,k.bk,k.ct,k.exc),q)
def Nc{st:É}(h:PS X st (eJ 'X' E m))(H:iY X rest (eJ 'X' E n)):iY X (st::rest) (eJ 'X' E (om m n)):=(qg h H).imp λ_ _ _=>B_
def SO{st:É}(f:PS X st (eJ 'X' E m))(g:iY X rest (eJ 'X' E n)):iY X (st::rest) (eJ 'X' E (adR m n)):=(qg f g).imp λD τ H z=>by let(G,M,σ,h,N,k,R,q,i):=z;exact(G,M,σ,h,N.cu R,(k.rel,k.env,λd j l s o e r v q=>(G,l,d,j,N,k.go e r v,i _ _ q),k.rt,k.bk,k.ct,k.exc),q)
def SR{st:É}(h:PS X st (eJ 'X' E m)):iY X [st] (eJ 'X' E m):=Gn h
def ZZ:PS X (.Continue pos) (eJ 'X' E BS):=Be.imp λD τ H z=>by let(G,M,σ,h,N,k,q):=z;rwa[k.ct σ h M H τ Ext.refl k.rel k.env q]
def Z0(f:PE X e (de 'X' E A))(hs:g6 e ao pos.line X.env=pure a5):PS X (.Expr e pos) (eJ 'X' E (wl A)):=(Tu f hs).imp λD τ H z=>by let(G,M,σ,h,N,k,q):=z;exact(G,M,σ,h,_,_,(k.rel,k.env,λd g j l v e r i q=>k.nx σ g j l τ e r (k.env.ext k.rel e) q,k.exc),q)
def SS(f:PE X e (de 'X' E A)):PS X (.Return (O e) pos) (eJ 'X' E (qj A)):=(Z8 f).imp λD τ H z=>by let(G,M,σ,h,N,k,q):=z;exact(G,M,σ,h,_,_,(k.rel,k.env,λd g j l v e r i q=>k.rt d g j l v e r i q,k.exc),q)
def Z1(i:PT X c (k9 'X' E T))(j:iY X sa (eJ 'X' E m))(l:iY X sb (eJ 'X' E n)):PS X (.If c sa sb pos) (eJ 'X' E (T5 T m n)):=(Ϗ i j l).imp λD τ H z=>by let(G,M,σ,h,N,k,q):=z;erw[(G,M,σ,h,_,_,(k.rel,k.env,λd f g s e r Q=>?_,k.exc),q)];let(b,o,Q):=R7 Q;erw[(b,o,?_)];induction b with|d=>exact(G,g,σ,f,N,k.go e r (k.env.ext k.rel e),Q)|e=>exact(G,g,σ,f,N,k.go e r (k.env.ext k.rel e),Q)
def SU{st:É}(hs:∀f,PE X e f->PS X st (sX f (kJ i)))(g:PE X e (de 'X' E A)):PS X st (eJ 'X' E (zF i A)):=(hs _ g).imp λD τ H z=>by let(G,M,σ,h,N,k,q):=z;exact(G,M,σ,h,_,_,(k.rel,k.env,λd j l o v e r i q=>k.nx _ j l o _ e r ((k.env.ext k.rel e).set i) q,k.exc),q)
def K9:Ϙ->Vg|[]=>Je|i::I=>Vz (kJ i) (K9 I)
theorem Ca:∀{is:Ϙ}{ys:ϑ}{vs:ϕ}{σ σ':Es}{τ:Ç},rE is ys σ=O σ'->aY Z M H ys vs->dm Z M H σ τ->(∀d,dm Z M H σ' d->R d H)->K9 is vs τ H R|[],[],[],σ,σ',τ,e,_,v,q=>by cases e;exact(Ŗ,q τ v)|[],[],_::_,_,_,_,_,h,_,_=>by done|[],_::_,_,_,_,_,e,_,_,_=>by cases e|_::_,[],_,_,_,_,e,_,_,_=>by cases e|_::_,_::_,[],_,_,_,_,h,_,_=>by done|i::is,y::ys,w::vs,σ,σ',τ,e,h,v,q=>by exact(w,vs,Ŗ,Ca e h.2 (v.set h.1) q)
theorem aY.len:∀{ys:ϑ}{vs:ϕ},aY Z M H ys vs->Á ys=Á vs|[],[],_=>Ŗ|[],_::_,h=>by done|_::_,[],h=>by done|_::_,_::_,h=>by rw[aO,aO,aY.len h.2]
theorem o8:∀{is:Ϙ}{ys:ϑ}{σ σ':Es},rE is ys σ=O σ'->Á ys=Á is|[],[],_,_,_=>Ŗ|[],_::_,_,_,e=>by cases e|_::_,[],_,_,e=>by cases e|_::is,_::ys,_,_,e=>by rw[aO,aO,o8 (is:=is) e]
def SV{st:É}(hs:∀o,PE X e o->PS X st (sX o (Yl X.K (Á is) (K9 is))))(u:PE X e (de 'X' E A)):PS X st (eJ 'X' E (IR is A)):=(hs _ u).imp λD τ H z=>by
 let(G,M,σ,h,N,k,q):=z;erw[(G,M,σ,h,_,_,(k.rel,k.env,λd w x y v e r i q=>?_,k.exc),q)];delta kU at q;split at q
 .ext Y g;injection g with g;subst g;split at q;.ext j f;let(a,C,rfl,s,i):=i;exact(a,C,Ŗ,s,by rw[<-i.len];rwa[o8 f],Ca f i (k.env.ext k.rel e) λl v=>k.nx j w x y l e r v q)
  .left
 .left
def HY{st:É}{C:Ń}(g:Ë 1000 C=a5)(hs:∀f,PE X e f->PS X st (Oi E (t.ca C) f))(j:PE X e (de 'X' E A)):PS X st (eJ 'X' E (v_ C A)):=(hs _ j).imp λD τ H z=>by let(G,M,σ,h,N,k,q):=z;exact(G,M,σ,h,_,_,(k.rel,k.env,λd l o s v e r i q=>(k.exc C l o s e r q).cls g,k.exc),q)
abbrev Im:=XP->Es->Hs->(ϑ->Hs->ß)->ß
inductive Tg where|one(i:Ń)|many(is:Ϙ)
def PJ:Tg->Pv->Es->Ő Es|.one i,x,σ=>O (σ.set i (O (.p x)))|.many I,.T y,σ=>rE I y σ|.many _,_,_=>ao
def Rc(K:Æ):Tg->TG|.one i=>kJ i|.many I=>Yl K (Á I) (K9 I)
def Rf(e:PJ t x σ=O σ')(i:eg Z M H x v)(r:dm Z M H σ τ)(q:∀b,dm Z M H σ' b->R b H):Rc Z.K t v τ H R:=by induction t with|one j=>cases e;rwa[q _ (r.set i)]|many I=>cases x with|T y=>let(a,c,rfl,s,i):=i;exact(a,c,Ŗ,s,by rw[<-i.len];rwa[o8 e],Ca e i r q)|_=>cases e
def Pt(Y:T0)(G:Ł À)(M:Ł À)(H:Hp)(j:It)(xs:ϑ):ß:=∀g m h a,(∀b∈g,b∈G\/H b=ao)->Ext M H m h->bq (Y.z g) m h a->(∀(i:Ń)x,xs[i]?=O x->j.go i h/\∀v o,j.δ i h v o->Ext m h m o/\bq (Y.z g) m o a/\eg (Y.z g) m o x v)/\j.stop (Á xs) h
structure ŗ(Y:T0)(G:Ł À)(E:XK)(τ:Ç)(H:Hp)(R:It->Hp->ß)(M:Ł À)(σ:Es)(h:Hs)(xc:XP)(Q:ϑ->Hs->ß):ß where
 rel:bq (Y.z G) M H h
 env:dm (Y.z G) M H σ τ
 out:∀xs h' M' H' a,Ext M H M' H'->bq (Y.z G) M' H' h'->Pt Y G M' H' a xs->Á xs<=Ã->Q xs h'->R a H'
 exc:∀C h' M' H',Ext M H M' H'->bq (Y.z G) M' H' h'->xc C h'->pW Y.t.ca E C H'
inductive wJ(Y:T0)(E:XK)(m:Im)(τ:Ç)(H:Hp)(R:It->Hp->ß):ß|mk(G M:Ł À)(σ:Es)(h:Hs)(xc:XP)(Q:_)(k:ŗ Y G E τ H R M σ h xc Q)(q:m xc σ h Q):wJ Y E m τ H R
def lM(k:Ń)(R:Es->Hs->ß):Es->Hs->ß:=λσ h=>gd (bH k (h.take k)) (R (Qf k σ) (h.take k))
@[irreducible]def CO(k:Ń)(xs:ϑ)(a:Pv->Es->Ő Es)(b:Ss)(N:En)(σ:Es)(h:Hs):ß:=∃W:Ń->Es->Hs->ß,W 0 σ h/\(∀(i:Ń)x c H,xs[i]?=O x->W i c H->match a x c with|O d=>b (N.lp (lM k (W (i+1))) (lM k N.nx)) d H|ao=>ŧ)/\∀c H,W (Á xs) c H->N.nx c H
def VV(t:Tg)(b:Ss)(N:En)(σ:Es)(xs:ϑ)(h:Hs):ß:=CO (Á h) xs (PJ t) b N σ h
def ū(t:Tg)(I:Im)(b:Ss):Ss:=λN σ h=>I N.xc σ h (VV t b N σ)
def ń(W:Ń->Es->Hs->ß)(m:Ń)(σ:Es)(h:Hs):ß:=∃M,M<m/\W M σ h
def Ϯ(b:Ss)(N:En)(W:Ń->Es->Hs->ß)(m:Ń)(h:Hs)(σ':Es):KP:=λx H=>mB x λc=>br c (b (N.lp (lM (Á h) (ń W m)) (lM (Á h) N.nx)) σ' H) (N.nx σ' H)
def w_(T:Sm)(b:Ss):Ss:=λN σ h=>∃W:Ń->Es->Hs->ß,(∃m,W m σ h)/\∀m a H,W m a H->T N.xc a H (Ϯ b N W m h a)
section
variable{t:Tb}{X:Cx}{E:XK}{st:É}{A T:Sm}{I:Im}{b:Ss}{tg:Tg}
def mS(d:bq Z M H h)(e:Ext M H m H')(r:bq Z m H' h')(v:dm Z m H' σ τ)(q:lM (Á h) R σ h'):∃h2 a,Ext M H M H'/\bq Z M H' h2/\dm Z M H' a τ/\R a h2:=by
 let(c,q):=cG q;let g:m.take (Á h)=M:=by let(l,rfl):=e.pre;rw[<-d.ln,nU]
 let e2:=e.cut (by rw[d.ln];rwa[ah _]);let f:=r.cut _ c;let v2:=v.cut r (Á h);rw[g]at e2 f v2;exact(_,_,e2,f,v2,q)
def Yg(h:eJ 'X' E (ū tg I b) D τ H):IE (wJ 'X' E I) (Rc X.K tg) (eJ 'X' E b) D τ H:=by
 let(G,M,σ,h0,N,k,q):=h;erw[(G,M,σ,h0,N.xc,_,(k.rel,k.env,λx h1 c H1 j L r1 jo hz q=>?_,k.exc),q)];delta VV CO at q;erw[cps λR k0=>?_];let(W,w0,P,fin):=q;erw[k0 (λi m n u=>m=Á x-i/\i<=Á x/\∃a e,Ext c H1 c u/\bq ('X'.z G) c u e/\dm ('X'.z G) c u a n/\W i a e,(_,Ŗ,aP _,σ,h1,Ext.refl,r1,k.env.ext k.rel L,w0),?_)];erw[λi m n u z=>cps λR k1=>?_];let(rfl,hi,a,e,e2,r2,v2,w):=z;let(ja,jb):=jo G c u e (λ_ z=>.inl z) e2 r2;by_cases mE:i<Á x
 .let(g,y):=ja i x[i] (av mE);erw[k1 (.inr (g,λo H2=>∃m',m'<Á x-i/\m'=Á x-(i+1)/\i+1<=Á x/\∃a e,Ext c H1 c H2/\bq _ c H2 e/\dm _ c H2 a o/\W _ a e,λo H2 zz=>by let(m',hm,z):=zz;exact(m',hm,z),λv oz yl=>cps λR k2=>?_))];let(e3,r3,ip):=y v oz yl;let q:=P i _ a e (av mE) w;split at q
  .ext σ2 hσ;erw[k2 (Rf hσ ip (v2.ext r2 e3) λo v4=>?_)];let S:=e2.trans e3;erw[(G,c,σ2,e,_,(r3,v4,?_,?_,?_,?_,?_),q)];.intro U B F p s l r Y Q;let(Z,f,e6,r6,v6,q6):=mS r1 (S.trans l) r Y Q;exact(_,(),Ŗ,dh ‹_›,f,Z,e6,r6,v6,q6)
   .rwa[λd B F p v l r i5 Q=>k.rt d B F p v (L.trans (S.trans l)) r i5 Q]
   .intro U B F p s l r Y Q;let(Z,f,e6,r6,v6,q6):=mS r1 (S.trans l) r Y Q;rwa[k.nx f Z c p s (L.trans e6) r6 v6 q6]
   .intro U B F p s l r Y Q;let(Z,f,e6,r6,v6,q6):=mS r1 (S.trans l) r Y Q;exact(_,(),Ŗ,dh ‹_›,f,Z,e6,r6,v6,q6)
   .rwa[λC B F p l r Q=>k.exc C B F p (L.trans (S.trans l)) r Q]
  .left
 .let hx:i=Á x:=()
  subst hx;rwa[k1 (.inl (jb,k.nx a e c u n (L.trans e2) r2 v2 (fin a e w)))]
def OJ(h:eJ 'X' E (w_ T b) D τ H):Oj (k9 'X' E T) (eJ 'X' E b) D τ H:=by
 obtain⟨G,M,σ,F,N,k,W,⟨m0,w0⟩,u⟩:=h;erw[(λm n K=>∃a h',Ext M H M K/\bq ('X'.z G) M K h'/\dm ('X'.z G) M K a n/\W m a h',(m0,σ,F,Ext.refl,k.rel,k.env,w0),?_)]
 rintro m n K ⟨a,h',e2,Y,Z,w⟩;erw[(G,M,a,h',N.xc,_,(Y,Z,λd L y P e1 r1 S=>?_,λC L y P x r q=>k.exc C L y P (e2.trans x) r q),u m a h' w)];let(c,hc,S):=R7 S;erw[(c,hc,?_)];let e3:=e2.trans e1;induction c with|d=>
  rw[b9 Ŗ];erw[(λB U=>∃e,e<m/\∃a h',Ext M H M U/\bq ('X'.z G) M U h'/\dm ('X'.z G) M U a B/\W e a h',λB U z=>z,?_)];let nx:∀i l j f g,Ext y P j f->bq ('X'.z G) j f l->dm ('X'.z G) j f i g->lM (Á F) (λo h2=>∃e,e<m/\W e o h2) i l->∃e,e<m/\∃a h',Ext M H M f/\bq ('X'.z G) M f h'/\dm ('X'.z G) M f a g/\W e a h':=by intro i l j f g p R v5 Q;let(h6,s,e6,r6,v6,e,hm,q6):=mS k.rel (e3.trans p) R v5 Q;exact(e,hm,s,h6,e6,r6,v6,q6)
  erw[(G,y,a,L,N.lp (lM (Á F) λo h2=>∃e,e<m/\W e o h2) (lM (Á F) N.nx),(r1,Z.ext Y e1,nx,λd l j f v p R i5 Q=>k.rt d l j f v (e3.trans p) R i5 Q,?_,nx,λC l j f p R Q=>k.exc C l j f (e3.trans p) R Q),S)];intro i l j f g p R v5 Q;let(h6,s,e6,r6,v6,q6):=mS k.rel (e3.trans p) R v5 Q;rwa[k.nx s h6 M f g e6 r6 v6 q6]|e=>rw[bS aJ];rwa[k.nx a L y P n e3 r1 (Z.ext Y e1) S]
theorem aY.get:∀{xs:ϑ}{vs:ϕ}{i:Ń}{x:Pv},aY Z M H xs vs->xs[i]?=O x->∃v,vs[i]?=O v/\eg Z M H x v|[],_,_,_,_,e=>by grind|_::_,[],_,_,h,_=>by done|_::_,v::_,0,_,h,e=>by cases e;exact(v,Ŗ,h.1)|_::_,_::_,i+1,_,h,e=>by let(w,c,a):=aY.get h.2 (by done);exact(w,by done,a)
def WJ{G M:Ł À}{H:Hp}{g:Ł _}(c:∀b∈g,b∈G\/H b=ao):∀a,a∈M\/a∈g->a∈M\/a∈G\/H a=none:=λa h=>h.elim .inl λz=>.inr (c a z)
def eg.wk{Y:T0}(a:∀b∈g,b∈G\/H b=ao)(h:eg (Y.z G) M H x v):eg (Y.z g) M H x v:=eg.fr (WJ a) h
def aY.wk{Y:T0}(a:∀b∈g,b∈G\/H b=ao)(h:aY (Y.z G) M H x v):aY (Y.z g) M H x v:=aY.fr (WJ a) h
def ļ(r:bq (Y.z G) M H h)(n:a∉M)(s:Rd H a (.L vs))(q:aY (Y.z G) M H xs vs):Pt Y G M H (xf Y.K a) xs:=λl m d o g e R=>by let S:gh Y.K d a vs:=.inl ((e.mv r).rd n s);erw[(λi x f=>?_,(vs,S,by rw[q.len];rwa[ah _]))];let(v,c,j):=(aY.mv (e.mv r) (aY.wk g q)).get f;erw[((vs,v,S,c),λw p Z=>Z.elim λk y=>?_)];subst k;let hw:=y vs S;rw[c]at hw;cases hw;exact(Ext.refl,R,j)
def Ū(r:bq (Y.z G) M H h)(s:gX Y.K H a vs)(q:aY (Y.z G) M H xs vs):Pt Y G M H (Cg Y.K a) xs:=λk m l n g e R=>by let s':=(e.mv r).sqT s;erw[(λi x d=>?_,(vs,s',by rw[q.len];rwa[ah _]))];let(v,c,f):=(aY.mv (e.mv r) (aY.wk g q)).get d;erw[((vs,v,s',c),λw o Z=>Z.elim λj y=>?_)];subst j;let hw:=y vs s';rw[c]at hw;cases hw;exact(Ext.refl,R,f)
def vB(lo:Î)(n:Ń):ϑ:=(á n).map λ(i:Ń)=>.I (lo+i)
def ϓ{lo:Î}:Pt Y G M H (rn lo n) (vB lo n):=λg m d f j e r=>by
 erw[(λi x h=>?_,show n<=Á (vB lo n)by delta vB;rw[ae,eL];rwa[ah _])];delta vB at h;rw[aN]at h;by_cases a:i<n;.rw[List.getElem?_range a]at h;cases h;erw[(a,λw o z=>z.elim λc y=>?_)];subst c y;exact(Ext.refl,r,by rfl)
 .left
def kF(n:Ń)(s:Ϙ)(σ:Es):Es:=Ð n ao++s.map λj=>σ[j]?.join
def Xz(k:Ń)(R:Hs->ß):Hs->ß:=λh=>gd (bH k (h.take k)) (R (h.take k))
def UB(n:Ń):Tg->Þ|.one i=>Đ (i<n)|.many is=>is.all λi=>Đ (i<n)
@[irreducible]def mQ(H:Hs)(xs:ϑ)(e:Pv->Ő Es)(T A:Es->Hs->KP->ß)(Q:ϑ->Hs->ß):ß:=∃W:Ń->ϑ->Hs->ß,W 0 [] H/\(∀(i:Ń)y a h,xs[i]?=O y->W i a h->match e y with
  |O c=>T c h λbs d=>match bs with|[.p (.B b)]=>br b (A c d λY f=>match Y with|[.p y]=>Xz (Á H) (W (i+1) (a++[y])) f|_=>ŧ) (Xz (Á H) (W (i+1) a) d)|_=>ŧ
  |ao=>ŧ)/\∀a h,W (Á xs) a h->Q a h
def xG(n:Ń)(j:Ϙ)(tg:Tg)(I:Im)(T A:Sm)(x:Þ):Sm:=λa σ h Q=>I a σ h λs H=>mQ H s (λy=>PJ tg y (kF n j σ)) (T λc h=>x=J/\a c h) (A λc h=>x=J/\a c h) λd e=>Q [.p (.L d)] e
theorem xI:∀{is:Ϙ}{ys:ϑ}{σ σ':Es},(is.all λi=>Đ (i<n))=J->rE is ys σ=O σ'->Á σ'=Á σ/\∀i,n<=i->σ'[i]?=σ[i]?|[],[],_,_,_,e=>by cases e;exact(Ŗ,λ_ _=>Ŗ)|[],_::_,_,_,_,e=>by cases e|_::_,[],_,_,_,e=>by cases e|j::is,y::ys,σ,σ',h,e=>by rw[cw,aM]at h;let(a,b):=xI h.2 e;erw[(by grind,λi H=>?_)];rw[b i H,cy ()]
def W5(h:UB n tg)(e:PJ tg x σ=O σ'):Á σ'=Á σ/\∀i,n<=i->σ'[i]?=σ[i]?:=by induction tg with|one j=>cases e;let H:=bZ h;exact(by rw[cn],λi a=>by rw[cy ()])|many s=>cases x with|T y=>rwa[xI h e]|_=>cases e
def Kd(v:dm Z M H σ τ)(n:Ń)(s:Ϙ):dm Z M H (kF n s σ) (rQ n s τ):=by
 erw[(by delta kF rQ;rw[aj,aj,ae,ae,bP,bP],λi d h=>?_)];delta kF at h;delta rQ;by_cases c:i<n;.rw[aT nofun,eK,b9 c]at h;cases h
 .rw[aK (by rw[bP];rwa[da.mp ‹_›]),bP,aN]at h⊢;induction e:s[i-n]? with|a=>left|c j=>rw[e]at h;induction a:σ[j]? with|a=>left|c o=>
    rw[Option.map_some,a]at h;let f:=by simpa using h
    subst f;let(w,k,g):=v.at' j d a;exact(w,nofun,g)
def G8{a:Es}(l:Á a=Á (kF n j σ))(g:∀i,n<=i->a[i]?=(kF n j σ)[i]?)(v:dm Z M H a τ2):dm Z M H (kF n j σ) τ2:=by
 erw[(l▸v.ln,λi d h=>?_)];by_cases c:i<n;.delta kF at h;rw[aT nofun,eK,b9 c]at h;cases h
 .rwa[v.at' i d (by rw[g i (da.mp ‹_›)];rwa[h])]
section
variable{Y:T0}{G M:Ł À}{H:Hp}{a:À}{h:Hs}
def D3{b:À}(e:H a=O o)(c:b≠a)(r:Rd H b u):Rd (dq H a d) b u:=by
 rcases r with r|⟨q,r⟩;.rwa[.inl (by rw[bw c];rwa[r])]
 .rwa[.inr (q,by rw[bw c];rwa[r])]
def Kg(e:zd o)(d:a∈G)(c:H a=O o):Tf (Y.z G) G M H M (dq H a f):=(λ{b _}s=>by rw[bw λz:b=a=>by rw[z,c]at s;cases s;cases e];rwa[s],λs=>D3 c (λz=>by subst z;rcases s with r|⟨o,r⟩<;>rw[c]at r<;>cases r<;>cases e) s,λn _=>n,λ{b _}n _ s=>by rw[bw λz:b=a=>n.2 (z▸d)];rwa[s],λn s=>D3 c (λz=>n.2 (z▸d)) s,λn s=>D3 c (λz=>n.2 (z▸d)) s)
def eg.chg(d:zd o)(e:a∈G)(f:H a=O o)(h:eg (Y.z G) M H x v):eg (Y.z G) M (dq H a c) x v:=eg.tf (Kg d e f) h
def aY.chg(d:zd o)(e:a∈G)(f:H a=O o)(h:aY (Y.z G) M H x v):aY (Y.z G) M (dq H a c) x v:=aY.tf (Kg d e f) h
theorem eG.chg(e:zd o)(f:a∈G)(g:H a=O o)(q:eG (Y.z G) M H d v):eG (Y.z G) M (dq H a c) d v:=by induction d with|p x=>rwa[eg.chg e f g q]|r i=>rwa[q]
theorem cU.chg(c:zd o)(d:a∈G)(e:H a=O o):∀{ds:Ł Dv}{vs:ϕ},cU (Y.z G) M H ds vs->cU (Y.z G) M (dq H a f) ds vs|[],[],_=>Ť|[],_::_,q=>q|_::_,[],q=>q|_::_,_::_,q=>(q.1.chg c d e,cU.chg c d e q.2)
theorem dm.chg(e:zd o)(f:a∈G)(g:H a=O o)(q:dm (Y.z G) M H σ τ):dm (Y.z G) M (dq H a c) σ τ:=(q.ln,λi d j=>let (v,k,q):=q.at' i d j;(v,k,q.chg e f g))
theorem bq.chg(c:zd o)(f:a∈G)(d:H a=O o)(N:a∉M)(r:bq (Y.z G) M H h):bq (Y.z G) M (dq H a j) h:=by erw[(r.nd,r.dj,r.ln,λb g=>qv (r.gs b g),λi b m p s=>?_)];let g:b≠a:=λz=>N (z▸aL p);let q:=r.ob i b m p s;induction m with|L x=>let(v,e,q):=q;exact(v,by rw[bw g];rwa[e],aY.chg c f d q)|D x=>let(v,e,q):=q;exact(v,by rw[bw g];rwa[e],q.chg c f d)|C k u=>let(U,e,q,Q):=q;exact(U,by rw[bw g];rwa[e],aY.chg c f d q,aY.chg c f d Q)|I C fs=>let(w,y,e,n,l,q):=q;exact(w,y,by rw[bw g];rwa[e],by rw[bw λz=>by rw[z,d]at n;cases n;cases c];rwa[n],l,q.chg c f d)|K k=>show dq H a j b=_;rw[bw g];rwa[q]|E k ds=>let(U,e,q,Q):=q;exact(U,by rw[bw g];rwa[e],aY.chg c f d q,Q.chg c f d)|F B k u=>let(U,e,q,Q):=q;exact(U,by rw[bw g];rwa[e],aY.chg c f d q,aY.chg c f d Q)
theorem eG.wk(c:∀b∈g,b∈G\/H b=ao)(q:eG (Y.z G) M H d v):eG (Y.z g) M H d v:=by induction d with|p x=>rwa[eg.wk c q]|r i=>rwa[q]
theorem cU.wk(c:∀b∈g,b∈G\/H b=ao):∀{ds:Ł Dv}{vs:ϕ},cU (Y.z G) M H ds vs->cU (Y.z g) M H ds vs|[],[],_=>Ť|[],_::_,q=>q|_::_,[],q=>q|_::_,_::_,q=>(q.1.wk c,cU.wk c q.2)
theorem uq.wk(g:∀b∈c,b∈G\/H b=ao){b:À}(z:uq (Y.z G) M H b o):uq (Y.z c) M H b o:=by induction o with|L x=>let(v,e,q):=z;exact(v,e,aY.wk g q)|D x=>let(v,e,q):=z;exact(v,e,q.wk g)|C k u=>let(U,e,q,Q):=z;exact(U,e,aY.wk g q,aY.wk g Q)|I C fs=>let(d,f,e,n,l,q):=z;exact(d,f,e,n,l,q.wk g)|K k=>rwa[z]|E k ds=>let(U,e,q,Q):=z;exact(U,e,aY.wk g q,Q.wk g)|F i k u=>let(U,e,q,Q):=z;exact(U,e,aY.wk g q,aY.wk g Q)
def C8(hn:H a=ao):∀b∈a::G,b∈G\/H b=none:=λb c=>(aw.mp c).elim (λz=>.inr (z▸hn)) .inl
def Ls:∀b∈G,b∈a::G\/H b=none:=λb c=>.inl (aE _ c)
def dm.beg(hn:H a=ao)(r:bq (Y.z G) M H h)(q:dm (Y.z G) M H σ τ):dm (Y.z (a::G)) M (dq H a o) σ τ:=(q.ln,λi d c=>let (v,e,q):=q.at' i d c;(v,e,(q.wk (C8 hn)).mv ((Ext.add hn).mv r) λ_ _ z=>z))
def bq.beg(hn:H a=ao)(r:bq (Y.z G) M H h):bq (Y.z (a::G)) M (dq H a o) h:=by
 erw[(r.nd,λb c z=>(aw.mp z).elim (λz=>r.fresh hn (z▸c)) (r.dj b c),r.ln,λb c=>?_,λi b q d f=>?_)]
 .rcases aw.mp c with z|z;.subst z;exact(o,bC)
  .exact(r.add (o:=o) hn).gs b z
 .let k:∀{b u},H b=O u->dq H a o b=O u:=λe=>by rw[bw (b8 e hn)];rwa[e]
  rwa[uq.mv ((Ext.add hn).mv r) (λ_ _ z=>z) (λ_=>k) (λ_=>k) ((r.ob i b q d f).wk (C8 hn))]
def bq.dun(r:bq (Y.z (a::G)) M H h):bq (Y.z G) M H h:=(r.nd,λb c z=>r.dj b c (aE _ z),r.ln,λb c=>r.gs b (aE _ c),λi b q d e=>(r.ob i b q d e).wk Ls)
theorem aY.app:∀{xs ys:ϑ}{vs ws:ϕ},aY Z M H xs vs->aY Z M H ys ws->aY Z M H (xs++ys) (vs++ws)|[],_,[],_,_,q=>q|[],_,_::_,_,h,_=>by done|_::_,_,[],_,h,_=>by done|_::_,_,_::_,_,h,q=>by exact(h.1,aY.app h.2 q)
def aY.one(h:eg Z M H x v):aY Z M H [x] [v]:=by done
end
def wY(v2:dm Z M e (kF n s σ) c)(v6:dm Z m H a τ4)(g:Á a=Á (kF n s σ))(G:∀i,n<=i->a[i]?=(kF n s σ)[i]?)(R:bq Z m H f)(l:k=Á M)(o:m.take k=M):dm Z M H (kF n s σ) τ4:=by let v:=G8 g G v6;erw[(v.ln,λi d h=>?_)];let(w,q,y):=v.at' i d h;erw[(w,q,?_)];let(u,_,B):=v2.at' i d h;let z:=y.cut R (by induction d with|p x=>rfl|r j=>let(b,C,_):=B;rwa[cJ (l▸(ar.mp C).1)]);rw[o]at z;rwa[z]
def tI(hE:∀c od H,x=J->E c od H->E1 c od H)(ht:UB n tg)(h:de 'X' E (xG n js tg I T A x) τ H QV):sf (wJ 'X' E I) (Rc X.K tg) (k9 'X' E1 T) (de 'X' E1 A) (rQ n js) τ H QV:=by
 let(G,M,σ,h0,xc,Q,k,q):=h;erw[(G,M,σ,h0,xc,_,(k.rel,k.env,λF e M1 H1 j e1 s jo hz q=>?_,k.exc),q)];delta mQ at q;erw[λa qY=>cps λR k0=>?_];let(W,w0,turn,fin):=q;let(N,naG):=s.oU qY;let ea:Ext M1 H1 M1 (dq H1 a (.L [])):=Ext.add qY;let v1:=k.env.ext k.rel e1;let Z:Tx:='X'.z (a::G);let Y:a∈a::G:=aF;erw[k0 (λi m τ2 ys P=>m=Á F-i/\i<=Á F/\P a=O (.L ys)/\Á ys<=i/\∃ps S,Ext M1 H1 M1 P/\bq Z M1 P S/\dm Z M1 P (kF n js σ) τ2/\aY Z M1 P ps ys/\W i ps S,(_,Ŗ,aP _,bC,aP _,[],e,ea,s.beg qY,(Kd v1 n js).beg qY s,Ť,w0),?_)];erw[λi m τ2 ys P z=>cps λR k1=>?_];let(rfl,hi,ha,hly,ps,S,e2,r2,v2,p2,w):=z;let(ja,jb):=jo (a::G) M1 P S (C8 qY) e2 r2;by_cases mE:i<Á F
 .let(g,y):=ja i F[i] (av mE);erw[k1 (ha,.inr (g,(),λv oz yl=>cps λR k2=>?_))];let(e3,r3,ip):=y v oz yl;let q:=turn i F[i] ps S (av mE) w;split at q
  .ext σ2 hσ;let(gl,gg):=W5 ht hσ;erw[k2 (Rf (Z:=Z) hσ ip (v2.ext r2 e3) λτ4 v4=>?_)];let ex:∀{U H5},Ext M1 oz U H5->∀C xl u H1',Ext U H5 u H1'->bq Z u H1' xl->x/\xc C xl->pW t.ca E1 C H1':=λf C xl u H1' x' r q=>(k.exc C xl u H1' ((e1.trans (e2.trans e3)).trans (f.trans x')) r.dun q.2).imp λc od H z=>hE c od H q.1 z;let ka:∀{U H5},Ext M1 oz U H5->H5 a=O (.L ys):=λf=>f.keep a _ N (e3.keep a _ N ha);let p3:=p2.ext r2 e3;erw[(a::G,M1,σ2,S,_,_,(r3,v4,λd h5 U H5 f r5 q5=>?_,ex Ext.refl),q)];split at q5;.ext b hb;injection hb with hb;erw[(b,hb,?_)];induction b with
    |d=>
     rw[b9 Ŗ];erw[(a::G,U,σ2,h5,_,_,(r5,v4.ext r3 f,λd6 h6 M6 H6 v6 e6 r6 i6 q6=>?_,ex f),q5)];split at q6
     .ext y hy;injection hy with hy;subst hy;let B:=f.trans e6;let D:=ka B;erw[(D,Á F-(i+1),(),Ŗ,dh ‹_›,bC,by rw[aj];simp;lia,?_)];let p:=(e2.trans e3).trans B;let(c,q7):=cG q6;let hM:M6.take (Á e)=M1:=by let(l,rfl):=p.pre;rw[<-s.ln,nU]
      let r7:=r6.cut (Á e) c;let i7:eg Z (M6.take (Á e)) H6 y v6:=eg.mv (Mv.cut r6 (Á e)) i6;let v7:=wY v2 (v4.ext r3 B) gl gg r6 s.ln.symm hM;let p7:aY Z (M6.take (Á e)) H6 ps ys:=aY.mv (Mv.cut r6 (Á e)) (p3.ext r3 B);rw[hM]at r7 i7 p7;let e7:=p.cut (k:=Á e) (by rw[s.ln];rwa[ah _]);rw[hM]at e7;erw[(ps++[y],_,(([],(aV M1).symm),λb o hb ho=>?_,λb hb hn=>Ă hb hn),r7.chg Ŗ Y D N,?_,(p7.app (aY.one i7)).chg Ŗ Y D,q7)];.rw[bw (b8 ho qY)];rwa[e7.keep b o hb ho]
      .rwa[v7.chg Ŗ Y D]
     .rwa[q6.elim]|e=>
     rw[bS aJ];erw[(Á F-(i+1),(),Ŗ,dh ‹_›,ka f,aS ‹_›,?_)];let p:=(e2.trans e3).trans f;let(c,q7):=cG q5;let hM:U.take (Á e)=M1:=by let(l,rfl):=p.pre;rw[<-s.ln,nU]
     let r7:=r5.cut (Á e) c;let v7:=wY v2 (v4.ext r3 f) gl gg r5 s.ln.symm hM;let p7:aY Z (U.take (Á e)) H5 ps ys:=aY.mv (Mv.cut r5 (Á e)) (p3.ext r3 f);let e7:=p.cut (k:=Á e) (by rw[s.ln];rwa[ah _]);rw[hM]at r7 p7 e7;exact(ps,_,e7,r7,v7,p7,q7)
   .rwa[q5.elim]
  .left
 .let hx:i=Á F:=()
  subst hx;erw[k1 (ha,.inl (jb,k.out _ S M1 P _ (e1.trans e2) r2.dun ?_ (fin ps S w)))];exact(a,ys,Ŗ,(N,naG),ha,aY.wk Ls p2)
end
end F
namespace F
open L2 PySem.SeqAt
def ze:Ϙ->Ϙ->Þ|[],[]=>J|a::x,b::y=>Ì a b&&ze x y|_,_=>a5
def cC(a b:Ä):Þ:=ze a.cps.toList b.cps.toList
theorem vm:∀{x y:Ϙ},ze x y=J↔x=y|[],[]=>(λ_=>Ŗ,λ_=>Ŗ)|[],_::_=>(λh=>(aJ h).elim,λh=>nomatch h)|_::_,[]=>(λh=>(aJ h).elim,λh=>nomatch h)|a::x,b::y=>by show(Ì a b&&ze x y)=J↔_;rw[aM,Nat.beq_eq,vm,List.cons.injEq]
def bQ:cC a b=J↔a=b:=by
 delta cC;rw[vm];constructor;.intro h;induction a with|mk a=>left
 .intro h;rw[h]
def nJ(a b:Ä):(a==b)=cC a b:=by
 by_cases h:a=b;.rw[bQ.mpr h,h];rwa[ku b]
 .rw[bF.mpr λz=>h (bQ.mp z)];rwa[c8.mpr h]
def ut(neg b:Þ):Þ:=match neg with|J=>!b|a5=>b
def DK(neg b:Þ):ut neg b=(neg !=b):=by induction neg<;>induction b<;>rfl
def mr:Î->Î->Þ|.ofNat a,.ofNat b=>Ì a b|.negSucc a,.negSucc b=>Ì a b|_,_=>a5
def vT:Î->Î->Þ|.ofNat a,.ofNat b=>Ë a b|.negSucc _,.ofNat _=>J|.negSucc a,.negSucc b=>Ë b a|.ofNat _,.negSucc _=>a5
def sR:Î->Î->Þ|.ofNat a,.ofNat b=>Ë (a+1) b|.negSucc _,.ofNat _=>J|.negSucc a,.negSucc b=>Ë (b+1) a|.ofNat _,.negSucc _=>a5
def bv{a b:Ń}:Ë a b=J↔a<=b:=(aI,aA)
def pV:mr i j=J↔i=j:=by
 induction i<;>induction j;.exact(λh=>by rw[aX h],λh=>by rw[h];rwa[sh _])
 .exact(λh=>(by cases h),λh=>by cases h)
 .exact(λh=>(by cases h),λh=>by cases h)
 .exact(λh=>by rw[aX h],λh=>by rw[h];rwa[sh _])
def gE:vT i j=J↔i<=j:=by
 induction i<;>induction j;.rwa[bv.trans ⋯]
 .exact(λh=>(by cases h),λh=>by simp only[lC]at h;lia)
 .exact(λ_=>by simp only[lC];lia,λ_=>Ŗ)
 .rwa[bv.trans ()]
def fM:sR i j=J↔i<j:=by
 induction i<;>induction j;.rwa[bv.trans (by simp only[lC];lia)]
 .exact(λh=>(by cases h),λh=>by done)
 .exact(λ_=>by simp only[lC];lia,λ_=>Ŗ)
 .rwa[bv.trans ()]
def uS(i j:Î):mr i j=Đ (i=j):=Js.mpr (by rw[gU];rwa[pV])
def Y9(i j:Î):vT i j=Đ (i<=j):=Js.mpr (by rw[gU];rwa[gE])
def Mb(i j:Î):sR i j=Đ (i<j):=Js.mpr (by rw[gU];rwa[fM])
def b2(b:Þ):Î:=match b with|J=>1|a5=>0
def Λ:Pv->Pv->Þ|.N,.N=>J|.B a,.B b=>a==b|.B a,.I b=>mr (b2 a) b|.I a,.B b=>mr a (b2 b)|.I a,.I b=>mr a b|.S a,.S b=>cC a b|_,_=>a5
def Jf(p q:Pv):Þ:=match p with|.L a=>a.isEmpty|_=>Λ p q
def pX:Pv->Þ|.N=>J|.B _=>J|.I _=>J|.S _=>J|_=>a5
def KW(h:pX x):Λ x x=true:=by cases x with|N=>rfl|B b=>rwa[ku b]|I i=>rwa[pV.mpr Ŗ]|S z=>rwa[bQ.mpr Ŗ]|_=>cases h
section
variable{X:Cx}{bb:db}{σ:Ç}{s:be}{Y:T0}{G M:Ł À}{H:Hp}
inductive Kf:Pv->Â->ß|jn:Kf .N .none|bl(b:Þ):Kf (.B b) (.bool b)|int(i:Î)(t:Tok):Kf (.I i) (.int i t)|str(z:Ä)(t:Tok):Kf (.S z) (.str z t)
def FQ(k:pX p)(h:eg (Y.z G) M H p v)(r:RelV v v'):Kf p v':=by cases p with|N=>subst h;cases r;rwa[.jn]|B b=>subst h;cases r;rwa[.bl b]|I i=>subst h;let(t,rfl):=r;rwa[.int i t]|S z=>subst h;let(t,rfl):=r;rwa[.str z t]|_=>cases k
def Wj(b:Kf p v)(h:Kf q u):(RcAt A s v u (Λ p q)/\RcNeAt A s v u !Λ p q)/\EqAt A s v u (Λ p q):=by induction b with
 |jn=>induction h with|jn=>exact((RcAt.none_none,RcNeAt.none_none),EqAt.same _)|bl d=>exact((RcAt.none_bool d,RcNeAt.none_bool d),EqAt.none_bool d)|int d t=>exact((RcAt.none_int d t,RcNeAt.none_int d t),EqAt.none_int d t)|str d t=>exact((RcAt.none_str d t,RcNeAt.none_str d t),EqAt.none_str d t)
 |bl c=>induction h with|jn=>exact((RcAt.bool_none c,RcNeAt.bool_none c),EqAt.bool_none c)|bl d=>exact((RcAt.bool_bool c d,RcNeAt.bool_bool c d),EqAt.bool_bool c d)|int d t=>show(RcAt A s _ _ (mr (b2 c) d)/\RcNeAt A s _ _ !mr (b2 c) d)/\EqAt A s _ _ (mr (b2 c) d);rw[uS];let z:=RcAt.bool_int (A:=A) (s:=s) c d t;let Z:=RcNeAt.bool_int (A:=A) (s:=s) c d t;let a:=EqAt.bool_int (A:=A) (s:=s) c d t;rw[kq]at z Z a;induction c<;>exact((z,Z),a)|str d t=>exact((RcAt.bool_str c d t,RcNeAt.bool_str c d t),EqAt.bool_str c d t)
 |int c T=>induction h with|jn=>exact((RcAt.int_none c T,RcNeAt.int_none c T),EqAt.int_none c T)|bl d=>show(RcAt A s _ _ (mr c (b2 d))/\RcNeAt A s _ _ !mr c (b2 d))/\EqAt A s _ _ (mr c (b2 d));rw[uS];let z:=RcAt.int_bool (A:=A) (s:=s) c T d;let Z:=RcNeAt.int_bool (A:=A) (s:=s) c T d;let a:=EqAt.int_bool (A:=A) (s:=s) c T d;rw[kq]at z Z a;induction d<;>exact((z,Z),a)|int d t=>show(RcAt A s _ _ (mr c d)/\RcNeAt A s _ _ !mr c d)/\EqAt A s _ _ (mr c d);rw[uS,<-kq];exact((RcAt.int_int c T d t,RcNeAt.int_int c T d t),EqAt.int_int c T d t)|str d t=>exact((RcAt.int_str c T d t,RcNeAt.int_str c T d t),EqAt.int_str c T d t)
 |str c T=>induction h with|jn=>exact((RcAt.str_none c T,RcNeAt.str_none c T),EqAt.str_none c T)|bl d=>exact((RcAt.str_bool c T d,RcNeAt.str_bool c T d),EqAt.str_bool c T d)|int d t=>exact((RcAt.str_int c T d t,RcNeAt.str_int c T d t),EqAt.str_int c T d t)|str d t=>show(RcAt A s _ _ (cC c d)/\RcNeAt A s _ _ !cC c d)/\EqAt A s _ _ (cC c d);rw[<-nJ];exact((RcAt.str_str c T d t,RcNeAt.str_str c T d t),EqAt.str_str c T d t)
def Oz:Pv->Pv->Þ|.L _,.L []=>J|_,_=>a5
def m_(I:Inv X bb σ H s)(k:Oz p q)(f:eg (Y.z G) M H p v)(g:eg (Y.z G) M H q u)(R:RelV v c)(i:RelV u U)(hu:A.units<Ï):RcAt A s c U (Jf p q)/\RcNeAt A s c U !Jf p q:=by
 delta Oz at k;split at k;.ext m;let(a,w,rfl,_,S,n):=f;let(b,ws,rfl,_,o,t):=g;cases R;cases i;let(B,d,T1,_):=I.list (.inl (.inl S));let(y,e,T,_):=I.list (.inl (.inl o));let l1:=n.len.trans d.length;let l2:=t.len.trans e.length;cases lD l2.symm;cases m with|f=>cases lD l1.symm;let z:∀j(f:j<([]:Ł Â).toArray.size)(g:j<([]:Ł Â).toArray.size),EqAt A.in1 s ([]:Ł Â).toArray[j] ([]:Ł Â).toArray[j] true:=λ_ h=>Ă h (Nat.not_lt_zero _);exact(RcAt.lists T1.isList T.isList Ŗ hu z,RcNeAt.lists T1.isList T.isList Ŗ hu z)|g x r=>
   let l:(B.toArray.size !=([]:Ł Â).toArray.size)=true:=by rw[bg,<-l1];rfl
   exact(RcAt.lists_lengths T1.isList T.isList l hu,RcNeAt.lists_lengths T1.isList T.isList l hu)
 .cases k
end
def im(p q:Pv):Þ:=Oz p q||pX p&&pX q
def Ya(h:pX p):Jf p q=Λ p q:=by cases p<;>first|rfl|cases h
def TV(Y:T0)(n:Þ):R2:=λv u H Q=>∃G M p q,eg (Y.z G) M H p v/\eg (Y.z G) M H q u/\im p q=J/\Q (.B (n !=Jf p q)) H
def NO{P:Ł _}{σ:Ç}{Y:T0}(I:Inv X P σ H s)(k:im p q)(h:eg (Y.z G) M H p v)(b:eg (Y.z G) M H q u)(r:RelV v a)(R:RelV u U)(hu:A.units+64<Ï):RcAt A s a U (Jf p q)/\RcNeAt A s a U !Jf p q:=by
 rcases(jj _ _).mp k with k|k;.rwa[m_ I k h b r R (bM (aQ _ _) ‹_›)]
 .rw[aM]at k;rw[Ya k.1];exact(Wj (FQ k.1 h r) (FQ k.2 b R)).1
def Zu(hu:X.A.units+64<Ï):mm X (compareOp .Eq) (TV 'X' a5):=by intro P s σ H x y v u Q I r R h;let(G,M,p,q,a,b,k1,h):=h;erw[(NO I k1 a b r R hu).1 _ X.w _ _ (.B _,H,I,Ŗ,?_)];rw[nN]at h;rwa[h]
def Zz(hu:X.A.units+64<Ï):mm X (compareOp .NotEq) (TV 'X' J):=by intro P s σ H x y v u Q I r R h;let(G,M,p,q,a,b,k1,h):=h;erw[(NO I k1 a b r R hu).2 _ X.w _ _ (.B _,H,I,Ŗ,?_)];rw[pD]at h;rwa[h]
def ā:O2:=λx y h Q=>match x,y with|.p a,.p b=>gd (im a b) (Q (.p (.B (Jf a b))) h)|_,_=>ŧ
def WR:O2:=λx y h Q=>match x,y with|.p a,.p b=>gd (im a b) (Q (.p (.B !Jf a b)) h)|_,_=>ŧ
def YN:jw Y (TV Y a5) ā:=λG M h H x y v u Q d r i j q out=>by induction x with|r _=>rwa[q.elim]|p a=>induction y with|r _=>rwa[q.elim]|p b=>let(c,q):=cG q;exact(G,M,a,b,i,j,c,by rw[nN];rwa[out _ h M H _ Ext.refl r (by rfl) q])
def YU:jw Y (TV Y J) WR:=λG M h H x y v u Q d r i j q out=>by induction x with|r _=>rwa[q.elim]|p a=>induction y with|r _=>rwa[q.elim]|p b=>let(c,q):=cG q;exact(G,M,a,b,i,j,c,by rw[pD];rwa[out _ h M H _ Ext.refl r (by rfl) q])
end F
namespace F
open L2
section
variable{Y:T0}{G M:Ł À}{H:Hp}{h:Hs}{x y:Dv}{v u:V}
def nh(h:Hs):Dv->Ő ϑ
 |.p (.L X)=>O X|.r i=>match h[i]? with|O (.L X)=>O X|_=>ao
 |_=>ao
def bq.at'(r:bq Z M H h){i:Ń}(b:M[i]?=O a)(c:h[i]?=O o):uq Z M H a o:=r.ob i a o b c
def g8(r:bq (Y.z G) M H h)(i:eG (Y.z G) M H x v)(e:nh h x=O xs):∃a vs,v=.A a/\H a=O (.L vs)/\aY (Y.z G) M H xs vs:=by
 delta nh at e;split at e;.cases e;let(a,vs,b,_,c,d):=i;exact(a,vs,b,c,d)
 .split at e;.ext o;cases e;let(a,b,c):=i;let(vs,d,f):=r.at' b o;exact(a,vs,c,d,f)
  .cases e
 .cases e
def jH(r:bq (Y.z G) M H h)(a:H p=ao)(i:aY (Y.z G) M H xs vs):eG (Y.z G) M (dq H p (.L vs)) (.p (.L xs)) (.A p):=by exact(p,vs,Ŗ,r.oU a,bC,i.ext r (Ext.add a))
def u0(r:bq (Y.z G) M H h)(a:H p=ao)(i:aY (Y.z G) M H xs vs):eG (Y.z G) M (dq H p (.T vs)) (.p (.T xs)) (.A p):=by exact(p,vs,Ŗ,gX.of bC,i.ext r (Ext.add a))
def jE(s:ir H H'):Ext M H M H':=(([],(aV M).symm),λb o _ e=>s b o e,λb h n=>Ă h n)
def vA(r:bq (Y.z G) M H h)(s:ir H H'):bq (Y.z G) M H' h:=(r.nd,r.dj,r.ln,λb c=>let (o,e):=r.gs b c;(o,s _ _ e),λi a o d f=>uq.mv ((jE s).mv r) (λ_ _ z=>z) (λ_ e=>s _ _ e) (λ_ e=>s _ _ e) (r.ob i a o d f))
def gC:eG (Y.z G) M H (.p (.I i)) (.I i):=rfl
def oZ:eG (Y.z G) M H (.p (.B b)) (.B b):=rfl
def FI:eG (Y.z G) M H (.p (.S z)) (.S z):=rfl
def yR:eG (Y.z G) M H (.p .N) .jn:=rfl
def fK(q:eG (Y.z G) M H (.p (.I i)) v):v=.I i:=by done
def Wp(q:eG (Y.z G) M H (.p (.B b)) v):v=.B b:=by done
def pI(q:eG (Y.z G) M H (.p (.S z)) v):v=.S z:=by done
def ϳ(q:eG (Y.z G) M H (.p .N) v):v=.jn:=by done
def rM(q:eG (Y.z G) M H (.p (.T xs)) v):∃a vs,v=.A a/\gX Y.K H a vs/\aY (Y.z G) M H xs vs:=by done
def iO:Dv->Ő Î|.p (.I i)=>O i|_=>ao
def sO:Dv->Ő Ä|.p (.S i)=>O i|_=>ao
def tO:Dv->Ő ϑ|.p (.T i)=>O i|_=>ao
def rV(e:iO x=O i):x=.p (.I i):=by induction x with
 |p a=>cases a<;>first|(cases e;rfl)|cases e
 |r _=>cases e
def Wr(e:sO x=O i):x=.p (.S i):=by induction x with
 |p a=>cases a<;>first|(cases e;rfl)|cases e
 |r _=>cases e
def GG(e:tO x=O i):x=.p (.T i):=by induction x with
 |p a=>cases a<;>first|(cases e;rfl)|cases e
 |r _=>cases e
def d2(ds:Ł Dv)(k:Dv->Dv->ß):ß:=match ds with|[x,y]=>k x y|_=>ŧ
def Vo(q:d2 ds k):∃x y,ds=[x,y]/\k x y:=by rcases ds with _|⟨x,_|⟨y,_|_⟩⟩<;>first|exact(x,y,Ŗ,q)|rwa[q.elim]
def d1(ds:Ł Dv)(k:Dv->ß):ß:=match ds with|[x]=>k x|_=>ŧ
def Vn(q:d1 ds k):∃x,ds=[x]/\k x:=by rcases ds with _|⟨x,_|_⟩<;>first|exact(x,Ŗ,q)|rwa[q.elim]
def zj(h:gG o A B):(∃x,o=O x/\A x)\/B:=by induction o with|c x=>rwa[.inl (x,Ŗ,h)]|a=>rwa[.inr h]
def iI(x y:Dv)(k:Î->Î->ß):ß:=gG (iO x) (λi=>gG (iO y) (k i) ŧ) ŧ
def FD(q:iI x y k):∃i j,x=.p (.I i)/\y=.p (.I j)/\k i j:=by let(i,e,q):=cP q;let(j,f,q):=cP q;exact(i,j,rV e,rV f,q)
def oI(c:Î->Î->Þ)(g:Î->Î->Î):O2:=λx y h Q=>iI x y λi j=>gd (c i j) (Q (.p (.I (g i j))) h)
def oB(g:Î->Î->Þ):O2:=λx y h Q=>iI x y λi j=>Q (.p (.B (g i j))) h
def VI(d:∀i j,c i j=J->C i j):jw Y (rI C λi j=>.I (g i j)) (oI c g):=λG M h H x y v u Q e r i j q out=>by let(a,b,rfl,rfl,q):=FD q;let(k,q):=cG q;exact(_,_,fK i,fK j,d _ _ k,out _ h M H _ Ext.refl r gC q)
def LF:jw Y (Io λi j=>.B (g i j)) (oB g):=λG M h H x y v u Q c r i j q out=>by let(a,b,rfl,rfl,q):=FD q;exact(_,_,fK i,fK j,out _ h M H _ Ext.refl r oZ q)
def cT:Î->Î->Þ:=λ_ _=>J
def aiB:O2:=oI cT λi j=>i-j
def RK:jw Y (Io λi j=>.I (i-j)) aiB:=λG M h H x y v u Q c r i j q out=>by let(a,b,rfl,rfl,q):=FD q;exact(_,_,fK i,fK j,out _ h M H _ Ext.refl r gC q)
def υ(i:Î):Þ:=Ë i.natAbs 18446744073709551615
def yi(i j:Î):Þ:=υ j||υ i
def PZ(h:yi i j):Jx i j:=by
 delta yi υ at h;simp only[jj,Aa]at h;rcases h with h|h;.rwa[.inr ((),())]
 .rwa[.inl ((),())]
def PV(_ j:Î):Þ:=Đ (0<j)&&Đ (j<1073741824)
def wE:O2:=oI PV λi j=>i/j
def RC:jw Y (rI Tk λi j=>.I (i/j)) wE:=VI λi j h=>by delta PV at h;simp only[aM,gU]at h;rwa[h]
def agF(_ j:Î):Þ:=Đ (0<j)
def CW:O2:=oI agF λi j=>i%j
def RH:jw Y (rI (λ_ j=>0<j) λi j=>.I (i%j)) CW:=VI λi j h=>bZ h
def NE:O1:=λx h Q=>match x with|.p (.I i)=>Q (.p (.I (-i))) h|_=>ŧ
def RJ:Pr Y (rU λi=>.I (-i)) NE:=λG M h H x v Q a r i q out=>by
 delta NE at q;split at q;.exact(_,fK i,out _ h M H _ Ext.refl r gC q)
 .left
def qE(n:Ń):Þ:=Ë n Ã
def f6(h:qE n):n<=Ã:=aI h
def K_(h:n<=Ã):qE n=true:=aA h
def Bb:O2:=λx y h Q=>gG (iO x) (λi=>gG (iO y) (λj=>Q (.p (.I (i+j))) h) ŧ) (gG (sO x) (λa=>gG (sO y) (λb=>gd (qE (a.length+b.length)) (Q (.p (.S (a++b))) h)) ŧ) (gG (tO x) (λa=>gG (tO y) (λb=>gd (qE (Á a+Á b)) (Q (.p (.T (a++b))) h)) ŧ) (gG (nh h x) (λa=>gG (nh h y) (λb=>gd (qE (Á a+Á b)) (Q (.p (.L (a++b))) h)) ŧ) ŧ)))
def We(K:Æ):R2:=λx y H Q=>Io (λi j=>.I (i+j)) x y H Q\/(∃i j,x=.S i/\y=.S j/\i.length+j.length<=Ã/\Q (.S (i++j)) H)\/NI K x y H Q\/HB x y H Q
def Sh:mm X (binaryOp .Add) (We X.K):=Zr.or (DO.or (MG.or Zs))
def Rz:jw Y (We Y.K) Bb:=λG M h H x y v u Q B r i j q out=>by
 rcases zj q with ⟨n,e,q⟩|q;.let(o,f,q):=cP q;cases rV e;cases rV f;rwa[.inl (_,_,fK i,fK j,out _ h M H _ Ext.refl r gC q)]
 rcases zj q with ⟨n,e,q⟩|q;.let(o,f,q):=cP q;cases Wr e;cases Wr f;let(k,q):=cG q;rwa[.inr (.inl (_,_,pI i,pI j,f6 k,out _ h M H _ Ext.refl r FI q))]
 rcases zj q with ⟨n,e,q⟩|q;.let(o,f,q):=cP q;cases GG e;cases GG f;let(k,q):=cG q;let(a,s,E,s1,I):=rM i;let(b,ws,l,s2,g):=rM j;erw[.inr (.inr (.inl (a,b,s,ws,E,l,s1,s2,by rw[<-I.len,<-g.len];rwa[f6 k],λp t S w=>?_)))];erw[out _ h M t _ (jE S) (vA r S) ?_ q];exact(p,_,Ŗ,w,(I.app g).ext r (jE S))
 .let(a,z,q):=cP q;let(b,A,q):=cP q;let(k,q):=cG q;let(c,s,E,s1,I):=g8 r i z;let(d,ws,l,s2,g):=g8 r j A;rwa[.inr (.inr (.inr (c,d,s,ws,E,l,s1,s2,by rw[<-I.len,<-g.len];rwa[f6 k],λp m=>out _ h M _ _ (Ext.add m) (r.add m) (jH r m (I.app g)) q)))]
def ě:O2:=oB sR
def YD:O2:=oB λi j=>sR j i
def I_:O2:=oB λi j=>vT j i
def YT:jw Y (Io λi j=>.B (Đ (i<j))) ě:=by rw[show(λi j:Î=>V.B _)=λi j=>.B (sR i j)by funext i j;rw[Mb]];rwa[LF]
def YQ:jw Y (Io λi j=>.B (Đ (j<i))) YD:=by rw[show(λi j:Î=>V.B _)=λi j=>.B (sR j i)by funext i j;rw[Mb]];rwa[LF]
def YO:jw Y (Io λi j=>.B (Đ (j<=i))) I_:=by rw[show(λi j:Î=>V.B (Đ (j<=i)))=λi j=>.B (vT j i)by funext i j;rw[Y9]];rwa[LF (g:=λi j=>vT j i)]
def VH:Pv->Þ|.N=>J|_=>a5
def i9(x:Pv):ϑ->Þ|[]=>a5|y::r=>Jf y x||i9 x r
def xh:ϑ->Þ|[]=>J|x::r=>pX x&&xh r
def Eg(h:Hs):Dv->Ő ϑ|.p (.T X)=>O X|d=>nh h d
def qm(r:bq (Y.z G) M H h)(i:eG (Y.z G) M H x v)(e:Eg h x=O xs):∃a vs,v=.A a/\(gh Y.K H a vs\/gX Y.K H a vs)/\aY (Y.z G) M H xs vs:=by
 delta Eg at e;split at e;.cases e;let(a,vs,E,s1,I):=rM i;exact(a,vs,E,.inr s1,I)
 .let(a,vs,E,s1,I):=g8 r i e;exact(a,vs,E,.inl (gh.of s1),I)
def Xc(a b:Î):(a==b)=mr a b:=by rw[uS];rwa[kq ..]
def CL(f:pX p)(i:eg (Y.z G) M H p v):oH v/\∀{q:Pv}{u:V},pX q=J->eg (Y.z G) M H q u->QR u v=Jf q p:=by
 cases p<;>first|done|skip
 all_goals(subst i;erw[(Ŗ,λ{q u}g j=>?_)])
 all_goals(cases q<;>first|done|(subst j;first|rfl|rwa[nJ _ _]|(rwa[Xc _ _])|(ext b;induction b<;>rwa[Xc _ _])|(ext b _;induction b<;>rwa[Xc _ _])))
theorem ĥ{v:V}(f:pX p)(i:eg (Y.z G) M H p v):∀{xs:ϑ}{vs:ϕ},xh xs=J->aY (Y.z G) M H xs vs->vs.all oH/\kT v vs=i9 p xs|[],[],_,_=>(Ŗ,Ŗ)|[],_::_,_,h=>by done|_::_,[],_,h=>by rwa[h.elim]|x::xs,w::vs,g,h=>by simp only[xh,aM]at g;let(a,b):=ĥ f i g.2 h.2;erw[(by rw[cw,(CL g.1 h.1).1,a];rfl,?_)];delta kT at b⊢;rw[pE,b,(CL f i).2 g.1 h.1];rfl
def T'(neg:Þ):O2:=λx y h Q=>match x with
 |.p a=>match Eg h y with|O X=>gd (pX a&&xh X) (Q (.p (.B (ut neg (i9 a X)))) h)|ao=>ŧ
 |_=>ŧ
def YR:jw Y (FM Y.K neg) (T' neg):=λG M h H x y v u Q c r i j q out=>by
 delta T' at q;simp only[DK]at q;split at q
 .split at q
  .ext X e;let(k,q):=cG q;rw[aM]at k;let(b,s,E,s1,I):=qm r j e;let(k2,a):=ĥ k.1 i k.2 I;erw[(b,s,E,s1,(CL k.1 i).1,k2,?_)];erw[out _ h M H _ Ext.refl r ?_ q];rw[a];induction neg;.rw[nN];rwa[oZ]
   .rw[pD];rwa[oZ]
  .rwa[q.elim]
 .left
def rO{α:Type}(xs:Ł α):Î->Ő α|.ofNat n=>xs[n]?|.negSucc n=>match Ë (n+1) (Á xs)with|J=>xs[Á xs-(n+1)]?|a5=>ao
def tF{α:Type}(xs:Ł α)(n:Ń):rO xs (.negSucc n)=match Ë (n+1) (Á xs)with|J=>xs[Á xs-(n+1)]?|a5=>ao:=rfl
def Cb(xs:Ł α)(i:Î):rO xs i=BO xs i:=by
 delta BO RN;induction i with|ofNat n=>
  show xs[n]?=_;rw[b9 (show(0)<=Int.ofNat n from Int.natCast_nonneg n)];by_cases hn:n<Á xs;.rw[b9 (show Int.ofNat n<Á xs by left)];rfl
  .rw[bS (show ¬Int.ofNat n<Á xs by left),cW (da.mp ‹_›)];rfl|negSucc n=>
  rw[bS (),tF];by_cases hn:n+1<=Á xs;.rw[b9 (),aA hn];show xs[Á xs-(n+1)]?=xs[(Int.negSucc n+Á xs).toNat]?;rw[show(Int.negSucc n+Á xs).toNat=Á xs-(n+1)by lia]
  .rw[bS (),bF.mpr λz=>hn (aI z)];rfl
def yX(h:Hs):Dv->Ő (Ł Dv)
 |.r i=>match h[i]? with|O (.D ds)=>O ds|_=>ao
 |_=>ao
def zX:O2:=λx y h Q=>match y with
 |.p (.I i)=>match Eg h x with|O X=>gG (rO X i) (λz=>Q (.p z) h) ŧ|ao=>match x with|.p (.S z)=>gd (qE z.length) (gG (rO z.cps.toList i) (λc=>Q (.p (.S ⟨#[c]⟩)) h) ŧ)|.p (.scr X)=>gG (rO X i) (λz=>Q (.p z) h) ŧ|x=>match yX h x with|O ds=>gG (rO ds i) (λd=>Q d h) ŧ|ao=>ŧ
 |_=>ŧ
theorem aY.BO(q:aY (Y.z G) M H xs vs)(e:rO xs i=O z):∃v,L2.BO vs i=O v/\eg (Y.z G) M H z v:=by rw[<-Cb];induction i with|ofNat n=>rwa[q.get e]|negSucc n=>
  rw[tF]at e⊢;rw[<-q.len];split at e;.rwa[q.get e]
  .cases e
theorem cU.len:∀{ds:Ł Dv}{vs:ϕ},cU Z M H ds vs->Á ds=Á vs|[],[],_=>Ŗ|[],_::_,h=>h.elim|_::_,[],h=>h.elim|_::_,_::_,h=>by rw[aO,aO,cU.len h.2]
def dI.ln(t:dI Y C vs H q E)(k:∀ds h Q X,C ds h Q X->Á ds=n):Á vs=n:=by let(G,M,h,ds,a,X,r,i,c,_,_):=t;rw[<-i.len];rwa[k _ _ _ _ c]
theorem cU.get{M:Ł _}{H:Hp}:∀{xs:Ł Dv}{vs:ϕ}{i:Ń}{x:Dv},cU Z M H xs vs->xs[i]?=O x->∃v,vs[i]?=O v/\eG Z M H x v|[],_,_,_,_,e=>by grind|_::_,[],_,_,h,_=>h.elim|_::_,v::_,0,_,h,e=>by cases e;exact(v,Ŗ,h.1)|_::_,_::_,i+1,_,h,e=>by let(w,b,a):=cU.get h.2 (by done);exact(w,by done,a)
theorem cU.BO(q:cU (Y.z G) M H xs vs)(e:rO xs i=O z):∃v,L2.BO vs i=O v/\eG (Y.z G) M H z v:=by rw[<-Cb];induction i with|ofNat n=>rwa[q.get e]|negSucc n=>
  rw[tF]at e⊢;rw[<-q.len];split at e;.rwa[q.get e]
  .cases e
def YS:jw Y (H4 Y.K) zX:=λG M h H x y v u Q D r i j q out=>by
 delta zX gG at q;split at q
 .split at q
  .ext X e;split at q
   .ext z g;let(a,s,E,s1,I):=qm r i e;let(w,b,f):=I.BO g;let o:=out (.p z) h M H w Ext.refl r f q;rcases s1 with s1|s1;.rwa[.inl (a,s,_,w,E,fK j,s1,b,o)]
    .rwa[.inr (.inl (a,s,_,w,E,fK j,s1,b,o))]
   .left
  .split at q
   .let(k,q):=cG q;split at q;.ext c l;rw[Cb]at l;rwa[.inr (.inr (_,_,c,pI i,fK j,f6 k,l,out _ h M H _ Ext.refl r FI q))]
    .left
   .split at q;.ext z g;let(a,s,E,s1,I):=i;let(w,b,f):=I.BO g;rwa[.inl (a,s,_,w,E,fK j,NZ s1,b,out (.p z) h M H w Ext.refl r f q)]
    .left
   .split at q
    .ext ds e;split at q
     .ext d m;delta yX at e;split at e
      .split at e;.ext n;cases e;let(a,b,f):=i;let(s,t,A):=r.at' b n;let(w,B,C):=A.BO m;rwa[.inl (a,s,_,w,f,fK j,gh.of t,B,out _ h M H w Ext.refl r C q)]
       .cases e
      .cases e
     .left
    .left
 .left
def sK(n:Ń):Ő Î->Ń|ao=>0|O (.ofNat k)=>k|O (.negSucc k)=>n-(k+1)
def d5{α:Type}(xs:Ł α)(lo hi:Ő Î):Ł α:=match hi with|ao=>xs.drop (sK (Á xs) lo)|O (.ofNat k)=>(xs.take k).drop (sK (Á xs) lo)|O (.negSucc k)=>(xs.take (Á xs-(k+1))).drop (sK (Á xs) lo)
def xH(n d k:Ń):HT.kX n d (O (.ofNat k))=min k n:=HT.T7 n d k
def Gv(n d k:Ń):HT.kX n d (O (.negSucc k))=n-(k+1):=by let h:=HT.yq (.negSucc k) n d;rw[b9 ()]at h;lia
def yB{α:Type}(xs:Ł α)(n:Ń)(hn:Á xs<=n)(lo:Ő Î):xs.drop (HT.kX n 0 lo)=xs.drop (sK n lo):=by induction lo with|a=>rfl|c i=>induction i with
  |ofNat k=>
   rw[xH];show xs.drop _=xs.drop k;by_cases h:k<=n;.rw[Nat.min_eq_left h]
   .left|negSucc k=>rw[Gv];rfl
def Qk(xs:ϕ)(lo hi:Ő Î):qV xs lo hi=d5 xs lo hi:=by
 delta qV;rw[<-List.drop_take];let e:xs.take (HT.kX (Á xs) (Á xs) hi)=match hi with|ao=>xs|O (.ofNat k)=>xs.take k|O (.negSucc k)=>xs.take (Á xs-(k+1)):=by induction hi with|a=>rw[HT.NW,fU]|c i=>induction i with
   |ofNat k=>
    rw[xH];by_cases h:k<=Á xs;.simp
    .simp|negSucc k=>rw[Gv]
 rw[e];induction hi with|a=>rwa[yB xs _ (ah _) lo]|c i=>induction i with|ofNat k=>rwa[yB _ _ (by rw[bK];rwa[GO ..]) lo]|negSucc k=>rwa[yB _ _ (by rw[bK];rwa[GO ..]) lo]
theorem aY.drop:∀{xs:ϑ}{vs:ϕ}(n:Ń),aY Z M H xs vs->aY Z M H (xs.drop n) (vs.drop n)|_,_,0,q=>q|[],[],n+1,q=>q|[],_::_,_+1,q=>by done|_::_,[],_+1,q=>by done|_::_,_::_,n+1,q=>by rwa[aY.drop n q.2]
theorem aY.take:∀{xs:ϑ}{vs:ϕ}(n:Ń),aY Z M H xs vs->aY Z M H (xs.take n) (vs.take n)|xs,vs,0,q=>by done|[],[],n+1,q=>q|[],_::_,_+1,q=>by done|_::_,[],_+1,q=>by assumption|_::_,_::_,n+1,q=>by exact(q.1,aY.take n q.2)
theorem aY.qV(q:aY (Y.z G) M H xs vs)(lo hi:Ő Î):aY (Y.z G) M H (d5 xs lo hi) (L2.qV vs lo hi):=by rw[Qk];delta d5;rw[q.len];induction hi with|a=>rwa[q.drop _]|c i=>induction i with|ofNat k=>exact(q.take k).drop _|negSucc k=>exact(q.take _).drop _
end
def sP(m:Ő Sm)(x:XP)(σ:Es)(h:Hs)(Q:Ő Î->Hs->ß):ß:=match m with|ao=>Q ao h|O L=>L x σ h λX H=>match X with|[.p (.I i)]=>Q (O i) H|_=>ŧ
def nG(x:Dv)(lo hi:Ő Î)(h:Hs)(Q:Dv->Hs->ß):ß:=match x with|.p (.T X)=>Q (.p (.T (d5 X lo hi))) h|x=>match nh h x with|O X=>Q (.p (.L (d5 X lo hi))) h|ao=>ŧ
def Ϧ(A:Sm)(L U:Ő Sm):Sm:=λX σ h Q=>A X σ h λs H=>match s with|[x]=>sP L X σ H λlo a=>sP U X σ a λi b=>nG x lo i b λd c=>Q [d] c|_=>ŧ
def I'(K:Æ):V->Ő Î->Ő Î->Hp->VK->ß:=λx lo h H Q=>Wi K x lo h H Q\/Ģ K x lo h H Q
def ai9:Py X (I' X.K):=Ue.or Ud
def YV{Y:T0}{lo:Ő Î}(r:bq (Y.z G) M H h)(i:eG (Y.z G) M H x v)(q:nG x lo hi h Q)(out:∀d h' m H' w,Ext M H m H'->bq (Y.z G) m H' h'->eG (Y.z G) m H' d w->Q d h'->QV w H'):I' Y.K v lo hi H QV:=by
 delta nG at q;split at q;.let(a,s,E,s1,I):=rM i;erw[.inl (a,s,E,s1,λp H' S c=>?_)];erw[out _ h M H' _ (jE S) (vA r S) ?_ q];exact(p,_,Ŗ,c,(I.qV lo hi).ext r (jE S))
 .split at q;.ext X e;let(a,s,E,s1,I):=g8 r i e;rwa[.inr (a,s,E,gh.of s1,λp b=>out _ h M _ _ (Ext.add b) (r.add b) (jH r b (I.qV lo hi)) q)]
  .left
structure ϊ(Z:Tx)(E:XK)(τ:Ç)(H:Hp)(R:Ő Î->Hp->ß)(M:Ł À)(σ:Es)(h:Hs)(xc:XP)(Q:Ő Î->Hs->ß):ß where
 rel:bq Z M H h
 env:dm Z M H σ τ
 out:∀o h' M' H',Ext M H M' H'->bq Z M' H' h'->Q o h'->R o H'
 exc:∀C h' M' H',Ext M H M' H'->bq Z M' H' h'->xc C h'->pW Z.ca E C H'
inductive IF(Y:T0)(E:XK)(m:Ő Sm)(τ:Ç)(H:Hp)(R:Ő Î->Hp->ß):ß|mk(G M:Ł À)(σ:Es)(h:Hs)(xc:XP)(Q:_)(k:ϊ (Y.z G) E τ H R M σ h xc Q)(q:sP m xc σ h Q):IF Y E m τ H R
def _root_.L2.PO.imp{X:Cx}{e:Ő _}{t t':TO}(h:PO X e t')(i:∀σ H Q,t σ H Q->t' σ H Q):PO X e t:=λp s σ H Q I q=>h _ s σ H Q I (i σ H Q q)
def Na:PO X ao (IF 'X' E ao):=Tp.imp λτ H R z=>by let(G,M,σ,h,x,Q,k,q):=z;rwa[k.out _ h M H Ext.refl k.rel q]
def Nb(g:PE X e (de 'X' E A)):PO X (O e) (IF 'X' E (O A)):=(Tq g).imp λτ H R z=>by
 let(G,M,σ,h,x,Q,k,q):=z;erw[(G,M,σ,h,x,_,(k.rel,k.env,λd l m n v e r i q=>?_,k.exc),q)];split at q;.ext j f;injection f with f;subst f;exact(j,fK i,k.out _ l m n e r q)
 .left
def ado{lo:Ő Å}(j:PE X e (de 'X' E A))(l:PO X lo (IF 'X' E L))(hu:PO X hi (IF 'X' E U)):PE X (.Subscript e (.Slice lo hi ao p2) pos) (de 'X' E (Ϧ A L U)):=(MT ai9 j l hu).imp λτ H Y z=>by let(G,M,σ,h,x,Q,k,q):=z;exact(G,M,σ,h,x,_,(k.rel,k.env,λd m n Z v f r I o=>(G,n,σ,m,x,_,(r,k.env.ext k.rel f,λol p M2 H2 g R s=>(G,M2,σ,p,x,_,(R,k.env.ext k.rel (f.trans g),λou h3 M3 H3 i u y=>YV u ((I.ext r g).ext R i) y λD C F K w N P S W=>k.out D C F K w (f.trans (g.trans (i.trans N))) P S W,k.Ht (f.trans g)),s),k.Ht f),o),k.exc),q)
def nr:ON:=λds h Q=>match d_ ds with|O x=>gd (qE (Á x)) (Q (.p (.T x)) h)|ao=>ŧ
def wB:ON:=λds h Q=>match d_ ds with|O x=>gd (qE (Á x)) (Q (.p (.L x)) h)|ao=>ŧ
def Zn:ON:=λds h Q=>match d_ ds with|O x=>gd (qE (Á x)) (Q (.r (Á h)) (h++[.L x]))|ao=>ŧ
theorem vy{Y:T0}{G M:Ł _}{H:Hp}:∀{ds:Ł Dv}{vs:ϕ}{xs:ϑ},d_ ds=O xs->cU (Y.z G) M H ds vs->aY (Y.z G) M H xs vs
 |[],[],_,e,_=>by cases e;done|[],_::_,_,_,q=>q.elim|_::_,[],_,_,q=>q.elim|.r _::_,_::_,_,e,_=>by cases e|.p x::ds,v::vs,xs,e,q=>by
  delta d_ at e;split at e;.ext s y;cases e;exact(q.1,vy y q.2)
  .lia
def Uw(h:de 'X' E (sN nr A) τ H QV):ET (f7 'X' E A) τ H QV:=by
 let(G,M,σ,h,x,Q,k,q):=h;erw[(G,M,σ,h,x,_,(k.rel,k.env,λd i m l v j r I f=>?_,k.exc),q)];delta kN nr at f;split at f;.ext s ex;let(c,f):=cG f;let i2:=vy ex I;exact(by rw[<-i2.len];rwa[f6 c],λp g=>k.out _ i m _ _ (j.trans (Ext.add g)) (r.add g) (u0 r g i2) f)
 .left
def ZY{k1:Ń}(h:PA X rest (f7 'X' E A)):PE X (.Tuple rest k1 pos) (de 'X' E (sN nr A)):=(MV h).imp λ_ _ _=>Uw
def Ur(h:de 'X' E (sN wB A) τ H QV):O_ (f7 'X' E A) τ H QV:=by
 let(G,M,σ,h,x,Q,k,q):=h;erw[(G,M,σ,h,x,_,(k.rel,k.env,λd i m l v j r I f=>?_,k.exc),q)];delta kN wB at f;split at f;.ext s ex;let(c,f):=cG f;let i2:=vy ex I;exact(by rw[<-i2.len];rwa[f6 c],λp g=>k.out _ i m _ _ (j.trans (Ext.add g)) (r.add g) (jH r g i2) f)
 .left
def ZV(h:PA X rest (f7 'X' E A)):PE X (.List rest pos) (de 'X' E (sN wB A)):=(DS h).imp λ_ _ _=>Ur
def mZ{h:Hs}(e:Á M=Á h):eG Z (M++[p]) H (.r (Á h)) (.A p):=(p,by rw[<-e,aK (ah _),eA];rfl,Ŗ)
def Uq(h:de 'X' E (sN Zn A) τ H QV):O_ (f7 'X' E A) τ H QV:=by
 let(G,M,σ,h,x,Q,k,q):=h;erw[(G,M,σ,h,x,_,(k.rel,k.env,λd j m l v i r I f=>?_,k.exc),q)];delta kN Zn at f;split at f;.ext s ex;let(c,f):=cG f;let i2:=vy ex I;exact(by rw[<-i2.len];rwa[f6 c],λp g=>k.out _ _ _ _ _ (i.trans (Ext.push r g)) (r.push (o:=.L s) g (v,bC,i2.ext r (Ext.push r g))) (mZ r.ln) f)
 .left
def ZU(h:PA X rest (f7 'X' E A)):PE X (.List rest pos) (de 'X' E (sN Zn A)):=(DS h).imp λ_ _ _=>Uq
def cU.rC(q:cU Z M H [d] vs):∃v,vs=[v]/\eG Z M H d v:=by cases vs with|f=>rwa[q.elim]|g v r=>induction r with|f=>exact(v,Ŗ,q.1)|g _ _=>rwa[q.2.elim]
def cU.two'(q:cU Z M H [d,e] vs):∃v u,vs=[v,u]/\eG Z M H d v/\eG Z M H e u:=by cases vs with|f=>rwa[q.elim]|g v r=>let(u,rfl,i):=cU.rC q.2;exact(v,u,Ŗ,q.1,i)
def Ė:ON:=λds h Q=>match ds with
 |[x]=>match Eg h x with|O s=>Q (.p (.I (Á s))) h|ao=>match x with|.p (.scr s)=>Q (.p (.I (Á s))) h|.p (.dct k _)=>Q (.p (.I (Á k))) h|x=>match yX h x with|O ds=>Q (.p (.I (Á ds))) h|ao=>ŧ
 |_=>ŧ
def Wf(K:Æ):ϕ->Hp->VK->ß:=λx H Q=>(∃p y,x=[.A p]/\(gh K H p y\/gX K H p y)/\Q (.I (Á y)) H)\/∃a U,x=[V.A a]/\Rd H a (.dK U)/\Q (.I (Á U)) H
def G6:fR X (.builtin "len") λxs H Q=>∃a U,xs=[V.A a]/\Rd H a (.dK U)/\Q (.I (Á U)) H:=by intro p s σ H xs c Q I r h;let(a,U,rfl,b,q):=h;let(u,rfl,R):=IZ r;cases R;rwa[ĩ I b λt S i=>(.I _,H,i,(t,Ŗ),q)]
def G5:fR X (.builtin "len") (Wf X.K):=yj.or G6
def RF:qO Y (Wf Y.K) Ė:=λG M h H x s Q j r b q out=>by
 delta Ė at q;split at q
 .let(v,rfl,i):=b.rC;split at q;.ext y e;let(a,ws,E,s1,I):=qm r i e;rwa[.inl (a,ws,by rw[E],s1,out _ h M H _ Ext.refl r (by rw[<-I.len];rwa[gC]) q)]
  .split at q;.let(a,ws,E,s1,I):=i;rwa[.inl (a,ws,by rw[E],.inl (NZ s1),out _ h M H _ Ext.refl r (by rw[<-I.len];rwa[gC]) q)]
   .let(a,A,E,_,s1,I,_):=i;rwa[.inr (a,A,by rw[E],s1,out _ h M H _ Ext.refl r (by rw[I.len,ae];rwa[gC]) q)]
   .split at q
    .ext ds e;delta yX at e;split at e
     .split at e;.ext o;cases e;let(a,c,d):=i;let(ws,f,g):=r.at' c o;rwa[.inl (a,ws,by rw[d],.inl (gh.of f),out _ h M H _ Ext.refl r (by rw[<-g.len];rwa[gC]) q)]
      .cases e
     .cases e
    .left
 .left
def ϫ(q:aY Z M H (x::xs) (v::vs)):eG Z M H (.p x) v/\aY Z M H xs vs:=by done
def Rl{α:Type}{a:α}{p:ß}(h:ao=O a):p:=nomatch h
def V6:ON:=λds h Q=>match ds with
 |[x]=>match Eg h x with|O s=>Q (.p (.T s)) h|ao=>ŧ
 |_=>ŧ
def LN:qO Y (λxs H Q=>∃p ys,xs=[.A p]/\((gh Y.K H p ys/\∀l,H l=ao->Q (.A l) (dq H l (.T ys)))\/gX Y.K H p ys/\Q (.A p) H)) V6:=λG M h H xs s Q d r c q out=>by
 delta V6 at q;split at q
 .let(v,rfl,i):=c.rC;split at q
  .ext ys e;let(a,ws,rfl,s1,I):=qm r i e;erw[(a,ws,Ŗ,?_)];rcases s1 with s1|s1;.rwa[.inl (s1,λp b=>out _ h M _ _ (Ext.add b) (r.add b) (u0 r b I) q)]
   .rwa[.inr (s1,out _ h M H _ Ext.refl r (by exact(a,ws,Ŗ,s1,I)) q)]
  .left
 .left
def V0:ON:=λds h Q=>match ds with
 |[x]=>match Eg h x with|O s=>Q (.p (.L s)) h|ao=>ŧ
 |_=>ŧ
def LJ:qO Y (λxs H Q=>∃p ys,xs=[.A p]/\(gh Y.K H p ys\/gX Y.K H p ys)/\∀l,H l=ao->Q (.A l) (dq H l (.L ys))) V0:=λG M h H xs s Q d r I q out=>by
 delta V0 at q;split at q
 .let(v,rfl,i):=I.rC;split at q;.ext ys e;let(a,ws,rfl,s1,c):=qm r i e;exact(a,ws,Ŗ,s1,λp b=>out _ h M _ _ (Ext.add b) (r.add b) (jH r b c) q)
  .left
 .left
def VZ:ON:=λds h Q=>match ds with|[.p (.I i)]=>Q (.p (.I i)) h|[.p (.B b)]=>Q (.p (.I (b2 b))) h|_=>ŧ
def LI:qO Y (λxs H Q=>(∃i,xs=[.I i]/\Q (.I i) H)\/∃k,xs=[.B k]/\Q (.I (if k then 1 else 0)) H) VZ:=λG M h H xs s Q c r a q out=>by
 delta VZ at q;split at q;.let(v,rfl,i):=a.rC;rwa[.inl (_,by rw[fK i],out _ h M H _ Ext.refl r gC q)]
 .let(v,rfl,i):=a.rC;ext b;rwa[.inr (b,by rw[Wp i],out _ h M H _ Ext.refl r (by induction b<;>rwa[gC]) q)]
 .left
def aiz:ON:=λds h Q=>d2 ds λx y=>iI x y λi j=>Q (.p (.I (if j>i then j else i))) h
def RG:qO Y (λxs H Q=>∃i j,xs=[.I i,.I j]/\Q (.I (if j>i then j else i)) H) aiz:=λG M h H xs s Q d r c q out=>by let(x,y,rfl,q):=Vo q;let(a,b,rfl,rfl,q):=FD q;let(v,u,rfl,i,j):=c.two';exact(_,_,by rw[fK i,fK j],out _ h M H _ Ext.refl r gC q)
def jY:Pv->Ő cp|.S x=>O (.inr x)|.I i=>O (.inl i)|_=>ao
def kM:Pv->Pv->Þ|.S a,.S b=>cC a b|.I a,.I b=>mr a b|_,_=>a5
def jy(k:Pv):ϑ->ϑ->Ő Pv
 |K::s,u::U=>match kM K k with|J=>O u|a5=>jy k s U
 |_,_=>ao
def nZ(k:Pv):ϑ->Þ|[]=>a5|K::s=>kM K k||nZ k s
def CJ(k v:Pv):ϑ->ϑ->ϑ|K::s,u::U=>(match kM K k with|J=>v|a5=>u)::CJ k v s U|_,U=>U
def oF(k v:Pv)(K us:ϑ):ϑ:=match nZ k K with|J=>CJ k v K us|a5=>us++[v]
def oE(k:Pv)(K:ϑ):ϑ:=match nZ k K with|J=>K|a5=>K++[k]
def Dx{Y:T0}(e:jY k=O κ)(i:eg (Y.z G) M H k v):v=kV κ:=by
 cases k<;>first|done|skip
 .cases e;rwa[i]
 .cases e;rwa[i]
def LZ{Y:T0}(i:eg (Y.z G) M H k (kV κ)):jY k=O κ:=by cases k with|S x=>cases κ<;>cases i;rfl|I x=>cases κ<;>cases i;rfl|N=>induction κ<;>cases i|B _=>cases κ<;>cases i|ty _=>cases κ<;>cases i|obj _ _=>let(_,_,_,e,_):=i;induction κ<;>cases e|key _=>let(_,e,_):=i;cases κ<;>cases e|fn _=>let(_,_,e):=i;cases κ<;>cases e|_=>let(_,_,e,_):=i;induction κ<;>cases e
def vf(h:jY a=O κ)(d:jY b=O c):kM a b=Đ (κ=c):=by
 cases a<;>first|done|skip
 all_goals(cases b<;>first|done|skip)
 all_goals(cases h;cases d)
 .ext x y;show mr x y=_;rw[uS];by_cases e:x=y;.simp
  .simp
 .rfl
 .rfl
 .ext x y;show cC x y=_;by_cases e:x=y;.rw[bQ.mpr e,cJ (by rw[e])]
  .rw[bF.mpr λz=>e (bQ.mp z),cq λz=>e ()]
def jW(Y:T0)(G M:Ł À)(H:Hp)(k us:ϑ)(a:Ł (cp×V)):ß:=aY (Y.z G) M H k (a.map λp=>kV p.1)/\aY (Y.z G) M H us (a.map (·.2))
def jW.cons{K us:ϑ}{p:cp×V}{aU:Ł _}:jW Y G M H (k::K) (u::us) (p::aU)↔(jY k=O p.1/\eg (Y.z G) M H u p.2)/\jW Y G M H K us aU:=by
 constructor;.rintro⟨a,b⟩;exact((LZ a.1,b.1),a.2,b.2)
 .rintro⟨⟨a,b⟩,c,d⟩;erw[((?_,c),b,d)];cases k<;>first|done|skip
  .ext n;let:kV p.1=V.I n:=by injection a with a;rw[<-a];rfl
   rwa[this]
  .ext n;let:kV p.1=V.S n:=by injection a with a;rw[<-a];rfl
   rwa[this]
theorem jW.ind{P:ϑ->ϑ->Ł _->ß}(d:P [] [] [])(e:∀k u K us p A,jY k=O p.1->eg (Y.z G) M H u p.2->jW Y G M H K us A->P K us A->P (k::K) (u::us) (p::A)):∀{K us:ϑ}{A:Ł _},jW Y G M H K us A->P K us A|[],[],[],_=>d|k::K,u::us,p::A,h=>by obtain⟨⟨a,b⟩,c⟩:=jW.cons.mp h;rwa[e k u K us p A a b c (jW.ind d e c)]|[],_::_,A,h=>by let:=h.1.len.trans (by rw[ae]);let:=h.2.len.trans (by rw[ae]);simp at*;lia|_::_,[],A,h=>by let:=h.1.len.trans (by rw[ae]);let:=h.2.len.trans (by rw[ae]);simp at*;lia|[],[],_::_,h=>by let:=h.1.len;simp at this|_::_,_::_,[],h=>by let:=h.1.len;simp at this
def yz(h:jY k=O κ){K:ϑ}(d:jW Y G M H K us a):(∃p v,jy k K us=O p/\ji a κ=O v/\eg (Y.z G) M H p v)\/jy k K us=ao/\ji a κ=ao:=by
 erw[jW.ind (P:=λK us a=>(∃p v,jy k K us=O p/\ji a κ=O v/\eg _ M H p v)\/jy k K us=ao/\ji a κ=ao) (.inr (Ŗ,Ŗ)) (λb u K us p a c f g i=>?_) d];let e:=vf c h;by_cases z:p.1=κ;.rw[cJ z]at e;rwa[.inl (u,p.2,by rw[jy,e],lA z,f)]
 .rw[cq z]at e;let E:jy k (b::K) (u::us)=jy k K us:=by show(match kM b k with|J=>O u|a5=>jy k K us)=_;rw[e]
  rw[E,lz z];rwa[i]
def Hn(h:jY k=O κ){K:ϑ}(d:jW Y G M H K us a)(e:jy k K us=O p):∃v,ji a κ=O v/\eg (Y.z G) M H p v:=by
 rcases yz h d with ⟨q,v,b,c,f⟩|⟨b,_⟩;.left
 .left
theorem jW.app(a:jW Y G M H k us A)(b:jW Y G M H t o D):jW Y G M H (k++t) (us++o) (A++D):=by delta jW;rw[aD,aD];exact(a.1.app b.1,a.2.app b.2)
def jW.nil:jW Y G M H [] [] []:=by done
def Fj(f:jY k=O κ)(g:eg (Y.z G) M H w v){K:ϑ}(d:jW Y G M H K us a):jW Y G M H (oE k K) (oF k w K us) (jK a κ v):=by
 let h:(a.any λb=>Đ (b.1=κ))=nZ k K/\jW Y G M H K (CJ k w K us) (a.map λb=>if b.1=κ then(b.1,v)else b):=by
  erw[jW.ind (P:=λK us a=>a.any _=nZ k K/\jW Y G M H K (CJ k w K us) (a.map _)) (Ŗ,jW.nil) (λj u K us p a c l m i=>?_) d];let e:=vf c f;erw[(by rw[pE,i.1,<-e];rfl,?_)];rw[cF];show jW Y G M H _ ((match kM j k with|J=>w|a5=>u)::CJ k w K us) _;by_cases z:p.1=κ;.rw[b9 z,e,cJ z];rwa[jW.cons.mpr ((c,g),i.2)]
  .rw[bS z,e,cq z];rwa[jW.cons.mpr ((c,l),i.2)]
 delta oE oF;delta jK;rw[h.1];induction n:nZ k K with|d=>rwa[h.2]|e=>rwa[d.app (jW.cons.mpr ((f,g),jW.nil))]
def KD(h:Hs):Dv->Ő (ϑ×ϑ)
 |.p (.dct k u)=>O (k,u)|.r i=>match h[i]? with|O (.C k u)=>O (k,u)|O (.F o k u)=>O (k,u)|_=>ao
 |_=>ao
def tL(r:bq (Y.z G) M H h)(i:eG (Y.z G) M H x v)(e:KD h x=O (k,us)):∃a aU,v=.A a/\Rd H a (.dK aU)/\jW Y G M H k us aU:=by
 delta KD at e;split at e;.cases e;let(a,aU,b,_,c,d):=i;exact(a,aU,b,c,d)
 .split at e;.ext o;cases e;let(a,b,c):=i;let(aU,d,f):=r.at' b o;exact(a,aU,c,.inl d,f)
  .ext o;cases e;let(a,b,c):=i;let(aU,d,f):=r.at' b o;exact(a,aU,c,.inr (_,d),f)
  .cases e
 .cases e
def Ll:O2:=λx y h Q=>match y with
 |.p k=>match jY k with
  |O _=>match KD h x with|O (K,u)=>gG (jy k K u) (λp=>Q (.p p) h) ŧ|ao=>ŧ
  |ao=>ŧ
 |_=>ŧ
def HM(neg:Þ):O2:=λy x h Q=>match y with
 |.p k=>match jY k with
  |O _=>match KD h x with|O (K,u)=>Q (.p (.B (ut neg (jy k K u).isSome))) h|ao=>ŧ
  |ao=>ŧ
 |_=>ŧ
def ZO(hu:X.A.units+1<Ï)(f:PE X a (de 'X' E A))(l:PE X b (de 'X' E B))(hs:WX b):PE X (.Subscript a b pos) (de 'X' E (s2 Ll A B)):=(SA hu f l hs).imp λτ H m h=>by
  erw[vH (r:=λx y d Q=>∃a v,x=.A a/\qM d a y (O v)/\Q v d) (λG M h H x y v u Q m r i j q out=>?_) h];delta Ll gG at q;split at q
  .split at q
   .ext κ k;split at q
    .ext K F n;split at q;.ext p o;let(a,U,s,s1,d1):=tL r i n;let(w,z,D):=Hn k d1 o;let g:qM H a _ _:=.inl (U,κ,s1,Ŗ,Ŗ);rw[z,<-Dx k j]at g;exact(a,w,s,g,out (.p p) h M H w Ext.refl r D q)
     .left
    .left
   .left
  .left
def KH:jw 'X' (λy x d Q=>∃a o,x=.A a/\qM d a y o/\Q (.B (neg !=o.isSome)) d) (HM neg):=λG M h H x y v u Q D r i j q out=>by
 delta HM at q;simp only[DK]at q;split at q
 .ext K;split at q
  .ext κ k;split at q
   .ext s m n;let(a,U,z,s1,d1):=tL r j n;let g:qM H a _ _:=.inl (U,κ,s1,Ŗ,Ŗ);rw[<-Dx k i]at g;erw[(a,_,z,g,out _ h M H _ Ext.refl r ?_ q)];let e:(jy K s m).isSome=(ji U κ).isSome:=by rcases yz k d1 with ⟨p,w,f,l,_⟩|⟨f,l⟩<;>rw[f,l]<;>rfl
    rw[e];rwa[oZ]
   .left
  .left
 .left
def So(hu:X.A.units+1<Ï)(h:PE X a (de 'X' E A))(d:PE X b (de 'X' E B)):PC X .In a b (de 'X' E (s2 (HM a5) A B)):=λp s σ H Q I q=>by erw[DQ hu h d _ s σ H Q I ?_];let z:=vH KH q;simp only[nN]at z;rwa[z]
def DR(hu:X.A.units+1<Ï)(h:PE X a (de 'X' E A))(d:PE X b (de 'X' E B)):PC X .NotIn a b (de 'X' E (s2 (HM J) A B)):=λp s σ H Q I q=>by erw[HU hu h d _ s σ H Q I ?_];let z:=vH KH q;simp only[pD]at z;rwa[z]
def Nd(h:PC X o a b (de 'X' E A))(d:hX o b=a5):PT X (.Compare a [o] [b] pos) (k9 'X' E A):=(Z9 h d).imp λ_ _ _ q=>GK q
def ī:Sm:=λ_ _ h Q=>Q [.r (Á h)] (h++[.C [] []])
def SE:PE X (.Dict [] [] pos) (de 'X' E ī):=vq.imp λτ H f (G,M,σ,h,x,Q,k,q) p d=>k.out _ _ _ _ _ (Ext.push k.rel d) (k.rel.push (o:=.C [] []) d ([],bC,jW.nil.1,jW.nil.2)) (mZ k.rel.ln) q
def NV:Sm:=λ_ _ h Q=>Q [.p (.dct [] [])] h
def M7:PE X (.Dict [] [] pos) (de 'X' E NV):=vq.imp λτ H f (G,M,σ,h,x,Q,k,q) p d=>k.out _ h M _ _ (Ext.add d) (k.rel.add d) (by exact(p,[],Ŗ,k.rel.oU d,.inl bC,jW.nil.1,jW.nil.2)) q
def C5(A:Sm):Im:=λx σ h Q=>A x σ h λds H=>match ds with|[.p (.L X)]=>Q X H|_=>ŧ
def aiv:O1:=λx h Q=>match x with|.p (.L X)=>Q (.p (.L X)) h|.p (.T X)=>Q (.p (.L X)) h|_=>ŧ
def Zl:ON:=λds h Q=>match ds with|[.p (.I n)]=>gd (qE n.toNat&&Đ (-4611686018427387904<=n)) (Q (.p (.L (vB 0 n.toNat))) h)|_=>ŧ
def EH:ϑ->ϑ->ϑ|x::X,y::Y=>.T [x,y]::EH X Y|_,_=>[]
def ϴ(v:Dv->Ő ϑ):ON:=λds h Q=>d2 ds λx y=>gG (v x) (λX=>gG (v y) (λY=>Q (.p (.L (EH X Y))) h) ŧ) ŧ
def _root_.L2.PI.imp{X:Cx}{tg e:Å}{t t':TI}(h:PI X tg e t')(i:∀σ H Q,t σ H Q->t' σ H Q):PI X tg e t:=λP s σ H Q I q=>h _ s σ H Q I (i σ H Q q)
def ahK(K:Æ)(l:TE):TI:=λσ H R=>l σ H λx d=>∃a,x=.A a/\((∃s,gh K d a s)/\R (xf K a) d\/(∃s,gX K d a s)/\R (Cg K a) d)
def Z5(j:PE X l g):PI X tg l (ahK X.K g):=by
 intro P s σ H R I h;erw[kr (j _ s σ H _ I h) λv s1 x d i r Q=>?_];let(a,e,q):=Q;subst e;cases r;let F:∀b ∈[s1.heap.objs.size],lG X _ d b:=λb k=>by
  let e:=by simpa using k
  subst e;rwa[i.AK (ah _) (i.c4.fresh (ah _))]
 rcases q with ⟨⟨m,f⟩,q⟩|⟨⟨m,f⟩,q⟩;.let(n,u,p,z):=i.list f;rwa[B2 p.isList (_,_,_,_,d,Ŗ,i.kept λb o e=>af _ e,IJ a _,(_,ax _ Ŗ,Ŗ,Ŗ),F,q)]
 .let(n,u,p,z):=i.tuple f;rwa[ju p (_,_,_,_,d,Ŗ,i.kept λb o e=>af _ e,EA a _,(_,ax _ Ŗ,Ŗ,Ŗ),F,q)]
def WT(X:Cx)(H:Hp):ß:=∃P σ s,Inv X P σ H s
def WT.len(I:WT X H)(h:gh X.K H a vs\/gX X.K H a vs):Á vs<=Ã:=by
 let(_,_,_,I):=I;rcases h with h|h;.let(_,_,_,z):=I.list h;rwa[z]
 .let(_,_,_,z):=I.tuple h;rwa[z]
def zu(h:PI X tg e wi):PI X tg e λσ H R=>wi σ H λj d=>WT X d->R j d:=λP s σ H R I q=>iL (h _ s σ H _ I q) λv s1 g=>iL g λk s2 z=>by let(it,F,n,j,l,e,i,T,st,f,r):=z;exact(it,F,n,j,l,e,i,T,st,f,r (_,_,_,i))
def SM(o:PE X e (de 'X' E A)):PI X tg e (wJ 'X' E (C5 (s1 aiv A))):=(zu (Z5 o)).imp λτ H R z=>by let(G,M,σ,h,u,Q,k,q):=z;erw[(G,M,σ,h,u,_,(k.rel,k.env,λd j m l v n f I g=>?_,k.exc),q)];induction d with|r _=>rwa[g.elim]|p d=>cases d with|L x=>let(a,s,rfl,N,s1,i):=I;exact(a,Ŗ,.inl ((s,gh.of s1),λhd=>k.out x j m l _ n f (ļ f N.1 (.inl s1) i) (by rw[i.len];rwa[hd.len (.inl (gh.of s1))]) g))|T x=>let(a,s,rfl,s1,i):=rM I;exact(a,Ŗ,.inr ((s,s1),λhd=>k.out x j m l _ n f (Ū f s1 i) (by rw[i.len];rwa[hd.len (.inr s1)]) g))|_=>rwa[g.elim]
def SK(g:Gl X "range")(m:X.mg "range"=ao)(i:PA X [x] (f7 'X' E A))(D:cL x):PI X tg (.Call (.Name "range" p) [x] [] pos) (wJ 'X' E (C5 (sN Zl A))):=(HZ g m i (cA D)).imp λτ H R z=>by
  let(G,M,σ,h,j,Q,k,q):=z;erw[(G,M,σ,h,j,_,(k.rel,k.env,λd l o r v s u I f=>?_,k.exc),q)];delta kN Zl at f;split at f
  .ext n;let(c,f):=cG f;rw[aM]at c;let(w,rfl,y):=I.rC;let hn:=f6 c.1;let L:Ã<2^62:=∅
   erw[(n,by rw[fK y],(),?_,k.out _ l o r _ s u ϓ (by delta vB;rw[ae,eL];rwa[hn]) f)];let:(n.toNat:Î)<2^62:=by let:=bM hn L;exact_mod_cast this
   lia
  .left
theorem vO:∀{xs ys:ϑ}{i:Ń}{z:Pv},(EH xs ys)[i]?=O z->∃x y,xs[i]?=O x/\ys[i]?=O y/\z=.T [x,y]|[],_,_,_,e=>by done|_::_,[],_,_,e=>by done|x::_,y::_,0,_,e=>by cases e;exact(x,y,Ŗ,Ŗ,Ŗ)|_::_,_::_,i+1,_,e=>by let(x,y,f,g,d):=vO (i:=i) (by done);exact(x,y,by done,by done,d)
theorem qx:∀(xs ys:ϑ),Á (EH xs ys)=min (Á xs) (Á ys)|[],_=>Ŗ|_::_,[]=>Ŗ|_::xs,_::ys=>by simp[EH,qx xs ys]
def AW{Y:T0}(r:bq (Y.z G) M H h)(d:H T=ao)(i:eg (Y.z G) M H x v)(j:eg (Y.z G) M H y w):eg (Y.z G) M (dq H T (.T [v,w])) (.T [x,y]) (.A T):=u0 r d ((aY.one i).app (aY.one j))
def ϭ(r:bq (Y.z G) M H h)(s1:∀{m H'},Ext M H m H'->sq H' f vs)(s2:∀{m H'},Ext M H m H'->sq H' g ws)(I:aY (Y.z G) M H xs vs)(j:aY (Y.z G) M H ys ws):Pt Y G M H (wm sq f g) (EH xs ys):=λF m H' K k e R=>by erw[(λi z o=>?_,(vs,ws,s1 e,s2 e,by rw[qx,I.len,j.len];lia))];let(x,y,q,s,rfl):=vO o;let(v,l,P):=(aY.mv (e.mv r) (aY.wk k I)).get q;let(w,n,C):=(aY.mv (e.mv r) (aY.wk k j)).get s;erw[((vs,ws,v,w,s1 e,s2 e,l,n),λu L T=>?_)];let(T,d,hu,D):=T;let e2:=D vs ws v w (s1 e) (s2 e) l n;subst e2 hu;exact(Ext.add d,R.add d,AW R d P C)
def Gb(i:∀{G M H h x xs u},bq ('X'.z G) M H h->c x=O xs->eG ('X'.z G) M H x u->∃a vs,u=.A a/\(∀{m H'},Ext M H m H'->sq H' a vs)/\aY ('X'.z G) M H xs vs)(l:∀{H a vs},sq H a vs->gh X.K H a vs\/gX X.K H a vs)(j:PI X tg x (Ry sq (f7 'X' E A))):PI X tg x (wJ 'X' E (C5 (sN (ϴ c) A))):=(zu j).imp λτ H R Z=>by let(G,M,σ,h,n,Q,k,q):=Z;erw[(G,M,σ,h,n,_,(k.rel,k.env,λd o s C v D r F g=>?_,k.exc),q)];let(x,y,rfl,g):=Vo g;let(xs,e,g):=cP g;let(U,f,g):=cP g;let(w,u,rfl,L,N):=F.two';let(a1,vs,rfl,s1,I):=i r e L;let(P,ws,rfl,s2,S):=i r f N;erw[(a1,P,Ŗ,(vs,s1 .refl),(ws,s2 .refl),λhd=>k.out _ o s C _ D r (ϭ r s1 s2 I S) ?_ g)];rw[qx,I.len];rwa[aq (Nat.min_le_left ..) (hd.len (l (s1 .refl)))]
abbrev OM:=Dv->Ł Dv->Hs->(Dv->Hs->ß)->ß
def WU(Y:T0)(r:V->ϕ->Hp->VK->ß)(o:OM):ß:=∀G M h H x X v s Q q,bq (Y.z G) M H h->eG (Y.z G) M H x v->cU (Y.z G) M H X s->o x X h Q->(∀d b m a w,Ext M H m a->bq (Y.z G) m a b->eG (Y.z G) m a d w->Q d b->q w a)->r v s H q
def RU(c:Ń)(h:Hs)(x:Dv):Þ:=match c with
 |0=>match x with|.p (.S _)=>J|_=>a5
 |4=>(nh h x).isSome||(yX h x).isSome|_=>a5
def Ž(o:OM)(Q:KP)(x:Dv):KP:=λds h=>o x ds h (qD Q)
def kMt(c:Ń)(o:OM)(R:Sm)(X:XP)(σ:Es)(Q:KP):KP:=λs h=>m1 s λx=>gd (RU c h x) (R X σ h (Ž o Q x))
def ia(c:Ń)(o:OM)(A R:Sm):Sm:=λx σ h Q=>A x σ h (kMt c o R x σ Q)
section
variable{t:Tb}{X:Cx}{E:XK}{e a b o:Å}{rest:Ł Å}{A B C R T:Sm}{pos p cs dE:Õ}{Y:T0}{G M:Ł À}{H:Hp}{h:Hs}
def FX(r:bq (Y.z G) M H h)(i:eG (Y.z G) M H x v)(e:yX h x=O ds):∃n a vs,x=.r n/\M[n]?=O a/\v=.A a/\H a=O (.L vs)/\cU (Y.z G) M H ds vs:=by
 delta yX at e;split at e
 .split at e;.ext d;cases e;let(a,c,f):=i;let(vs,g,j):=r.at' c d;exact(_,a,vs,Ŗ,c,f,g,j)
  .cases e
 .cases e
def Ϩ(r:bq (Y.z G) M H h)(i:eG (Y.z G) M H x v)(e:RU c h x):Cc Y.K (Oy c) v H:=by
 delta RU at e;split at e
 .split at e;.rw[pI i];exact(Ŗ)
  .cases e
 .rw[jj]at e;rcases e with e|e;.let(f,ex):=fN.mp e;let(a,s,d,s1,I):=g8 r i ex;rw[d];rwa[.inl (Ŗ,s,gh.of s1)]
  .let(f,ex):=fN.mp e;let(n,a,s,_,_,d,s1,I):=FX r i ex;rw[d];rwa[.inl (Ŗ,s,gh.of s1)]
 .cases e
def L_{o:OM}(l:WU 'X' r o)(h:de 'X' E (ia c o A R) τ H QV):FN X.K (Oy c) r (de 'X' E A) (f7 'X' E R) τ H QV:=by let(G,M,σ,h,x,Q,k,q):=h;erw[(G,M,σ,h,x,_,(k.rel,k.env,λd m n H1 v f g I i=>?_,k.exc),q)];let(s,i):=cG i;exact(Ϩ g I s,G,n,σ,m,x,_,(g,k.env.ext k.rel f,λds u M2 y z j D F L=>l G M2 u y d ds v z _ _ D (I.ext g j) F L λN P S U w W Z i3 q3=>k.out N P S U w (f.trans (j.trans W)) Z i3 q3,k.Ht f),i)
def yK(d:(e::es).all cL)(l:Á (e::es)<30):((eP dE (dN (e::es) X.env)).all (λx=>!x.1)&&(backToKw dE (hG [] X.env)).all (λx=>x.1.isSome)&&Đ (Á (e::es)+Á ([]:Ł g5)+(if([]:Ł g5).isEmpty then 0 else 1)<30))=true:=by
 let h1:=fB (env:=X.env) (pos:=dE) d;let c:(eP dE (dN (e::es) X.env)).all (λx=>!x.1)=true:=by rw[bJ];intro x f;rw[BV]at h1;let:=h1 x f;simpa using this
 rw[c,Bool.true_and];simp only[aM];exact(Ŗ,cJ (by done))
def adm{id:String}(pa:PlainAttrs (Oy c))(slot:Slot (Oy c) name id)(y:typeOf (.builtin id)=pure (.type "method_descriptor"))(f:ą X id r)(m:WU 'X' r d)(g:PE X o (de 'X' E A))(i:PA X (a::rest) (f7 'X' E R))(q:ge o name X.env (Ê o X.env)=Ê o X.env)(D:(a::rest).all cL)(l:Á (a::rest)<30)(j:(cs.endLine==dE.line)):PE X (.Call (.Attribute o name cs) (a::rest) [] dE) (de 'X' E (ia c d A R)):=by let hp:=D;rw[cw,aM]at hp;exact(adi pa slot y f g i q (yK D l) j (cA hp.1) (fB hp.2)).imp λ_ _ _=>L_ m
def C3:OM:=λx ds h Q=>match x,ds with
 |.r i,[d]=>match h[i]? with
  |O (.L s)=>match d with|.p y=>gd (qE (Á s+1)) (Q (.p .N) (h.set i (.L (s++[y]))))|.r _=>ŧ
  |O (.D s)=>gd (qE (Á s+1)) (Q (.p .N) (h.set i (.D (s++[d]))))|_=>ŧ
 |_,_=>ŧ
theorem cU.app:∀{xs ys:Ł Dv}{vs ws:ϕ},cU Z M H xs vs->cU Z M H ys ws->cU Z M H (xs++ys) (vs++ws)|[],_,[],_,_,q=>q|[],_,_::_,_,h,_=>h.elim|_::_,_,[],_,h,_=>h.elim|_::_,_,_::_,_,h,q=>(h.1,cU.app h.2 q)
def cU.one(h:eG Z M H d v):cU Z M H [d] [v]:=(h,Ť)
def RA:WU Y Gs C3:=λG M h H x F v I Q K r i u q out=>by
 delta C3 at q;split at q
 .ext n d;let(w,rfl,j):=u.rC;let(a,f,s):=i;let ha:=aL f;split at q;.ext z l;induction d with|r _=>left|p y=>let(c,q):=cG q;let(ws,m,g):=r.at' f l;let k:=f6 c;exact(a,ws,w,s,Ŗ,m,by rw[g.len]at k;rwa[k],out _ _ M _ _ (Ext.put ha) (r.put (o:=.L _) f (_,bC,(g.app (aY.one j)).ext r (Ext.put ha))) yR q)
  .ext z l;let(c,q):=cG q;let(ws,m,g):=r.at' f l;let k:=f6 c;exact(a,ws,w,s,Ŗ,m,by rw[g.len]at k;rwa[k],out _ _ M _ _ (Ext.put ha) (r.put (o:=.D _) f (_,bC,(g.app (cU.one j)).ext r (Ext.put ha))) yR q)
  .left
 .left
def D_(xs:ϑ)(v:Pv):Î->Ő ϑ
 |.ofNat n=>match Ë (n+1) (Á xs)with|J=>O (xs.set n v)|a5=>ao
 |_=>ao
def YC(A B C:Sm):Ss:=λN σ h=>A N.xc σ h λs d=>match s with
 |[.p v]=>B N.xc σ d λx f=>match x with
  |[.r i]=>C N.xc σ f λy c=>match y with
   |[.p (.I k)]=>match c[i]? with
    |O (.L Z)=>match D_ Z v k with|O z=>N.nx σ (c.set i (.L z))|ao=>ŧ
    |_=>ŧ
   |_=>ŧ
  |_=>ŧ
 |_=>ŧ
theorem aY.set(i:eg Z M H x v):∀{xs:ϑ}{vs:ϕ}(n:Ń),aY Z M H xs vs->aY Z M H (xs.set n x) (vs.set n v)|[],[],_,q=>q|[],_::_,_,q=>by done|_::_,[],_,q=>by done|_::_,_::_,0,q=>by exact(i,q.2)|_::_,_::_,n+1,q=>by exact(q.1,aY.set i n q.2)
def c_(h:eJ 'X' E (YC A B C) D τ H):sX (de 'X' E A) (ģ (de 'X' E B) (de 'X' E C) Wh) D τ H:=by let(G,M,σ,h,N,k,q):=h;let ex:∀{F I},Ext M H F I->∀C c f H1,Ext F I f H1->bq _ f H1 c->N.xc C c->pW t.ca E C H1:=λe C c f H1 x r q=>k.exc C c f H1 (e.trans x) r q;erw[(G,M,σ,h,_,_,(k.rel,k.env,λd c f H1 v g K S U=>?_,k.exc),q)];induction d with|r _=>left|p x=>erw[(G,f,σ,c,_,_,(K,k.env.ext k.rel g,λd2 W M2 H2 v2 i l Z q2=>?_,ex g),U)];induction d2 with|p _=>left|r n=>
   erw[(G,M2,σ,W,_,_,(l,k.env.ext k.rel (g.trans i),λd3 h3 M3 H3 v3 j s i3 Q=>?_,ex (g.trans i)),q2)];split at Q
   .ext kk y;injection y with y;subst y;split at Q
    .ext zs ho;split at Q;.ext z u;let(a,w,g2):=Z.ext l j;let(ws,g3,P):=s.at' w ho;let ha:=aL w;induction kk with|negSucc m=>done|ofNat m=>
       change(match Ë _ _ with|J=>O _|a5=>ao)=O z at u;split at u;.ext hb;cases u;let hm:=aI hb;erw[(a,ws,m,m,g2,fK i3,g3,?_,k.nx σ _ M3 _ τ ((g.trans (i.trans j)).trans (Ext.put ha)) (s.put (o:=.L _) w (_,bC,(P.set (((S).ext K i).ext l j) m).ext s (Ext.put ha))) (k.env.ext k.rel ((g.trans (i.trans j)).trans (Ext.put ha))) Q)];.delta RN;rw[b9 (Int.natCast_nonneg m),b9 (by rw[<-P.len];lia)];rfl
       .done
     .left
    .left
   .left
def oM(A B C:Sm):Ss:=λN σ h=>A N.xc σ h λs d=>match s with
 |[.p v]=>B N.xc σ d λx f=>match x with
  |[.r i]=>C N.xc σ f λy c=>match y with
   |[.p k]=>match c[i]?,jY k with|O (.C K u),O _=>gd (qE (Á K+1)) (N.nx σ (c.set i (.C (oE k K) (oF k v K u))))|_,_=>ŧ
   |_=>ŧ
  |_=>ŧ
 |_=>ŧ
def QQ(h:eJ 'X' E (oM A B C) D τ H):NT (de 'X' E B) (de 'X' E C) (de 'X' E A) D τ H:=by let(G,M,σ,h,N,k,q):=h;let ex:∀{F I},Ext M H F I->∀C f m H1,Ext F I m H1->bq ('X'.z G) m H1 f->N.xc C f->pW t.ca E C H1:=λe C f m H1 x r q=>k.exc C f m H1 (e.trans x) r q;erw[(G,M,σ,h,N.xc,_,(k.rel,k.env,λd f m H1 v g L i1 P=>?_,k.exc),q)];induction d with|r _=>rwa[P.elim]|p x=>erw[(G,m,σ,f,N.xc,_,(L,k.env.ext k.rel g,λd2 h2 M2 H2 v2 i w i2 S=>?_,ex g),P)];induction d2 with|p _=>rwa[S.elim]|r n=>erw[(G,M2,σ,h2,N.xc,_,(w,k.env.ext k.rel (g.trans i),λd3 W M3 H3 v3 j l i3 Q=>?_,ex (g.trans i)),S)];induction d3 with|r _=>rwa[Q.elim]|p K=>
    change match W[n]?,jY K with|O (.C s U),O _=>gd (qE (Á s+1)) (N.nx σ (W.set n (.C (oE K s) (oF K x s U))))|_,_=>ŧ at Q;split at Q
    .ext s U κ ho Z;let(c,Q):=cG Q;let(a,y,g2):=i2.ext w j;let(aU,g3,g4):=l.at' y ho;let u:a∈M3:=aL y;let ix:=((show eg ('X'.z G) m H1 x v from i1).ext L i).ext w j;let hv:=Dx Z (show eg ('X'.z G) M3 H3 K v3 from i3);let c2:=f6 c;let hl:Á aU<Ã:=by let:=g4.1.len;rw[ae]at this;lia
     erw[(a,_,g2,by rw[hv];rwa[Af.k g3 hl],?_)];let d:=Fj (Y:=yx t X) Z ix g4;erw[k.nx σ _ M3 _ τ ((g.trans (i.trans j)).trans (Ext.put u)) (l.put (o:=.C (oE K s) (oF K x s U)) y (_,bC,d.1.ext l (Ext.put u),d.2.ext l (Ext.put u))) (k.env.ext k.rel ((g.trans (i.trans j)).trans (Ext.put u))) Q]
    .rwa[Q.elim]
structure rL(K:Æ)(t:Tb)(c:Ń):ß where
 cl:Jy K (t.ca c)na:∀f∈t.fl c,mM K (t.ca c) f
 nd:(t.fl c).Nodup
def Ϛ(c j:Ń)(h:Hs):Dv->Ő Dv
 |.p (.obj d fs)=>match Ì d c with
  |J=>match fs[j]? with|O x=>O (.p x)|ao=>ao
  |a5=>ao
 |.r i=>match h[i]? with
  |O (.I d fs)=>match Ì d c with|J=>fs[j]?|a5=>ao
  |_=>ao
 |_=>ao
def HN(c j:Ń):O1:=λx h Q=>match Ϛ c j h x with|O d=>Q d h|ao=>ŧ
theorem rk:∀{F:Ł _}{l:ϐ}{j:Ń}{v:V},l.Nodup->F.map (·.1)=l.take (Á F)->l[j]?=O f->(F.map (·.2))[j]?=O v->F.lookup f=O v|[],_,_,_,_,_,_,e=>by grind|(g,w)::F,[],_,_,_,e,_,_=>by grind|(g,w)::F,x::l,0,v,n,e,c,d=>by grind|(g,w)::F,x::l,j+1,v,n,e,c,d=>by injection e with k i;rw[dA]at n;let m:f∈l:=aL (by done);rw[ig,c8.mpr λz=>n.1 ()];rwa[rk n.2 i (by done) (by grind)]
def ZP(i:rL X.K t c)(s:(t.fl c)[j]?=O f)(ha:PE X a (de 'X' E A))(hb:ge a f X.env (Ê a X.env)=Ê a X.env):PE X (.Attribute a f pos) (de 'X' E (s1 (HN c j) A)):=(ZI ha hb).imp λτ H QV zz=>by
  let(G,M,σ,h,xc,Q,k,q):=zz;erw[(G,M,σ,h,xc,_,(k.rel,k.env,λd u S U v W z Z l=>?_,k.exc),q)];change HN c j d u _ at l;delta HN at l;split at l;.ext d2 g;induction d with
   |p d=>cases d with
    |obj y fs=>
     change(match Ì y c with
      |J=>match fs[j]? with|O x=>O _|ao=>ao
      |a5=>ao)=O d2 at g;split at g
     .ext D;split at g
      .ext x ex;cases g;obtain rfl:=aX D;let(a,F,L,rfl,_,s1,l1,m):=Z;let(w,N,P):=m.get ex;let ln:=by let:=m.len;rw[ae]at this;rwa[this]
       rw[ln]at l1;exact(a,_,F,L,w,Ŗ,s1,i.cl,i.na f (aL s),rk i.nd l1 s N,k.out (.p x) u S U w W z P l)
      .done
     .done|_=>done
   |r n=>
    change(match u[n]? with
     |O (.I y fs)=>match Ì y c with|J=>fs[j]?|a5=>ao
     |_=>ao)=O d2 at g;split at g
    .ext y fs ho;split at g
     .ext D;obtain rfl:=aX D;let(a,g0,rfl):=Z;let(F,L,s1,_,l1,m):=z.at' g0 ho;let(w,N,P):=m.get g;let ln:=by let:=m.len;rw[ae]at this;rwa[this]
      rw[ln]at l1;exact(a,_,F,L,w,Ŗ,s1,i.cl,i.na f (aL s),rk i.nd l1 s N,k.out d2 u S U w W z P l)
     .done
    .done
  .left
def C_(j:Ń)(d:Dv)(fs:Ł Dv):Ő (Ł Dv):=match Ì j (Á fs)with|J=>O (fs++[d])|a5=>match Ë (j+1) (Á fs)with|J=>O (fs.set j d)|a5=>ao
def Ņ(c j i:Ń)(d:Dv)(h:Hs)(K:Hs->ß):ß:=match h[i]? with|O (.I f fs)=>gd (Ì f c&&Ë (Á fs+1) 1000) (match C_ j d fs with|O Q=>K (h.set i (.I c Q))|ao=>ŧ)|_=>ŧ
def ŏ(c j:Ń)(N:En)(σ:Es)(d:Dv):KP:=λx f=>match x with|[.r i]=>Ņ c j i d f λg=>N.nx σ g|_=>ŧ
def kFp(c j:Ń)(B:Sm)(N:En)(σ:Es):KP:=λv f=>m1 v λd=>B N.xc σ f (ŏ c j N σ d)
def Wq(c j:Ń)(A B:Sm):Ss:=λN σ h=>A N.xc σ h (kFp c j B N σ)
theorem Gq:∀{fv:Ł _}{l:ϐ}{j:Ń},l.Nodup->fv.map (·.1)=l.take (Á fv)->l[j]?=O f->j<Á fv->(jA f v fv).map (·.1)=fv.map (·.1)/\(jA f v fv).map (·.2)=(fv.map (·.2)).set j v/\Á (jA f v fv)=Á fv|[],_,_,_,_,_,h=>by grind|(g,w)::fv,[],_,_,e,_,_=>by grind|(g,w)::fv,x::l,0,n,e,d,_=>by injection e with i k;cases d;let:jA f v ((g,w)::fv)=(g,v)::fv:=b9 i;rw[this];exact(Ŗ,Ŗ,Ŗ)|(g,w)::fv,x::l,j+1,n,e,d,m=>by injection e with i k;rw[dA]at n;let q:f∈l:=aL (by done);let:jA f v ((g,w)::fv)=(g,w)::jA f v fv:=bS λz=>n.1 ();let(a,b,c):=Gq (v:=v) n.2 k (by done) (by grind);exact(by grind,by grind,by grind)
theorem Bf:∀{fv:Ł _}{l:ϐ},l.Nodup->fv.map (·.1)=l.take (Á fv)->l[Á fv]?=O f->jA f v fv=fv++[(f,v)]|[],_,_,_,_=>Ŗ|(g,w)::fv,[],_,e,_=>by grind|(g,w)::fv,x::l,n,e,d=>by injection e with i c;rw[dA]at n;let:jA f v ((g,w)::fv)=(g,w)::jA f v fv:=bS λz=>n.1 (by grind);rw[this,Bf n.2 c (by done)];rfl
theorem cU.set(i:eG Z M H x v):∀{xs:Ł Dv}{vs:ϕ}(n:Ń),cU Z M H xs vs->cU Z M H (xs.set n x) (vs.set n v)|[],[],_,q=>q|[],_::_,_,q=>q.elim|_::_,[],_,q=>q.elim|_::_,_::_,0,q=>(i,q.2)|_::_,_::_,n+1,q=>(q.1,cU.set i n q.2)
def Q9(m:rL X.K t c)(g:(t.fl c)[j]?=O f)(h:eJ 'X' E (Wq c j A B) D τ H):Ĕ X.K (de 'X' E B) (de 'X' E A) f D τ H:=by let(G,M,σ,h,N,k,q):=h;erw[(G,M,σ,h,_,_,(k.rel,k.env,λd w y H1 v u r1 i1 q1=>?_,k.exc),q)];erw[(G,y,σ,w,_,_,(r1,k.env.ext k.rel u,λd2 h2 M2 H2 v2 L P i2 Q=>?_,λC w y H1 x r q=>k.exc C w y H1 (u.trans x) r q),q1)];induction d2 with|p _=>rwa[Q.elim]|r n=>
  change match h2[n]? with|O (.I S fs)=>gd _ (match C_ j d fs with|O U=>N.nx σ _|ao=>ŧ)|_=>ŧ at Q;split at Q
  .ext S fs ho;let(W,Q):=cG Q;rw[aM]at W;obtain rfl:=aX W.1;let hl:=aI W.2;split at Q
   .ext U s;let(a,Z,rfl):=i2;let ha:=aL Z;let(dx,fv,s1,s2,l1,i3):=P.at' Z ho;let ln:=by let:=i3.len;rw[ae]at this;rwa[this]
    rw[ln]at l1;let i:=i1.ext r1 L;erw[(a,_,dx,fv,Ŗ,s1,m.cl,m.na f (aL g),(),?_)];let l:∀F,F.map (·.1)=(t.fl S).take _->cU _ M2 H2 U _->D.nx τ (dq H2 a (.ins _ dx F)):=λF xl Ji=>k.nx σ _ M2 _ τ ((u.trans L).trans (Ext.put ha)) (P.put (o:=.I S U) Z (dx,F,bC,by rw[bw λz=>()];rwa[s2],xl,Ji.ext P (Ext.put ha))) (k.env.ext k.rel ((u.trans L).trans (Ext.put ha))) Q;delta C_ at s;split at s
    .ext ej;cases s;let ej:=aX ej;subst ej;rw[ln]at g;rw[Bf m.nd l1 g];erw[l _ ?_ ?_];.rw[aD,l1,aj,ln];show List.take _ _++[f]=List.take (Á fv+1) _;rw[List.take_succ,g];rfl
     .rw[aD];rwa[i3.app (cU.one i)]
    .split at s
     .ext eb;cases s;let(p1,p2,p3):=Gq (v:=v) m.nd l1 g (by rw[<-ln];rwa[aI eb]);erw[l _ ?_ ?_];.left
      .rw[p2];rwa[i3.set i j]
     .done
   .left
  .left
def LD:Dv->Þ|.p .N=>J|_=>a5
def Ϟ(k:ϐ):Pv:=.T (k.map .S)
theorem AX:∀{K:ϐ},aY (Y.z G) M H (K.map .S) (K.map V.S)|[]=>by done|k::K=>by exact(Ŗ,AX)
def Zp(c:Ä->Ő ϐ):O1:=λx h Q=>match x with|.p (.S z)=>gG (c z) (λk=>Q (.p (Ϟ k)) h) ŧ|_=>ŧ
def ZX{ad:À}(T:B8 X.w X.K ad c)(i:Gl X n)(m:X.mg n=O (.ref ad))(j:PE X e (de 'X' E A))(l:(n=="__debug__")=a5)(hs:lH e):PE X (.Subscript (.Name n p) e pos) (de 'X' E (s1 (Zp c) A)):=(Ga (YZ T) (tY (v:=.A ad) i m Ŗ l) j hs).imp λτ H L Z=>by
  let(G,M,σ,h,x,Q,k,q):=Z;erw[(G,M,σ,h,x,_,(k.rel,k.env,λd g r s v u y I f=>?_,k.exc),q)];change Zp c d g _ at f;delta Zp gG at f;split at f
  .ext z;split at f;.ext D F;exact(Ŗ,z,D,pI I,F,λb sq=>k.out _ g r s _ u y (by exact(b,_,Ŗ,sq,AX)) f)
   .left
  .left
def fZ:ϑ->Ő ϐ
 |[]=>O []|.S x::r=>match fZ r with|O s=>O (x::s)|ao=>ao
 |_::_=>ao
def uf:∀{ws:ϐ}{vs:ϕ},fZ xs=O ws->aY (Y.z G) M H xs vs->vs=ws.map V.S:=by induction xs with
 |f=>intro ws vs e q;cases e;induction vs with|f=>rfl|g _ _=>done
 |g x xs i=>intro ws vs e q;cases vs with|f=>done|g v vs=>let q2:=ϫ q;let Q:=q2.1;replace q2:=q2.2;clear q;cases x with
   |S z=>change(match fZ xs with|O s=>O _|ao=>ao)=O ws at e;induction y:fZ xs with|a=>rw[y]at e;rwa[Rl e]|c s=>rw[y]at e;cases e;rw[pI Q,i y q2];rfl
   |_=>rwa[Rl e]
def ac1:O2:=λx y h Q=>gG (iO y) (λk=>gG (iO x) (λi=>gd (yi i k) (Q (.p (.I (i*k))) h)) (gG (nh h x) (λs=>gd (qE (Á s*k.toNat)&&Đ (-2^63<=k)&&Đ (k<2^63)) (Q (.p (.L (Ð k.toNat s).flatten)) h)) ŧ)) ŧ
def Wg:R2:=λx y H Q=>rI Jx (λi j=>.I (i*j)) x y H Q\/VE x y H Q
def Sk:mm X (binaryOp .Mult) Wg:=Zx.or ZA
theorem aY.rep(q:aY (Y.z G) M H xs vs):∀n:Ń,aY (Y.z G) M H (Ð n xs).flatten (Ð n vs).flatten|0=>by done|n+1=>by rwa[q.app (aY.rep q n)]
def LK:jw Y Wg ac1:=λG M h H x y v u Q m r i j q out=>by
 let(K,f,q):=cP q;rcases zj q with ⟨a,e,q⟩|q;.let(k,d):=cG q;cases rV f;cases rV e;rwa[.inl (_,_,fK i,fK j,PZ k,out _ h M H _ Ext.refl r gC d)]
 .let(n,ex,q):=cP q;let(c,d):=cG q;cases rV f;simp only[aM,gU]at c;let(a,s,l,s1,I):=g8 r i ex;rwa[.inr (a,_,s,l,fK j,s1,c.1.2,c.2,by rw[<-I.len];rwa[f6 c.1.1],λp g=>out _ h M _ _ (Ext.add g) (r.add g) (jH r g (I.rep _)) d)]
def oK:ϑ->Ő (ϑ×ϑ)
 |[]=>O ([],[])|.T [k,v]::r=>match jY k,oK r with|O _,O (K,s)=>O (k::K,v::s)|_,_=>ao
 |_::_=>ao
def sJ:ϑ->ϑ->ϑ×ϑ->ϑ×ϑ|k::K,v::s,(U,c)=>sJ K s (oE k U,oF k v U c)|_,_,r=>r
def Yy:ON:=λds h Q=>match ds with
 |[x]=>match nh h x with|O s=>gG (oK s) (λp=>gd (Ë (Á p.1) 100) (Q (.p (.dct (sJ p.1 p.2 ([],[])).1 (sJ p.1 p.2 ([],[])).2)) h)) ŧ|ao=>ŧ
 |_=>ŧ
def Ts{K:ϑ}(e:oK (x::xs)=O (K,us)):∃k w κ U OA,jY k=O κ/\oK xs=O (U,OA)/\x=.T [k,w]/\K=k::U/\us=w::OA:=by
 delta oK at e;split at e;.done
 .grind
 .cases e
def DU:∀{s us:ϑ}{vs:ϕ},oK xs=O (s,us)->aY (Y.z G) M H xs vs->∃aU:Ł _,jW Y G M H s us aU/\Paired (λt c=>∃b,t=V.A b/\gX Y.K H b [kV c.1,c.2]) vs aU:=by induction xs with
 |f=>intro s us vs e q;cases e;induction vs with|f=>exact([],jW.nil,.nil)|g _ _=>done
 |g x xs I=>intro s us vs e q;cases vs with|f=>rwa[q.elim]|g v vs=>let(k,w,κ,U,g,f,r,rfl,rfl,rfl):=Ts e;let(aU,d,pp):=I r q.2;let(b,ws,rfl,sq,i):=rM q.1;cases ws with|f=>rwa[i.elim]|g u ws=>let i1:=i.1;replace i:=i.2;cases ws with|f=>rwa[i.elim]|g u2 ws=>let i2:=i.1;replace i:=i.2;induction ws with|g _ _=>rwa[i.elim]|f=>cases Dx f i1;exact((κ,u2)::aU,jW.cons.mpr ((f,i2),d),.cons (b,Ŗ,sq) pp)
theorem tJ:∀{K us f g:ϑ}{m U:Ł _},jW Y G M H K us m->jW Y G M H f g U->jW Y G M H (sJ K us (f,g)).1 (sJ K us (f,g)).2 (jJ U m)|[],[],_,_,[],_,_,d=>d|k::K,u::us,f,g,p::m,U,d,d2=>by obtain⟨⟨a,b⟩,c⟩:=jW.cons.mp d;show jW Y G M H (sJ K us _).1 _ (jJ (jK U p.1 p.2) _);rwa[tJ c (Fj a b d2)]|[],_::_,_,_,U,_,h,_=>by let:=h.1.len;let:=h.2.len;simp at*;lia|_::_,[],_,_,U,_,h,_=>by let:=h.1.len;let:=h.2.len;simp at*;lia|[],[],_,_,_::_,_,h,_=>by let:=h.1.len;simp at this|_::_,_::_,_,_,[],_,h,_=>by let:=h.1.len;simp at this
def RB:qO Y (λxs H Q=>∃(l:À)(s:ϕ)(U:Ł _),xs=[.A l]/\gh Y.K H l s/\Á U<=100/\Paired (λt k=>∃b,t=V.A b/\gX Y.K H b [kV k.1,k.2]) s U/\∀a,H a=ao->Q (.A a) (dq H a (.dK (jJ [] U)))) Yy:=λG M h H xs m Q n r I q out=>by
 delta Yy gG at q;split at q
 .let(v,rfl,i):=I.rC;split at q
  .ext xs ex;split at q
   .ext P g;let(c,q):=cG q;let(a,ws,rfl,s1,j):=g8 r i ex;let(U,d,pp):=DU g j;let hl:=by let:=d.1.len;rw[ae]at this;rwa[this.symm]
    erw[(a,ws,U,Ŗ,gh.of s1,by rw[hl];rwa[aI c],pp,λb f=>?_)];let d2:=tJ d jW.nil;erw[out _ h M _ _ (Ext.add f) (r.add f) ?_ q];exact(b,_,Ŗ,r.oU f,.inl bC,d2.1.ext r (Ext.add f),d2.2.ext r (Ext.add f))
   .left
  .left
 .left
theorem qe:∀{ws:ϐ}{U:Ł (cp×V)},U.map (λp=>kV p.1)=ws.map V.S->U.map (·.1)=ws.map Ü|[],[],_=>Ŗ|[],_::_,e=>by simp at e|_::_,[],e=>by simp at e|w::ws,p::U,e=>by rw[cF,cF]at e;injection e with c f;rw[cF,cF,qe f];induction d:p.1 with|inl i=>rw[d]at c;cases c|inr x=>rw[d]at c;cases c;rfl
end
set_option genInjectivity false
structure Gm where
 fn:Ń->Ct
 fok:Ϙ
 gl:Ń->Pv
 Yq:Ϙ
 ma:Ń->Ct
 iok:Ϙ
 tab:Ń->Ä->Ő (Ł Ä)tok:Ϙ
 IK:Ϙ
structure Sx where
 N:ϐ
 sc:Í
 gR:Ń->Ä
 gnm:Ń->Ä
 tnm:Ń->Ä
 sH:Ń->Ä
 fl:Ń->ϐ
 bok:ϐ
 Δ:Ϙ
 xok:Ϙ
 fr:Þ
 cm:Þ
def V'(sc:Í)(x:Ä):Þ:=match sc.names.lookup x with|O .local=>J|O .cell=>J|O .free=>J|_=>a5
def R5(sc:Í)(x:Ä):Þ:=match sc.names.lookup x with|O .local=>J|O .cell=>J|_=>a5
def zk(sc:Í)(x:Ä):Þ:=match sc.names.lookup x with|O .local=>J|_=>a5
def Yo(sc:Í)(x:Ä):Þ:=match sc.names.lookup x with|O .globalImplicit=>J|_=>a5
def Sb(x:Ä):Þ:=cC x "__debug__"||cC x "__classdict__"||cC x "__name__"
def qa(x:Ä):ϐ->Þ|[]=>a5|y::r=>cC x y||qa x r
def HL(x:Ä):Ń->ϐ->Þ|0,y::_=>cC x y|n+1,_::r=>HL x n r|_,[]=>a5
theorem j8:∀{l:ϐ},qa x l=J->x∈l
 |[],h=>by cases h|y::r,h=>by
  rcases(jj _ _).mp h with h|h;.rw[bQ.mp h];rwa[aF]
  .rwa[aE _ (j8 h)]
theorem kb:∀{n:Ń}{l:ϐ},HL x n l=J->l[n]?=O x|0,y::_,h=>by rw[bQ.mp h];rfl|n+1,_::r,h=>by rw[η];rwa[kb h]|0,[],h=>by cases h|_+1,[],h=>by cases h
def ko{α:Type}(o:Ő α)(f:α->Þ):Þ:=match o with|O a=>f a|ao=>a5
def cO(h:ko o f):∃a,o=O a/\f a=true:=by induction o with|a=>cases h|c a=>exact(a,Ŗ,h)
def ag(h:(a&&b)):a/\b=true:=(aM _ _).mp h
def iE(h:(!a)):a=false:=()
def l1{α:Type}:Ł α->Ő α|[a]=>O a|_=>ao
def fw:∀{l:Ł α}{a:α},l1 l=O a->l=[a]|[],_,h=>by cases h|[_],_,h=>by cases h;rfl|_::_::_,_,h=>by cases h
def l2{α:Type}:Ł α->Ő (α×α)|[a,b]=>O (a,b)|_=>ao
def vg:∀{l:Ł α}{p:α×α},l2 l=O p->l=[p.1,p.2]|[],_,h=>by cases h|[_],_,h=>by cases h|[_,_],_,h=>by cases h;rfl|_::_::_::_,_,h=>by cases h
def lc{α:Type}:Ł α->Ő (α×Ł α)|a::r=>O (a,r)|[]=>ao
def A3:∀{l:Ł α}{p:α×Ł α},lc l=O p->l=p.1::p.2|[],_,h=>by cases h|_::_,_,h=>by cases h;rfl
def wt{α:Type}:Ł α->Þ|[]=>J|_=>a5
def fX(h:wt l):l=[]:=by induction l<;>first|rfl|cases h
def sU(n m:Ń)(k:n=m->Þ):Þ:=match h:Ì n m with|J=>k (aX h)|a5=>a5
def eD(h:sU n m k):∃e,k e=true:=by
 delta sU at h;split at h;.exact(_,h)
 .cases h
def xV(f:Ä->Õ->Þ)(x:Å):Þ:=sU _ 23 λe=>Expr.Name.elim x e f
@[elab_as_elim]def jM{P:Å->ß}(h:xV f x)(q:∀n p,f n p=J->P (.Name n p)):P x:=(eD h).elim λe h=>Expr.Name.elim x e (λn p _ h=>q n p h) e h
def O'(f:Å->Operator->Å->Õ->Þ)(x:Å):Þ:=sU _ 2 λe=>Expr.BinOp.elim x e f
@[elab_as_elim]def UN{P:Å->ß}(h:O' f x)(q:∀a o b p,f a o b p=J->P (.BinOp a o b p)):P x:=(eD h).elim λe h=>Expr.BinOp.elim x e (λa o b p _ h=>q a o b p h) e h
def Rq(f:UnaryOp->Å->Õ->Þ)(x:Å):Þ:=sU _ 3 λe=>Expr.UnaryOp.elim x e f
@[elab_as_elim]def P'{P:Å->ß}(h:Rq f x)(q:∀o a p,f o a p=J->P (.UnaryOp o a p)):P x:=(eD h).elim λe h=>Expr.UnaryOp.elim x e (λo a p _ h=>q o a p h) e h
def UO(f:Å->Ł CmpOp->Ł Å->Õ->Þ)(x:Å):Þ:=sU _ 15 λe=>Expr.Compare.elim x e f
@[elab_as_elim]def zN{P:Å->ß}(h:UO f x)(q:∀a o b p,f a o b p=J->P (.Compare a o b p)):P x:=(eD h).elim λe h=>Expr.Compare.elim x e (λa o b p _ h=>q a o b p h) e h
def OC(f:BoolOp->Ł Å->Õ->Þ)(x:Å):Þ:=sU _ 0 λe=>Expr.BoolOp.elim x e f
@[elab_as_elim]def BF{P:Å->ß}(h:OC f x)(q:∀o es p,f o es p=J->P (.BoolOp o es p)):P x:=(eD h).elim λe h=>Expr.BoolOp.elim x e (λo es p _ h=>q o es p h) e h
def Yu(f:Å->Å->Å->Õ->Þ)(x:Å):Þ:=sU _ 5 λe=>Expr.IfExp.elim x e f
@[elab_as_elim]def US{P:Å->ß}(h:Yu f x)(q:∀a b c p,f a b c p=J->P (.IfExp a b c p)):P x:=(eD h).elim λe h=>Expr.IfExp.elim x e (λa b c p _ h=>q a b c p h) e h
def IS(f:Ł Å->Ń->Õ->Þ)(x:Å):Þ:=sU _ 25 λe=>Expr.Tuple.elim x e f
@[elab_as_elim]def nL{P:Å->ß}(h:IS f x)(q:∀es k p,f es k p=J->P (.Tuple es k p)):P x:=(eD h).elim λe h=>Expr.Tuple.elim x e (λes k p _ h=>q es k p h) e h
def K'(f:Ł Å->Õ->Þ)(x:Å):Þ:=sU _ 24 λe=>Expr.List.elim x e f
@[elab_as_elim]def zO{P:Å->ß}(h:K' f x)(q:∀es p,f es p=J->P (.List es p)):P x:=(eD h).elim λe h=>Expr.List.elim x e (λes p _ h=>q es p h) e h
def EC(f:Å->Å->Õ->Þ)(x:Å):Þ:=sU _ 21 λe=>Expr.Subscript.elim x e f
@[elab_as_elim]def nK{P:Å->ß}(h:EC f x)(q:∀a i p,f a i p=J->P (.Subscript a i p)):P x:=(eD h).elim λe h=>Expr.Subscript.elim x e (λa i p _ h=>q a i p h) e h
def WI(f:Ő Å->Ő Å->Ő Å->Õ->Þ)(x:Å):Þ:=sU _ 26 λe=>Expr.Slice.elim x e f
@[elab_as_elim]def UU{P:Å->ß}(h:WI f x)(q:∀a b c p,f a b c p=J->P (.Slice a b c p)):P x:=(eD h).elim λe h=>Expr.Slice.elim x e (λa b c p _ h=>q a b c p h) e h
def jL(f:Å->Ł Å->Ł g5->Õ->Þ)(x:Å):Þ:=sU _ 16 λe=>Expr.Call.elim x e f
@[elab_as_elim]def fe{P:Å->ß}(h:jL F x)(q:∀f es k p,F f es k p=J->P (.Call f es k p)):P x:=(eD h).elim λe h=>Expr.Call.elim x e (λf es k p _ h=>q f es k p h) e h
def IQ(f:Å->Ä->Õ->Þ)(x:Å):Þ:=sU _ 20 λe=>Expr.Attribute.elim x e f
@[elab_as_elim]def qw{P:Å->ß}(h:IQ F x)(q:∀o f p,F o f p=J->P (.Attribute o f p)):P x:=(eD h).elim λe h=>Expr.Attribute.elim x e (λo f p _ h=>q o f p h) e h
def OD(f:Å->Ł Comprehension->Í->Õ->Þ)(x:Å):Þ:=sU _ 8 λe=>Expr.ListComp.elim x e f
@[elab_as_elim]def OE{P:Å->ß}(h:OD f x)(q:∀e g sc p,f e g sc p=J->P (.ListComp e g sc p)):P x:=(eD h).elim λe h=>Expr.ListComp.elim x e (λe g sc p _ h=>q e g sc p h) e h
def Ą(f:Ł (Ő Å)->Ł Å->Õ->Þ)(x:Å):Þ:=sU _ 6 λe=>Expr.Dict.elim x e f
@[elab_as_elim]def ui{P:Å->ß}(h:Ą f x)(q:∀k vs p,f k vs p=J->P (.Dict k vs p)):P x:=(eD h).elim λe h=>Expr.Dict.elim x e (λk vs p _ h=>q k vs p h) e h
def UP(f:Ğ->Ń->Õ->Þ)(x:Å):Þ:=sU _ 19 λe=>Expr.Constant.elim x e f
@[elab_as_elim]def uh{P:Å->ß}(h:UP f x)(q:∀c k p,f c k p=J->P (.Constant c k p)):P x:=(eD h).elim λe h=>Expr.Constant.elim x e (λc k p _ h=>q c k p h) e h
def VJ(S:Sx)(i:Ń):Å->Þ:=xV λx _=>HL x i S.N&&(V' S.sc x&&!Sb x)
def AV(S:Sx)(n:Ä):Å->Þ:=xV λx _=>cC x n&&(Yo S.sc x&&!Sb x)
def nv:Pv->Ğ->Þ
 |.I i,c=>match c with|.int j=>Đ (i=j)|_=>a5
 |.B i,c=>match c with|.bool j=>i==j|_=>a5
 |.S i,c=>match c with|.str j=>cC i j|_=>a5
 |.N,c=>match c with|.none=>J|_=>a5
 |_,_=>a5
def Xv(p:Pv):Å->Þ:=UP λc _ _=>nv p c
def nq(x:Å):Þ:=!Nat.beq x.ctorIdx 7
def A9(x:Å):Þ:=!(Ì x.ctorIdx 26||Ì x.ctorIdx 25)
def Mw(x:Å):Þ:=!jL (λ_ e _ _=>wt e) x
def aju(x:Å):Þ:=!(Ì x.ctorIdx 0||(Ì x.ctorIdx 3||(Ì x.ctorIdx 15||Ì x.ctorIdx 5)))
def W0(w:cc)(K:Æ)(i:Ń)(ad:À)(t:Ä->Ő ϐ):ß:=match Ë 50 i with|a5=>B8 w K ad t|J=>GZ w K ad t
def yb(w:cc)(K:Æ)(m:c3)(g:Ń->Ä)(i:Ń)(ad:À)(t:Ä->Ő ϐ):ß:=match Ë 100 i with|a5=>W0 w K i ad t|J=>sA w K m g ad t
def FS(c:Þ)(P:ci)(w:cc)(K:Æ)(m:c3)(b:È)(k:Ń)(x:Ä)(ps:ϐ)(sp:Sp):ß:=match c with|J=>nY P w K m b k x ps sp|a5=>sy P w K m b k x ps sp
def JD(c:Þ)(P:ci)(w:cc)(K:Æ)(m:c3)(b:È)(k:Ń)(C:À)(x:Ä)(ps:ϐ)(sp:Sp):ß:=match c with|J=>x8 P w K m b (vP P w) k C x ps sp|a5=>qN P w K m b k C x ps sp
def Ag(P:ci)(w:cc)(K:Æ)(m:c3)(b:È)(k:Ń)(nm:Ä)(C:Ń->À)(c:Ń)(ps:ϐ)(sp:Sp):ß:=match Ë 80 c with|a5=>lF P w K m b k nm (C c) ps sp|J=>match Ë 90 c with|a5=>lF P w K m b k nm (C (c-80)) ps sp|J=>Po P w K m b k nm sp
def ky(a:Þ)(P:ci)(w:cc)(K:Æ)(m:c3)(b:È)(k:Ń)(nm:Ä)(C:Ń->À)(c:Ń)(ps:ϐ)(sp:Sp):ß:=match Ë 100 c with|a5=>Ag P w K m b k nm C c ps sp|J=>JD a P w K m b k (C (c/100-1)) nm ps sp
def ō{i:Ń}(h:Ë 50 i=a5):Ë 100 i=false:=by rw[bF]at h⊢;rwa[λz=>h (Aa.mpr (aq ⋯ (Aa.mp z)))]
def Q_{K:Æ}{m:Ä->Ő _}{i:Ń}{ad:À}(h:Ë 50 i=a5)(T:yb w K m g i ad tab):B8 w K ad tab:=by delta yb W0 at T;rw[ō h,h]at T;rwa[T]
def R_{K:Æ}{m:Ä->Ő _}{i:Ń}{ad:À}(h:Ë 50 i)(H:Ë 100 i=a5)(T:yb w K m g i ad tab):GZ w K ad tab:=by delta yb W0 at T;rw[H,h]at T;rwa[T]
def Ol{K:Æ}{m:Ä->Ő _}{i:Ń}{ad:À}(h:Ë 100 i)(T:yb w K m g i ad tab):sA w K m g ad tab:=by simp only[yb,h]at T;rwa[T]
def Ck{b i:Ń}(ab:a<=b)(h:Ë a i=a5):Ë b i=false:=by rw[bF]at h⊢;rwa[λz=>h (Aa.mpr (aq ab (Aa.mp z)))]
def Lu{K:Æ}{c:Ń}(h:Ë 80 c=a5)(T:ky cm P w K mg base k nm ca c ps sp):lF P w K mg base k nm (ca c) ps sp:=by delta ky Ag at T;rw[Ck ⋯ h,h]at T;rwa[T]
def FH{K:Æ}{c:Ń}(h:Ë 80 c=a5)(T:lF P w K mg base k nm (ca c) ps sp):ky cm P w K mg base k nm ca c ps sp:=by delta ky Ag;rw[Ck ⋯ h,h];rwa[T]
def YJ{K:Æ}{c:Ń}(h:Ë 100 c)(T:ky cm P w K mg base k nm ca c ps sp):JD cm P w K mg base k (ca (c/100-1)) nm ps sp:=by simp only[ky,h]at T;rwa[T]
theorem JD.mono{K:Æ}(T:JD cm P w K mg base j C nm ps sp)(h:j<=k):JD cm P w K mg base k C nm ps sp:=by induction cm with|d=>rwa[x8.mono T h]|e=>rwa[qN.mono T h]
theorem Ag.mono{K:Æ}(T:Ag P w K mg base j nm ca c ps sp)(h:j<=k):Ag P w K mg base k nm ca c ps sp:=by
 delta Ag at*;split at T;.rwa[T.mono h]
 .split at T;.rwa[T.mono h]
  .rwa[T.mono h]
theorem ky.mono{K:Æ}(T:ky cm P w K mg base j nm ca c ps sp)(h:j<=k):ky cm P w K mg base k nm ca c ps sp:=by
 delta ky at*;split at T;.rwa[T.mono h]
 .rwa[T.mono h]
def JH(K:Æ)(c:Ń)(C:À):ß:=match Ì c 999 with|a5=>JJ K C|J=>GX K C
def Yb{K:Æ}{c:Ń}(h:Ë 999 c=a5)(T:JH K c C):JJ K C:=by
 let e:Ì c 999=false:=by induction q:Ì c 999 with|e=>rfl|d=>left
 simp only[JH,e]at T;rwa[T]
structure lZ(Γ:Gm)(t:Tb)(k:Ń)(S:Sx)(X:Cx)(E:XK):ß where
 hN:X.N=S.N
 hs:X.env.scope=S.sc
 hc:S.cm=J->X.calm/\X.A.handled=ao
 hq:Hq X
 hp:iq (vP X.prog X.w) X E
 hr:gO (k+1) X.A
 bl:∀x∈S.bok,X.mg x=ao
 gR:S.gR=t.gR
 fn:∀i∈Γ.fok,∃ps,FS S.cm X.prog X.w X.K X.mg X.base (k+1) (t.gR i) ps (dI 'X' (Γ.fn i))gl:∀i∈Γ.Yq,∃u v,X.mg (S.gnm i)=O u/\RelV v u/\∀G M H,eg ('X'.z G) M H (Γ.gl i) v
 tab:∀i∈Γ.tok,∃ad,X.mg (S.tnm i)=O (.ref ad)/\yb X.w X.K X.mg t.gR i ad (Γ.tab i)cls:∀c∈S.Δ,rL X.K t c/\t.fl c=S.fl c
 ma:∀c∈Γ.iok,∃ps,ky S.cm X.prog X.w X.K X.mg X.base k (S.sH c) t.ca c ps (dI 'X' (Γ.ma c))fx:S.fr=J->B4 X/\gN X E
 fu:∀i∈Γ.IK,∃ps,sy X.prog X.w X.K X.mg X.base (k+1) (t.gR i) ps (dI 'X' (Γ.fn i))
def lZ.hu(o:lZ Γ t k S X E):X.A.units+64<Ï:=o.hr.units
def lZ.Rx(o:lZ Γ t k S X E):X.A.units+1<Ï:=o.hr.F'
theorem lZ.room(o:lZ Γ t k S X E)(h:S.cm):fJ (k+1) X.A:=o.hr.room (o.hc h).2
def lZ.fnX(o:lZ Γ t k S X E)(h:S.cm):∀i∈Γ.fok,∃ps,nY X.prog X.w X.K X.mg X.base (k+1) (t.gR i) ps (dI 'X' (Γ.fn i)):=λi H=>by let(ps,D):=o.fn i H;rw[h]at D;exact(ps,D)
theorem lZ.runs(o:lZ Γ t k S X E)(h:i∈Γ.fok):∃f,X.mg (t.gR i)=O (.ref f)/\keepIn X.K (.ref f)/\gJ X f (dI 'X' (Γ.fn i)) [] E:=by let(ps,D):=o.fn i h;induction H:S.cm with|d=>rw[H]at D;let(f,d,F,m,a,b):=nY.ex D;exact(f,m,a,F.runs (o.room H) b .nil o.hp)|e=>rw[H]at D;let(f,d,F,m,a,b):=sy.ex D;exact(f,m,a,F.runs o.hr o.hq b .nil)
def lZ.Zh(o:lZ Γ t k S X E)(h:c∈Γ.iok)(H:Ë 100 c):∃f,ya X.K (t.ca (c/100-1)) (S.sH c) f/\gJ X f (dI 'X' (Γ.ma c)) [] E:=by let(ps,D):=o.ma c h;replace D:=(YJ H D).mono (bt k);induction a:S.cm with|d=>rw[a]at D;let(f,d,F,m,H):=x8.ex D;exact(f,m,F.runs (o.room a) H .nil o.hp)|e=>rw[a]at D;let(f,d,F,m,H):=qN.ex D;exact(f,m,F.runs o.hr o.hq H .nil)
def DM(h:Sb x=a5):(x=="__debug__")=a5/\(x=="__classdict__")=a5/\x≠"__name__":=by delta Sb at h;simp only[L5]at h;rw[nJ,nJ];exact(h.1.1,h.1.2,λz=>by rw[bQ.mpr z]at h;rwa[é h.2])
def OG(h:V' sc x):ο sc x:=by
 delta V' at h;split at h;.ext e;rwa[.inl e]
 .ext e;rwa[.inr (.inl e)]
 .ext e;rwa[.inr (.inr e)]
 .cases h
def DC(h:R5 sc x):L2.Loc sc x:=by
 delta R5 at h;split at h;.ext e;rwa[.inl e]
 .ext e;rwa[.inr e]
 .cases h
def vp(h:zk sc x):sc.names.lookup x=O .local:=by
 delta zk at h;split at h;.done
 .cases h
def Yp(o:lZ Γ t k S X E)(h:Yo S.sc x):Gl X x:=by
 delta Yo at h;split at h;.ext e;show X.env.scope.names.lookup x=_;rw[o.hs];rwa[e]
 .cases h
def fY(o:lZ Γ t k S X E)(h:AV S n x):∃pos,x=.Name n pos/\Gl X n/\(n=="__debug__")=a5/\n≠"__name__":=by erw[jM h λy p h=>?_];let(H,h):=ag h;let(a,b):=ag h;let e1:=bQ.mp H;subst e1;let z:=DM (iE b);exact(p,Ŗ,Yp o a,z.1,z.2.2)
def YW(o:lZ Γ t k S X E)(h:VJ S i x):PE X x (BB i):=by erw[jM h λy p h=>?_];let(H,h):=ag h;let(a,b):=ag h;let z:=DM (iE b);rwa[zp (by rw[o.hN];rwa[kb H]) (by rw[o.hs];rwa[OG a]) z.1 z.2.1]
def Xw(h:Xv p x):PE X x (de 'X' E (sC p)):=by
 erw[uh h λc j q h=>?_];cases p<;>first|done|skip
 case N=>induction c<;>first|done|rwa[MW ZJ λ_ _ _=>by rfl]
 case B=>induction c<;>first|done|(rw[GQ h];rwa[MW ĺ λ_ _ _=>by rfl])
 case I=>induction c<;>first|done|(rw[bZ h];rwa[MW MQ λ_ _ _=>by rfl])
 case S=>induction c<;>first|done|(rw[bQ.mp h];rwa[MW MU λ_ _ _=>by rfl])
def zc(h:nq b):hX o b=false:=by cases b<;>first|rfl|cases h
def yT(h:A9 b):lH b:=by intro o i;cases b<;>first|rfl|cases h
def lJ(h:Mw a):ge a f env w=w:=by
 cases a<;>first|rfl|skip
 ext F args K pos;cases args with|f=>cases h|g _ _=>cases F<;>rfl
def U'(h:aju e)(H:PE X e (de 'X' E A)):PT X e (k9 'X' E A):=by cases e<;>first|rwa[SY H λ_=>Ŗ]|cases h
variable(Γ:Gm)(t:Tb)
structure Em where
 m:Sm
 ck:Sx->Å->Þ
 pe:∀{k S X E x},lZ Γ t k S X E->ck S x->PE X x (de 'X' E m)
structure Tm where
 m:Sm
 ck:Sx->Å->Þ
 pt:∀{k S X E x},lZ Γ t k S X E->ck S x->PT X x (k9 'X' E m)
structure Bm(op:BoolOp)where
 m:Sm
 ck:Sx->Ł Å->Þ
 pe:∀{k S X E xs},lZ Γ t k S X E->ck S xs->∀pos,PE X (.BoolOp op xs pos) (de 'X' E m)
structure Wm(op:BoolOp)where
 m:Sm
 ck:Sx->Ł Å->Þ
 pw:∀{k S X E xs},lZ Γ t k S X E->ck S xs->∀pos,PW X (.BoolOp op xs pos) (k9 'X' E m)
structure Am where
 m:Sm
 ck:Sx->Ł Å->Þ
 pa:∀{k S X E xs},lZ Γ t k S X E->ck S xs->PA X xs (f7 'X' E m)/\xs.all cL=J
structure Jm where
 m:Sm
 ck:Sx->Å->Å->Þ
 pi:∀{k S X E tx x},lZ Γ t k S X E->ck S tx x->PI X tx x (wJ 'X' E (C5 m))
end F
namespace F
open L2
def MC(n:Þ):O1:=λx h Q=>match x with|.p a=>Q (.p (.B (ut n (VH a)))) h|.r _=>Q (.p (.B n)) h
structure Bo where
 o:O2
 op:Operator
 ok:∀t X,∃r,mm X (binaryOp op) r/\jw 'X' r o
def eB:Bo:=(_,_,λ_ _=>(_,Sh,Rz))
def Ap:Bo:=(_,_,λ_ _=>(_,ZC,RK))
def Ao:Bo:=(_,_,λ_ _=>(_,Sk,LK))
def Ce:Bo:=(_,_,λ_ _=>(_,Sj,RC))
def sF:Bo:=(_,_,λ_ _=>(_,Zw,RH))
structure Co where
 o:O2
 op:CmpOp
 ok:∀t X,X.A.units+64<Ï->∃r,mm X (compareOp op) r/\jw 'X' r o
def ki:Co:=(ā,.Eq,λ_ _ hu=>(_,Zu hu,YN))
def s0:Co:=(WR,_,λ_ _ hu=>(_,Zz hu,YU))
def Jb:Co:=(ě,.Lt,λ_ _ _=>(_,ŭ,YT))
def zU:Co:=(YD,.Gt,λ_ _ _=>(_,Ů,YQ))
def la:Co:=(I_,_,λ_ _ _=>(_,ϒ,YO))
def Fx:Co:=(_,.In,λ_ _ _=>(_,HR,YR))
section
variable{Γ:Gm}{t:Tb}
namespace Em
def v(i:Ń):Em Γ t:=(_,λS x=>VJ S i x,λo h=>aiN (YW o h))
def c(p:Pv):Em Γ t:=(_,λ_ x=>Xv p x,λ_ h=>Xw h)
abbrev i(n:Î):Em Γ t:=c (.I n)
abbrev s(z:Ä):Em Γ t:=c (.S z)
instance kT{n:Ń}:OfNat (Em Γ t) n:=⟨.v n⟩
def ofV:(OfNat.ofNat n:Em Γ t)=.v n:=rfl
def g(i:Ń):Em Γ t:=(_,λS x=>je i Γ.Yq&&AV S (S.gnm i) x,λo h=>by let(H,h):=ag h;let(pos,rfl,a,d,_):=fY o h;let(u,v,m,r,I):=o.gl i (cV.mp H);rwa[MW (tY a m r d) I])
def b2(p:Bo)(A B:Em Γ t):Em Γ t:=(_,λS=>O' λa o b _=>Đ (o=p.op)&&(A.ck S a&&B.ck S b),λ{k S X E x}o h=>by erw[UN h λa f b q h=>?_];let(H,h):=ag h;let(c,d):=ag h;rw[bZ H];let(r,R,e):=p.ok t X;rwa[ő R e (A.pe o c) (B.pe o d)])
def neg(A:Em Γ t):Em Γ t:=(_,λS=>Rq λo a _=>Đ (o=.USub)&&A.ck S a,λo h=>by erw[P' h λp a q h=>?_];let(H,h):=ag h;rw[bZ H];rwa[ĭ D' RJ (A.pe o h)])
end Em
def vu(S:Sx)(p:CmpOp)(A B:Em Γ t):Å->Þ:=UO λa os bs _=>ko (l1 os) λo=>ko (l1 bs) λb=>Đ (o=p)&&(nq b&&(A.ck S a&&B.ck S b))
@[elab_as_elim]def Cq{B:Em Γ t}{P:Å->ß}(h:vu S o A B x)(k:∀a b p,hX o b=a5->A.ck S a->B.ck S b->P (.Compare a [o] [b] p)):P x:=by erw[zN h λa os bs q h=>?_];let(c,e,h):=cO h;let(b,E,h):=cO h;let(H,h):=ag h;let(d,h):=ag h;let(f,g):=ag h;let e3:=bZ H;subst e3;rw[fw e,fw E];rwa[k a b q (zc d) f g]
def AC(n:Þ):CmpOp:=bif n then .IsNot else .Is
def Č(S:Sx)(n:Þ)(A:Em Γ t):Å->Þ:=UO λa os bs _=>ko (l1 os) λo=>ko (l1 bs) λb=>Đ (o=AC n)&&(UP (λc _ _=>nv .N c) b&&A.ck S a)
def PM(h:nv .N c):c=.none:=by induction c<;>first|rfl|cases h
@[elab_as_elim]def RL{A:Em Γ t}{P:Å->ß}(h:Č S n A x)(k:∀a j p q,A.ck S a=J->P (.Compare a [AC n] [.Constant .none j p] q)):P x:=by erw[zN h λa os bs q h=>?_];let(o,e,h):=cO h;let(b,E,h):=cO h;let(d,h):=ag h;let(H,f):=ag h;rw[fw e,fw E,bZ d];erw[uh H λc j p H=>?_];rw[PM H];rwa[k a j p q f]
def YM(c:PE X x (de 'X' E A)):PC X (AC g) x (.Constant .none j p) (de 'X' E (s1 (MC g) A)):=by
 let key:∀{τ H b},de 'X' E (s1 (MC g) A) τ H b->de 'X' E A τ H λv H1=>b (.B (g !=Đ (v=.jn))) H1:=by intro τ H b (G,M,σ,h,l,Q,k,q);erw[(G,M,σ,h,l,_,(k.rel,k.env,λd h1 m H1 v f R i a=>?_,k.exc),q)];induction d with|r n=>let(ad,_,rfl):=i;erw[k.out _ h1 m H1 _ f R ?_ a];rw[cq (λz=>by cases z),Bool.bne_false];rwa[oZ]|p d=>
   let a:Q _ h1:=a;rw[DK]at a;erw[k.out _ h1 m H1 _ f R ?_ a];let:VH d=Đ (v=.jn):=by
    cases d;case N=>cases i;rfl
    case B=>cases i;rfl
    case I=>cases i;rfl
    case S=>cases i;rfl
    case ty=>cases i;rfl
    case T=>let(_,_,e,_):=i;rw[e];rfl
    case L=>let(_,_,e,_):=i;rw[e];rfl
    case scr=>let(_,_,e,_):=i;rw[e];rfl
    case dct=>let(_,_,e,_):=i;rw[e];rfl
    case obj=>let(_,_,_,e,_):=i;rw[e];rfl
    case fn=>let(_,_,e):=i;rw[e];rfl
    case key=>let(_,e,_):=i;rw[e];rfl
    case wld=>let(_,_,e,_):=i;rw[e];rfl
   rw[this];rwa[oZ]
 induction g with|d=>rwa[λP s σ H Q I q=>Sq c _ s σ H Q I (by let:=key q;simp only[pD]at this;rwa[this])]|e=>rwa[λP s σ H Q I q=>ZG c _ s σ H Q I (by let:=key q;simp only[nN]at this;rwa[this])]
def DQ(hu:X.A.units+1<Ï)(h:PE X x (de 'X' E A))(H:PE X y (de 'X' E B)):PC X (bif neg then .NotIn else .In) x y (de 'X' E (s2 (HM neg) A B)):=by induction neg with|d=>rwa[DR hu h H]|e=>rwa[So hu h H]
namespace Em
def cmp(c:Co)(A B:Em Γ t):Em Γ t:=(_,λS=>vu S _ A B,λ{k S X E x}o h=>by erw[Cq h λa b p H d e=>?_];let(r,R,f):=c.ok t X o.hu;rwa[ZN R f (A.pe o d) (B.pe o e) H])
end Em
namespace Tm
def val(A:Em Γ t):Tm Γ t:=(A.m,_,λo h=>U' (ag h).1 (A.pe o (ag h).2))
def cmp(c:Co)(A B:Em Γ t):Tm Γ t:=(_,λS=>vu S _ A B,λ{k S X E x}o h=>by erw[Cq h λa b p H d e=>?_];let(r,R,f):=c.ok t X o.hu;rwa[SW R f (A.pe o d) (B.pe o e) H])
def isN(n:Þ)(A:Em Γ t):Tm Γ t:=(_,λS=>Č S n A,λo h=>by rwa[RL h λa j p q H=>Nd (YM (A.pe o H)) (zc Ŗ)])
def din(n:Þ)(A B:Em Γ t):Tm Γ t:=(s2 (HM n) A.m B.m,λS=>vu S _ A B,λo h=>by rwa[Cq h λa b p H c d=>Nd (DQ o.Rx (A.pe o c) (B.pe o d)) H])
end Tm
namespace Wm
def a1(A:Tm Γ t):Wm Γ t .And:=(A.m,λS x=>ko (l1 x) _,λo h pos=>by let(a,e,h):=cO h;rw[fw e];rwa[TC (A.pt o h)])
def o1(A:Tm Γ t):Wm Γ t .Or:=(A.m,λS x=>ko (l1 x) _,λo h pos=>by let(a,e,h):=cO h;rw[fw e];rwa[f_ (A.pt o h)])
def l2c(xs:Ł Å)(f:Å->Ł Å->Þ):Þ:=ko (lc xs) λp=>!wt p.2&&f p.1 p.2
@[elab_as_elim]def Dy{P:Ł _->ß}(h:l2c xs f)(k:∀a b r,f a (b::r)=J->P (a::b::r)):P xs:=by obtain⟨⟨a,r⟩,e,h⟩:=cO h;rw[A3 e];induction r with|f=>done|g b r=>rwa[k a b r h]
def ac(A:Tm Γ t)(B:Wm Γ t .And):Wm Γ t .And:=(_,λS x=>l2c x λa r=>A.ck S a&&B.ck S r,λo h pos=>by rwa[Dy h λa b r h=>(e_ (A.pt o (ag h).1) (B.pw o (ag h).2 pos)).imp λ_ _ _=>Oh])
def oc(A:Tm Γ t)(B:Wm Γ t .Or):Wm Γ t .Or:=(_,λS x=>l2c x λa r=>A.ck S a&&B.ck S r,λo h pos=>by rwa[Dy h λa b r h=>(adu (A.pt o (ag h).1) (B.pw o (ag h).2 pos)).imp λ_ _ _=>Ut])
end Wm
def Tm.bo{a:BoolOp}(B:Wm Γ t a):Tm Γ t:=(B.m,λS=>OC λo x _=>Đ (o=a)&&B.ck S x,λo h=>by erw[BF h λb x p h=>?_];let(H,h):=ag h;rw[bZ H];exact(B.pw o h p).pt)
namespace Bm
def a1(A:Em Γ t):Bm Γ t .And:=(A.m,λS x=>ko (l1 x) _,λo h pos=>by let(a,e,h):=cO h;rw[fw e];rwa[ZL (A.pe o h)])
def ac(A:Em Γ t)(B:Bm Γ t .And):Bm Γ t .And:=(_,λS x=>Wm.l2c x λa r=>A.ck S a&&B.ck S r,λo h pos=>by rwa[Wm.Dy h λa b r h=>(ZH (A.pe o (ag h).1) (B.pe o (ag h).2 pos)).imp λ_ _ _=>Uu])
end Bm
namespace Em
def bo{a:BoolOp}(B:Bm Γ t a):Em Γ t:=(B.m,λS=>OC λo x _=>Đ (o=a)&&B.ck S x,λo h=>by erw[BF h λb x p h=>?_];let(H,h):=ag h;rw[bZ H];rwa[B.pe o h p])
def O7(T:Tm Γ t)(A B:Em Γ t):Em Γ t:=(_,λS=>Yu _,λo h=>by erw[US h λa b c p h=>?_];let(H,h):=ag h;let(d,e):=ag h;rwa[ZR (T.pt o H) (A.pe o d) (B.pe o e)])
end Em
namespace Am
def nil:Am Γ t:=(_,λ_ x=>wt x,λ_ h=>by rw[fX h];exact(SJ,Ŗ))
def cons(A:Em Γ t)(B:Am Γ t):Am Γ t:=(_,λS x=>ko (lc x) λp=>cL p.1&&(A.ck S p.1&&B.ck S p.2),λo h=>by obtain⟨⟨a,r⟩,e,h⟩:=cO h;let(H,h):=ag h;let(b,c):=ag h;rw[A3 e];let(p,q):=B.pa o c;exact(M8 (A.pe o b) p H,by grind))
abbrev u(A:Em Γ t):Am Γ t:=cons A nil
abbrev u2(A B:Em Γ t):Am Γ t:=cons A (u B)
abbrev u3(A B C:Em Γ t):Am Γ t:=cons A (u2 B C)
abbrev u4(A B C D:Em Γ t):Am Γ t:=cons A (u3 B C D)
abbrev u5(A B C D E:Em Γ t):Am Γ t:=cons A (u4 B C D E)
end Am
end
end F
namespace F
open L2
def Xh:eU "max"=O (.builtin "max"):=by rfl
def yg:eU "dict"=O (.type "dict"):=rfl
def MY(R:gJ X f (dI 'X' C) [] E)(m:X.mg x=O (.ref f))(k:keepIn X.K (.ref f))(g:Gl X x)(b:PA X (a::r) (f7 'X' E A))(c:(x=="__debug__")=a5)(d:(a::r).all cL):PE X (.Call (.Name x p) (a::r) [] pos) (de 'X' E (eX ρ C A)):=by
 rw[cw,aM]at d;erw[(Bc R g m k b c (cA d.1) (fB d.2)).imp λτ H Q h=>?_];let e:xQ (dI 'X' C) [] E (f7 'X' E A)=BA (dI 'X' C) E (f7 'X' E A):=by delta xQ BA;simp only[aV]
 rw[e];rwa[Oe h]
structure Bi where
 o:ON
 nm:Ä
 cm:Þ
 ok:∀{t X E A e es p pos},(cm=J->X.calm=J)->Gl X nm->X.mg nm=ao->PA X (e::es) (f7 'X' E A)->nm≠"__name__"->(nm==("__debug__":Ä))=a5->(e::es).all cL->PE X (.Call (.Name nm p) (e::es) [] pos) (de 'X' E (sN o A))
def eT:Bi:=(_,_,a5,λ_ h H a hn k d=>MX G5 RF h H Xg a hn k d)
def sL:Bi:=(_,_,a5,λ_ h H a hn k d=>vt wb LN h H As a hn k d)
def YH:Bi:=(_,_,a5,λ_ h H a hn k d=>vt yk LJ h H PU a hn k d)
def Yc:Bi:=(_,_,a5,λ_ h H a hn k d=>vt G4 LI h H Xf a hn k d)
def C4:Bi:=(_,_,_,λh H m a hn k d=>MX (G7 (h Ŗ)) RG H m Xh a hn k d)
def ό:Bi:=(_,_,_,λh H m a hn k d=>vt (kE (h Ŗ)) RB H m yg a hn k d)
structure Mt where
 c:Ń
 o:OM
 nm:Ä
 ok:∀{t X E A R ob a rest cs dE},PE X ob (de 'X' E A)->PA X (a::rest) (f7 'X' E R)->ge ob nm X.env (Ê ob X.env)=Ê ob X.env->(a::rest).all cL->Á (a::rest)<30->(cs.endLine==dE.line)->PE X (.Call (.Attribute ob nm cs) (a::rest) [] dE) (de 'X' E (ia c o A R))
def oh:Mt:=(4,_,_,λh H b p l hn=>adm PySem.F.plainAttrs_list PySem.F.slot_list_append PySem.F.type_list_append xu RA h H b p l hn)
section
variable{Γ:Gm}{t:Tb}
def adl(h:PE X x (de 'X' E A))(H:PE X y (de 'X' E B))(hs:lH y):PE X (.Subscript x y pos) (de 'X' E (s2 zX A B)):=(Ga YX h H hs).imp λ_ _ _=>vH YS
structure Pm(Γ:Gm)(t:Tb)where
 m:Ő Sm
 ck:Sx->Ő Å->Þ
 po:∀{k S X E x},lZ Γ t k S X E->ck S x->PO X x (IF 'X' E m)
def Pm.no:Pm Γ t:=(_,λ_ x=>x.isNone,λ{k S X E x}_ h=>by induction x with|a=>rwa[Na]|c x=>grind)
def Pm.of(A:Em Γ t):Pm Γ t:=(_,λS x=>ko x _,λo h=>by let(a,e,h):=cO h;rw[e];rwa[Nb (A.pe o h)])
def FT:Ł g5->Þ|[]=>J|_=>a5
def iD(h:FT l):l=[]:=by induction l<;>first|rfl|cases h
def Xr(S:Sx)(n:Ä)(A:Am Γ t):Å->Þ:=jL λf e k _=>FT k&&(AV S n f&&(!wt e&&A.ck S e))
@[elab_as_elim]def qU{k S X E}{A:Am Γ t}{P:Å->ß}(o:lZ Γ t k S X E)(h:Xr S n A x)(q:∀p pos e es,Gl X n->(n=="__debug__")=a5->n≠"__name__"->PA X (e::es) (f7 'X' E A.m)->(e::es).all cL->P (.Call (.Name n p) (e::es) [] pos)):P x:=by erw[fe h λf es K pos h=>?_];let(H,h):=ag h;let(b,h):=ag h;let(p,e,g,d,hn):=fY o b;rw[iD H,e];induction es with|f=>done|g a es=>let(pa,l):=A.pa o h;rwa[q p pos a es g d hn pa l]
def PP(S:Sx)(A:Am Γ t):Å->Þ:=K' λe _=>A.ck S e
def xn(S:Sx)(A B:Em Γ t):Å->Þ:=EC λa i _=>A9 i&&(A.ck S a&&B.ck S i)
@[elab_as_elim]def NY{B:Em Γ t}{P:Å->ß}(h:xn S A B x)(q:∀a i p,lH i->A.ck S a->B.ck S i->P (.Subscript a i p)):P x:=by erw[nK h λa i p h=>?_];let(H,h):=ag h;let(b,c):=ag h;rwa[q a i p (yT H) b c]
def PL(h:nv (.I i) c):c=.int i:=by induction c<;>first|(rw[bZ h])|cases h
def i8(S:Sx)(nm:Ä)(o:Em Γ t)(f:Ł Å->Þ):Å->Þ:=jL λg e k q=>FT k&&(f e&&IQ (λb m p=>cC m nm&&(p.endLine==q.line&&(Mw b&&o.ck S b))) g)
@[elab_as_elim]def rq{o:Em Γ t}{P:Å->ß}(h:i8 S nm o f x)(q:∀b es cs d,f es=J->o.ck S b->Mw b->(cs.endLine==d.line)->P (.Call (.Attribute b nm cs) es [] d)):P x:=by erw[fe h λg es k r h=>?_];let(H,h):=ag h;let(a,h):=ag h;rw[iD H];erw[qw h λb m p h=>?_];let(c,h):=ag h;let(e,h):=ag h;let(i,j):=ag h;rw[bQ.mp c];rwa[q b es p r a j i e]
namespace Em
def tup(A:Am Γ t):Em Γ t:=(_,λS=>IS _,λo h=>nL h λ_ _ _ h=>ZY (A.pa o h).1)
def lst(A:Am Γ t):Em Γ t:=(_,λS=>PP S A,λo h=>zO h λ_ _ h=>ZV (A.pa o h).1)
def F5(A:Am Γ t):Em Γ t:=(_,λS=>PP S A,λo h=>zO h λ_ _ h=>ZU (A.pa o h).1)
def ix(A B:Em Γ t):Em Γ t:=(_,λS=>xn S A B,λo h=>NY h λ_ _ _ H a b=>adl (A.pe o a) (B.pe o b) H)
def rS(A B:Em Γ t):Em Γ t:=(_,λS=>xn S A B,λo h=>NY h λ_ _ _ H a b=>ZO o.Rx (A.pe o a) (B.pe o b) H)
def sl(A:Em Γ t)(L U:Pm Γ t):Em Γ t:=(_,λS=>EC λa i _=>A.ck S a&&WI (λl u s _=>s.isNone&&(L.ck S l&&U.ck S u)) i,λo h=>by erw[nK h λa i p h=>?_];let(H,h):=ag h;erw[UU h λl u s q h=>?_];let(d,h):=ag h;let(b,c):=ag h;induction s with|a=>rwa[ado (A.pe o H) (L.po o b) (U.po o c)]|c s=>grind)
def bi(b:Bi)(A:Am Γ t):Em Γ t:=(_,λS x=>(S.cm||!b.cm)&&(qa _ _&&Xr S _ A x),λo h=>qU o (ag (ag h).2).2 λ_ _ _ _ H d hn pa p=>b.ok (λz=>(o.hc ()).1) H (o.bl _ (j8 (ag (ag h).2).1)) pa hn d p)
def mt(m:Mt)(b:Em Γ t)(A:Am Γ t):Em Γ t:=(_,λS=>i8 S _ b λe=>Ñ _ 30&&(!wt e&&A.ck S e),λo h=>rq h λi e s D H c d f=>by let(G,g):=ag H;induction e with|f=>done|g a e=>let(pa,p):=A.pa o g;rwa[m.ok (b.pe o c) pa (lJ d) p (aI G) f])
def cl(i:Ń)(ρ:Ϙ)(A:Am Γ t):Em Γ t:=(eX ρ _ A.m,λS x=>je i _&&Xr S _ A x,λ{k S X E x}o h=>by let(f,H,a,R):=o.runs (cV.mp (ag h).1);rw[<-o.gR]at H;rwa[qU o (ag h).2 λ_ _ _ _ g d hn pa p=>MY R H a g pa d p])
def ti(i:Ń)(A:Em Γ t):Em Γ t:=(_,λS=>EC λf e _=>!Nat.ble 50 i&&je i _&&(AV S _ f&&(A9 e&&A.ck S e)),λo h=>by erw[nK h λf e p h=>?_];let(H,h):=ag h;let(a,h):=ag h;let(b,h):=ag h;let(P,E,g,d,hn):=fY o a;let(ad,m,T):=o.tab i (cV.mp (ag H).2);replace T:=Q_ (iE (ag H).1) T;rw[E];rwa[ZX T g m (A.pe o h) d (yT b)])
def fld(c j:Ń)(A:Em Γ t):Em Γ t:=(s1 (HN c j) A.m,λS=>IQ _,λo h=>by erw[qw h λa f p h=>?_];let(H,h):=ag h;let(b,h):=ag h;let(d,h):=ag h;let(C,e):=o.cls c (cV.mp H);rwa[ZP C (by rw[e];rwa[kb b]) (A.pe o h) (lJ d)])
def QP:Å->Þ:=Ą λk v _=>wt k&&wt v
def AH:Em Γ t:=(_,λ_=>QP,λo h=>by erw[ui h λk v p h=>?_];rw[fX (ag h).1];rwa[SE])
def Ff:Em Γ t:=(_,λ_=>QP,λo h=>by erw[ui h λk v p h=>?_];rw[fX (ag h).1];rwa[M7])
end Em
namespace Jm
def s(A:Em Γ t):Jm Γ t:=(_,λS _ x=>A.ck S x,λo h=>SM (A.pe o h))
def r(A:Am Γ t):Jm Γ t:=(_,λS _ x=>qa _ _&&jL (λf E k _=>FT k&&(AV S _ f&&ko (l1 E) λ_=>A.ck S E)) x,λo h=>by let(H,h):=ag h;erw[fe h λf E k q h=>?_];let(b,h):=ag h;let(c,h):=ag h;let(e,a,h):=cO h;let(p,d,g,i,hn):=fY o c;rw[fw a]at h;rw[iD b,fw a,d];let(p,q):=A.pa o h;rw[cw,aM]at q;rwa[SK g (o.bl _ (j8 H)) p q.1])
def zn(S:Sx)(A:Am Γ t)(T x:Å):Þ:=IS (λ_ _ _=>qa "zip" S.bok&&jL (λf e k _=>FT k&&(AV S "zip" f&&ko (l2 e) λ_=>A.ck S e)) x) T
@[elab_as_elim]def OR{k S X E}{A:Am Γ t}{P:Å->Å->ß}(o:lZ Γ t k S X E)(h:zn S A c x)(q:∀es k0 T p pos a b,Gl X "zip"->X.mg "zip"=ao->PA X [a,b] (f7 'X' E A.m)->cL a->cL b->P (.Tuple es k0 T) (.Call (.Name "zip" p) [a,b] [] pos)):P c x:=by erw[nL h λes k0 T h=>?_];let(H,h):=ag h;erw[fe h λf s K pos h=>?_];let(g,h):=ag h;let(i,h):=ag h;let(e,d,h):=cO h;let(p,j,n,r,hn):=fY o i;rw[vg d]at h;rw[iD g,vg d,j];let(pa,l):=A.pa o h;rw[cw,cw,aM,aM]at l;rwa[q es k0 T p pos e.1 e.2 n (o.bl _ (j8 H)) pa l.1 l.2.1]
def z(A:Am Γ t):Jm Γ t:=(_,λS T x=>zn S A T x,λo h=>OR o h λ_ _ _ _ _ _ _ g m pa b H=>Gb (c:=tO) (λr e i=>by cases GG e;let(a,v,h,s,i):=rM i;exact(a,v,h,λe=>(e.mv r).sqT s,i)) .inr (Tn g m pa (by rw[cA b,cA H];rfl) (by rw[cA H];rfl)))
end Jm
end
end F
namespace F
open L2
def _root_.L2.pJ.imp{X:Cx}{e:Ł _}{t t':TT}(h:pJ X e t')(i:∀σ H Q,t σ H Q->t' σ H Q):pJ X e t:=λp s σ H Q I q=>h _ s σ H Q I (i σ H Q q)
structure Fm(Γ:Gm)(t:Tb)where
 m:Sm
 ck:Sx->Ł Å->Þ
 pf:∀{k S X E xs},lZ Γ t k S X E->ck S xs->pJ X xs (k9 'X' E m)
def Bp(sc s:Í):Í:={s with names:=s.names.map λ(n,k)=>if k==.free&&sc.kind==.function&&sc.names.lookup n==O .cell then(n,.cell)else(n,k)}
def aio(x:Å):Ő Ä:=if h:x.ctorIdx=23 then Expr.Name.elim x h λn _=>O n else ao
def Ep(x:Å):ϐ:=match x with|.Name n _=>[n]|.Tuple e _ _=>e.filterMap aio|_=>[]
def rr:ϐ->Þ|[]=>J|x::r=>!qa x r&&rr r
theorem qb:∀{l:ϐ},x∈l->qa x l=J
 |[],h=>by grind|y::r,h=>by
  delta qa;rcases aw.mp h with h|h;.rw[bQ.mpr h];rfl
  .rw[qb h,mJ]
theorem nj:∀{l:ϐ},rr l=J->l.Nodup|[],_=>hU|x::r,h=>by erw[dA.mpr (λz=>?_,nj (ag h).2)];let:=iE (ag h).1;rw[qb z]at this;cases this
def io(S:Sx)(x:Ä):Þ:=R5 S.sc x&&(S.fr||zk S.sc x)
def rx(S:Sx)(i:Ń):Å->Þ:=xV λx _=>HL x i S.N&&io S x
def W_(S:Sx):Ϙ->Ł Å->Þ|[],[]=>J|i::I,e::E=>rx S i e&&W_ S I E|_,_=>a5
def T_(S:Sx):Tg->Å->Þ|.one i=>rx S i|.many I=>IS λe _ _=>W_ S I e
def Wb(a:X.N=S.N)(hs:X.env.scope=S.sc)(d:X.N.Nodup)(f:∀y,io S y=J->X.fn y\/X.env.scope.names.lookup y=O .local)(h:rx S i x):PG X x (kJ i)/\∀env,gc [x] env=[(a5,assign x env)]:=by erw[jM h λn p h=>?_];let(b,H):=ag h;exact(Tc d (by rw[a];rwa[kb b]) (by rw[hs];rwa[DC (ag H).1]) (f n H),λ_=>Ŗ)
def G0(h:cL x):gc (x::es) env=(a5,assign x env)::gc es env:=by cases x<;>first|rfl|cases h
def Oq(h:rx S i x):cL x=true:=jM h λ_ _ _=>Ŗ
theorem Nf(H:X.N=S.N)(hs:X.env.scope=S.sc)(n:X.N.Nodup)(f:∀y,io S y=J->X.fn y\/X.env.scope.names.lookup y=O .local):∀{is:Ϙ}{es:Ł _},W_ S is es=J->mu X es (K9 is)/\Á (gc es X.env)=Á is/\(gc es X.env).findIdx? (·.1)=ao|[],[],_=>(Te,Ŗ,Ŗ)|[],_::_,h=>by cases h|_::_,[],h=>by cases h|i::is,e::es,h=>by let(d,g):=ag h;let(a,b,c):=Nf H hs n f g;let z:=G0 (es:=es) (env:=X.env) (Oq d);erw[(Ng (Wb H hs n f d).1 a (by grind),by grind,?_)];rw[z,List.findIdx?_cons,c];rfl
def xy(d:Hq X)(H:X.N=S.N)(hs:X.env.scope=S.sc)(n:X.N.Nodup)(f:∀y,io S y=J->X.fn y\/X.env.scope.names.lookup y=O .local)(h:T_ S t x):PG X x (Rc X.K t):=by induction t with|one i=>exact(Wb H hs n f h).1|many I=>erw[nL h λe k p h=>?_];let(a,b,c):=Nf H hs n f h;rwa[Td d a b c]
def pY(h:nq e):hF e env x=pure x:=by cases e<;>first|rfl|cases h
section
variable{Γ:Gm}{t:Tb}
def Fm.no:Fm Γ t:=(sC (.B J),λ_ x=>wt x,λo h=>by rw[fX h];erw[Nj.imp λτ H a G=>?_];let(G,M,σ,h,X,Q,k,q):=G;let(b,e,z):=k.out _ h M H Ext.refl k.rel q;cases e;rwa[z])
def Fm.one(T:Tm Γ t):Fm Γ t:=(T.m,λS x=>ko (l1 x) _,λo h=>by let(a,e,h):=cO h;rw[fw e];rwa[Nk (T.pt o h)])
def sI(s:Ϙ)(N:ϐ):ϐ:=s.map λj=>N[j]?.getD ""
def Qj(h:s.all (λj=>Ñ j (Á N))):s.map (λj=>N[j]?)=(sI s N).map some:=by delta sI;rw[bB];erw[my λj H=>?_];rw[Function.comp_apply,av (aI (bJ.mp h j H))];rfl
def Dq(N:ϐ)(sc s:Í):Þ:=Đ (s.kind=.function)&&(rr N&&(s.names.all (λy=>y.2 !=.cell)&&(s.names.all (λy=>y.2 !=.local||zk s y.1)&&s.names.all λy=>y.2 !=.free||Đ (sc.names.lookup y.1=O .cell)&&!zk (Bp sc s) y.1)))
def lI{α:Type}{f:α->Þ}{l:Ł α}(h:l.all f):∀y∈l,f y=true:=bJ.mp h
def T9(d:X.env.scope=sc)(h:Dq N sc scope):eM X N scope:=by
 let(g,h):=ag h;let(i,h):=ag h;let(j,h):=ag h;let(k,f):=ag h;let nx:∀{a b:NameKind}{c:Þ},(a !=b||c)=J->a=b->c=true:=λ{a b c}z e=>nofun
 erw[Cs sc d (bZ g) (nj i) (λy H z=>?_) (λy H z=>vp (nx (lI k y H) z)) (λy H z=>bZ (ag (nx (lI f y H) z)).1) λy H z=>?_];.let:=lI j y H;rw[z]at this;cases this
 .let q:=iE (ag (nx (lI f y H) z)).2;delta zk at q;intro w;rw[show(Bp sc _).names.lookup y.1=O _ from w]at q;cases q
def Rt(a:Ϙ)(S:Sx)(s:Í):Þ:=a.all (λj=>Ñ j (Á S.N))&&(sI a S.N).all λy=>s.names.any λz=>cC z.1 y&&z.2==.free
def Qc(h:Rt a S s):a.map (λj=>S.N[j]?)=(sI a S.N).map O/\∀y∈sI a S.N,(y,ä)∈s.names:=by let(H,b):=ag h;erw[(Qj H,λy c=>?_)];let(z,d,q):=List.any_eq_true.mp (lI b y c);let(Z,f):=z;let(Q,e):=ag q;let E:Z=y:=bQ.mp Q;let e2:=GQ e;subst E e2;rwa[d]
def Wv(S:Sx)(n:ϐ)(s:Í):Sx:={S with N:=n,sc:=Bp S.sc s,fr:=a5}
def F8(o:lZ Γ t k S X E)(f:S.cm)(N:ϐ)(b:Í)(F:Ł _)(c:be)(d:Hp):lZ Γ t k (Wv S N b) (gZ X N b F c d) λ_ _ _=>ŧ where
 hN:=Ŗ;hs:=by show relabel _ _=Bp _ _;rw[<-o.hs];rfl
 hc:=o.hc;hq:=.inl (o.hc f).2;hp:=λp σ H s e g I h=>by let(a,C,_,i,_,_,q):=h;rwa[q.elim]
 hr:=o.hr;bl:=o.bl;gR:=o.gR;fn:=o.fn;gl:=o.gl;tab:=o.tab;cls:=o.cls;ma:=o.ma;fx:=λh=>by cases h
 fu:=o.fu
def HQ(o:lZ Γ t k S X E)(b:S.cm)(N:ϐ)(s:Í)(f:Ł _)(a:be)(H:Hp):lZ Γ t k (Wv S N s) (c5 X N s f a H E) E where
 hN:=Ŗ;hs:=by show relabel _ _=Bp _ _;rw[<-o.hs];rfl
 hc:=o.hc;hq:=.inl (o.hc b).2;hp:=Cr;hr:=o.hr;bl:=o.bl;gR:=o.gR;fn:=o.fn;gl:=o.gl;tab:=o.tab;cls:=o.cls;ma:=o.ma;fx:=λh=>by cases h
 fu:=o.fu
def Kh(S:Sx)(n:Ń)(s:Ϙ)(T:Tg)(j:Sx->Å->Å->Þ)(F:Fm Γ t)(A:Sx->Å->Þ):Å->Þ:=OD λe G sc _=>ko (l1 G) λg=>S.cm&&Đ (g.is_async=0)&&(nq g.iter&&(Ì (Á (Ep g.target)) n&&(UB n T&&(Rt s S sc&&(Dq (Ep g.target++sI s S.N) S.sc sc&&(T_ (Wv S (Ep g.target++sI s S.N) sc) T g.target&&(j S g.target g.iter&&(F.ck (Wv S (Ep g.target++sI s S.N) sc) g.ifs&&A (Wv S (Ep g.target++sI s S.N) sc) e))))))))
@[elab_as_elim]def tH{F:Fm Γ t}{P:Å->ß}(o:lZ Γ t k S X E)(h:Kh S n s g j F A x)(q:∀a T ix i e sc p,eM X a sc->(∀σ:Ç,Á σ=Á X.N->kh X a sc σ (rQ n s σ))->j S T ix->UB n g->(∀{b c},lZ Γ t k (Wv S a sc) b c->PG b T (Rc b.K g))->F.ck (Wv S a sc) i->A (Wv S a sc) e->(∀v,hF ix X.env v=pure v)->S.cm->P (.ListComp e [(T,ix,i,0)] sc p)):P x:=by
 erw[OE h λe M sc p h=>?_];obtain⟨⟨T,ix,i,Q⟩,l,h⟩:=cO h;rw[fw l];let(H,h):=ag h;let(m,h):=ag h;let(r,h):=ag h;let(u,h):=ag h;let(w,h):=ag h;let(d,h):=ag h;let(z,h):=ag h;let(B,h):=ag h;let(C,Ψ):=ag h;let e0:=bZ (ag H).2;subst e0;let f:Á (Ep T)=n:=aX r;let(G,I):=Qc w;let D:(Ep T++sI s S.N).drop n=sI s S.N:=by rw[<-f,List.drop_left]
 rwa[q _ T ix i e sc p (T9 o.hs d) (ň n s (by rw[aj,f];delta sI;rw[ae]) (by rw[D,o.hN];rwa[G]) (by rw[D];rwa[I])) B u (λ{b c}oc=>xy oc.hq oc.hN oc.hs (by rw[oc.hN];rwa[nj (ag (ag d).2).1]) (λy L=>.inr (by rw[oc.hs];rwa[vp (ag L).2])) z) C Ψ (λ_=>pY m) (ag H).1]
def Em.comp(n:Ń)(a:Ϙ)(T:Tg)(j:Jm Γ t)(F:Fm Γ t)(A:Em Γ t):Em Γ t:=(xG n a T _ F.m A.m a5,λS x=>S.fr&&Kh S n a T _ F _ x,λo h=>tH o (ag h).2 λN u ix i e sc p b c d g k l q r v=>(MM (o.fx (ag h).1).1 (o.fx (ag h).1).2 b (o.hc v).1 c (j.pi o d) (λf s H=>k (HQ o v _ _ f _ _)) (λf s H=>F.pf (HQ o v _ _ f _ _) l) (λf s H=>A.pe (HQ o v _ _ f _ _) q) r).imp λ_ _ _=>tI λ_ _ _ z=>by lia g)
def C0(f:Ő Å->Õ->Þ)(x:É):Þ:=sU _ 3 λe=>Stmt.Return.elim x e f
@[elab_as_elim]def UT{P:É->ß}(h:C0 f x)(q:∀e p,f e p=J->P (.Return e p)):P x:=(eD h).elim λe h=>Stmt.Return.elim x e (λe p _ h=>q e p h) e h
def OB(f:Ł Å->Å->Õ->Þ)(x:É):Þ:=sU _ 5 λe=>Stmt.Assign.elim x e f
@[elab_as_elim]def ug{P:É->ß}(h:OB f x)(q:∀T e p,f T e p=J->P (.Assign T e p)):P x:=(eD h).elim λe h=>Stmt.Assign.elim x e (λT e p _ h=>q T e p h) e h
def OF(f:Å->Å->Ł É->Ł É->Õ->Þ)(x:É):Þ:=sU _ 9 λe=>Stmt.For.elim x e f
@[elab_as_elim]def uj{P:É->ß}(h:OF f x)(q:∀a b c d p,f a b c d p=J->P (.For a b c d p)):P x:=(eD h).elim λe h=>Stmt.For.elim x e (λa b c d p _ h=>q a b c d p h) e h
def Lp(f:Å->Ł É->Ł É->Õ->Þ)(x:É):Þ:=sU _ 11 λe=>Stmt.While.elim x e f
@[elab_as_elim]def UY{P:É->ß}(h:Lp f x)(q:∀a b c p,f a b c p=J->P (.While a b c p)):P x:=(eD h).elim λe h=>Stmt.While.elim x e (λa b c p _ h=>q a b c p h) e h
def Db(f:Å->Ł É->Ł É->Õ->Þ)(x:É):Þ:=sU _ 12 λe=>Stmt.If.elim x e f
@[elab_as_elim]def UR{P:É->ß}(h:Db f x)(q:∀a b c p,f a b c p=J->P (.If a b c p)):P x:=(eD h).elim λe h=>Stmt.If.elim x e (λa b c p _ h=>q a b c p h) e h
def L'(f:Ő Å->Ő Å->Õ->Þ)(x:É):Þ:=sU _ 16 λe=>Stmt.Raise.elim x e f
@[elab_as_elim]def GL{P:É->ß}(h:L' f x)(q:∀a b p,f a b p=J->P (.Raise a b p)):P x:=(eD h).elim λe h=>Stmt.Raise.elim x e (λa b p _ h=>q a b p h) e h
def WF(f:Å->Õ->Þ)(x:É):Þ:=sU _ 24 λe=>Stmt.Expr.elim x e f
@[elab_as_elim]def UQ{P:É->ß}(h:WF f x)(q:∀a p,f a p=J->P (.Expr a p)):P x:=(eD h).elim λe h=>Stmt.Expr.elim x e (λa p _ h=>q a p h) e h
structure ô(Γ:Gm)(t:Tb)(k:Ń)(S:Sx)(X:Cx)(E:XK):ß where
 x:lZ Γ t k S X E
 nd:X.N.Nodup
 hf:∀y,io S y=J->X.fn y\/X.env.scope.names.lookup y=O .local
 po:PassesOwn (b' X.prog X.w) X.A X.env X.xe
 kd:X.env.scope.kind=.function
 exc:∀c∈S.xok,X.mg (S.sH c)=O (.ref (t.ca c))/\JH X.K c (t.ca c)
structure Mm(Γ:Gm)(t:Tb)where
 m:Ss
 ck:Sx->É->Þ
 ps:∀{k S X E st},ô Γ t k S X E->ck S st->PS X st (eJ 'X' E m)
structure Ms(Γ:Gm)(t:Tb)where
 m:Ss
 ck:Sx->Ł É->Þ
 ps:∀{k S X E st},ô Γ t k S X E->ck S st->iY X st (eJ 'X' E m)
def oj(f:Dv->Ő Pv):Ł Dv->Ő ϑ|[]=>O []|d::r=>match f d with
  |O x=>match oj f r with|O X=>O (x::X)|ao=>ao
  |ao=>ao
def oW(h:Hs)(k:Ń):Ń->Dv->Ő Pv|_,.p x=>O x|0,.r _=>ao|n+1,.r i=>match Ë k i with|a5=>ao|J=>match h[i]? with|O (.L X)=>O (.L X)|O (.C K u)=>O (.dct K u)|O (.D ds)=>(oj (oW h k n) ds).map .L|O (.E K ds)=>(oj (oW h k n) ds).map (.dct K)|O (.I C fs)=>(oj (oW h k n) fs).map (.obj C)|_=>ao
def CP(h:Hs)(k:Ń):Dv->Ő Dv|.p x=>O (.p x)|.r i=>match Ë k i with|a5=>O (.r i)|J=>(oW h k 6 (.r i)).map .p
def č(e:Å):Þ:=!(Ì e.ctorIdx 8||(Ì e.ctorIdx 9||Ì e.ctorIdx 10))
def VU(h:č e):g6 e o l env=pure false:=by cases e<;>first|rfl|cases h
def Eo:g6 e (O (.Subscript a i p)) l env=pure false:=by cases e<;>rfl
def Xa:g6 e (O (.Attribute a f p)) l env=pure false:=by cases e<;>rfl
def Dc(e:Å):Þ:=!Nat.beq e.ctorIdx 25&&č e
def VX(h:Dc e):swapsWithSole [.Tuple es j p] e l env=pure a5/\swappedStores [.Tuple es j p] e env=pure none:=by cases e<;>first|done|rfl
theorem tX{H:Hp}{f:Dv->Ő Pv}(h:∀d x v,eG Z M H d v->f d=O x->eg Z m H x v):∀{ds:Ł Dv}{xs:ϑ}{vs:ϕ},cU Z M H ds vs->oj f ds=O xs->aY Z m H xs vs
 |[],xs,vs,q,e=>by cases e;induction vs with|f=>done|g _ _=>rwa[q]
 |d::r,xs,vs,q,e=>by
  delta oj at e;split at e
  .ext x a;split at e;.ext Y y;cases e;induction vs with|f=>rwa[q]|g v vs=>exact(h d x v q.1 a,tX h q.2 y)
   .lia
  .lia
def Yi{k n:Ń}(r:bq Z M H h)(c:M[n]?=O a)(e:Ë k n):a∉M.take k/\a∉Z.G:=by
 erw[(λz=>?_,r.dj a (aL c))];let(j,d):=lE z;let b:j<k:=by grind
 rw[eo b]at d;let(l1,E):=ar.mp c;let(l2,f):=ar.mp d;let:=(ie r.nd).mp (E.trans f.symm);let:=aI e;lia
theorem tN(r:bq Z M H h):∀(n:Ń)(d:Dv)(x:Pv)(v:V),eG Z M H d v->oW h k n d=O x->eg Z (M.take k) H x v
 |n,.p y,x,v,i,e=>by
  let e:O y=O x:=by induction n<;>rwa[e]
  cases e;rwa[eg.mv (Mv.cut r k) i]|0,.r _,x,v,i,e=>by cases e|n+1,.r j,x,v,i,e=>by
  delta oW at e;split at e;.lia
  ext l;let(a,f,rfl):=i;let na:=Yi r f l;split at e;.ext o;cases e;let(s,b,c):=r.ob j a _ f o;exact(a,s,Ŗ,na,b,aY.mv (Mv.cut r k) c)
  .ext o;cases e;let(A,b,c,g):=r.ob j a _ f o;exact(a,A,Ŗ,na,.inl b,aY.mv (Mv.cut r k) c,aY.mv (Mv.cut r k) g)
  .ext o;let(X,E,rfl):=cE.mp e;let(s,b,c):=r.ob j a _ f o;exact(a,s,Ŗ,na,b,tX (tN r n) c E)
  .ext o;let(X,E,rfl):=cE.mp e;let(A,b,c,g):=r.ob j a _ f o;exact(a,A,Ŗ,na,.inl b,aY.mv (Mv.cut r k) c,tX (tN r n) g E)
  .ext o;let(X,E,rfl):=cE.mp e;let(D,F,b,_,c,g):=r.ob j a _ f o;let q:=tX (tN r n) g E;erw[(a,D,F,Ŗ,na,b,?_,q)];rw[c,q.len,<-g.len]
  .lia
def CS(r:bq Z M H h)(i:eG Z M H d v)(e:CP h k d=O x):eG Z (M.take k) H x v:=by
 delta CP at e;split at e;.cases e;rwa[eg.mv (Mv.cut r k) i]
 .split at e;.ext a;cases e;rwa[i.cut r (cJ (Nat.lt_of_not_le λz=>by rw[aA z]at a;cases a))]
  .let(y,E,rfl):=cE.mp e;rwa[tN r 6 _ _ _ i E]
def D8(S:Sx)(i:Ń)(f:Ä->Õ->Å->Þ):É->Þ:=OB λT e _=>ko (l1 T) (xV λx p=>HL x i S.N&&(io S x&&f x p e))
@[elab_as_elim]def nI{k S X E}{P:É->ß}{st:É}(o:ô Γ t k S X E)(h:D8 S i f st)(q:∀x p e pos,X.N[i]?=O x->L2.Loc X.env.scope x->X.fn x\/X.env.scope.names.lookup x=O .local->f x p e->P (.Assign [.Name x p] e pos)):P st:=by erw[ug h λT e pos h=>?_];let(c,a,h):=cO h;rw[fw a];erw[jM h λx p h=>?_];let(b,h):=ag h;let(H,h):=ag h;rwa[q x p e pos (by rw[o.x.hN];rwa[kb b]) (by rw[o.x.hs];rwa[DC (ag H).1]) (o.hf x H) h]
def rl(f:Å->Å->Å->Þ):É->Þ:=OB λT e _=>ko (l1 T) (EC λa i _=>f a i e)
@[elab_as_elim]def El{P:É->ß}{st:É}(h:rl f st)(q:∀a i p e pos,f a i e=J->P (.Assign [.Subscript a i p] e pos)):P st:=by erw[ug h λT e pos h=>?_];let(x,E,h):=cO h;rw[fw E];rwa[nK h λa i p h=>q a i p e pos h]
def PK(h:A9 i):∀v,assign (.Subscript o i p) env v=(do
   let a<-holding [v] (Ê o env)let I<-holding [v,a] (Ê i env)standAt p
   holding [v,a,I] (setItem a I v)release [v,a,I] []):=by intro v;cases i<;>first|rfl|cases h
def Um:swapsWithSole [.Subscript a i p] e l env=pure false:=Eo (a:=a) (i:=i) (p:=p) (l:=l) (env:=env)
def J_:swappedStores [.Subscript a i p] e env=pure none:=rfl
namespace Mm
def ex(A:Em Γ t):Mm Γ t:=(_,λS=>WF _,λo h=>UQ h λe p h=>Z0 (A.pe o.x (ag h).2) (VU (ag h).1))
def ret(A:Em Γ t):Mm Γ t:=(_,λS=>C0 λe _=>ko e _,λo h=>by erw[UT h λe p h=>?_];let(a,E,h):=cO h;rw[E];rwa[SS (A.pe o.x h)])
def set(i:Ń)(A:Em Γ t):Mm Γ t:=(_,λS=>D8 S i _,λo h=>nI o h λx p e pos a b c H=>SU (λT d=>zw o.nd a b d (VU (ag H).1) c) (A.pe o.x (ag H).2))
def UM(is:Ϙ)(A:Em Γ t):Mm Γ t:=(_,λS=>OB λT e _=>Dc e&&(A.ck S e&&ko (l1 T) (T_ S (.many is))),λo h=>by erw[ug h λT e pos h=>?_];let(H,h):=ag h;let(a,h):=ag h;let(c,E,h):=cO h;rw[fw E];let g:=xy o.x.hq o.x.hN o.x.hs o.nd o.hf h;revert g;rwa[nL h λs j p _ g=>SV (λd b=>Nu b g (VX H).1 (VX (l:=0) H).2 Ŗ) (A.pe o.x a)])
def put(A B C:Em Γ t):Mm Γ t:=(_,λS=>rl _,λo h=>by erw[El h λa i p e pos h=>?_];let(H,h):=ag h;let(b,h):=ag h;let(c,d):=ag h;exact(Nu (A.pe o.x b) (Z3 (B.pe o.x c) (C.pe o.x d) N5 (PK H)) Um J_ Ŗ).imp λ_ _ _=>c_)
def dput(A B C:Em Γ t):Mm Γ t:=(_,λS=>rl _,λo h=>by erw[El h λa i p e pos h=>?_];let(H,h):=ag h;let(b,c):=ag h;exact(Gi o.x.Rx (B.pe o.x b) (C.pe o.x c) (A.pe o.x H) Eo).imp λ_ _ _=>QQ)
def fQ(c j:Ń)(A B:Em Γ t):Mm Γ t:=(Wq c j A.m B.m,λS=>OB λT e _=>ko (l1 T) (IQ _),λo h=>by erw[ug h λT e pos h=>?_];let(k,E,h):=cO h;rw[fw E];erw[qw h λa f p h=>?_];let(H,h):=ag h;let(b,h):=ag h;let(d,g):=ag h;let(C,i):=o.x.cls c (cV.mp H);exact(Z7 (B.pe o.x g) (A.pe o.x d) Xa).imp λ_ _ _=>Q9 C (by rw[i];rwa[kb b]))
def raise(c:Ń)(A:Em Γ t):Mm Γ t:=(_,λS=>L' λe b _=>S.cm&&b.isNone&&(S.fr&&(je c S.xok&&!Nat.ble 999 c&&ko e (jL λf E k _=>FT k&&(AV S (S.sH c) f&&ko (l1 E) λe0=>cL e0&&A.ck S e0)))),λo h=>by erw[GL h λe b pos h=>?_];let(H,h):=ag h;let(d,h):=ag h;let(a,h):=ag h;let(w,i,g):=cO h;rw[i];induction b with|c _=>simp at H|a=>erw[fe g λf E k C h=>?_];let(j,h):=ag h;let(l,h):=ag h;let(e0,m,h):=cO h;let(p,n,q,r,hn):=fY o.x l;rw[iD j,fw m,n];let(fr,u):=o.x.fx d;let(s,K):=o.exc c (cV.mp (ag a).1);let hb:=iE (ag a).2;rwa[HY (bF.mpr λz=>by rw[aA (aq (bt 999) (aI z))]at hb;cases hb) (λT v=>Nw fr u (o.x.hc (ag H).1).1 q s (Yb hb K) v (ag h).1 r) (A.pe o.x (ag h).2)])
def iff(T:Tm Γ t)(A B:Ms Γ t):Mm Γ t:=(_,λS=>Db _,λo h=>by erw[UR h λc a b p h=>?_];let(H,h):=ag h;let(d,e):=ag h;rwa[Z1 (T.pt o.x H) (A.ps o d) (B.ps o e)])
def fo(g:Tg)(j:Jm Γ t)(B:Ms Γ t):Mm Γ t:=(_,λS=>OF λT ix b e _=>S.cm&&wt e&&(nq ix&&(T_ S g T&&(j.ck S T ix&&B.ck S b))),λo h=>by erw[uj h λT ix b e p h=>?_];let(H,h):=ag h;let(a,h):=ag h;let(c,h):=ag h;let(d,f):=ag h;rw[fX (ag H).2];exact(DV o.po (o.x.hc (ag H).1).1 (j.pi o.x d) (xy o.x.hq o.x.hN o.x.hs o.nd o.hf c) (B.ps o f) λ_=>pY a).imp λ_ _ _=>Yg)
def wh(T:Tm Γ t)(B:Ms Γ t):Mm Γ t:=(_,λS=>Lp λc b e _=>wt e&&(T.ck S c&&B.ck S b),λo h=>by erw[UY h λc b e p h=>?_];let(H,h):=ag h;let(a,d):=ag h;rw[fX H];exact(Ny o.po (T.pt o.x a) (B.ps o d)).imp λ_ _ _=>OJ)
def ct:Mm Γ t:=(BS,λ_ st=>Ì _ 27,λ{k S X E st}o h=>by rwa[Stmt.Continue.elim st (aX h) λp=>ZZ])
end Mm
namespace Ms
def nil:Ms Γ t:=(Pa,λ_ l=>wt l,λo h=>by rw[fX h];rwa[SQ])
def one(A:Mm Γ t):Ms Γ t:=(A.m,λS l=>ko (l1 l) _,λo h=>by let(a,e,h):=cO h;rw[fw e];rwa[SR (A.ps o h)])
abbrev re(A:Em Γ t):Ms Γ t:=one (.ret A)
def seq(A:Mm Γ t)(B:Ms Γ t):Ms Γ t:=(_,λS l=>ko (lc l) λp=>A.ck S p.1&&B.ck S p.2,λo h=>by obtain⟨⟨a,r⟩,e,h⟩:=cO h;rw[A3 e];rwa[Nc (A.ps o (ag h).1) (B.ps o (ag h).2)])
def cut(A:Mm Γ t)(B:Ms Γ t):Ms Γ t:=(_,λS l=>ko (lc l) λp=>A.ck S p.1&&B.ck S p.2,λo h=>by obtain⟨⟨a,r⟩,e,h⟩:=cO h;rw[A3 e];rwa[SO (A.ps o (ag h).1) (B.ps o (ag h).2)])
end Ms
end
end F
namespace F
open L2
section
variable{Γ:Gm}{t:Tb}
def N6(h:eJ 'X' E (zF i A) D τ H):sX (de 'X' E A) (kJ i) D τ H:=by let(G,M,σ,h,N,k,q):=h;exact(G,M,σ,h,_,_,(k.rel,k.env,λd a m b v e r i q=>k.nx _ a m b _ e r ((k.env.ext k.rel e).set i) q,k.exc),q)
def Rk(x:Ä)(p:Õ):Å->Þ:=OD λ_ _ sc c=>p.line==c.line&&!sc.names.any λ(n,k)=>n==x&&(k==.local||k==.cell)
def LV{env:Ù}(h:env.scope.kind=.function):(env.blockKind==ScopeKind.function)=true:=by delta Env.blockKind;rw[h];rfl
def Mm.setC(i n:Ń)(l:Ϙ)(T:Tg)(j:Jm Γ t)(F:Fm Γ t)(A:Em Γ t):Mm Γ t:=(zF i (xG n l T _ F.m A.m a5),λS=>D8 S i λx p e=>zk _ x&&(Rk x p e&&Kh S n l T _ F _ e),λ{k S X E st}o h=>by
 erw[nI o h λx p e pos r u w y=>?_];let(B,g):=ag y;let(G,C):=ag g;revert G;erw[tH o.x C λU W ix I e sc D K L a b M N P Q v G=>?_];erw[(Tt o.nd r u K (o.x.hc v).1 L (j.pi o.x a) (λf s H=>M (F8 o.x v _ _ f _ _)) (λf s H=>F.pf (F8 o.x v _ _ f _ _) N) (λf s H=>A.pe (F8 o.x v _ _ f _ _) P) Q ?_ w).imp λ_ _ _ q=>tI λ_ _ _ z=>by lia b (N6 q)];let(c,d):=ag G;show pure (X.env.blockKind==.function&&X.env.kindOf x==O _&&p.line==D.line&&!sc.names.any _)=pure _;let R:X.env.kindOf x=O .local:=by show X.env.scope.names.lookup x=_;rw[o.x.hs];rwa[vp B]
 rw[LV o.kd,R,c,d];rfl)
structure Gk(cm:Þ)(Γ:Gm)(t:Tb)(k:Ń)(S:Sx)(P:ci)(w:cc)(K:Æ)(mg:c3)(base:È):ß where
 bl:∀x∈S.bok,mg x=ao
 gR:S.gR=t.gR
 fn:∀i∈Γ.fok,∃ps,FS cm P w K mg base (k+1) (t.gR i) ps (dI (K,mg,t) (Γ.fn i))gl:∀i∈Γ.Yq,∃u v,mg (S.gnm i)=O u/\RelV v u/\∀G M H,eg (((K,mg,t):T0).z G) M H (Γ.gl i) v
 tab:∀i∈Γ.tok,∃ad,mg (S.tnm i)=O (.ref ad)/\yb w K mg t.gR i ad (Γ.tab i)cls:∀c∈S.Δ,rL K t c/\t.fl c=S.fl c
 ma:∀c∈Γ.iok,∃ps,ky cm P w K mg base k (S.sH c) t.ca c ps (dI (K,mg,t) (Γ.ma c))exc:∀c∈S.xok,mg (S.sH c)=O (.ref (t.ca c))/\JH K c (t.ca c)fu:∀i∈Γ.IK,∃ps,sy P w K mg base (k+1) (t.gR i) ps (dI (K,mg,t) (Γ.fn i))
def oe(z:Þ)(k:Ń)(Q:Dv->Hs->ß)(d:Dv)(h:Hs):ß:=match z with|a5=>Q d h|J=>match CP h k d with|O x=>gd (bH k (h.take k)) (Q x (h.take k))|ao=>ŧ
def Ch(z:Þ)(k:Ń)(x:XP):XP:=λc h=>match z with|a5=>x c h|J=>gd (bH k (h.take k)) (x c (h.take k))
def iR(z:Þ)(k:Ń)(Q:Dv->Hs->ß)(x:XP):En:=(λ_ h=>oe z k Q (.p .N) h,oe z k Q,λ_ _=>ŧ,λ_ _=>ŧ,Ch z k x)
def rF(n:Ń)(ds:Ł Dv):Es:=ds.map O++Ð (n-Á ds) ao
def o9(N:ϐ)(i:cU Z M H ds vs):dm Z M H (rF (Á N) ds) (L2.start N vs):=by
 erw[(by delta rF L2.start;rw[aj,aj,ae,ae,bP,bP,i.len],λj d h=>?_)];delta rF at h;delta L2.start;by_cases a:j<Á ds;.rw[aT nofun,aN]at h;rw[aT (by rw[ae,<-i.len];rwa[a]),aN];induction e:ds[j]? with|a=>rw[e]at h;cases h|c D=>rw[e]at h;cases h;let(v,b,c):=i.get e;exact(v,by rw[b];rfl,c)
 .rw[aK nofun,eK]at h;split at h<;>cases h
def Wo{a:VK}(R:bq Z M H h)(out:∀d h' m H' v,Ext M H m H'->bq Z m H' h'->eG Z m H' d v->Q d h'->a v H')(e:Ext M H m H')(r:bq Z m H' h')(i:eG Z m H' d v)(q:oe z (Á h) Q d h'):a v H':=by
 delta oe at q;split at q;.rwa[out d h' m H' v e r i q]
 .split at q;.ext x b;let(c,q):=cG q;rwa[out x _ _ H' v (e.cut (by rw[R.ln];rwa[ah _])) (r.cut _ c) (CS r i b) q]
  .left
def Į{E:Hp->ß}(R:bq Z M H h)(out:∀h' m H',Ext M H m H'->bq Z m H' h'->x c h'->E H')(e:Ext M H m H')(r:bq Z m H' h')(q:Ch z (Á h) x c h'):E H':=by
 delta Ch at q;split at q;.rwa[out h' m H' e r q]
 .let(C,q):=cG q;rwa[out _ _ _ (e.cut (by rw[R.ln];rwa[ah _])) (r.cut _ C) q]
def Sx.at(S:Sx)(N:ϐ)(sc:Í)(fr:Þ):Sx:={S with N:=N,sc:=sc,fr:=fr,cm:=J}
def Sx.au(S:Sx)(N:ϐ)(sc:Í):Sx:={S with N:=N,sc:=sc,fr:=a5,cm:=a5}
def oS(r:bq ('X'.z G) M H h)(v:dm ('X'.z G) M H σ τ)(out:∀d h' m H' v,Ext M H m H'->bq ('X'.z G) m H' h'->eG ('X'.z G) m H' d v->Q d h'->a v H')(b:∀c h' m H',Ext M H m H'->bq ('X'.z G) m H' h'->x c h'->pW t.ca E c H'):WV ('X'.z G) E τ H {nx:=λ_ H'=>a .jn H',rt:=a} M σ h (iR z (Á h) Q x):=(r,v,λf h' m H' g e R j q=>Wo r out e R yR q,λd h' m H' v e R i q=>Wo r out e R i q,λ_ _ _ _ _ _ _ _ q=>q.elim,λ_ _ _ _ _ _ _ _ q=>q.elim,λc h' m H' e R q=>Į r (b c) e R q)
variable{P:ci}{w:cc}{K:Æ}{mg:c3}{base:È}{x:Ä}{st:É}{ps N:ϐ}{k:Ń}{C:Ct}{S:Sx}
def Gk.Sf{fr:Þ}(g:Gk J Γ t k S X.prog X.w X.K X.mg X.base)(H:X.N=N)(hs:X.env.scope=sc)(c:X.calm)(p:iq (vP X.prog X.w) X E)(h:fJ (k+1) X.A)(f:fr->B4 X/\gN X E):lZ Γ t k (S.at N sc fr) X E:=(H,hs,λ_=>(c,h.hd),.inl h.hd,p,h.u,g.bl,g.gR,g.fn,g.gl,g.tab,g.cls,g.ma,f,g.fu)
def Ms.agP(B:Ms Γ t)(z:Þ)(b:Src K mg x st ps)(F:c7 N ps (aG st))(g:Gk J Γ t k S P w K mg base)(I:B.ck (S.at N (aG st) J) (bX st)=J)(a:∀ds h Q X,C ds h Q X->Á ds=Á ps/\B.m (iR z (Á h) Q X) (rF (Á N) ds) h):nY P w K mg base (k+2) x ps (dI (K,mg,t) C):=by rwa[b.okX F (λv H Q E t=>t.ln λ_ _ _ _ c=>(a _ _ _ _ c).1) λf j A o s H v Q E d Z=>by let(G,M,h,ds,q,X,r,i,c,out,e):=Z;exact(_,B.ps (Gk.Sf g rfl rfl rfl (gN.pass qW rD) d λ_=>(qW,rD),F.nd,λy _=>.inl Ŗ,BY,F.kind,g.exc) I,(G,M,_,h,_,oS r (o9 N i) out e,(a _ _ _ _ c).2))]
def Ms.agM(B:Ms Γ t)(z:Þ)(d:pK K (t.ca a) l st ps)(j:mg x=O (.ref (t.ca a)))(F:c7 N ps (aG st))(g:Gk J Γ t k S P w K mg base)(n:B.ck (S.at N (aG st) a5) (bX st)=J)(b:∀ds h Q X,C ds h Q X->Á ds=Á ps/\B.m (iR z (Á h) Q λ_ _=>ŧ) (rF (Á N) ds) h):lF P w K mg base (k+2) x (t.ca a) ps (dI (K,mg,t) C):=by rwa[d.ok j F (λv H Q E t=>t.ln λ_ _ _ _ c=>(b _ _ _ _ c).1) λf L A o s H v Q E u Z=>by let(G,M,h,ds,R,X,r,i,c,out,D):=Z;exact(_,B.ps (E:=λ_ _ _=>ŧ) (Gk.Sf g rfl rfl rfl (λp σ H s e T I Z=>by let(_,_,_,_,_,_,q):=Z;rwa[q.elim]) u (λh=>by cases h),F.nd,λy _=>.inl Ŗ,tD,F.kind,g.exc) n,(G,M,_,h,_,oS r (o9 N i) out λ_ _ _ _ _ _ q=>q.elim,(b _ _ _ _ c).2))]
def Ms.abp(B:Ms Γ t)(z:Þ)(d:gK K a x q st ps)(F:c7 N ps (aG st))(g:Gk J Γ t k S P w K mg base)(I:B.ck (S.at N (aG st) J) (bX st)=J)(b:∀ds h Q X,C ds h Q X->Á ds=Á ps/\B.m (iR z (Á h) Q X) (rF (Á N) ds) h):x8 P w K mg base (vP P w) (k+2) a x ps (dI (K,mg,t) C):=by rwa[d.okX F (λv H Q E t=>t.ln λ_ _ _ _ c=>(b _ _ _ _ c).1) λf l A o s H v Q E j (G,M,h,ds,n,X,r,i,c,out,e)=>(_,B.ps (Gk.Sf g rfl rfl rfl (gN.pass qW rD) j λ_=>(qW,rD),F.nd,λy _=>.inl Ŗ,BY,F.kind,g.exc) I,(G,M,_,h,_,oS r (o9 N i) out e,(b _ _ _ _ c).2))]
def Gk.oku(g:Gk a5 Γ t k S X.prog X.w X.K X.mg X.base)(H:X.N=N)(hs:X.env.scope=sc)(q:Hq X)(p:iq (vP X.prog X.w) X E)(r:gO (k+1) X.A):lZ Γ t k (S.au N sc) X E:=(H,hs,λh=>(by cases h),q,p,r,g.bl,g.gR,g.fn,g.gl,g.tab,g.cls,g.ma,(λh=>by cases h),g.fu)
def Ms.agN(B:Ms Γ t)(z:Þ)(b:Src K mg x st ps)(F:c7 N ps (aG st))(g:Gk a5 Γ t k S P w K mg base)(d:B.ck (S.au N (aG st)) (bX st))(a:∀ds h Q X,C ds h Q X->Á ds=Á ps/\B.m (iR z (Á h) Q λ_ _=>ŧ) (rF (Á N) ds) h):sy P w K mg base (k+2) x ps (dI (K,mg,t) C):=b.okU F (λv H Q E t=>t.ln λ_ _ _ _ c=>(a _ _ _ _ c).1) λf u A o s H v Q E pn j (G,M,h,ds,D,X,r,i,c,out,l) n=>(_,B.ps (E:=λ_ _ _=>ŧ) (Gk.oku g rfl rfl n (λp σ H s e L I Z=>by let(_,_,_,_,_,_,q):=Z;rwa[q.elim]) j,F.nd,λy _=>.inl Ŗ,tD,F.kind,g.exc) d,(G,M,_,h,_,oS r (o9 N i) out λ_ _ _ _ _ _ q=>q.elim,(a _ _ _ _ c).2))
def Ms.agO(B:Ms Γ t)(z:Þ)(d:gK K a x l st ps)(F:c7 N ps (aG st))(g:Gk a5 Γ t k S P w K mg base)(j:B.ck (S.au N (aG st)) (bX st))(b:∀ds h Q X,C ds h Q X->Á ds=Á ps/\B.m (iR z (Á h) Q λ_ _=>ŧ) (rF (Á N) ds) h):qN P w K mg base (k+2) a x ps (dI (K,mg,t) C):=d.okU F (λv H Q E t=>t.ln λ_ _ _ _ c=>(b _ _ _ _ c).1) λf L A o s H v Q E pn n (G,M,h,ds,R,X,r,i,c,out,u) D=>(_,B.ps (E:=λ_ _ _=>ŧ) (Gk.oku g rfl rfl D (λp σ H s e T I Z=>by let(_,_,_,_,_,_,q):=Z;rwa[q.elim]) n,F.nd,λy _=>.inl Ŗ,tD,F.kind,g.exc) j,(G,M,_,h,_,oS r (o9 N i) out λ_ _ _ _ _ _ q=>q.elim,(b _ _ _ _ c).2))
end
structure Wd where
 P:ci
 w:cc
 K:Æ
 mg:c3
 base:È
structure Lw where
 S:Sx
 ca:Ń->À
 gl:Ń->Pv
 Yq:Ϙ
 tab:Ń->Ä->Ő (Ł Ä)tok:Ϙ
 ma:Ń->Ct
abbrev Lw.t(L:Lw):Tb:=(L.S.gR,L.ca,L.S.fl)
abbrev Lw.g(L:Lw)(fn:Ń->Ct)(fok iok:Ϙ):Gm:=(fn,fok,L.gl,L.Yq,L.ma,iok,L.tab,L.tok,[])
abbrev Lw.y(L:Lw)(W:Wd):T0:=(W.K,W.mg,L.t)
structure Lk(L:Lw)(W:Wd):ß where
 bl:∀x∈L.S.bok,W.mg x=ao
 gl:∀i∈L.Yq,∃u v,W.mg (L.S.gnm i)=O u/\RelV v u/\∀G M H,eg ((L.y W).z G) M H (L.gl i) v
 tab:∀i∈L.tok,∃ad,W.mg (L.S.tnm i)=O (.ref ad)/\yb W.w W.K W.mg L.S.gR i ad (L.tab i)cls:∀c∈L.S.Δ,rL W.K L.t c
 exc:∀c∈L.S.xok,W.mg (L.S.sH c)=O (.ref (L.ca c))/\JH W.K c (L.ca c)
def Dt(L:Lw)(W:Wd)(i k:Ń)(C:Ct):ß:=∃ps,nY W.P W.w W.K W.mg W.base k (L.S.gR i) ps (dI (L.y W) C)
def Di(L:Lw)(W:Wd)(c k:Ń):ß:=∃ps,ky J W.P W.w W.K W.mg W.base k (L.S.sH c) L.ca c ps (dI (L.y W) (L.ma c))
def zT(L:Lw)(W:Wd)(fn:Ń->Ct)(k:Ń):Ϙ->ß|[]=>æ|i::r=>Dt L W i k (fn i)/\zT L W fn k r
def wN(L:Lw)(W:Wd)(k:Ń):Ϙ->ß|[]=>æ|i::r=>Di L W i k/\wN L W k r
theorem zT.at{fn:Ń->Ct}:∀{l:Ϙ},zT L W fn k l->∀i∈l,Dt L W i k (fn i)|[],_,i,h=>by grind|j::r,f,i,h=>(aw.mp h).elim (λz=>by rw[z];rwa[f.1]) λz=>zT.at f.2 i z
theorem wN.at:∀{l:Ϙ},wN L W k l->∀i∈l,Di L W i k|[],_,i,h=>by grind|j::r,f,i,h=>(aw.mp h).elim (λz=>by rw[z];rwa[f.1]) λz=>wN.at f.2 i z
def Dt.up{k:Ń}(D:Dt L W i j C)(h:Ë j k):Dt L W i k C:=let (ps,d):=D;(ps,d.mono (aI h))
def Dt.le(D:Dt L W i j C)(h:j<=k):Dt L W i k C:=let (ps,d):=D;(ps,d.mono h)
def Di.le(D:Di L W i j)(h:j<=k):Di L W i k:=let (ps,d):=D;(ps,d.mono h)
theorem Dt.imp(D:Dt L W i k C)(h:∀ds h Q x,C' ds h Q x->C ds h Q x):Dt L W i k C':=let (ps,d):=D;(ps,d.imp λv H Q E z=>by let(G,M,a,ds,q,x,r,i,c,o,b):=z;exact(G,M,a,ds,q,x,r,i,h _ _ _ _ c,o,b))
def Lk.gk(B:Lk L W)(h:zT L W fn (k+1) fok)(hi:wN L W k iok):Gk J (L.g fn fok iok) L.t k L.S W.P W.w W.K W.mg W.base:=(B.bl,Ŗ,h.at,B.gl,B.tab,λc H=>(B.cls c H,Ŗ),hi.at,B.exc,λi hi=>by cases hi)
def Lk.d{C:Ct}{st:É}(N ps:ϐ)(z:Þ)(B:Lk L W)(b:Ms (L.g fn fok iok) L.t)(s:Src W.K W.mg (L.S.gR i) st ps)(F:c7 N ps (aG st))(I:b.ck (L.S.at N (aG st) J) (bX st)=J)(H:zT L W fn (k+1) fok)(hi:wN L W k iok)(a:∀ds h Q x,C ds h Q x->Á ds=Á ps/\b.m (iR z (Á h) Q x) (rF (Á N) ds) h):Dt L W i (k+2) C:=(ps,b.agP z s F (B.gk H hi) I a)
def Lk.mk1{st:É}(N ps:ϐ)(z:Þ)(B:Lk L W)(b:Ms (L.g fn fok iok) L.t)(s:pK W.K (L.ca c) q st ps)(H:W.mg (L.S.sH c)=O (.ref (L.ca c)))(F:c7 N ps (aG st))(a:Ë 80 c=a5)(I:b.ck (L.S.at N (aG st) a5) (bX st)=J)(f:zT L W fn (k+1) fok)(hi:wN L W k iok)(d:∀ds h Q x,L.ma c ds h Q x->Á ds=Á ps/\b.m (iR z (Á h) Q λ_ _=>ŧ) (rF (Á N) ds) h):Di L W c (k+2):=(ps,by rwa[FH a (b.agM z s H F (B.gk f hi) I d)])
def Lk.aik{st:É}(N ps:ϐ)(z:Þ)(B:Lk L W)(b:Ms (L.g fn fok iok) L.t)(s:gK W.K (L.ca (c/100-1)) (L.S.sH c) q st ps)(F:c7 N ps (aG st))(H:Ë 100 c)(I:b.ck (L.S.at N (aG st) J) (bX st)=J)(f:zT L W fn (k+1) fok)(hi:wN L W k iok)(a:∀ds h Q x,L.ma c ds h Q x->Á ds=Á ps/\b.m (iR z (Á h) Q x) (rF (Á N) ds) h):Di L W c (k+2):=(ps,by delta ky;rw[H];rwa[b.abp z s F (B.gk f hi) I a])
end F
namespace F
open L2
def E5(H:bH k (h.take k))(q:R (h.take k)):Xz k R h:=bI H q
def qr{α:Type}(h:Ł α):h.take (Á h)=h:=jP (ah _)
def qX{α:Type}{xs:Ł α}{x:α}(h:xs[i]?=O x):xs=xs.take i++x::xs.drop (i+1):=by let(H,e):=ar.mp h;rw[<-e,jO,uk]
def wL{α:Type}{xs:Ł α}{x:α}(h:xs[i]?=O x):xs.take (i+1)=xs.take i++[x]:=by let(H,e):=ar.mp h;rw[<-e,List.take_append_getElem]
def nE{h:Hs}{xs:ϑ}{e:Pv->Ő Es}{T A:Es->Hs->KP->ß}{Q:ϑ->Hs->ß}(g:Pv->Þ)(f:Pv->Pv)(d:bH (Á h) h)(step:∀y∈xs,match e y with|O a=>(∀R:KP,R [.p (.B (g y))] h->T a h R)/\(g y=J->∀R:KP,R [.p (f y)] h->A a h R)|ao=>ŧ)(q:Q ((xs.filter g).map f) h):mQ h xs e T A Q:=by
 delta mQ;erw[(λi c j=>j=h/\c=((xs.take i).filter g).map f,(Ŗ,by rfl),?_,?_)];.rintro i y c j b ⟨rfl,rfl⟩;let z:=step y (aL b);induction k:e y with|a=>rw[k]at z;rwa[z]|c a=>rw[k]at z;rwa[z.1 _ (d8 (λH=>z.2 H _ (E5 (by rw[qr];rwa[d]) (qr _,by rw[wL b,List.filter_append,aD,List.filter_cons_of_pos H];rfl))) λH=>E5 (by rw[qr];rwa[d]) (qr _,by rw[wL b,List.filter_append,List.filter_cons_of_neg (by rw[H];rwa[aJ])];simp))]
 .left
def lL{H:Hs}{xs:ϑ}{e:Pv->Ő Es}{A:Es->Hs->KP->ß}{Q:ϑ->Hs->ß}(f:Pv->Pv)(c:bH (Á H) H)(step:∀y∈xs,match e y with|O a=>∀R:KP,R [.p (f y)] H->A a H R|ao=>ŧ)(q:Q (xs.map f) H):mQ H xs e (λ_ h R=>R [.p (.B J)] h) A Q:=by erw[nE _ f c (λy d=>?_) (by rw[List.filter_eq_self.mpr λ_ _=>Ŗ];rwa[q])];let z:=step y d;induction b:e y with|a=>rw[b]at z;rwa[z]|c a=>rw[b]at z;exact(λR q=>q,λ_=>z)
def jF{k:Ń}{xs:ϑ}{a:Pv->Es->Ő Es}{b:Ss}{N:En}{σ:Es}{h:Hs}(c:ϑ->ϑ->Es->Hs->ß)(g:c [] xs σ h)(step:∀pre x post σ' h',xs=pre++x::post->c pre (x::post) σ' h'->match a x σ' with|O d=>b (N.lp (lM k (c (pre++[x]) post)) (lM k N.nx)) d h'|ao=>ŧ)(f:∀σ' h',c xs [] σ' h'->N.nx σ' h'):CO k xs a b N σ h:=by
 delta CO;erw[(λi σ' h'=>c (xs.take i) (xs.drop i) σ' h',by done,λi x σ' h' H j=>?_,λσ' h' j=>f σ' h' (by dsimp only at j;rw[fU,List.drop_length]at j;rwa[j]))];let(l,e):=ar.mp H;let E:xs.drop i=x::xs.drop (i+1):=by rw[<-e,jO]
 let z:=step _ x _ σ' h' (qX H) (E▸j);rw[<-wL H]at z;rwa[z]
def qR{c:Þ}(h:c)(a:A):br c A B:=by subst h;rwa[a]
def EU(h:c=a5)(b:B):br c A B:=by subst h;rwa[b]
def isInt:Pv->Þ|.I _=>J|_=>a5
def AY{p:ß}(h:a5):p:=é h
def uw(z:(a&&(b&&c))):a/\b/\c=true:=((ag z).1,ag (ag z).2)
def vZ(z:(a&&(b&&(c&&d)))):a/\b/\c/\d=true:=((ag z).1,uw (ag z).2)
abbrev mC(h:Hs)(k:Î->Hs->ß):ß:=match h with|.L [.I x]::r=>k x r|_=>ŧ
def tp:Ct:=λ_ _ _ _=>ŧ
theorem Dt.no{st:É}{ps:ϐ}(r:Src W.K W.mg (L.S.gR i) st ps):Dt L W i k tp:=by let(f,F,a,h,b):=r.ex;let no:∀v H Q E,¬dI (L.y W) tp v H Q E:=λv H Q E z=>(by let(_,_,_,_,_,_,_,_,c,_,_):=z;rwa[c]);exact(ps,f,F,(λv H Q E q=>Ă q (no v H Q E),λA o s H args u v Q E _ _ _ _ q=>Ă q (no v H Q E)),h,a.kp,b)
def xj:Ł (Ń×Ct)->Ń->Ct|[],_=>tp|(j,c)::r,i=>match Ì i j with|J=>c|a5=>xj r i
def All(L:Lw)(W:Wd)(k:Ń):Ł (Ń×Ct)->ß|[]=>æ|(i,c)::r=>Dt L W i k c/\All L W k r
theorem All.at:∀{l:Ł _},All L W k l->∀i∈l.map (·.1),Dt L W i k (xj l i)|[],_,i,h=>by grind|(j,c)::r,f,i,h=>by induction e:Ì i j with
  |d=>
   let E:xj ((j,c)::r) i=c:=by show(match Ì i j with|J=>c|a5=>xj r i)=c;rw[e]
   rw[E,aX e];rwa[f.1]|e=>
   let E:xj ((j,c)::r) i=xj r i:=by show(match Ì i j with|J=>c|a5=>xj r i)=_;rw[e]
   rw[E];erw[All.at f.2 i ((aw.mp h).resolve_left λz=>?_)];rw[show i=j from z,sh]at e;cases e
theorem zT.of:∀{l:Ϙ},(∀i∈l,Dt L W i k (fn i))->zT L W fn k l|[],_=>Ť|_::_,h=>(h _ aF,zT.of λi H=>h i (aE _ H))
abbrev Lw.G(L:Lw)(l:Ł (Ń×Ct))(iok:Ϙ):Gm:=L.g (xj l) (l.map (·.1)) iok
def Ek:ϐ->ϐ->Þ|[],[]=>J|x::r,y::q=>cC x y&&Ek r q|_,_=>a5
theorem xN:∀{l m:ϐ},Ek l m=J->l=m|[],[],_=>Ŗ|[],_::_,h=>by cases h|_::_,[],h=>by cases h|x::r,y::q,h=>by rw[bQ.mp (ag h).1,xN (ag h).2]
def Jh(N ps:ϐ)(sc:Í):Þ:=sc.kind==.function&&(!sc.isCoroutine&&(!sc.isGenerator&&(rr N&&(Ek (N.take (Á ps)) ps&&(ps.all (R5 sc)&&sc.names.all λy=>y.2 !=.free)))))
def lQ(h:Jh N ps sc):c7 N ps sc:=by let(H,h):=ag h;let(a,h):=ag h;let(b,h):=ag h;let(c,h):=ag h;let(d,h):=ag h;let(e,f):=ag h;exact(GQ H,iE a,iE b,nj c,xN d,λx g=>DC (lI e x g),λy i z=>by let:=lI f y i;rw[z]at this;cases this)
def wx(sc:Í):ϐ:=(sc.names.filter λp=>match p.2 with|.local=>J|.cell=>J|_=>a5).map (·.1)
def Lk.eN0{C:Ct}{st:É}(N:ϐ)(z:Þ)(l:Ł _)(iok:Ϙ)(B:Lk L W)(b:Ms (L.G l iok) L.t)(s:Src W.K W.mg (L.S.gR i) st ps)(I:(Jh N ps (aG st)&&b.ck (L.S.at N (aG st) J) (bX st))=J)(H:All L W (k+1) l)(hi:wN L W k iok)(a:∀ds h Q x,C ds h Q x->Á ds=Á ps/\b.m (iR z (Á h) Q x) (rF (Á N) ds) h):Dt L W i (k+2) C:=B.d N ps z b s (lQ (ag I).1) (ag I).2 (zT.of H.at) hi a
def Lk.e0{C:Ct}{st:É}(n:Ń)(z:Þ)(l:Ł _)(iok:Ϙ)(B:Lk L W)(b:Ms (L.G l iok) L.t)(s:Src W.K W.mg (L.S.gR i) st ps)(I:(Ì (Á (wx (aG st))) n&&(Jh (wx (aG st)) ps (aG st)&&b.ck (L.S.at (wx (aG st)) (aG st) J) (bX st)))=J)(H:All L W (k+1) l)(hi:wN L W k iok)(a:∀ds h Q x,C ds h Q x->Á ds=Á ps/\b.m (iR z (Á h) Q x) (rF n ds) h):Dt L W i (k+2) C:=by let h:=aX (ag I).1;subst h;rwa[B.eN0 _ z l iok b s (ag I).2 H hi a]
def Lk.ahN{st:É}(N ps:ϐ)(z:Þ)(l:Ł _)(iok:Ϙ)(B:Lk L W)(b:Ms (L.G l iok) L.t)(s:pK W.K (L.ca c) q st ps)(H:W.mg (L.S.sH c)=O (.ref (L.ca c)))(i:(!Nat.ble 80 c&&(Jh N ps (aG st)&&b.ck (L.S.at N (aG st) a5) (bX st)))=J)(f:All L W (k+1) l)(hi:wN L W k iok)(C:∀ds h Q x,L.ma c ds h Q x->Á ds=Á ps/\b.m (iR z (Á h) Q λ_ _=>ŧ) (rF (Á N) ds) h):Di L W c (k+2):=B.mk1 N ps z b s H (lQ (ag (ag i).2).1) (iE (ag i).1) (ag (ag i).2).2 (zT.of f.at) hi C
def Lk.aij{st:É}(n:Ń)(z:Þ)(l:Ł _)(iok:Ϙ)(B:Lk L W)(b:Ms (L.G l iok) L.t)(s:gK W.K (L.ca (c/100-1)) (L.S.sH c) q st ps)(i:(Ë 100 c&&(Ì (Á (wx (aG st))) n&&(Jh (wx (aG st)) ps (aG st)&&b.ck (L.S.at (wx (aG st)) (aG st) J) (bX st))))=J)(H:All L W (k+1) l)(hi:wN L W k iok)(C:∀ds h Q x,L.ma c ds h Q x->Á ds=Á ps/\b.m (iR z (Á h) Q x) (rF n ds) h):Di L W c (k+2):=by let e:=aX (ag (ag i).2).1;subst e;rwa[B.aik _ ps z b s (lQ (ag (ag (ag i).2).2).1) (ag i).1 (ag (ag (ag i).2).2).2 (zT.of H.at) hi C]
end F
namespace F
open L2
def kW(C:Ct)(x:XP)(Q:KP):KP:=λds h=>C ds h (qD Q) x
def u_(C:Ct)(A:Sm):Sm:=λx σ h Q=>A x σ h (kW C x Q)
abbrev Pw:=Hs->Ł Dv->ß
abbrev Ig:=XP->Es->Hs->(Pw->Hs->ß)->ß
def JG(Y:T0)(G M:Ł À)(H:Hp)(j:It)(P:Pw):ß:=∀g m h a X,(∀b∈g,b∈G\/H b=ao)->Ext M H m h->bq (Y.z g) m h a->P a X->(∀(i:Ń)x,X[i]?=O x->j.go i h/\∀v o,j.δ i h v o->Ext m h m o/\bq (Y.z g) m o a/\eG (Y.z g) m o x v)/\j.stop (Á X) h
structure ř(Y:T0)(G:Ł À)(E:XK)(τ:Ç)(H:Hp)(R:It->Hp->ß)(M:Ł À)(σ:Es)(h:Hs)(xc:XP)(Q:Pw->Hs->ß):ß where
 rel:bq (Y.z G) M H h
 env:dm (Y.z G) M H σ τ
 out:∀P h' M' H' a,Ext M H M' H'->bq (Y.z G) M' H' h'->JG Y G M' H' a P->Q P h'->R a H'
 exc:∀C h' M' H',Ext M H M' H'->bq (Y.z G) M' H' h'->xc C h'->pW Y.t.ca E C H'
inductive Og(Y:T0)(E:XK)(m:Ig)(τ:Ç)(H:Hp)(R:It->Hp->ß):ß|mk(G M:Ł À)(σ:Es)(h:Hs)(xc:XP)(Q:_)(k:ř Y G E τ H R M σ h xc Q)(q:m xc σ h Q):Og Y E m τ H R
def ID(h:de 'X' E (u_ C A) τ H l):f7 'X' E A τ H λvs m=>dI 'X' C vs m l E:=by let(G,M,σ,s,x,Q,k,q):=h;exact(G,M,σ,s,x,_,(k.rel,k.env,λd n o y v e R i p=>(G,o,n,d,_,x,R,i,p,λd2 a M2 f w g r u j=>k.out d2 a M2 f w (e.trans g) r u j,λc a M2 f g r j=>k.exc c a M2 f (e.trans g) r j),k.exc),q)
def ϩ(I:Im):Ig:=λx σ h Q=>I x σ h λy a=>Q (λ_ s=>s=y.map .p) a
def Pt.jg(j:Pt Y G M H c ys):JG Y G M H c λ_ xs=>xs=ys.map .p:=λl m n o xs q e r p=>by subst p;let(a,b):=j l m n o q e r;erw[(λi x d=>?_,by rw[ae];rwa[b])];rw[aN]at d;induction f:ys[i]? with|a=>left|c y=>rw[f]at d;cases d;let(g,k):=a i y f;exact(g,λv z s=>k v z s)
def ŷ(h:Og 'X' E (ϩ I) τ H R):wJ 'X' E I τ H R:=by let(G,M,σ,h,x,Q,k,q):=h;exact(G,M,σ,h,x,_,(k.rel,k.env,λs c m d a e r j _ q=>k.out _ c m d a e r j.jg q,k.exc),q)
def Ϭ(h:Hs)(Q:KP)(d:Dv)(H:Hs):ß:=gd (LD d) (Q [.r (Á h)] H)
def kNw(c:Ń)(C:Ct)(Q:KP):KP:=λds h=>C (.r (Á h)::ds) (h++[.I c []]) (Ϭ h Q) λ_ _=>ŧ
def sNw(c:Ń)(C:Ct)(A:Sm):Sm:=λx σ h Q=>A x σ h (kNw c C Q)
theorem rm:∀{F:Ł (Ä×V)},f∉F.map (·.1)->F.lookup f=ao|[],_=>Ŗ|(g,w)::F,h=>by rw[cF,aw,not_or]at h;rw[ig,c8.mpr h.1];rwa[rm h.2]
def ķ{Q:KP}{j:VK}(r:bq (Y.z G) M H h)(i:cU (Y.z G) M H d vs)(q:C (.r (Á h)::d) (h++[.I c []]) (λd b=>gd (LD d) (Q [.r (Á h)] b)) λ_ _=>ŧ)(out:∀d h' m H' v,Ext M H m H'->bq (Y.z G) m H' h'->eG (Y.z G) m H' d v->Q [d] h'->j v H')(nx:H x=ao)(k:H D=ao)(n:D≠x):dI Y C (.A x::(vs++[])) (dq (dq H D (.own x)) x (.ins (Y.t.ca c) D [])) (λv e=>v=.jn/\j (.A x) e) E0:=by
 let MB:dq H D (.own x) x=none:=by rw[bw (cY n)];rwa[nx]
 let R:bq _ M (dq H D (.own x)) h:=r.add k;let l:Ext M H _ (dq _ x (.ins (Y.t.ca c) D [])):=(Ext.add k).trans (Ext.push R MB);let s:(M++[x])[Á h]?=O x:=by rw[<-r.ln,aK (ah _),eA];rfl
 rw[aV];erw[(G,_,_,.r _::d,_,_,bq.push (o:=.I c []) R MB (D,[],bC,by rw[bw n];rwa[bC],Ŗ,Ť),((x,s,Ŗ),i.ext r l),q,λd2 b M2 e w f u y g=>?_,λc b M2 e f u g=>g.elim)];let dn:d2=.p .N:=by induction d2 with|r _=>done|p d=>cases d<;>first|rfl|done
 subst dn;exact(ϳ y,out (.r _) b M2 e _ (l.trans f) u (x,f.at s,Ŗ) g)
def Wa(D:lF X.prog X.w X.K X.mg X.base k0 x (t.ca c) ps (dI 'X' ct))(r:fJ (k0+1) X.A)(g:Gl X x)(b:PA X (a::rest) (f7 'X' E A))(m:(x=="__debug__")=a5)(e:(a::rest).all cL):PE X (.Call (.Name x p) (a::rest) [] pos) (de 'X' E (sNw c ct A)):=(MR D r g b m e).imp λτ H F z=>by let(G,M,σ,h,f,Q,k,q):=z;exact(G,M,σ,h,f,_,(k.rel,k.env,λd L P S v i R I j=>λx T nx N n=>ķ R I j (λd2 l M2 o w s u y C=>k.out d2 l M2 o w (i.trans s) u y C) nx N n,k.exc),q)
end F
namespace L2
end L2
namespace F
open L2
def HH(h:Hs)(d:Dv):Ő (Ł Dv):=match nh h d with|O x=>O (x.map .p)|ao=>yX h d
theorem aY.ds:∀{xs:ϑ}{vs:ϕ},aY Z M H xs vs->cU Z M H (xs.map .p) vs|[],[],_=>Ť|[],_::_,q=>by assumption|_::_,[],q=>by done|_::_,_::_,q=>by exact(q.1,aY.ds q.2)
def FW{Y:T0}(r:bq (Y.z G) M H h)(i:eG (Y.z G) M H x v)(e:HH h x=O xs):∃a vs,v=.A a/\H a=O (.L vs)/\cU (Y.z G) M H xs vs:=by
 delta HH at e;split at e;.ext s y;cases e;let(a,vs,E,s1,I):=g8 r i y;exact(a,vs,E,s1,I.ds)
 .let(_,a,vs,_,_,E,s1,I):=FX r i e;exact(a,vs,E,s1,I)
structure Jg(Γ:Gm)(t:Tb)where
 m:Ig
 ck:Sx->Å->Å->Þ
 pi:∀{k S X E tx x},lZ Γ t k S X E->ck S tx x->PI X tx x (Og 'X' E m)
def t_(t:Ä->Ő ϐ)(fn:Ń->Ct)(fok:Ϙ)(A R:Sm):Sm:=λx σ h Q=>A x σ h λX H=>match X with|[.p (.S z)]=>gG (t z) (λk=>gd (je (Á k) fok) (R x σ H λds a=>fn (Á k) ds a (λd b=>Q [d] b) x)) ŧ|_=>ŧ
def aiC(t:Ä->Ő ϐ):O1:=λx h Q=>match x with|.p (.S z)=>Q (.p (.B (t z).isSome)) h|_=>ŧ
section
variable{Γ:Gm}{t:Tb}
def Jg.p(j:Jm Γ t):Jg Γ t:=(_,j.ck,λo h=>(j.pi o h).imp λ_ _ _=>ŷ)
def MZ{ad:À}(T:sA X.w X.K X.mg t.gR ad g)(D:∀i∈fok,∃ps,nY X.prog X.w X.K X.mg X.base k (t.gR i) ps (dI 'X' (fn i)))(P:fJ k X.A)(U:iq (vP X.prog X.w) X E)(W:Gl X n)(Y:X.mg n=O (.ref ad))(Z:(n=="__debug__")=a5)(he:PE X e (de 'X' E A))(hs:lH e)(ha:PA X (a::b) (f7 'X' E R))(dY:(a::b).all cL):PE X (.Call (.Subscript (.Name n p) e q) (a::b) [] pos) (de 'X' E (t_ g fn fok A R)):=(ML (Ga (RQ T) (tY (v:=.A ad) W Y Ŗ Z) he hs) P U ha dY).imp λτ H QV zz=>by let(G,M,σ,h,x,Q,k,q):=zz;erw[(G,M,σ,h,x,_,(k.rel,k.env,λd h1 M1 H1 v l r1 i1 q1=>?_,k.exc),q)];induction d with|r _=>done|p d=>cases d with|S z=>let(ks,hk,m):=cP q1;let(c,j):=cG m;let(ps,f,fd,F,o,s,hb):=D _ (cV.mp c);erw[(Ŗ,z,ks,pI i1,hk,λf' L=>?_)];rw[o]at L;cases L;exact(f,fd,ps,_,Ŗ,F,s,hb,G,M1,σ,h1,x,_,(r1,k.env.ext k.rel l,λds h2 M2 H2 vs N r2 i2 m=>(G,M2,h2,ds,_,x,r2,i2,m,λd3 u y B w C I i3 j=>k.out d3 u y B w (l.trans (N.trans C)) I i3 j,λc u y B C I j=>k.exc c u y B (l.trans (N.trans C)) I j),k.Ht l),j)|_=>left
namespace Em
def w8(i:Ń)(A:Am Γ t):Em Γ t:=(_,λS x=>je i _&&(S.cm&&Xr S _ A x),λ{k S X E x}o h=>by let(ps,D):=o.fnX (ag (ag h).2).1 i (cV.mp (ag h).1);rw[<-o.gR]at D;rwa[qU o (ag (ag h).2).2 λ_ _ _ _ H d hn pa p=>(Sz D (o.room (ag (ag h).2).1) o.hp H pa d p).imp λ_ _ _=>ID])
def nw(c:Ń)(A:Am Γ t):Em Γ t:=(_,λS x=>!Nat.ble 80 c&&je c _&&(S.cm&&Xr S _ A x),λ{k S X E x}o h=>by let(ps,D):=o.ma c (cV.mp (ag (ag h).1).2);replace D:=Lu (iE (ag (ag h).1).1) D;rwa[qU o (ag (ag h).2).2 λ_ _ _ _ H d hn pa p=>Wa D (o.room (ag (ag h).2).1) H pa d p])
def clf(i:Ń)(A:Em Γ t)(R:Am Γ t):Em Γ t:=(_,λS=>jL λf s K _=>Ë 100 i&&je i _&&(S.cm&&FT K&&(!wt s&&R.ck S s&&EC (λa e _=>AV S (S.tnm i) a&&(A9 e&&A.ck S e)) f)),λ{k S X E x}o h=>by erw[fe h λf s K q h=>?_];let(d,h):=ag h;let(H,g,j):=uw h;let(l,c):=ag g;rw[iD (ag H).2];erw[nK j λa e p h=>?_];let(m,n,r):=uw h;let(z,u,v,w,hn):=fY o m;let(ad,y,T):=o.tab i (cV.mp (ag d).2);replace T:=Ol (ag d).1 T;rw[u];induction s with|f=>done|g b s=>let(pa,P):=R.pa o c;rwa[MZ T (o.fnX (ag H).1) (o.room (ag H).1) o.hp v y w (A.pe o r) (yT n) pa P])
end Em
def Tm.tin(i:Ń)(A:Em Γ t):Tm Γ t:=(s1 (aiC _) A.m,λS=>UO λa os bs _=>ko (l1 os) λo=>ko (l1 bs) λb=>Đ (o=.In)&&(Ë 100 i&&je i _&&(AV S _ b&&A.ck S a)),λ{k S X E x}o h=>by erw[zN h λa os bs q h=>?_];let(F,e,h):=cO h;let(b,j,h):=cO h;let(c,g,l,n):=vZ h;let(P,s,u,w,hn):=fY o l;let(ad,y,T):=o.tab i (cV.mp (ag g).2);replace T:=Ol (ag g).1 T;rw[fw e,fw j,bZ c,s];erw[(Gp (Zv T) (A.pe o n) (tY (v:=.A ad) u y Ŗ w) (zc Ŗ)).imp λτ H K h=>?_];let(G,M,σ,h,B,Q,k,q):=GK h;erw[(G,M,σ,h,B,_,(k.rel,k.env,λd c C D v e R I f=>?_,k.exc),q)];induction d with|r _=>rwa[f.elim]|p d=>cases d with|S z=>exact(Ŗ,z,pI I,k.out _ c C D _ e R oZ f)|_=>rwa[f.elim])
namespace Mm
end Mm
end
end F
namespace L2
end L2
namespace F
open L2
end F
namespace F
open L2
def Ze(e:h[l]?=O (.L xs)):nh h (.r l)=O xs:=by show(match h[l]? with|O (.L xs)=>O xs|_=>ao)=_;rw[e]
end F
namespace F
open L2
section
variable{Γ:Gm}{t:Tb}
namespace E1
end E1
end
end F
namespace F
open L2
variable{Γ:Gm}{t:Tb}
end F
namespace F
open L2
@[irreducible]def K7(t:Tg)(P:Pw)(b:Ss)(N:En)(σ:Es)(h:Hs):ß:=∃(X:Ł Dv)(W:Ń->Es->Hs->ß),W 0 σ h/\(∀i a H,W i a H->P H X)/\(∀(i:Ń)x a H,X[i]?=O x->W i a H->match x with
  |.p y=>match PJ t y a with|O c=>b (N.lp (W (i+1)) N.nx) c H|ao=>ŧ
  |_=>ŧ)/\∀a H,W (Á X) a H->N.nx a H
def adX(t:Tg)(I:Ig)(b:Ss):Ss:=λN σ h=>I N.xc σ h λP H=>K7 t P b N σ H
def Q7(h:eJ 'X' E (adX tg I b) D τ H):IE (Og 'X' E I) (Rc X.K tg) (eJ 'X' E b) D τ H:=by
 let(G,M,σ,h0,N,k,q):=h;erw[(G,M,σ,h0,_,_,(k.rel,k.env,λP h1 F H1 j A r1 jo q=>?_,k.exc),q)];delta K7 at q;erw[cps λR k0=>?_];let(x,W,w0,hP,T,L):=q;erw[k0 (λi m p u=>m=Á x-i/\i<=Á x/\∃f a h',Ext F H1 f u/\bq _ f u h'/\dm _ f u a p/\W i a h',(_,Ŗ,aP _,F,σ,h1,Ext.refl,r1,k.env.ext k.rel A,w0),?_)];erw[λi m p u z=>cps λR k1=>?_];let(rfl,hi,f,a,h',S,U,v2,w):=z;let(ja,jb):=jo G f u h' x (λ_ z=>.inl z) S U (hP _ _ _ w);by_cases mE:i<Á x
 .let(g,y):=ja i _ (av mE);erw[k1 (.inr (g,_,λτ2 H2 zz=>by done,λv oz yl=>cps λR k2=>?_))];let(e3,r3,ip):=y v oz yl;let q:=T i _ a h' (av mE) w;let B:=S.trans e3;let nx:∀c o l e n,Ext f oz l e->bq ('X'.z G) l e o->dm ('X'.z G) l e c n->W (i+1) c o->∃m',m'<Á x-i/\m'=Á x-(i+1)/\i+1<=Á x/\∃f a h',Ext F H1 f e/\bq _ f e h'/\dm _ f e a n/\W _ a h':=λc o l e n r s Z Q=>(_,(),Ŗ,dh ‹_›,l,c,o,B.trans r,s,Z,Q);split at q
  .ext y ey;split at q;.ext σ4 e4;rw[ey]at ip;rwa[k2 (Rf e4 ip (v2.ext U e3) λτ4 v4=>(G,f,_,h',N.lp _ _,(r3,v4,nx,λd o l e v r s i5 Q=>k.rt d o l e v (A.trans (B.trans r)) s i5 Q,λc o l e n r s Z Q=>k.nx c o l e n (A.trans (B.trans r)) s Z Q,nx,λC o l e r s Q=>k.exc C o l e (A.trans (B.trans r)) s Q),q))]
   .rwa[q.elim]
  .left
 .let hx:i=Á x:=()
  subst hx;rwa[k1 (.inl (jb,k.nx a h' f u p (A.trans S) U v2 (L a h' w)))]
variable{Γ:Gm}{t:Tb}
def Mm.foT(g:Tg)(j:Jg Γ t)(B:Ms Γ t):Mm Γ t:=(_,λS=>OF λT ix b e _=>S.cm&&wt e&&(nq ix&&(T_ S g T&&(j.ck S T ix&&B.ck S b))),λo h=>by erw[uj h λT ix b e p h=>?_];let(H,h):=ag h;let(a,h):=ag h;let(c,h):=ag h;let(d,f):=ag h;rw[fX (ag H).2];exact(DV o.po (o.x.hc (ag H).1).1 (j.pi o.x d) (xy o.x.hq o.x.hN o.x.hs o.nd o.hf c) (B.ps o f) λ_=>pY a).imp λ_ _ _=>Q7)
def Fu{T:Tg}{P:Pw}{b:Ss}{N:En}{σ:Es}{h:Hs}(xs:ϑ)(a:ϑ->ϑ->Es->Hs->ß)(k:a [] xs σ h)(g:∀pre post σ' h',a pre post σ' h'->P h' (xs.map .p))(step:∀pre x post σ' h',xs=pre++x::post->a pre (x::post) σ' h'->match PJ T x σ' with|O c=>b (N.lp (a (pre++[x]) post) N.nx) c h'|ao=>ŧ)(f:∀σ' h',a xs [] σ' h'->N.nx σ' h'):K7 T P b N σ h:=by delta K7;erw[(_,λi σ' h'=>a (xs.take i) (xs.drop i) σ' h',by done,λi σ' h' j=>g _ _ _ _ j,λi x σ' h' d j=>?_,λσ' h' j=>f σ' h' nofun)];rw[aN]at d;induction H:xs[i]? with|a=>left|c y=>
 rw[H]at d;cases d;let(l,e):=ar.mp H;let E:xs.drop i=y::xs.drop (i+1):=by rw[<-e,jO]
 let z:=step _ y _ σ' h' (qX H) (E▸j);rw[<-wL H]at z;rwa[z]
end F
namespace F
open L2
def Em.E4{Γ:Gm}{t:Tb}(n:Ń)(a:Ϙ)(T:Tg)(j:Jm Γ t)(F:Fm Γ t)(A:Em Γ t):Em Γ t:=(xG n a T _ F.m A.m a5,λS x=>Kh S n a T _ F _ x,λo h=>tH o h λN u ix i e sc p b c d g k l q r v=>(Sy b (o.hc v).1 c (j.pi o d) (λf s H=>k (F8 o v _ _ f _ _)) (λf s H=>F.pf (F8 o v _ _ f _ _) l) (λf s H=>A.pe (F8 o v _ _ f _ _) q) r).imp λ_ _ _=>tI λ_ _ _ z=>by lia g)
end F
namespace F
open L2 PySem.SeqAt
def va{Y:T0}(r:Vals vs us)(R:Vals ws Z)(ix:aY (Y.z G) M H xs vs)(i:aY (Y.z G) M H xs ws)(I:∀{p:Pv}{v u:V}{b U:Â},p∈xs->eg (Y.z G) M H p v->eg (Y.z G) M H p u->RelV v b->RelV u U->EqAt A s b U J):∀j(h:j<us.toArray.size)(a:j<Z.toArray.size),EqAt A s us.toArray[j] Z.toArray[j] ((λ_=>J) j):=by
 intro j h a;let l1:=r.length;let L:=ix.len;simp only[bg]at h a;let e:xs[j]?=O (xs[j]'()):=av _;let(v,d,P):=ix.get e;let(w,f,g):=i.get e;let(u,hu,k):=r.get d;let(z,c,B):=R.get f;let E:us.toArray[j]=u:=by rw[av h]at hu;simpa using hu
 let l:Z.toArray[j]=z:=by rw[av a]at c;simpa using c
 rw[E,l];rwa[I (eW _) P g k B]
def Ow{σ:Ç}{Y:T0}{A:cr}(I:Inv X bb σ H s)(S:gX X.K H a vs)(f:gX X.K H b ws)(ix:aY (Y.z G) M H xs vs)(i:aY (Y.z G) M H xs ws)(h:∀{p:Pv}{v u:V}{c U:Â},p∈xs->eg (Y.z G) M H p v->eg (Y.z G) M H p u->RelV v c->RelV u U->EqAt A.in1 s c U J):∃(B R:Array _)(e:Ń->Þ),s.heap.IsTuple a B/\s.heap.IsTuple b R/\(∀j(g:j<B.size)(k:j<R.size),EqAt A.in1 s B[j] R[j] (e j))/\((á (min B.size R.size)).all e&&B.size==R.size)=true:=by let(B,r,t,_):=I.tuple S;let(R,d,T,_):=I.tuple f;erw[(_,_,_,t,T,va r d ix i h,?_)];rw[bg,bg,<-r.length,<-d.length,<-ix.len,<-i.len,ku,Bool.and_true];rwa[bJ.mpr λ_ _=>Ŗ]
end F
namespace L2
open PySem.SeqAt PySem.MeetsSeq PySem.Builtin PySem.Builtin.Str
end L2
namespace F
open L2
section
variable{Γ:Gm}{t:Tb}
namespace E1
end E1
end
end F
namespace F
open L2
end F
namespace L2
def A7{o:Å}{m:Ä}{cs pos:Õ}{args:Ł _}{env:Ù}(q:ge o m env (Ê o env)=Ê o env)(a:methodCallForm (Á args+0) (eP pos (dN args env)) (backToKw pos (hG [] env)))(h:(cs.endLine==pos.line)):∃p,Ê (.Call (.Attribute o m cs) args [] pos) env=(do
   let v<-Ê o env
   standAt cs.atName let(f,first)<-holding [v] (getMethod v m p)callWith pos f first (eP pos (dN args env)) (backToKw pos (hG [] env))):=by
 let e:methodCallPos J o env cs pos=pure pos:=by delta methodCallPos;rw[h];rfl
 erw[(do return(<-importBound o env).getD J,?_)];let H:methodCallForm (Á _+Á ([]:Ł g5)) _ _=true:=a;rw[arm_eval_Call,q];delta methodCall;rw[H,e];rfl
end L2
namespace F
open L2
def ľ(h:Hs)(Q:KP):KP:=λds H=>m1 ds λd=>gG (CP H (Á h) d) (λx=>gd (bH (Á h) (H.take (Á h))) (Q [x] (H.take (Á h)))) ŧ
def ai3(A:Sm):Sm:=λx σ h Q=>A x σ h (ľ h Q)
def ϛ:Sm:=λ_ _ h Q=>Q [.r (Á h)] (h++[.K []])
def Ŝ:Sm:=λ_ _ h Q=>Q [.r (Á h)] (h++[.E [] []])
def FV:ϑ->Ő (Ł cp)|[]=>O []|x::r=>match jY x with
  |O κ=>match FV r with|O l=>O (κ::l)|ao=>ao
  |ao=>ao
def i':cp->Pv|.inl i=>.I i|.inr x=>.S x
def Ϲ:ON:=λx h Q=>gG (d_ x) (λps=>gG (FV ps) (λk=>gd (qE (Á k)) (Q (.p (.key k)) h)) ŧ) ŧ
def Zm(n:Ń):O1:=λx h Q=>match x with|.p (.key k)=>gG k[n]? (λκ=>Q (.p (i' κ)) h) ŧ|_=>ŧ
def isC(c:Ń)(h:Hs):Dv->Þ
 |.r i=>match h[i]? with|O (.I C _)=>Ì C c|_=>a5
 |.p (.obj C _)=>Ì C c|_=>a5
def ahT(C:Ct)(X:XP)(Q:KP)(x:Dv):KP:=λds h=>C (x::ds) h (qD Q) X
def Ϝ(c:Ń)(C:Ct)(A:Sm)(X:XP)(σ:Es)(Q:KP):KP:=λs h=>m1 s λx=>gd (isC c h x) (A X σ h (ahT C X Q x))
def wf(c:Ń)(C:Ct)(o A:Sm):Sm:=λx σ h Q=>o x σ h (Ϝ c C A x σ Q)
def Dl(κ:Ł cp)(K:Ł (Ł cp)):Ł (Ł cp):=bif K.any λk=>Đ (k=κ)then K else K++[κ]
def km:Ő Ob->Ő (Ł (Ł cp))|O (.K k)=>O k|_=>ao
def Ĺ:Dv->Þ|.p (.B J)=>J|_=>a5
def adZ(A B C:Sm):Ss:=λN σ h=>A N.xc σ h λs a=>match s with
 |[v]=>gd (Ĺ v) (B N.xc σ a λx b=>match x with
  |[.r i]=>C N.xc σ b λy H=>match y with|[.p (.key κ)]=>gG (km H[i]?) (λk=>gd (qE (Á k+1)) (N.nx σ (H.set i (.K (Dl κ k))))) ŧ|_=>ŧ
  |_=>ŧ)|_=>ŧ
def ZQ(f:PE X a (de 'X' E A)):PE X a (de 'X' E (ai3 A)):=f.imp λτ H l z=>by let(G,M,σ,h,g,Q,k,q):=z;erw[(G,M,σ,h,g,_,(k.rel,k.env,λd m n i v e r I b=>?_,k.exc),q)];let(x,j,b):=cP b;let(c,b):=cG b;rwa[k.out x _ _ i v (e.cut (by rw[k.rel.ln];rwa[ah _])) (r.cut _ c) (CS r I j) b]
def SH:PE X (.Dict [] [] pos) (de 'X' E ϛ):=MO.imp λτ H c (G,M,σ,h,x,Q,k,q) p b=>k.out _ _ _ _ _ (Ext.push k.rel b) (k.rel.push (o:=.K []) b bC) (mZ k.rel.ln) q
def SG:PE X (.Dict [] [] pos) (de 'X' E Ŝ):=vq.imp λτ H c (G,M,σ,h,x,Q,k,q) p b=>k.out _ _ _ _ _ (Ext.push k.rel b) (k.rel.push (o:=.E [] []) b ([],bC,Ť,Ť)) (mZ k.rel.ln) q
theorem VM{Y:T0}{G M:Ł À}{H:Hp}:∀{ps:ϑ}{k:Ł cp}{vs:ϕ},FV ps=O k->aY (Y.z G) M H ps vs->vs=k.map kV
 |[],k,vs,e,i=>by cases e;induction vs with|f=>rfl|g _ _=>rwa[i.elim]
 |x::r,k,vs,e,i=>by
  delta FV at e;split at e
  .ext κ b;split at e;.ext l c;cases e;cases vs with|f=>rwa[i.elim]|g v vs=>rw[Dx b i.1,VM c i.2];rfl
   .lia
  .lia
def ZS{k1:Ń}(h:PA X rest (f7 'X' E A)):PE X (.Tuple rest k1 pos) (de 'X' E (sN Ϲ A)):=(MV h).imp λτ H n h=>by let(G,M,σ,h,x,Q,k,q):=h;erw[(G,M,σ,h,x,_,(k.rel,k.env,λd g m s v i r I b=>?_,k.exc),q)];let(ps,e,b):=cP b;let(K,j,b):=cP b;let(c,b):=cG b;let l:=VM j (vy e I);subst l;exact(by rw[ae];rwa[f6 c],λp f=>k.out (.p (.key K)) g m _ _ (i.trans (Ext.add f)) (r.add f) (p,Ŗ,bC) b)
def LY{Y:T0}:eg (Y.z G) M H (i' κ) (kV κ):=by induction κ<;>rwa[Ŗ]
def RE{n:Ń}:Pr Y (λx H Q=>l_ Y.K x (.I n) H Q) (Zm n):=λG M h H x v Q c r i q out=>by induction x with|r _=>rwa[q.elim]|p x=>cases x with|key k=>let(κ,e,q):=cP q;let(a,rfl,b):=i;exact(a,_,n,_,Ŗ,Ŗ,.inl (.inl b),PN nofun,out (.p _) h M H _ Ext.refl r LY q)|_=>rwa[q.elim]
def ZT{n:Ń}(c:PE X a (de 'X' E A))(d:PE X b (tC (.I n)))(hs:lH b):PE X (.Subscript a b pos) (de 'X' E (s1 (Zm n) A)):=(Ga LS c d hs).imp λτ H Q h=>Ww RE h
def VT(hc:rL X.K t c)(Z:m∉t.fl c)(h:de 'X' E (wf c W Oo A) τ H QV):de 'X' E Oo τ H λx b=>∃a D fs,x=.A a/\b a=O (.ins (t.ca c) D fs)/\fs.lookup m=ao/\f7 'X' E A τ b λvs H2=>dI 'X' W (x::(vs++[])) H2 QV E:=by
 let(G,M,σ,h,j,Q,k,q):=h;erw[(G,M,σ,h,j,_,(k.rel,k.env,λd h1 M1 b v e l n s=>?_,k.exc),q)];let(g,s):=cG s;let F:∃a D fs,v=.A a/\b a=O (.ins (t.ca c) D fs)/\fs.lookup m=none:=by induction d with
  |r i=>
   change(match h1[i]? with|O (.I u _)=>Ì u c|_=>a5)=J at g;split at g;.ext u fs ho;obtain rfl:=aX g;let(a,g0,rfl):=n;let(D,f,s1,_,l1,i2):=l.at' g0 ho;exact(a,D,f,Ŗ,s1,rm λz=>Z (by rw[l1]at z;rwa[fE z]))
   .done|p x=>cases x with|obj u fs=>obtain rfl:=aX g;let(a,D,f,rfl,_,s1,l1,_):=n;exact(a,D,f,Ŗ,s1,rm λz=>Z (by rw[l1]at z;rwa[fE z]))|_=>done
 let(a,D,f,rfl,s1,l1):=F;erw[(a,D,f,Ŗ,s1,l1,G,M1,σ,h1,j,_,(l,k.env.ext k.rel e,λds h2 M2 H2 vs y r2 i2 q2=>?_,k.Ht e),s)];rw[aV];exact(G,M2,h2,d::ds,_,j,r2,(n.ext l y,i2),q2,λd3 L N P w S T i3 U=>k.out d3 L N P w (e.trans (y.trans S)) T i3 U,λc L N P S T U=>k.exc c L N P (e.trans (y.trans S)) T U)
def Q8{X:Cx}(d:(e::es).all cL)(l:Á (e::es)<30):methodCallForm (Á (e::es)+0) (eP dE (dN (e::es) X.env)) (backToKw dE (hG [] X.env))=true:=yK d l
def V9(e:PE X o (de 'X' E Oo))(d:rL X.K t c)(g:m∉t.fl c)(M:ya X.K (t.ca c) m f)(Rn:gJ X f (dI 'X' b) [] E)(i:PA X (a::rest) (f7 'X' E A))(j:ge o m X.env (Ê o X.env)=Ê o X.env)(D:(a::rest).all cL)(l:Á (a::rest)<30)(n:(cs.endLine==dE.line)):PE X (.Call (.Attribute o m cs) (a::rest) [] dE) (de 'X' E (wf c b Oo A)):=by let(P,k):=A7 j (Q8 D l) n;let hp:=D;rw[cw,aM]at hp;exact(MS e d.cl M Rn i (cA hp.1) (fB hp.2) k).imp λτ H Q h=>VT d g h
def ZW(r:PE X o (de 'X' E Oo))(g:rL X.K t c)(u:m∉t.fl c)(M:ya X.K (t.ca c) m f)(Rn:gJ X f (dI 'X' b) [] E)(w:ge o m X.env (Ê o X.env)=Ê o X.env)(n:(cs.endLine==dE.line)):PE X (.Call (.Attribute o m cs) [] [] dE) (de 'X' E (wf c b Oo dB)):=by let(pl,x):=A7 (args:=[]) w Ŗ n;erw[(HX r g.cl M Rn x).imp λτ H QV h=>?_];let(G,M,σ,h,y,Q,k,q):=VT g u h;erw[(G,M,σ,h,y,Q,(k.rel,k.env,λd z D i v F I L N=>?_,k.exc),q)];let(a,P,fs,e,s,l,G',S,T,U,W,Q',j,Z):=k.out d z D i v F I L N;exact(a,P,fs,e,s,l,j.out [] U S i [] Ext.refl j.rel Ť Z)
def Nz{K:Ł _}:jK (K.map λk=>(k,V.B J)) κ (.B J)=(Dl κ K).map λk=>(k,V.B J):=by
 delta jK Dl;let e:(K.map λk=>Ý k (V.B J)).any (λv=>Đ (v.1=κ))=K.any λk=>Đ (k=κ):=by rw[List.any_map];rfl
 rw[e];induction K.any _ with|d=>rw[bB];rwa[my λk _=>⋯]|e=>rw[cond_false,aD];rfl
def RW(h:eJ 'X' E (adZ A B C) D τ H):NT (de 'X' E B) (de 'X' E C) (de 'X' E A) D τ H:=by
 let(G,M,σ,h,N,k,q):=h;let ex:∀{w y},Ext M H w y->∀C f m H1,Ext w y m H1->bq _ m H1 f->N.xc C f->pW t.ca E C H1:=λe C f m H1 x r q=>k.exc C f m H1 (e.trans x) r q;erw[(G,M,σ,h,_,_,(k.rel,k.env,λd f m H1 v g P i1 l=>?_,k.exc),q)];let(z,l):=cG l;let S:v=.B true:=by induction d with|r _=>done|p x=>cases x with
   |B b=>induction b with|d=>done|e=>cases z
   |_=>cases z
 subst S;erw[(G,m,σ,f,_,_,(P,k.env.ext k.rel g,λd2 T M2 H2 v2 i F U I=>?_,ex g),l)]
 induction d2 with|p _=>rwa[I.elim]|r n=>erw[(G,M2,σ,T,_,_,(F,k.env.ext k.rel (g.trans i),λW Z M3 H3 v3 s L i3 Q=>?_,ex (g.trans i)),I)];induction W with|r _=>rwa[Q.elim]|p kk=>cases kk with|key κ=>
    let(ks,j,Q):=cP Q;let(c,Q):=cG Q;let(a,u,g2):=U.ext F s;let(b,rfl,hb):=i3;let j:Z[n]?=O (.K ks):=by
     delta km at j;split at j;.left
     .done
    let ha:=aL u;let c2:=f6 c;erw[(a,_,g2,Af.t (L.at' u j) hb (by rw[ae];rwa[‹_›]),?_)];rw[Nz];rwa[k.nx σ _ M3 _ τ ((g.trans (i.trans s)).trans (Ext.put ha)) (L.put (o:=.K _) u bC) (k.env.ext k.rel ((g.trans (i.trans s)).trans (Ext.put ha))) Q]|_=>left
section
variable{Γ:Gm}{t:Tb}
namespace Em
def mX(A:Em Γ t):Em Γ t:=(_,_,λo h=>ZQ (A.pe o h))
def RV:Em Γ t:=(_,λ_=>QP,λo h=>by erw[ui h λk v p h=>?_];rw[fX (ag h).1];rwa[SH])
def X8:Em Γ t:=(_,λ_=>QP,λo h=>by erw[ui h λk v p h=>?_];rw[fX (ag h).1];rwa[SG])
def key(A:Am Γ t):Em Γ t:=(_,λS=>IS _,λo h=>nL h λ_ _ _ h=>ZS (A.pa o h).1)
def kix(n:Ń)(A:Em Γ t):Em Γ t:=(s1 (Zm n) A.m,λS=>EC λa i _=>A.ck S a&&UP (λc _ _=>nv _ c) i,λo h=>by erw[nK h λa i p h=>?_];let(H,h):=ag h;revert h;erw[λh=>uh h λc j q h=>?_];rw[PL h];rwa[ZT (A.pe o H) MQ (yT Ŗ)])
def me(c:Ń)(b:Em Γ t)(A:Am Γ t):Em Γ t:=(_,λS=>i8 S _ b λe=>Ë 100 c&&(je c _&&(je (c/100-1) _&&!qa (S.sH c) (S.fl (c/100-1))))&&(Ñ _ 30&&(!wt e&&A.ck S e)),λ{k S X E x}o h=>rq h λv e s D H d i j=>by let(l,g):=ag H;let(m,n,p,G):=vZ l;let(q,g):=ag g;let(C,r):=o.cls _ (cV.mp p);let(f,u,R):=o.Zh (cV.mp n) m;induction e with|f=>done|g a e=>let(pa,P):=A.pa o (ag g).2;rwa[V9 (b.pe o d) C (λw=>by rw[r]at w;rw[qb w]at G;cases G) u R pa (lJ i) P (aI q) j])
def HK(c:Ń)(a:Em Γ t):Em Γ t:=(_,λS=>i8 S _ a λe=>Ë 100 c&&(je c _&&(je _ _&&!qa _ _))&&wt e,λ{k S X E x}o h=>rq h λr e A D H b d i=>by let(j,g):=ag H;let(l,m,n,G):=vZ j;let(C,p):=o.cls _ (cV.mp n);let(f,q,R):=o.Zh (cV.mp m) l;rw[fX g];rwa[ZW (a.pe o b) C (λw=>by rw[p]at w;rw[qb w]at G;cases G) q R (lJ d) i])
end Em
def Mm.Dm(A B C:Em Γ t):Mm Γ t:=(_,λS=>rl _,λo h=>by erw[El h λa i p e pos h=>?_];let(H,h):=ag h;let(b,c):=ag h;exact(Gi o.x.Rx (B.pe o.x b) (C.pe o.x c) (A.pe o.x H) Eo).imp λ_ _ _=>RW)
end
end F
namespace F
open L2
def T8(A:Sm):Ss:=λN σ h=>A N.xc σ h λx H=>match x with|[.p (.I (.ofNat n))]=>N.xc (1000+n) H|_=>ŧ
def pW.num(h:pW c E (1000+n) H)(a:H d=O (.xd [("number",.I n)])):E (.ref (c 999)) (O d) H:=by simp only[pW,aA (aQ 1000 n)]at h;rwa[h d (by rw[fV];rwa[a])]
def Ip(h:eJ 'X' E (T8 A) D τ H):GI E (t.ca 999) (de 'X' E A) D τ H:=by
 let(G,M,σ,h,N,k,q):=h;erw[(G,M,σ,h,_,_,(k.rel,k.env,λd a m c v e r i Q=>?_,k.exc),q)];split at Q;.ext n b;cases b;exact(n,i,λx L=>pW.num (k.exc _ a m _ (e.trans (Ext.add L)) (r.add L) Q) bC)
 .left
def Mm.lW{Γ:Gm}{t:Tb}(A:Em Γ t):Mm Γ t:=(_,λS=>L' λe b _=>S.cm&&b.isNone&&(S.fr&&(je 999 S.xok&&ko e (jL λf E k _=>FT k&&(AV S (S.sH 999) f&&ko (l1 E) λe0=>cL e0&&A.ck S e0)))),λo h=>by erw[GL h λe b pos h=>?_];let(H,h):=ag h;let(a,h):=ag h;let(c,h):=ag h;let(s,d,g):=cO h;rw[d];induction b with|c _=>simp at H|a=>erw[fe g λf E k C h=>?_];let(i,h):=ag h;let(j,h):=ag h;let(e0,l,h):=cO h;let(p,m,n,q,hn):=fY o.x j;rw[iD i,fw l,m];let(fr,u):=o.x.fx a;let(r,K):=o.exc 999 (cV.mp c);exact(Ih fr u (o.x.hc (ag H).1).1 (o.x.room (ag H).1) n r K (A.pe o.x (ag h).2) (ag h).1 q).imp λ_ _ _=>Ip)
def Ħ(f:Ł É->Ł ExceptHandler->Ł É->Ł É->Õ->Þ)(x:É):Þ:=sU _ 17 λe=>Stmt.Try.elim x e f
@[elab_as_elim]def UW{P:É->ß}(h:Ħ f x)(q:∀a b c d p,f a b c d p=J->P (.Try a b c d p)):P x:=(eD h).elim λe h=>Stmt.Try.elim x e (λa b c d p _ h=>q a b c d p h) e h
def ajt(f:Ő Å->Ő Ä->Ł É->Þ):ExceptHandler->Þ|.ExceptHandler T n b _=>f T n b
def ħ(S:Sx):Sx:={S with fr:=a5}
theorem lZ.BR(o:lZ Γ t k S X E):lZ Γ t k (ħ S) X.BR λ_ _ _=>ŧ:=(o.hN,o.hs,o.hc,o.hq,λp σ H s e a I h=>by let(_,_,_,_,_,_,q):=h;rwa[q.elim],o.hr,o.bl,o.gR,o.fn,o.gl,o.tab,o.cls,o.ma,(λh=>by cases h),o.fu)
def LR(H:X.N=S.N)(hs:X.env.scope=S.sc)(h:VJ S i x):PE X x (BB i):=by erw[jM h λy p h=>?_];let(a,h):=ag h;let(b,c):=ag h;let z:=DM (iE c);rwa[zp (by rw[H];rwa[kb a]) (by rw[hs];rwa[OG b]) z.1 z.2.1]
def OZ(i j w a:Ń)(z:Ä)(C:Ct)(N:En)(σ:Es):XP:=λc h=>gd (Ë 1000 c&&(Ñ i (Á σ)&&!Nat.beq i j)) (match((σ.set i ao).set j (O (.p (.S z))))[w]? with|O (O D)=>C [D,.p (.I (c-1000:Ń))] h (λd H=>N.nx ((((σ.set i ao).set j (O (.p (.S z)))).set a (O d)).set i ao) H) λ_ _=>ŧ|_=>ŧ)
def Wt(i j w a:Ń)(z:Ä)(C c:Ct)(A:Sm):Ss:=λN σ h=>A (λ_ _=>ŧ) σ h λds H=>C ds H (λd b=>N.nx (σ.set j (O d)) b) (OZ i j w a z c N σ)
def dm.hide(q:dm Z M H σ τ)(i:Ń)(x:Ő V):dm Z M H (σ.set i ao) (τ.set i x):=(by rw[cn,cn];rwa[q.ln],λk d h=>by
 by_cases a:i=k
 .rw[List.getElem?_set]at h;split at h;.lia
  .done
 .rw[cy a]at h⊢;rwa[q.at' k d h])
def ox(i j b w:Ń)(z:Ä)(sp:Sp)(a:À)(d:Ő À):TS:=P_ (sX (tC (.S z)) (kJ j)) (sX (λσ H Q=>BB w σ H λv h=>Uf i a d σ h λu c=>sp [v,u] c Q E0) (kJ b))
def UK(U:subIn X.K (.ref (t.ca 999)) (.ref (t.ca 999))=O J)(h:eJ 'X' E (Wt i j w l z u m A) D τ H):WH X.K (t.ca 999) i j (dI 'X' u) (f7 'X' (λ_ _ _=>ŧ) A) (λa C d D σ H=>C=t.ca 999/\ox i j l w z (dI 'X' m) a d D σ H) D τ H:=by
 let(G,M,σ,h,N,k,q):=h;erw[(G,M,σ,h,_,_,(k.rel,k.env,λds W y Y vs f Z i1 q1=>?_,λ_ _ _ _ _ _ q=>q.elim),q)];erw[(λcv B g=>∃c F L,Ext y Y L g/\bq ('X'.z G) L g F/\OZ i j w l z m N σ c F/\cv=.ref (t.ca 999)/\∃x,B=O x/\g x=O (.xd [("number",.I (c-1000:Ń))]),(G,y,W,ds,_,_,Z,i1,q1,λd b M2 P v e r i2 Q=>k.nx _ b M2 P _ (f.trans e) r ((k.env.ext k.rel (f.trans e)).set i2) Q,λc b M2 P e r Q=>?_),λC B g a hE=>?_)];.rw[pW,(ag (cG Q).1).1];rwa[λx n=>(c,b,M2,e,r,Q,Ŗ,x,Ŗ,n)]
 .let(c,b,M2,e,r,Q,hC,x,rfl,n):=hE;cases hC;erw[(U,?_)];let(o,Q):=cG Q;let(hc1,o):=ag o;let(s,hij):=ag o;let v2:=((k.env.ext k.rel (f.trans e)).hide i (O (.A a))).set (i:=j) (d:=.p (.S z)) Ŗ;erw[(Ŗ,?_)];split at Q;.ext R hw;let(vw,hv,iw):=v2.at' w R hw;erw[(vw,hv,(?_,x,_,Ŗ,n,(G,M2,b,[R,.p (.I _)],_,_,r,(iw,Ŗ,Ť),Q,λd h3 M3 H3 v T r3 i3 q3=>k.nx _ h3 M3 H3 _ (f.trans (e.trans T)) r3 (((v2.ext r T).set i3).hide i _) q3,λ_ _ _ _ _ _ q=>q.elim)))];.rw[cy (cY λz=>nofun),cQ];rw[<-k.env.ln];rwa[aI s]
  .left
def Oc{pn:Ł _}(o:ô Γ t k S X E)(B:Hd (X.hn pn a) a C d)(D:GW X.K C F)(I:X.N[j]?=O y)(L:L2.Loc X.env.scope y)(M:X.fn y\/X.env.scope.names.lookup y=O .local)(b:X.N[m]?=O c)(lc:L2.Loc X.env.scope c)(R:X.fn c\/X.env.scope.names.lookup c=O .local)(n:Gl X G)(T:X.mg G=O (.ref f))(U:keepIn X.K (.ref f))(l:(G=="__debug__")=a5)(Rn:gJ (X.hn pn a) f (dI 'X' (Γ.fn g)) [] E0)(W:VJ S w e)(q:cL e)(hn:VJ S i (.Name p P)):iY (X.hn pn a) [.Assign [.Name y p1] (.Constant (.str z) A p2) p3,.Assign [.Name c p4] (.Call (.Name G r) [e,.Attribute (.Name p P) "number" s] [] u) v] (ox i j m w z (dI 'X' (Γ.fn g)) a d):=by rwa[qg (zw o.nd I L MU rfl M) (Gn (zw o.nd b lc ((Bc Rn n T U (ZF (LR o.x.hN o.x.hs W) (ZF (ZK B D (LR o.x.hN o.x.hs hn)) o6 Ŗ) q) l (cA q) (fB Ŗ)).imp λσ H Q h=>h) rfl R))]
def air(S:Sx)(i:Ń):Å->Þ:=IQ λo m _=>cC m "number"&&(VJ S i o&&xV (λ_ _=>J) o)
def ž(S:Sx)(i j w a g:Ń)(z:Ä):ExceptHandler->Þ:=ajt λT m b=>ko T (AV S (S.sH 999))&&(ko m (λn=>HL n i S.N&&zk S.sc n)&&ko (l2 b) λp=>D8 S j (λ_ _ e=>Xv (.S z) e) p.1&&D8 S a (λ_ _ e=>jL (λf E k _=>FT k&&(AV S (S.gR g) f&&ko (l2 E) λq=>cL q.1&&(VJ S w q.1&&air S i q.2))) e) p.2)
def Mm.X_{Γ:Gm}{t:Tb}(i j w l:Ń)(z:Ä)(f g:Ń)(A:Am Γ t):Mm Γ t:=(Wt i j w l z (Γ.fn f) (Γ.fn g) A.m,λS=>Ħ λb hs o fl _=>S.cm&&(S.fr&&(wt o&&wt fl))&&(je 999 S.xok&&(je f Γ.fok&&je g Γ.IK)&&(ko (l1 b) (D8 S j λ_ _ e=>Xr (ħ S) (S.gR f) A e)&&ko (l1 hs) (ž S i j w l g z))),λ{k S X E st}o h=>by
 erw[UW h λb hs ol fl pos h=>?_];let(h1,h):=ag h;let(vQ,mD,ho,s):=vZ h1;let(h2,h):=ag h;let(hx,u,v):=uw h2;let(B,F):=ag h;rw[fX ho,fX s];let(bs,e1,B):=cO B;let(L,e2,F):=cO F;rw[fw e1,fw e2];let(ty,nm,hbd,hp):=L;let(M,gg):=ag F;let(r,N):=ag gg;let(ty0,e3,M):=cO M;let(n,e4,r):=cO r;obtain⟨⟨s1,s2⟩,e5,N⟩:=cO N;let(px,e6,Q,Lc,_):=fY o.x M;rw[e3,e4,vg e5,e6];let(fr,ou):=o.x.fx mD;let(hm,hK):=o.exc 999 (cV.mp hx);let R:GX X.K (t.ca 999):=hK;let(fI,fd,cN,ist,q1,q2,q3,q4,oI,FK,_):=R.ex;let(psf,Df):=o.x.fnX vQ f (cV.mp u);let(psg,Dg):=o.x.fu g (cV.mp v);let(fg,fdg,Fg,O0,T,U):=Dg.ex;rw[<-o.x.gR]at Df O0;let key:∀pn a C d,Hd (X.hn pn a) a C d->iY (X.hn pn a) [s1,s2] λD σ H=>C=t.ca 999/\ox i j l w z (dI 'X' (Γ.fn g)) a d D σ H:=λpn a C d W p s' σ H D I q=>by
  let(rfl,q):=q;erw[(show iY (X.hn pn a) [s1,s2] (ox i j l w z (dI 'X' (Γ.fn g)) a d)from ?_) p s' σ H D I q];let Rn:gJ (X.hn pn a) fg (dI 'X' (Γ.fn g)) [] E0:=Fg.runs (X:=X.hn pn a) (o.x.hr.dp,o.x.hr.un) (.inr (let (t0,tb,hp):=W.pn;(a,_,t0,d,tb,W.hd,hp))) U .nil;let(Ξ,G):=ag N;erw[nI (P:=λx=>iY (X.hn pn a) [x,s2] _) o Ξ λy' p1 e1' p3 Y Z fy' Ξ=>?_];erw[nI (P:=λx=>iY (X.hn pn a) [_,x] _) o G λc p4 e2' p9 hj2 lc fc G=>?_];erw[uh (P:=λx=>iY (X.hn pn a) [.Assign [.Name y' p1] x p3,_] _) Ξ λc0 j0 p2 Ξ=>?_];let ec:c0=.str z:=by
   induction c0<;>first|cases Ξ|skip
   rw[bQ.mp Ξ]
  subst ec;erw[fe (P:=λx=>iY (X.hn pn a) [_,.Assign [.Name c p4] x p9] _) G λf' es ks p8 G=>?_];let(u1,u2,u3):=uw G;obtain⟨⟨ew,en⟩,eu,u3⟩:=cO u3;let(u4,u5,u6):=uw u3;let(p5,e7,hgg,hdg,_):=fY o.x u2;rw[iD u1,vg eu,e7];erw[qw (P:=λx=>iY (X.hn pn a) [_,.Assign [.Name c p4] (.Call (.Name (S.gR g) p5) [ew,x] [] p8) p9] _) u6 λob m p7 u6=>?_];let(u7,u8,u9):=uw u6;rw[bQ.mp u7];revert u8;erw[jM (P:=λx=>VJ S i x=J->iY (X.hn pn a) [_,.Assign [.Name c p4] (.Call (.Name (S.gR g) p5) [ew,.Attribute x "number" p7] [] p8) p9] _) u9 λnn p6 _ u8=>?_];rwa[Oc o W FK Y Z fy' hj2 lc fc hgg O0 T hdg Rn u5 u4 u8]
 rwa[nI o B λy yp e ap hj ly fy he=>qU o.x.BR he λa0 rest p0 aol hg0 Rm hn0 pa pl=>(Tv fr o.nd (by rw[o.x.hN];rwa[kb (ag r).1]) (by rw[o.x.hs];rwa[vp (ag r).2]) (fr.fn _) Q hm R.hit key Df (o.x.room vQ) hg0 pa hj ly fy Lc Rm pl).imp λ_ _ _=>UK R.sub])
structure Sw(H H':Hp)(a:À)(aU:Ł (cp×V)):ß where
 ne:∀b,b≠a->H' b=H b
 l:Rd H a (.dK aU)r:Rd H' a (.dK aU)
theorem Sw.at(s:Sw H H' a aU)(e:H b=O o)(n:∀k,o≠.dK k)(N:∀c k,o≠.mX c (.dK k)):H' b=O o:=by
 rw[s.ne b λz=>?_];.rwa[e]
 .subst z;rcases s.l with q|⟨c,q⟩;.rw[e]at q;cases q;rwa[n _ Ŗ]
  .rw[e]at q;cases q;rwa[N _ _ Ŗ]
def Sw.rd(s:Sw H H' a aU)(e:Rd H b u)(n:∀k,u≠.dK k)(N:∀c k,u≠.mX c (.dK k)):Rd H' b u:=by
 rcases e with e|⟨o,e⟩;.rwa[.inl (s.at e n N)]
 .rwa[.inr (o,s.at e (λk z=>by cases z) λc k z=>nofun)]
def Sw.dk(s:Sw H H' a aU)(e:Rd H b (.dK k)):Rd H' b (.dK k):=by
 by_cases c:b=a
 .subst c;let:k=aU:=by rcases e with e|⟨_,e⟩<;>rcases s.l with q|⟨_,q⟩<;>rw[e]at q<;>cases q<;>rfl
  rw[this];rwa[s.r]
 .delta Rd;rw[s.ne b c];rwa[e]
def Sw.tf(s:Sw H H' a aU):Tf Z Z.G M H M H':=(λq=>s.at q (λ_=>nofun) λ_ _=>nofun,λq=>s.rd q (λ_=>nofun) λ_ _=>nofun,λn _=>n,λ_ e q=>s.at q (λ_ z=>by subst z;cases e) (λ_ _ z=>by subst z;cases e),λ_ q=>s.rd q (λ_=>nofun) λ_ _=>nofun,λ_ q=>s.dk q)
def eg.sw(s:Sw H H' a aU)(h:eg Z M H x v):eg Z M H' x v:=eg.tf s.tf h
def aY.sw(s:Sw H H' a aU)(h:aY Z M H x v):aY Z M H' x v:=aY.tf s.tf h
theorem eG.sw(s:Sw H H' a aU)(q:eG Z M H d v):eG Z M H' d v:=by induction d with|p x=>rwa[eg.sw s q]|r i=>rwa[q]
theorem cU.sw(s:Sw H H' a aU):∀{ds:Ł Dv}{vs:ϕ},cU Z M H ds vs->cU Z M H' ds vs|[],[],_=>Ť|[],_::_,h=>h|_::_,[],h=>h|_::_,_::_,h=>(eG.sw s h.1,cU.sw s h.2)
theorem dm.sw(s:Sw H H' a aU)(q:dm Z M H σ τ):dm Z M H' σ τ:=(q.ln,λi d b=>let (v,c,q):=q.at' i d b;(v,c,q.sw s))
theorem uq.sw(s:Sw H H' a aU)(d:b≠a)(q:uq Z M H b o):uq Z M H' b o:=by let e0:=s.ne b d;induction o with|L x=>let(v,e,q):=q;exact(v,e0.trans e,aY.sw s q)|D x=>let(v,e,q):=q;exact(v,e0.trans e,q.sw s)|C c u=>let(k,e,q,Q):=q;exact(k,e0.trans e,aY.sw s q,aY.sw s Q)|I C fs=>let(f,g,e,n,l,q):=q;exact(f,g,e0.trans e,s.at n (λ_ z=>by cases z) (λ_ _ z=>by cases z),l,q.sw s)|K c=>rwa[e0.trans q]|E c ds=>let(k,e,q,Q):=q;exact(k,e0.trans e,aY.sw s q,Q.sw s)|F i c u=>let(k,e,q,Q):=q;exact(k,e0.trans e,aY.sw s q,aY.sw s Q)
theorem bq.sw(s:Sw H H' a aU)(n:a∉M)(r:bq Z M H h):bq Z M H' h:=(r.nd,r.dj,r.ln,λb d=>by
  by_cases e:b=a;.subst e;rcases s.r with q|⟨_,q⟩<;>exact(_,q)
  .rw[s.ne b e];rwa[r.gs b d],λi b o c f=>(r.ob i b o c f).sw s λz=>n (z▸aL c))
def bq.swM(s:Sw H H' a aU)(hi:M[i]?=O a)(r:bq Z M H h)(g:uq Z M H' a o):bq Z M H' (h.set i o):=(r.nd,r.dj,by rw[cn];rwa[r.ln],λb k=>by
  by_cases e:b=a;.subst e;rcases s.r with q|⟨_,q⟩<;>exact(_,q)
  .rw[s.ne b e];rwa[r.gs b k],λj b q c d=>by
 by_cases f:j=i
 .subst f;rw[hi]at c;cases c;let l:j<Á h:=by rw[<-r.ln];exact(ar.mp hi).1
  rw[cQ l]at d;cases d;rwa[g]
 .rw[cy (cY f)]at d;erw[(r.ob j b q c d).sw s λz=>f ?_];let(L,E):=ar.mp c;let(n,m):=ar.mp hi;exact(ie r.nd).mp (by rw[E,m,z]))
abbrev vr(N:En):En:={N with rt:=λ_ _=>ŧ,xc:=λ_ _=>ŧ}
def Ϥ(t:Tg)(A:Sm)(b:Ss):Ss:=λN σ h=>A N.xc σ h λds H=>match ds with|[.p (.dct k _)]=>gG (fZ k) (λ_=>CO (Á H) k (PJ t) b (vr N) σ H) ŧ|_=>ŧ
section
variable{Γ:Gm}{t:Tb}{X:Cx}{E:XK}{A:Sm}{b:Ss}{tg:Tg}
theorem Oa:∀{K:ϑ}{ws:ϐ}{i:Ń}{x:Pv},fZ K=O ws->K[i]?=O x->∃y,ws[i]?=O y/\x=.S y
 |[],_,_,_,_,e=>by done|k::K,ws,i,x,h,e=>by
  delta fZ at h;split at h;.lia
  .ext y r H;cases H;split at h;.ext l a;cases h;induction i with|h=>cases e;exact(_,Ŗ,Ŗ)|j i=>let(z,d,c):=Oa a (by done);exact(z,by done,c)
   .lia
  .lia
theorem Bx:∀{K:ϑ}{ws:ϐ},fZ K=O ws->Á ws=Á K
 |[],_,h=>by cases h;rfl|k::K,ws,h=>by
  delta fZ at h;split at h;.lia
  .ext H;cases H;split at h;.ext l a;cases h;rw[aO,aO,Bx a]
   .lia
  .lia
def Ma{G M:Ł _}{H:Hp}{h:Hs}{N:En}{σ:Es}{τ:Ç}{a:À}{Z:Ø}{aU:Ł (cp×V)}{k:ϑ}{ws:ϐ}{D:Ô}(O6:fZ k=O ws)(hk:aU.map (·.1)=ws.map Ü)(r:bq ('X'.z G) M H h)(v:dm ('X'.z G) M H σ τ){W:Ń->Es->Hs->ß}(K:∀i σ' h' H',W i σ' h'->Ext M H M H'->bq ('X'.z G) M H' h'->tz a Z ws H')(nx:∀σ' h' H' c,Ext M H M H'->bq ('X'.z G) M H' h'->dm ('X'.z G) M H' σ' c->N.nx σ' h'->D.nx c H')(w0:W 0 σ h)(T:∀(i:Ń)x σ' h',k[i]?=O x->W i σ' h'->match PJ tg x σ' with|O e=>b ((vr N).lp (lM (Á h) (W (i+1))) (lM (Á h) N.nx)) e h'|ao=>ŧ)(fin:∀σ' h',W (Á k) σ' h'->N.nx σ' h'):∃W:Ń->Ń->Ç->Hp->ß,(∃m,W 0 m τ H)/\∀i m c H',W i m c H'->(ξ a Z ws).stop i H'/\D.nx c H'\/(ξ a Z ws).go i H'/\∃Nx:Ç->Hp->ß,(∀e g,Nx e g->∃p,p<m/\W (i+1) p e g)/\∀x oz,(ξ a Z ws).δ i H' x oz->Rc X.K tg x c oz λe g=>eJ 'X' E b {D with nx:=Nx,ct:=Nx,bk:=D.nx} e g:=by
 let hl:=Bx O6;erw[(λi m c H'=>m=Á k-i/\i<=Á k/\∃σ' h',Ext M H M H'/\bq _ M H' h'/\dm _ M H' σ' c/\W i σ' h',(_,Ŗ,aP _,σ,h,Ext.refl,r,v,w0),?_)];erw[λi m c H' z=>cps λR k1=>?_];let(rfl,hi,σ',h',s,r2,v2,w):=z;let it:=K i σ' h' H' w s r2;by_cases mE:i<Á k
 .erw[k1 (.inr ((it,by rw[hl];rwa[mE]),λj g=>∃p,p<Á k-i/\p=Á k-(i+1)/\i+1<=Á k/\∃σ' h',Ext M H M g/\bq _ M g h'/\dm _ M g σ' j/\W _ σ' h',λj g zz=>by done,λu oz yl=>cps λR k2=>?_))];let(rfl,yl):=yl;let(y,hy,hx):=Oa O6 (av mE);let q:=T i _ σ' h' (av mE) w;split at q
  .ext e hσ;let hu:=yl y hy;subst hu;erw[k2 (Rf hσ (by rw[hx];rfl) v2 λj v4=>?_)];erw[(G,M,e,h',_,(r2,v4,?_,?_,?_,?_,?_),q)];.intro B h5 M5 F l n o I Q;let(L,f,P,S,U,Y):=mS r (s.trans n) o I Q;exact(_,(),Ŗ,dh ‹_›,f,L,P,S,U,Y)
   .rwa[λd h5 M5 F v n o i5 Q=>Q.elim]
   .intro B h5 M5 F l n o I Q;let(L,f,P,S,U,Y):=mS r (s.trans n) o I Q;rwa[nx f L F l P S U Y]
   .intro B h5 M5 F l n o I Q;let(L,f,P,S,U,Y):=mS r (s.trans n) o I Q;exact(_,(),Ŗ,dh ‹_›,f,L,P,S,U,Y)
   .rwa[λC h5 M5 F n o Q=>Q.elim]
  .left
 .let hx:i=Á k:=()
  subst hx;rwa[k1 (.inl ((it,by rw[hl];rwa[ah _]),nx σ' h' H' c s r2 v2 (fin σ' h' w)))]
def Q4(h:eJ 'X' E (Ϥ tg A b) D τ H):IE (FC X (de 'X' E A)) (Rc X.K tg) (eJ 'X' E b) (Om X D) τ H:=by
 let(G,M,σ,h0,N,k,q):=h
 erw[(G,M,σ,h0,_,_,(k.rel,k.env,λd h1 B H1 v C Y i1 Q=>?_,k.exc),q)];induction d with|r _=>left|p x=>cases x with|dct ks us=>
   let(ws,I,Q):=cP Q;let(a,aU,rfl,s,L,ik,iu):=i1;let u:=qe (uf I ik);let v1:=k.env.ext k.rel C;delta CO at Q;let(W,w0,T,F):=Q;erw[(a,aU,ws,Ŗ,u,?_)];rcases L with l|⟨w,l⟩
   .erw[.inl (l,λw nf=>?_)];let sw:Sw H1 _ a aU:=(λb g=>bw g,.inl l,.inr (w,bC));erw[Ma I u (Y.sw sw s.1) (v1.sw sw) (λi c y m _ f R=>(aU,f.keep a _ s.1 bC,u)) (λc y m j f R P S=>?_) w0 T F];let z:=f.keep a _ s.1 bC;let Z:Sw m (dq m a _) a aU:=(λb g=>bw g,.inr (w,z),.inl bC);erw[.inl (a,w,aU,nf,z,k.nx c y B _ j (C.trans (([],(aV B).symm),λb o g U=>?_,λb g n=>Ă g n)) (R.sw Z s.1) (P.sw Z) S)];by_cases e:b=a;.subst e;rw[l]at U;cases U;rwa[bC]
    .rw[bw e];rwa[f.keep b o g (by rw[bw e];rwa[U])]
   .rwa[.inr (w,l,Ma I u Y v1 (λi c y m _ f R=>(aU,f.keep a _ s.1 l,u)) (λc y m j f R P S=>.inr (k.nx c y B m j (C.trans f) R P S)) w0 T F)]|_=>left
def Mm.foP(tg:Tg)(A:Em Γ t)(B:Ms Γ t):Mm Γ t:=(_,λS=>OF λT ix b e _=>S.cm&&wt e&&(nq ix&&(T_ S tg T&&(A.ck S ix&&B.ck S b))),λo h=>by erw[uj h λT ix b e p h=>?_];let(H,h):=ag h;let(a,h):=ag h;let(c,h):=ag h;let(d,f):=ag h;rw[fX (ag H).2];exact(Gj o.po (o.x.hc (ag H).1).1 (A.pe o.x d) (xy o.x.hq o.x.hN o.x.hs o.nd o.hf c) (B.ps o f) λ_=>pY a).imp λ_ _ _=>Q4)
abbrev jp(i:Ń)(o:Ø)(k us:ϑ)(N:En):En:={N with nx:=λa h=>h[i]?=O (.F o k us)/\N.nx a (h.set i (.C k us))}
@[irreducible]def Q5(i:Ń)(o:Ø)(k us:ϑ)(a:Pv->Es->Ő Es)(b:Ss)(N:En)(σ:Es)(h:Hs):ß:=∃W:Ń->Es->Hs->ß,W 0 σ h/\(∀j c H,W j c H->H[i]?=O (.F o k us))/\(∀(j:Ń)x c H,k[j]?=O x->W j c H->match a x c with|O d=>b ((vr (jp i o k us N)).lp (lM (Á h) (W (j+1))) (lM (Á h) (jp i o k us N).nx)) d H|ao=>ŧ)/\∀c H,W (Á k) c H->N.nx c (H.set i (.C k us))
def wq:Ő Ob->Ő (ϑ×ϑ)|O (.C k u)=>O (k,u)|_=>ao
def Xo(e:wq o=O p):o=O (.C p.1 p.2):=by
 delta wq at e;split at e;.cases e;rfl
 .cases e
def Ţ(tg:Tg)(A:Sm)(b:Ss):Ss:=λN σ h=>A N.xc σ h λds H=>match ds with|[.r i]=>gG (wq H[i]?) (λp=>gG (fZ p.1) (λ_=>∀o,Q5 i o p.1 p.2 (PJ tg) b N σ (H.set i (.F o p.1 p.2))) ŧ) ŧ|_=>ŧ
def Q3(h:eJ 'X' E (Ţ tg A b) D τ H):IE (FC X (de 'X' E A)) (Rc X.K tg) (eJ 'X' E b) (Om X D) τ H:=by let(G,M,σ,h0,N,k,q):=h;erw[(G,M,σ,h0,_,_,(k.rel,k.env,λd h1 s H1 v e1 r1 I Q=>?_,k.exc),q)];induction d with|p _=>left|r i=>
  obtain⟨⟨u,U⟩,ho,Q⟩:=cP Q;let(ws,P,Q):=cP Q;let(a,x,rfl):=I;let(aU,ha,ik,iu):=r1.at' x (Xo ho);let hk:=qe (uf P ik);erw[(a,aU,ws,Ŗ,hk,.inl (ha,λm nf=>?_))];let Q:=Q m;delta Q5 at Q;let(W,w0,inv,T,S):=Q;let sw:Sw H1 (dq H1 a _) a aU:=(λb f=>bw f,.inl ha,.inr (m,bC));let key:∀{g:Hs}{l:Hp},g[i]?=O (.F m u U)->bq ('X'.z G) s l g->∃B:Ł _,l a=O _/\B.map _=ws.map _/\aY _ s l u _/\aY _ s l U _:=λhf R=>by let(B,e,I,Y):=R.at' x hf;exact(_,e,qe (uf P I),I,Y)
  erw[Ma (N:=jp i m u U N) P hk (r1.swM (o:=.F m u U) sw x (aU,bC,aY.sw sw ik,aY.sw sw iu)) ((k.env.ext k.rel e1).sw sw) (λj c g l w e' R=>let (B,e,Ro,_):=key (inv j c g w) R;(_,e,Ro)) (λc g l Z e' R v' q'=>?_) w0 T λc g w=>(inv _ c g w,S c g w)];.let(B,y,_,I,Y):=key q'.1 R;let L:Sw l (dq l a _) a _:=(λb f=>bw f,.inr (m,y),.inl bC);erw[.inl (a,m,_,nf,y,k.nx c _ s _ Z (e1.trans (([],(aV s).symm),λb o f hq=>?_,λb f n=>Ă f n)) (R.swM (o:=.C u U) L x (_,bC,aY.sw L I,aY.sw L Y)) (v'.sw L) q'.2)];let e:b≠a:=λz=>f (z▸aL x);rw[bw e];rwa[e'.keep b o f (by rw[bw e];rwa[hq])]
def Mm.foH(tg:Tg)(A:Em Γ t)(B:Ms Γ t):Mm Γ t:=(_,λS=>OF λT ix b e _=>S.cm&&wt e&&(nq ix&&(T_ S tg T&&(A.ck S ix&&B.ck S b))),λo h=>by erw[uj h λT ix b e p h=>?_];let(H,h):=ag h;let(a,h):=ag h;let(c,h):=ag h;let(d,f):=ag h;rw[fX (ag H).2];exact(Gj o.po (o.x.hc (ag H).1).1 (A.pe o.x d) (xy o.x.hq o.x.hN o.x.hs o.nd o.hf c) (B.ps o f) λ_=>pY a).imp λ_ _ _=>Q3)
end
end F
namespace L2
def nM(K:Æ)(a:À)(n:Ń):It:=(λi H=>i<n/\∃X,gh K H a X/\Á X=n,λi H x h=>h=H/\∀X,gh K H a X->X[n-1-i]?=O x,λi _=>n<=i)
def Ox{K:Æ}(a it:À)(n:Ń):uv P w K T (nM K a n) [it] it λi h=>i<=n/\h.IsRevIter it a (n-1-i):=lg (n:="list_reverseiterator") rfl (λ(_,o,e,c,d)=>(o,_,e,c,d)) (λst k=>(st.1,st.2.at k)) (λ{X i b s σ H E Q}j l m r I st g q=>by
  subst j l m;let(D,x,t,F):=g;let(G,R,p,L):=I.list t;let v:x[n-1-i]?=O x[n-1-i]:=av _;let(u,hu,y):=R.get v;let z:(n:Î)-1-i=(n-1-i:Ń):=()
  let f:=st.2;rw[z]at f;erw[wpAny_pyNext_rev_item f p.isList (by simpa using hu) λA B S=>q u _ A _ y (Ŗ,λY C=>by rw[I.qf C t];rwa[v]) (dh ‹_›,?_) S.extBut];rw[show(n:Î)-1-(i+1:Ń)=(n-1-i:Ń)-1 by lia];rwa[B]) (λ{X i b s σ H E Q}j l m r I st g q=>by let g:n<=i:=g;let f:=st.2;rw[show(n:Î)-1-i=-1 by lia]at f;rwa[wpAny_pyNext_rev_end (I.ok.hd r) f q]) λst h=>XV st.2 h
def Ĭ(K:Æ)(t:TA):TI:=λσ H R=>t σ H λv h=>∃a x,v=[.A a]/\gh K h a x/\R (nM K a (Á x)) h
def Ar:eU "reversed"=O (.type "reversed"):=by rfl
def Z4(g:Gl X "reversed")(m:X.mg "reversed"=ao)(c:PA X [a] t)(hs:dN [a] X.env=[(a5,Ê a X.env)]):PI X T (.Call (.Name "reversed" p) [a] [] pos) (Ĭ X.K t):=by intro P s σ H R I h;erw[Call_ (rh I g m Ar (eS (V_ (c pos _ s σ H _ I h) λU s1 w d i f Q=>?_) hs Ŗ))];let(l,x,rfl,j,q):=Q;cases f with|g r k=>
  cases k;cases r;let(B,v,n,z):=i.list j;let st:(s1.heap.push (revObj l _)).IsRevIter _ l (Á x-1-(0:Ń)):=(_,ax _ Ŗ,Ŗ,by rw[v.length,show(B.length:Î)-1-(0:Ń)=B.length-1 by lia];rfl);erw[call_reversed_list n.isList (XV st ?_)];erw[(_,_,_,_,d,Ŗ,i.kept λb o e=>af _ e,Ox l _ _,(aP _,st),λb u=>?_,q)];let e:=by simpa using u
  subst e;rwa[i.AK (ah _) (i.c4.fresh (ah _))]
end L2
namespace F
open L2
def YB(l n:Ń):Pw:=λh x=>HH h (.r l)=O x.reverse/\Á x=n
def Š(A:Sm):Ig:=λX σ h Q=>A X σ h λds H=>match ds with|[.r l]=>gG (HH H (.r l)) (λx=>Q (YB l (Á x)) H) ŧ|[.p (.L x)]=>Q (λ_ y=>y=x.reverse.map .p) H|_=>ŧ
def Œ(c:M[l]?=O a):JG Y G M H (nM Y.K a n) (YB l n):=λk m o q d u e r p=>by
 let(p,hn):=p;let(B,s,f,s1,I):=FW (x:=.r l) r (a,e.at c,Ŗ) p;cases f;let hl:=I.len;rw[iN]at hl;erw[(λi x b=>?_,gm hn.symm)];let(C,ex):=ar.mp b;let F:d.reverse[n-1-i]?=O x:=by rw[WP (),<-b];congr 1;lia
 let(v,g,h):=I.get F;erw[(((),s,.inl (.inl s1),()),λw D z=>z.elim λj y=>?_)];subst j;let hw:=y s (.inl (.inl s1));rw[g]at hw;cases hw;exact(Ext.refl,r,h)
def Y1(n:a∉M)(j:H a=O (.L vs))(I:∀g m H' h',(∀b∈g,b∈G\/H b=ao)->Ext M H m H'->bq (Y.z g) m H' h'->aY (Y.z g) m H' xs vs):JG Y G M H (nM Y.K a (Á vs)) λ_ ys=>ys=xs.reverse.map .p:=λg m H' h' ys k e r p=>by
 subst p;let s1:=e.keep a _ n j;let i1:=I g m H' h' k e r;let hl:=i1.len;erw[(λi x d=>?_,by show _<=_;rw[ae,iN];lia)];rw[aN]at d;let(z,h,rfl):=cE.mp d;let(f,ex):=ar.mp h;rw[iN]at f;let F:xs[Á vs-1-i]?=O z:=by rw[WP f]at h;rw[<-h];lia
 let(v,l,c):=i1.get F;erw[(((),vs,.inl (.inl s1),Ŗ),λw q Z=>Z.elim λo y=>?_)];subst o;let hw:=y vs (.inl (.inl s1));rw[l]at hw;cases hw;exact(Ext.refl,r,c)
def To(g:Gl X "reversed")(y:X.mg "reversed"=ao)(z:PE X a (de 'X' E A))(D:cL a):PI X T (.Call (.Name "reversed" p) [a] [] pos) (Og 'X' E (Š A)):=(Z4 g y (ZF z o6 D) (cA D)).imp λτ H R Z=>by let(G,M,σ,h,B,Q,k,q):=Z;erw[(G,M,σ,h,B,_,(k.rel,k.env,λd f m j v n b i c=>?_,k.exc),q)];show ∃a o,[v]=[V.A a]/\_;induction d with|r l=>let(o,ex,c):=cP c;let(a,C,u):=id i;let(F,s,w,s1,I):=FW b i ex;rw[u]at w;cases w;erw[(a,s,by rw[u],gh.of s1,k.out _ f m j _ n b (Œ C) ?_)];rw[<-I.len];rwa[c]|p x=>cases x with|L o=>let(a,s,rfl,N,s1,I):=i;exact(a,s,Ŗ,gh.of s1,k.out _ f m j _ n b (Y1 N.1 s1 λK P S U g e W=>aY.mv (e.mv b) (aY.wk g I)) c)|_=>left
def Jg.rev{Γ:Gm}{t:Tb}(A:Em Γ t):Jg Γ t:=(_,λS _ x=>qa _ _&&jL (λf s k _=>FT k&&(AV S _ f&&ko (l1 s) _)) x,λo h=>by let(a,h):=ag h;erw[fe h λf s k q h=>?_];let(b,h):=ag h;let(c,h):=ag h;let(e,d,h):=cO h;let(p,g,i,_):=fY o c;rw[iD b,fw d,g];rwa[To i (o.bl _ (j8 a)) (A.pe o (ag h).2) (ag h).1])
end F
namespace L2
def RR(t T:TE):TE:=λσ H Q=>t σ H λx b=>∃a,x=.A a/\eG b a/\T σ b λy h=>∃U k,h a=O (.dK U)/\y=kV k/\∀p,h p=ao->(∀v,ji U k=O v->Q v (dq h p (.L [])))/\(ji U k=ao->Á U<Ã/\Q (.A p) (dq (dq h p (.L [])) a (.dK (jK U k (.A p)))))
def ZM(R:PE X o t)(S:PE X e T)(m:M2 X o "setdefault" b e (.List [] lp) D):PE X (.Call (.Attribute o "setdefault" b) [e,.List [] lp] [] D) (RR t T):=by
 intro P s σ H Q I h;erw[wpAny_Call_method m.base m.few m.line qK Jt PySem.F.type_dict_setdefault (kr (R P s σ H _ I h) λu s1 x W B Y a=>?_)];let(a,ex,d,Z):=a;subst ex;obtain rfl:u=Ò a:=Y;let(t1,t2,_):=LC B d;erw[(t1,t2,?_)];rw[m.trees];erw[jN Ŗ (fC (dJ (kr (S P s1 σ W _ B Z) λiv s2 y f I2 ry (U,k,i,ey,q2)=>dJ (kr (DS (pos:=lp) o6 P s2 σ f (λz C=>∃p,z=.A p/\f p=ao/\C=dq f p (.L [])) I2 (aP _,λp g=>(p,Ŗ,g,Ŗ))) λfv s3 z C j rz (p,ez,g,eH)=>gT ?_))))];subst ey ez eH;obtain rfl:fv=Ò p:=rz;let ne:a≠p:=λz=>by rw[z,g]at i;cases i
 let E:dq f p (.L []) a=O (.dK U):=by rw[bw ne];rwa[i]
 let(q3,q4):=q2 p g;let(z,G,K,rel,M):=Vq j.c4 E;let hz:Á K<=Ã:=by rw[<-rel.length];rwa[z]
 erw[BZ Jt M.typeIs PySem.F.entry_dict_setdefault (PySem.F.args_dict_setdefault_3 _ _ _) (kt_meets_setdefault (dZ X.prog X.w) a (rW ry) G (.ref p)) (K,M,hz,λv l=>?_,λl h' N hs=>?_)];.let r:=rel.val k;rw[l]at r;induction c:ji U k with|a=>rw[c]at r;rwa[r.elim]|c n=>rw[c]at r;exact(n,_,j.tok _,r,q3 n c)
 .let r:=rel.val k;rw[l]at r;induction c:ji U k with|c n=>rw[c]at r;rwa[r.elim]|a=>
   let(hl,q5):=q4 c;let Yz:=by let:=j9 U k (.A p);rwa[aq ‹_› ‹_›]
   exact(.A p,_,yw j (by rw[E];rwa[ï]) hs (let (q,_,_,hq,_):=N;(q,hq)) (CH Yz G (rel.put k Ŗ) N),Ŗ,q5)
end L2
namespace F
open L2
def j':Ő Ob->Ő (ϑ×Ł Dv)|O (.E k ds)=>O (k,ds)|_=>ao
def yF(e:j' o=O p):o=O (.E p.1 p.2):=by
 delta j' at e;split at e;.cases e;rfl
 .cases e
def lP(k:Pv):ϑ->Ł Dv->Ő Dv
 |K::s,d::ds=>match kM K k with|J=>O d|a5=>lP k s ds
 |_,_=>ao
section
variable{Γ:Gm}{t:Tb}{X:Cx}{E:XK}{A B C:Sm}{Y:T0}{G M:Ł À}{H:Hp}
theorem yG(b:jY k=O κ):∀{K:ϑ}{ds:Ł Dv}{U:Ł _},aY (Y.z G) M H K (U.map λp=>kV p.1)->cU (Y.z G) M H ds (U.map (·.2))->(∃d v,lP k K ds=O d/\ji U κ=O v/\eG (Y.z G) M H d v)\/lP k K ds=ao/\ji U κ=ao
 |[],[],[],_,_=>.inr (Ŗ,Ŗ)|c::K,d::ds,p::U,h,a=>by
  let e:=vf (LZ h.1) b;by_cases z:p.1=κ;.rw[cJ z]at e;rwa[.inl (d,p.2,by rw[lP,e],lA z,a.1)]
  .rw[cq z]at e;let f:lP k (c::K) (d::ds)=lP k K ds:=by show(match kM c k with|J=>O d|a5=>lP k K ds)=_;rw[e]
   rw[f,lz z];rwa[yG b h.2 a.2]|[],_,_::_,h,_=>h.elim|_::_,_,[],h,_=>h.elim|_,[],_::_,_,a=>a.elim|_,_::_,[],_,a=>a.elim
def TB{κ:cp}(h:ji a κ=ao):jK a κ v=a++[(κ,v)]:=by delta jK;rw[bS];rw[Bool.not_eq_true,BV];intro p b c;induction a with|f=>cases b|g q r i=>
  by_cases e:q.1=κ;.rw[lA e]at h;cases h
  .rw[lz e]at h;rcases aw.mp b with z|z;.subst z;rwa[e (bZ c)]
   .rwa[i h z]
def YG(A B:Sm):Sm:=λx σ h Q=>A x σ h λs b=>match s with|[.r i]=>gd (j' b[i]?).isSome (B x σ b λy a=>match y with|[.p k]=>gG (jY k) (λ_=>gG (j' a[i]?) (λp=>gG (lP k p.1 p.2) (λd=>Q [d] a) (gd (qE (Á p.1+1)) (Q [.r (Á a)] (List.set (a++[Ob.L []]) i (Ob.E (p.1++[k]) (p.2++[Dv.r (Á a)])))))) ŧ) ŧ|_=>ŧ)|_=>ŧ
def A_(h:de 'X' E (YG A B) τ H QV):RR (de 'X' E A) (de 'X' E B) τ H QV:=by let(G,M,σ,h,D,Q,k,q):=h;erw[(G,M,σ,h,D,_,(k.rel,k.env,λd h1 M1 H1 v j F i1 m=>?_,k.exc),q)];induction d with|p _=>left|r i=>let(c1,m):=cG m;let(p1,Rr):=fN.mp c1;let(a,N,rfl):=i1;let(K,s1,_):=F.at' N (yF Rr);erw[(a,Ŗ,.inl (K,.inl s1),G,M1,σ,h1,D,_,(F,k.env.ext k.rel j,λd2 P M2 n v2 s R S b=>?_,k.Ht j),m)];induction d2 with|r _=>left|p kk=>
   let(κ,T,b):=cP b;obtain⟨⟨ks,ds⟩,ho,b⟩:=cP b;let U:=s.at N;let(W,s2,I,id):=R.at' U (yF ho);let Z:=Dx T S;erw[(W,κ,s2,Z,λp e=>?_)];rcases yG T I id with ⟨d,w,x,u,y⟩|⟨x,u⟩;.erw[(λw' z=>?_,λhn=>nofun)];rw[u]at z;cases z;let q3:=MF b x;rwa[k.out d P M2 _ w (j.trans (s.trans (Ext.add e))) (R.add (o:=.L []) e) (y.ext R (Ext.add e)) q3]
   .erw[(λw' z=>nofun,λ_=>?_)];let(c,b):=cG (ME b x);erw[(by let:=I.len;rw[ae]at this;let:=f6 c;lia,?_)];let l:=R.push (o:=.L []) e ([],bC,Ť);let f:Ext M2 n _ (dq n p (.L [])):=Ext.push R e;let g4:=f.at U;let g:Ext _ (dq n p (.L [])) _ (dq _ a (.dK (jK W κ (.A p)))):=Ext.put (aL g4);rw[TB u]at g⊢;let gp:(M2++[p])[Á P]?=O p:=by rw[<-R.ln,aK (ah _),eA];rfl
    erw[k.out (.r _) _ _ _ _ (j.trans (s.trans (f.trans g))) (l.put (o:=.E _ _) g4 (_,bC,?_,?_)) (p,gp,Ŗ) b];.rw[aD];erw[((I.ext R f).ext l g).app (?_,Ť)];let i3:=((S).ext R f).ext l g;rw[Z]at i3;rwa[i3]
    .rw[aD];exact((id.ext R f).ext l g).app ((p,gp,Ŗ),Ť)
def Φ(h:Hs)(k:Pv)(x:Dv):Ő (Ő Dv):=match KD h x with|O (K,u)=>O ((jy k K u).map .p)|ao=>match x with
  |.r i=>match j' h[i]? with|O (K,ds)=>O (lP k K ds)|ao=>ao
  |_=>ao
def NU(A B C:Sm):Sm:=λc σ h Q=>A c σ h λs a=>match s with|[x]=>gd (Φ a .N x).isSome (B c σ a λy d=>match y with|[.p k]=>gG (jY k) (λ_=>C c σ d λZ b=>match Z with|[z]=>gG (Φ b k x) (λo=>Q [o.getD z] b) ŧ|_=>ŧ) ŧ|_=>ŧ)|_=>ŧ
def Ys(f:jY k=O κ)(r:bq (Y.z G) M H h)(i:eG (Y.z G) M H x v)(e:Φ h k x=O o):∃a U,v=.A a/\Rd H a (.dK U)/\((∃d w,o=O d/\ji U κ=O w/\eG (Y.z G) M H d w)\/o=ao/\ji U κ=ao):=by
 delta Φ at e;split at e
 .ext K u g;cases e;let(a,U,j,s1,d1):=tL r i g;erw[(a,U,j,s1,?_)];rcases yz f d1 with ⟨p,w,b,c,l⟩|⟨b,c⟩;.rwa[.inl (.p p,w,by rw[b];rfl,c,l)]
  .rwa[.inr (by rw[b];rfl,c)]
 .split at e
  .split at e;.ext K ds m;cases e;let(a,n,rfl):=i;let(U,s1,I,id):=r.at' n (yF m);exact(a,U,Ŗ,.inl s1,yG f I id)
   .cases e
  .cases e
def Yr(r:bq (Y.z G) M H h)(i:eG (Y.z G) M H x v)(e:Φ h k x=O o):∃a,v=.A a/\L2.eG H a:=by
 delta Φ at e;split at e;.ext d;let(a,U,b,s1,_):=tL r i d;exact(a,b,.inl (U,s1))
 .split at e
  .split at e;.ext c;let(a,g,rfl):=i;let(U,s1,_):=r.at' g (yF c);exact(a,Ŗ,.inl (U,.inl s1))
   .cases e
  .cases e
def X3(h:de 'X' E (NU A B C) τ H QV):Of (de 'X' E A) (de 'X' E B) (de 'X' E C) τ H QV:=by let(G,M,σ,h,x,Q,k,q):=h;erw[(G,M,σ,h,x,_,(k.rel,k.env,λd F K H1 v e R I g=>?_,k.exc),q)];let(L,g):=cG g;let(o1,N):=fN.mp L;let(a,rfl,i):=Yr R I N;erw[(a,Ŗ,i,G,K,σ,F,x,_,(R,k.env.ext k.rel e,λd2 P M2 H2 v2 b j S l=>?_,k.Ht e),g)];induction d2 with|r _=>left|p kk=>
  let(κ,s,l):=cP l;erw[(G,M2,σ,P,x,_,(j,k.env.ext k.rel (e.trans b),λT u y D U c m W f=>?_,k.Ht (e.trans b)),l)];let(o,Z,f):=cP f;let(a',aU,ea,s3,z):=Ys s m ((I.ext R b).ext j c) Z;cases ea;erw[(_,.inl (aU,κ,s3,Dx s ((S).ext j c),Ŗ),?_)];rcases z with ⟨d,w,rfl,n,id⟩|⟨rfl,n⟩;.rw[n];rwa[k.out d u y D w (e.trans (b.trans c)) m id f]
  .rw[n];rwa[k.out T u y D U (e.trans (b.trans c)) m W f]
def VR(h:ge o m X.env (Ê o X.env)=Ê o X.env)(a:cL e)(b:cL f)(l:(cs.endLine==dE.line)):M2 X o m cs e f dE:=(h,yK nofun (by show 2<30;decide),l,by rw[cA a,cA b];rfl)
namespace Em
def Θ(a A B:Em Γ t):Em Γ t:=(_,λS=>i8 S _ a λe=>ko (l2 e) _,λo h=>rq h λl e s D d f i j=>by let(p,k,g):=cO d;let(b,c):=ag g;rw[vg k];exact(MN o.Rx (a.pe o f) (A.pe o (ag c).1) (B.pe o (ag c).2) (VR (lJ i) (ag b).1 (ag b).2 j)).imp λ_ _ _=>X3)
def ϱ:Å->Þ:=K' λe _=>wt e
def sdf(a A:Em Γ t):Em Γ t:=(_,λS=>i8 S _ a λs=>ko (l2 s) λp=>cL p.1&&(A.ck S p.1&&ϱ p.2),λo h=>rq h λq s c D d i j k=>by obtain⟨⟨e,f⟩,l,g⟩:=cO d;let(m,n,b):=uw g;rw[vg l];erw[zO b λs p b=>?_];rw[fX b];exact(ZM (a.pe o i) (A.pe o n) (VR (lJ j) m Ŗ k)).imp λ_ _ _=>A_)
end Em
end
end F
namespace F
open L2
def tK(k:Ł cp):Pv:=.T (k.map i')
def V5:ON:=λds h Q=>match ds with|[.r i]=>gG (km h[i]?) (λk=>gd (Ñ (Á k) 64&&mY k) (Q (.p (.L ((IA k).map tK))) h)) ŧ|_=>ŧ
theorem FU{Y:T0}:∀{k:Ł cp},aY (Y.z G) M H (k.map i') (k.map kV)|[]=>Ť|κ::r=>(LY,FU)
def Y3(e:km o=O k):o=O (.K k):=by
 delta km at e;split at e;.left
 .cases e
def LM:qO Y (λxs H Q=>∃(a:À)(U:Ł _),xs=[.A a]/\H a=O (.dT U)/\Á U<64/\mY (U.map (·.1))=J/\∀(D:À)(vs:ϕ),H D=ao->Paired (λv k=>∃b,v=V.A b/\H b=O (.T (k.map kV))) vs (IA (U.map (·.1)))->Q (.A D) (dq H D (.L vs))) V5:=λG M h H xs vs Q s r i q out=>by
 delta V5 at q;split at q
 .let(v,rfl,I):=i.rC;let(ks,f,q):=cP q;let(c,q):=cG q;let(C,g):=ag c;let(a,j,rfl):=I;let e:(ks.map λk=>Ý k (V.B J)).map (·.1)=ks:=by rw[bB];rwa[List.map_id ks]
  erw[(a,_,Ŗ,r.at' j (Y3 f),by rw[ae];rwa[aI C],by rw[e];rwa[g],λD ws d p=>?_)];rw[e]at p;erw[out _ h M _ _ (Ext.add d) (r.add d) (jH r d ?_) q];generalize IA ks=l at p;induction p with|f=>done|g m _ n=>let(b,rfl,o):=m;exact((b,_,Ŗ,gX.of o,FU),n)
 .left
def Ż:Bi:=(_,_,_,λh g m a hn k d=>MX (ym (h Ŗ)) LM g m wW a hn k d)
def ac4:O1:=λx h Q=>gG (nh h x) (λa=>gG (fZ a) (λws=>gd (Ë (Á (dO ws)+1) 64) (∀s:ϐ,s.Perm (dO ws)->sortedS s->Q (.p (.L (s.map .S))) h)) ŧ) ŧ
theorem GD{Y:T0}:∀{ss:ϐ},aY (Y.z G) M H (ss.map Pv.S) (ss.map V.S)|[]=>Ť|_::_=>(Ŗ,GD)
def SI(l:X.calm)(s:Gl X "sorted")(u:X.mg "sorted"=ao)(g:Gl X "set")(i:X.mg "set"=ao)(x:PE X e (de 'X' E A))(y:cL e):PE X (.Call (.Name "sorted" p) [.Call (.Name "set" p2) [e] [] R] [] pos) (de 'X' E (s1 ac4 A)):=(V7 (sG l) s u wW (ZF (V8 (uA l) g i Xi (ZF x o6 y) ∅ rfl nofun) o6 Ŗ) ∅ rfl rfl).imp λτ H U z=>by let(G,M,σ,h,B,Q,k,q):=z;erw[(G,M,σ,h,B,_,(k.rel,k.env,λd C F W v I r K f=>?_,k.exc),q)];let(Z,ex,f):=cP f;let(ws,L,f):=cP f;let(c,f):=cG f;let(a,vs,rfl,s1,N):=g8 r K ex;rw[uf L N]at s1;erw[(a,ws,Ŗ,gh.of s1,aI c,λb m=>(b,_,Ŗ,bC,aI c,λD S j P T=>?_))];let n:=r.add (o:=.ext λh=>kD X.prog X.w h b (dO ws)) m;rwa[k.out _ C F _ _ (I.trans ((Ext.add m).trans (Ext.add j))) (n.add j) (jH n j GD) (f S P T)]
def Em.G_{Γ:Gm}{t:Tb}(A:Em Γ t):Em Γ t:=(_,λS=>jL λf e k _=>S.cm&&FT k&&(AV S _ f&&(qa _ _&&(qa _ _&&ko (l1 e) (jL λg s l _=>FT l&&(AV S _ g&&ko (l1 s) _))))),λo h=>by erw[fe h λf e k p h=>?_];let(b,h):=ag h;let(c,h):=ag h;let(d,h):=ag h;let(i,h):=ag h;let(x,j,h):=cO h;let(P,m,n,z,hn):=fY o c;rw[iD (ag b).2,fw j,m];erw[fe h λg s l q h=>?_];let(r,h):=ag h;let(u,h):=ag h;let(x,v,h):=cO h;let(B,w,a,y,D):=fY o u;rw[iD r,fw v,w];rwa[SI (o.hc (ag b).1).1 n (o.bl _ (j8 d)) a (o.bl _ (j8 i)) (A.pe o (ag h).2) (ag h).1])
end F
namespace L2
def CF(K:Æ)(a:À):It:=(λi H=>∃X x,gh K H a X/\X[i]?=O x,λi H v h=>∃T,H T=ao/\v=.A T/\∀X x,gh K H a X->X[i]?=O x->h=dq H T (.T [.I i,x]),λi H=>∃X,gh K H a X/\Á X<=i)
def xM{p:Ł _}{σ:Ç}(I:Inv X p σ H s)(h:gh X.K H t xs)(f:lG X p H b):t≠b:=by
 rintro rfl;let(a,c,d,F,g,i):=f;rcases h with(h|⟨o,h⟩)|⟨o,B,n,k,_⟩;.left
 .left
 .let e:=I.ok.mod.FR t o k;rcases F with q|q;.rwa[I.ok.sT t o e q]
  .rwa[Ă (bp (ay e) (aq I.ok.Aq q)) (cM _)]
def II{K:Æ}(D:z≠c):uv P w K (.Tuple es k pos) (CF K a) [z,c] z λi h=>(∃j,IsEnum h z c i j)/\h.IsListIter c a i where
 mem:=.head _;obj:=λi h st e d=>by
  obtain⟨⟨j,Z⟩,o1,e1,c1,d1⟩:=st;rcases aw.mp d with rfl|d;.exact(_,Z,λv g=>í g)
  .rw[aB.mp d];exact(_,e1,λv g=>í (d1.symm.trans g))
 keep:=λi h h' st F=>by obtain⟨⟨j,Z⟩,y⟩:=st;exact((j,F z (.head _) _ Z),y.at λo e=>F c (.tail _ (.head _)) o e)
 item:=by
  intro X L M Q hc i p s σ H E I l st R;subst L M Q;erw[cps λG k=>?_];let(xs,x,B,S):=R;obtain⟨⟨j,Z⟩,y⟩:=st;let(bT,U,W,l1):=I.list B;let(u1,Rx,Y):=U.get S;let OU:=λ(e:À)(d:e ∈[z,c])=>xM I B (l e d);erw[k (wpAny_pyNext_enum_item Z y W.isList (x:=u1) (by simpa using Rx) D λhp Zo z2 pr sz F=>?_)];erw[(_,Ŗ,wpAny_letOwnedTupleGo_enum Zo λhq zq sq=>?_)];let N:H s.heap.objs.size=none:=I.fresh;let C:∀e o,e ∉[z,c]->s.heap.get? e=O o->hq.get? e=O o:=λe o d g=>sq.extBut _ _ (λq=>d (q▸.head _)) (F e o (λq=>d (q▸.head _)) (λq=>d (q▸.tail _ (.head _))) g);let Tz:s.heap.objs.size≠z:=eR (ay Z);let prq:=sq.extBut _ _ Tz pr;let t:∀e u,H e=O u->e ∉[z,c]:=λe u d hm=>by let:H e=none:=(l e hm).1;rw[this]at d;cases d
  let Lo:jX X.prog X.w (dq H s.heap.objs.size (.T [.I i,x])) hq:=λe u d=>by
   by_cases ee:e=s.heap.objs.size;.subst ee;rw[bC]at d;cases d;exact(by show 2<=Ã;decide,[.int i s.toks,u1],.cons (_,Ŗ) (.cons Y .nil),(_,prq,Ŗ,_,Ŗ))
   .rw[bw ee]at d;erw[(I.c4 e u d).sW (λf o Le g=>C f o ?_ g) (λf g=>by rw[bw (b8 g N)];rwa[g]) λf zs g=>by rw[bw (b8 g N)];rwa[g]]
    rcases Le with rfl|Le;.rwa[t f u d]
    .rwa[t f _ Le]
  let I1:Inv X p σ (dq H s.heap.objs.size (.T [.I i,x])) {s with heap:=hq,toks:=s.toks+1}:=by
   erw[I.step (g':=s.gens) (d':=s.drawn) (t':=s.toks+1) (λe d=>?_) (λe o _ _ d g _=>C e o d g) (λe o _ _ d g _=>(_,C e o d g)) (λe o _ g n=>by rw[bw (aR (ay g))];rwa[n]) (λe o d g=>(o,C e o d g)) (λe zs g=>by rw[bw (b8 g N)];rwa[g]) (λe o u g=>by rw[bw (b8 g N)];rwa[g]) (λe ps g=>(#[],by rw[bw (b8 g N),g];simp)) (λm hm=>?_) Lo I.bare];.let(f0,f1,f2,f3,f4,f5):=l e d;exact(f3,f1,f4,f5)
   .let(o,KZ,ep,ho,r):=hm;exact(o,KZ,ep,C _ o (λLj=>(l _ Lj).2.1 Ŗ) ho,r)
  erw[(.A _,_,I1,Ŗ,(_,N,Ŗ,λxs' x' g1 gx=>?_),((_,by done),z2.extBut sq.extBut (cY D)),λe d=>?_)];.let e1:=I.qf g1 B;subst e1;rw[S]at gx;cases gx;rfl
  .rw[bw];.exact(l e d).1
   .rcases aw.mp d with rfl|d;.rwa[cY Tz]
    .rw[aB.mp d];let(o,ho,_):=y;rwa[aR (ay ho)]
 done:=by intro X L M Q hc i p s σ H E I l st R;subst L M Q;erw[cps λG k=>?_];let(xs,B,S):=R;obtain⟨⟨j,Z⟩,y⟩:=st;let(bT,U,W,l1):=I.list B;let e1:=U.length;let(f0,f1,f2,f3,f4,f5):=l c (.tail _ (.head _));rwa[k (wpAny_pyNext_enum_end (I.ok.hd hc) Z y W.isList nofun λh' eb=>(Ŗ,I.turned (λb o hb e=>eb b o hb e) f0 f1 f3 f4 f5))]
 self:=λ_ _ _ _ _ st h=>by obtain⟨⟨j,Z⟩,_⟩:=st;rwa[wpAny_pyIter_enum Z h]
def ϡ(K:Æ)(t:TA):TI:=λσ H R=>t σ H λv h=>∃a x,v=[.A a]/\gh K h a x/\R (CF K a) h
def yh:eU "enumerate"=O (.type "enumerate"):=by rfl
def Ti(j:Gl X "enumerate")(m:X.mg "enumerate"=ao)(n:PA X [a] t)(hs:dN [a] X.env=[(a5,Ê a X.env)]):PI X (.Tuple es k g) (.Call (.Name "enumerate" p) [a] [] pos) (ϡ X.K t):=by intro P s σ H R I h;erw[Call_ (rh I j m yh (eS (V_ (n pos _ s σ H _ I h) λU s1 B u i v Q=>?_) hs Ŗ))];let(l,C,rfl,w,q):=Q;cases v with|g r x=>
  cases x;cases r;let(T,D,y,E):=i.list w;erw[call_enumerate_list y.isList λF f z sz A=>wpAny_pyIter_enum f ?_];erw[(_,_,_,_,u,Ŗ,i.kept λb o e=>A b o e,II (),((_,f),z),λb d=>?_,q)];let c:s1.heap.objs.size<=b:=by
   rcases aw.mp d with rfl|d;.rwa[bt _]
   .rw[aB.mp d];rwa[ah _]
  rwa[i.AK c (i.c4.fresh c)]
end L2
namespace F
open L2
def Hr:Ń->ϑ->ϑ|_,[]=>[]|n,x::X=>.T [.I n,x]::Hr (n+1) X
theorem uP:∀(xs:ϑ)(n:Ń),Á (Hr n xs)=Á xs|[],_=>Ŗ|_::xs,n=>bL (·+1) (uP xs _)
theorem uO:∀{xs:ϑ}{n i:Ń}{z:Pv},(Hr n xs)[i]?=O z->∃x,xs[i]?=O x/\z=.T [.I (n+i:Ń),x]|[],_,_,_,e=>by cases e|x::xs,n,0,_,e=>by cases e;exact(x,Ŗ,Ŗ)|_::xs,n,i+1,_,e=>by let(x,h,H):=uO (xs:=xs) e;exact(x,h,())
def aiu:O1:=λx h Q=>match x with|.p (.L X)=>Q (.p (.L (Hr 0 X))) h|_=>ŧ
def Y0(r:bq (Y.z G) M H h)(n:a∉M)(d:H a=O (.L vs))(I:aY (Y.z G) M H xs vs):Pt Y G M H (CF Y.K a) (Hr 0 xs):=λl m f o g e R=>by let s:gh Y.K f a vs:=gh.of (e.keep a _ n d);erw[(λi z j=>?_,(vs,s,by rw[uP,I.len];rwa[ah _]))];let(x,k,rfl):=uO j;let(v,c,p):=(aY.mv (e.mv r) (aY.wk g I)).get k;erw[((vs,v,s,c),λu q T=>?_)];let(T,b,hu,y):=T;let e2:=y vs v s c;subst e2 hu;rw[cR];exact(Ext.add b,R.add b,AW R b Ŗ p)
def M9(g:Gl X "enumerate")(m:X.mg "enumerate"=ao)(j:PE X a (de 'X' E A))(b:cL a):PI X (.Tuple es k0 f) (.Call (.Name "enumerate" p) [a] [] pos) (wJ 'X' E (C5 (s1 aiu A))):=(zu (Ti g m (ZF j o6 b) (cA b))).imp λτ H R z=>by let(G,M,σ,h,x,Q,k,q):=z;erw[(G,M,σ,h,x,_,(k.rel,k.env,λd b l n v o e I c=>?_,k.exc),q)];show ∃a s,[v]=[V.A a]/\_;induction d with|r _=>rwa[c.elim]|p d=>cases d with|L s=>let(a,u,rfl,N,s1,i):=I;exact(a,u,Ŗ,gh.of s1,λhd=>k.out _ b l n _ o e (Y0 e N.1 s1 i) (by rw[uP,i.len];rwa[hd.len (.inl (gh.of s1))]) c)|_=>rwa[c.elim]
def Jm.e{Γ:Gm}{t:Tb}(A:Em Γ t):Jm Γ t:=(_,λS T x=>IS (λ_ _ _=>qa _ _&&jL (λf s k _=>FT k&&(AV S _ f&&ko (l1 s) _)) x) T,λo h=>by erw[nL h λs K j h=>?_];let(a,h):=ag h;erw[fe h λf l k pos h=>?_];let(b,h):=ag h;let(c,h):=ag h;let(e,d,h):=cO h;let(p,g,i,_):=fY o c;rw[iD b,fw d,g];rwa[M9 i (o.bl _ (j8 a)) (A.pe o (ag h).2) (ag h).1])
def š(t:Ä->Ő ϐ)(A B:Sm):Sm:=λx σ h Q=>A x σ h λX a=>match X with
 |[.p (.S z)]=>B x σ a λY H=>match Y with|[d]=>gG (t z) (λk=>∃y,k=[y]/\Q [.p (.S y)] H) (Q [d] H)|_=>ŧ
 |_=>ŧ
def U_(h:de 'X' E (š T A B) τ H QV):WG T (de 'X' E A) (de 'X' E B) τ H QV:=by let(G,M,σ,h,x,Q,k,q):=h;erw[(G,M,σ,h,x,_,(k.rel,k.env,λd j m s v b l I n=>?_,k.exc),q)];induction d with|r _=>left|p d=>cases d with
  |S z=>erw[(z,pI I,G,m,σ,j,x,_,(l,k.env.ext k.rel b,λd2 c M2 f u g R o a=>?_,k.Ht b),n)];induction i:T z with|c K=>rw[i]at a;let(y,rfl,a):=a;intro Y e;cases e;rwa[k.out (.p (.S y)) c M2 f _ (b.trans g) R rfl a]|a=>rw[i]at a;rwa[k.out _ c M2 f _ (b.trans g) R o a]
  |_=>left
def Em.tgs{Γ:Gm}{t:Tb}(i:Ń)(A B:Em Γ t):Em Γ t:=(_,λS=>jL λg s k q=>FT k&&(Ë 50 i&&(!Nat.ble 100 i&&je i _)&&IQ (λf m p=>AV S _ f&&(cC m _&&(p.endLine==q.line&&ko (l2 s) λz=>cL z.1&&cL z.2&&(A.ck S z.1&&B.ck S z.2)))) g),λo h=>by erw[fe h λg s k q h=>?_];let(a,h):=ag h;let(b,h):=ag h;rw[iD a];erw[qw h λf m p h=>?_];let(c,h):=ag h;let(d,h):=ag h;let(j,h):=ag h;let(e,l,h):=cO h;let(P,n,r,u,hn):=fY o c;let(G,v,w):=uw b;let(ad,x,T):=o.tab i (cV.mp w);replace T:=R_ G (iE v) T;rw[bQ.mp d,vg l,n];let(k1,k2):=ag h;exact(SD T r x (A.pe o (ag k2).1) (B.pe o (ag k2).2) u rfl (yK nofun (by show 2<30;decide)) j (by rw[cA (ag k1).1,cA (ag k1).2];rfl)).imp λ_ _ _=>U_)
end F
namespace L2
structure ę(K:Æ)(x cN:Ä)(st:É)(f:À)(fd:d4):ß where
 ex:∃(oc:Â)(od:Ő À)(dV kV doc pm:Â)(an:Ő À)(eO ct:Â)(sd:Array (Ő Â)),fd=fnOf x cN (g7 st) (bX st) (aG st) dV kV doc pm an eO ct/\K.lookup f=O (oc,od,.func fd,sd)/\codeIn K eO cN=J
 kp:keepIn K (.ref f)=J
structure B7(K:Æ)(C:À)(cN:Ä)(st:É)(ps:ϐ)(ds:Ł Â):ß where ex:∃(f:À)(fd:d4),ę K "__init__" cN st f fd/\Mk K C f/\Binds K fd ps []/\Binds K fd ps ds
def B7.ok{K:Æ}{mg:c3}{base:È}{x cN:Ä}{st:É}{ps N:ϐ}{k:Ń}{sp:Sp}{ds:Ł Â}{C:À}(S:B7 K C cN st ps ds)(a:mg x=O (.ref C))(F:c7 N ps (aG st))(len:∀vs H Q E,sp vs H Q E->Á vs=Á ps)(i:∀(f:À)(e:Â)(A:cr)(o:Ł Ù)(s:be)(H:Hp)(vs:ϕ)(Q:VK)(E:XK),fJ k (A.deeper (envOfC cN (aG st) s.heap.objs.size f e))->sp vs H Q E->∃t,iY (oQ BL P w K mg base N cN (aG st) f e A o s H E).BR (bX st) t/\t {nx:=λ_ H'=>Q .jn H',rt:=Q} (start N vs) H):lF P w K mg base (k+1) x C ps sp/\∀(Bu:Sp)(dvs:ϕ),Vals dvs ds->(∀vs H Q E,Bu vs H Q E->sp (vs++dvs) H Q E)->∀p,lF P w K mg base (k+1) x C p Bu:=by
 let(f,u,c,m,d,v):=S.ex;let(oc,y,D,kV,doc,z,B,e,ct,G,rfl,lk,g):=c.ex;let b:=AJ lk g F len λA o s H vs Q E r j=>by let(t,h,q):=i f e A _ s H vs Q E r j;exact(t,h.BR,q)
 exact((f,_,ps,sp,[],[],b,m,d,.nil,λ_ _ _ _ h=>by rw[aV];rwa[h],a),λBu dvs l n p=>(f,_,ps,sp,ds,dvs,b,m,v,l,n,a))
end L2
namespace F
open L2
section
variable{Γ:Gm}{t:Tb}
namespace Em
end Em
end
end F
namespace F
open L2
def UD(d:∀G M H,cU (Y.z G) M H dd dvs)(b:∀ds h Q x,a ds h Q x->C (ds++dd) h Q x)(vs:ϕ)(H:Hp)(Q:VK)(E:XK)(q:dI Y a vs H Q E):dI Y C (vs++dvs) H Q E:=by let(G,M,h,ds,f,x,r,i,c,out,e):=q;exact(G,M,h,_,f,x,r,i.app (d G M H),b _ _ _ _ c,out,e)
def Ms.abo{K:Æ}{st:É}{ps:ϐ}{C:Ct}(B:Ms Γ t)(z:Þ)(n:B7 K (t.ca a) l st ps us)(u:mg x=O (.ref (t.ca a)))(F:c7 N ps (aG st))(g:Gk J Γ t k S P w K mg base)(v:B.ck (S.at N (aG st) a5) (bX st)=J)(d:∀ds h Q X,C ds h Q X->Á ds=Á ps/\B.m (iR z (Á h) Q λ_ _=>ŧ) (rF (Á N) ds) h):lF P w K mg base (k+2) x (t.ca a) ps (dI (K,mg,t) C)/\∀(b:Ct)(dd:Ł Dv)(dvs:ϕ),Vals dvs us->(∀G M H,cU (((K,mg,t):T0).z G) M H dd dvs)->(∀ds h Q X,b ds h Q X->C (ds++dd) h Q X)->∀p,lF P w K mg base (k+2) x (t.ca a) p (dI (K,mg,t) b):=by let z:=n.ok (sp:=dI (K,mg,t) C) u F (λD H Q E t=>t.ln λ_ _ _ _ c=>(d _ _ _ _ c).1) λf Y A o s H D Q E L Z=>(by let(G,M,h,ds,Q',X,r,i,c,out,R):=Z;exact(_,B.ps (E:=λ_ _ _=>ŧ) (Gk.Sf g rfl rfl rfl (λj σ H s e s' I Z=>by let(_,_,_,_,_,_,q):=Z;rwa[q.elim]) L (λh=>by cases h),F.nd,λy _=>.inl Ŗ,tD,F.kind,g.exc) v,(G,M,_,h,_,oS r (o9 N i) out λ_ _ _ _ _ _ q=>q.elim,(d _ _ _ _ c).2)));exact(z.1,λb dd dvs T U W p=>z.2 _ dvs T (UD U W) p)
end F
namespace L2
end L2
namespace F
open L2
end F
namespace L2
theorem xW:∀{bs:Ł _}{B:Ł _},Vals (bs.map V.A) B->B=bs.map Ò|[],_,h=>by cases h;rfl|b::bs,_,h=>by cases h with|g r R=>cases r;rw[xW R];rfl
theorem xE:∀(bs:Ł _),Vals (bs.map V.A) (bs.map Ò)|[]=>.nil|_::bs=>.cons Ŗ (xE bs)
def UL:∀h H:È,Pz h a bT->(∀o,h.get? a=O o->H.get? a=O o)->Pz H a bT:=λh H (o,n,e,r) k=>(o,n,k o e,r)
def Aw:fR X (.type "tuple") λxs H Q=>∃p bs,xs=[.A p]/\gh X.K H p (bs.map V.A)/\∀l,H l=ao->Q (.A l) (dq H l (sE l bs)):=by intro P s σ H xs U Q I r h;let(p,bs,rfl,c,q):=h;let(u,rfl,R):=IZ r;cases R;let(B,d,f,z):=I.list c;cases xW d;erw[call_tuple_list f.isList (λa k=>?_) nofun];let i:Inv X _ σ H {s with heap:=a}:=I.kept k;let hn:Pz (a.push {cls:=.type _,data:=.seq (bs.map Ò).toArray}) _ _:=(_,_,ax _ Ŗ,Ŗ,Ŗ,Ŗ);let g:Inv X _ σ (dq H a.objs.size (sE _ bs)) {s with heap:=a.push _}:=i.laid (λb o e=>af _ e) (ah _) (hn,(_,ax _ Ŗ),UL);exact(.A _,_,g,Ŗ,q _ (i.c4.fresh (ah _)))
def Cn(g:X.calm):fR X (.type "dict") λxs H Q=>∃(l:À)(bs:Ł _)(U:Ł _),xs=[.A l]/\H l=O (sE l bs)/\Á U<=100/\Paired (λt v=>∃b,t=V.A b/\gX X.K H b [kV v.1,v.2]) (bs.map V.A) U/\∀a,H a=ao->Q (.A a) (dq H a (.dK (jJ [] U))):=by intro p s σ H xs m Q I r h;let(l,bs,U,rfl,i,z,j,q):=h;let(u,rfl,R):=IZ r;cases R;let(o,n,e,c,dn,d):=(I.c4 l _ i).1;let f:X.A.in1.in1.handled=none:=I.ok.hd g;rwa[xg I (xE bs) z j q e c rfl (λe k=>Mp F.slot_tuple_getattribute am_entry_tuple_getattribute F.args_tuple_getattribute_2 am_tuple_getattr_none (λsl u=>meets_getattribute_miss_tuple l _ _ sl _ _ rfl rfl (by size_fits)) e c d dn f k) (λe q=>ju (o,e,c,n,d) q) (λI n=>Walks.tuple f I l n _) λh e=>((_,ax _ Ŗ,Ŗ,Ŗ),o,af _ e,c,n,d)]
end L2
namespace F
open L2
def PF:ϑ->Þ|[]=>J|.T _::r=>PF r|_::_=>a5
def ac5:ON:=λds h Q=>d1 ds λx=>gG (nh h x) (λX=>gd (PF X) (Q (.p (.wld X)) h)) ŧ
def AT:Dv->Ő ϑ|.p (.wld x)=>O x|_=>ao
def acY:ON:=λds h Q=>d1 ds λx=>gG (AT x) (λX=>gG (oK X) (λp=>gd (Ë (Á p.1) 100) (Q (.p (.dct (sJ p.1 p.2 ([],[])).1 (sJ p.1 p.2 ([],[])).2)) h)) ŧ) ŧ
def Y'(e:AT x=O xs):x=.p (.wld xs):=by
 delta AT at e;split at e;.left
 .cases e
theorem EN{Y:T0}{G M:Ł À}{H:Hp}:∀{xs:ϑ}{vs:ϕ},PF xs=J->aY (Y.z G) M H xs vs->∃bs:Ł _,vs=bs.map V.A|[],[],_,_=>([],Ŗ)|[],_::_,_,q=>q.elim|_::_,[],_,q=>q.elim|x::xs,v::vs,h,q=>by cases x with|T y=>let(bs,e):=EN (xs:=xs) h q.2;let(a,_,E,_):=q.1;exact(a::bs,nofun)|_=>cases h
def LO:qO Y (λxs H Q=>∃p bs,xs=[.A p]/\gh Y.K H p (bs.map V.A)/\∀l,H l=ao->Q (.A l) (dq H l (sE l bs))) ac5:=λG M h H xs s Q f r d q out=>by let(x,rfl,q):=Vn q;let(y,e,q):=cP q;let(c,q):=cG q;let(v,rfl,i):=d.rC;let(a,ws,rfl,s1,I):=g8 r i e;let(bs,rfl):=EN c I;exact(a,bs,Ŗ,gh.of s1,λl b=>out (.p (.wld y)) h M _ _ (Ext.add b) (r.add b) (l,bs,Ŗ,r.oU b,bC,I.ext r (Ext.add b)) q)
def LH:qO Y (λxs H Q=>∃(l:À)(bs:Ł _)(U:Ł _),xs=[.A l]/\H l=O (sE l bs)/\Á U<=100/\Paired (λt k=>∃b,t=V.A b/\gX Y.K H b [kV k.1,k.2]) (bs.map V.A) U/\∀a,H a=ao->Q (.A a) (dq H a (.dK (jJ [] U)))) acY:=λG M h H xs s Q j r I q out=>by
 let(x,rfl,q):=Vn q;let(y,e,q):=cP q;let(p,E,q):=cP q;let(c,z):=cG q;let(v,rfl,i):=I.rC;cases Y' e;let(a,bs,rfl,n,s1,g):=i;let(U,d,pp):=DU E g;let hl:=by let:=d.1.len;rw[ae]at this;rwa[this.symm]
 erw[(a,bs,U,Ŗ,s1,by rw[hl];rwa[aI c],pp,λb f=>?_)];let d2:=tJ d jW.nil;erw[out _ h M _ _ (Ext.add f) (r.add f) ?_ z];exact(b,_,Ŗ,r.oU f,.inl bC,d2.1.ext r (Ext.add f),d2.2.ext r (Ext.add f))
def Vv:Bi:=(_,_,a5,λ_ h H a hn k d=>vt Aw LO h H As a hn k d)
def Vu:Bi:=(_,_,_,λh H m a hn k d=>vt (Cn (h Ŗ)) LH H m yg a hn k d)
def Du(L:Lw)(W:Wd)(i k:Ń)(C:Ct):ß:=∃ps,sy W.P W.w W.K W.mg W.base k (L.S.gR i) ps (dI (L.y W) C)
def Dj(L:Lw)(W:Wd)(c k:Ń):ß:=∃ps,qN W.P W.w W.K W.mg W.base k (L.ca (c/100-1)) (L.S.sH c) ps (dI (L.y W) (L.ma c))
section
variable{L:Lw}{W:Wd}{i j k c:Ń}{C C':Ct}
def Du.dt(D:Du L W i k C):Dt L W i k C:=let (ps,d):=D;(ps,d.toX)
def Du.le(D:Du L W i j C)(h:j<=k):Du L W i k C:=let (ps,d):=D;(ps,d.mono h)
def Dj.le(D:Dj L W c j)(h:j<=k):Dj L W c k:=let (ps,d):=D;(ps,d.mono h)
def Lz{K:Æ}{M:Ä->Ő _}(h:Ë 100 c)(D:qN P w K M b k (a (c/100-1)) nm ps sp):ky m P w K M b k nm a c ps sp:=by delta ky;rw[h];induction m with|d=>rwa[qN.toM D]|e=>rwa[D]
def Dj.di(D:Dj L W c k)(h:Ë 100 c):Di L W c k:=let (ps,d):=D;(ps,Lz h d)
def Lk.gkU{iok:Ϙ}(B:Lk L W)(H:∀i∈fok,Du L W i (k+1) (fn i))(hi:∀c∈iok,Ë 100 c=J/\Dj L W c k):Gk a5 (L.g fn fok iok) L.t k L.S W.P W.w W.K W.mg W.base:=(B.bl,Ŗ,λi h=>let (ps,d):=H i h;(ps,d),B.gl,B.tab,λc a=>(B.cls c a,Ŗ),λc h=>let (b,ps,d):=hi c h;(ps,Lz b d),B.exc,λi hi=>by done)
abbrev Lw.gu(L:Lw)(fn:Ń->Ct)(fok iok I:Ϙ):Gm:=(fn,fok,L.gl,L.Yq,L.ma,iok,L.tab,L.tok,I)
def Lk.gkC(B:Lk L W)(H:zT L W fn (k+1) fok)(hi:wN L W k iok)(hu:∀i∈I,Du L W i (k+1) (fn i)):Gk J (L.gu fn fok iok I) L.t k L.S W.P W.w W.K W.mg W.base:=(B.bl,Ŗ,H.at,B.gl,B.tab,λc a=>(B.cls c a,Ŗ),hi.at,B.exc,λi h=>let (ps,d):=hu i h;(ps,d))
def Lk.du{st:É}(N ps:ϐ)(z:Þ)(B:Lk L W)(b:Ms (L.g fn fok iok) L.t)(s:Src W.K W.mg (L.S.gR i) st ps)(F:c7 N ps (aG st))(I:b.ck (L.S.au N (aG st)) (bX st))(H:∀i∈fok,Du L W i (k+1) (fn i))(hi:∀c∈iok,Ë 100 c=J/\Dj L W c k)(a:∀ds h Q x,C ds h Q x->Á ds=Á ps/\b.m (iR z (Á h) Q λ_ _=>ŧ) (rF (Á N) ds) h):Du L W i (k+2) C:=(ps,b.agN z s F (B.gkU H hi) I a)
def Lk.dv{st:É}(N ps:ϐ)(z:Þ)(B:Lk L W)(b:Ms (L.g fn fok iok) L.t)(s:gK W.K (L.ca (c/100-1)) (L.S.sH c) q st ps)(F:c7 N ps (aG st))(I:b.ck (L.S.au N (aG st)) (bX st))(H:∀i∈fok,Du L W i (k+1) (fn i))(hi:∀c∈iok,Ë 100 c=J/\Dj L W c k)(a:∀ds h Q x,L.ma c ds h Q x->Á ds=Á ps/\b.m (iR z (Á h) Q λ_ _=>ŧ) (rF (Á N) ds) h):Dj L W c (k+2):=(ps,b.agO z s F (B.gkU H hi) I a)
end
def Lv{c:Ń}{K:Æ}(h:Ë 80 c)(H:Ë 90 c=a5)(D:lF P w K mg base k nm (ca (c-80)) ps sp):ky cm P w K mg base k nm ca c ps sp:=by delta ky Ag;rw[Ck ⋯ H,h,H];rwa[D]
def Lk.agR{c e:Ń}{st:É}(N ps:ϐ)(z:Þ)(B:Lk L W)(b:Ms (L.g fn fok iok) L.t)(s:B7 W.K (L.ca e) l st ps us)(d:W.mg (L.S.sH e)=O (.ref (L.ca e)))(F:c7 N ps (aG st))(I:b.ck (L.S.at N (aG st) a5) (bX st)=J)(f:zT L W fn (k+1) fok)(hi:wN L W k iok)(n:∀ds h Q x,L.ma e ds h Q x->Á ds=Á ps/\b.m (iR z (Á h) Q λ_ _=>ŧ) (rF (Á N) ds) h)(o:Ë 80 e=a5)(p:Ë 80 c)(r:Ë 90 c=a5)(u:c-80=e)(hn:L.S.sH c=L.S.sH e)(v:Vals dvs us)(A:∀G M H,cU ((L.y W).z G) M H dd dvs)(D:∀ds h Q x,L.ma c ds h Q x->L.ma e (ds++dd) h Q x):Di L W e (k+2)/\Di L W c (k+2):=by let(a,q):=Ms.abo b z s d F (B.gk f hi) I n;exact((ps,FH o a),[],Lv p r (by rw[hn,u];rwa[q _ dd dvs v A D []]))
end F
namespace L2
def NJ(K:Æ):R2:=λx y H Q=>∃(l:À)(k:Î)(X:ϕ),x=.A l/\y=.I k/\gX K H l X/\Á X<=10/\0<=k/\k<=1000/\∀p h,ir H h->gX K h p (Ð k.toNat X).flatten->Q (.A p) h
def MH:mm X (binaryOp .Mult) (NJ X.K):=by
 intro P s σ H x y v u Q I R m h;let(l,k,w,rfl,rfl,f,C,D,g,q):=h;cases R;let(t,rfl):=m;let(B,r,p,z):=I.tuple f;obtain⟨⟨cls,d,data,sl⟩,e,i,n,j⟩:=id p;simp only at i j;subst i j;let hl:=r.length;erw[Vb (by rfl) (_,e,Ŗ) (λS=>Ad S k t) rA F.fills_int_mul sZ zC F.slot_int_index.lookup
  (jq sZ (Ad s k t) F.entry_int_rmul (F.args_int_rmul_2 _ _) (uZ k t l _ n d sl) (e,Ŗ,(_,e,Ŗ),?_))];cases w with|f=>
  obtain rfl:B=[]:=by cases r;rfl
  erw[jq ic (_,e,Ŗ) pd (nO _ _) (Eu k t l n d sl D g) (e,.A l,H,I,Ŗ,q l H (ir.refl H) ?_)];rw[show(Ð _ _).flatten=[]by simp];rwa[f]|g y Y=>
 let a:B.toArray.isEmpty=false:=by cases r;rfl
 by_cases E:k=1;.subst E;rwa[jq ic (_,e,Ŗ) pd (nO _ _) (Et t l _ n d sl) (e,.A l,H,I,Ŗ,q l H (ir.refl H) nofun)]
 by_cases c:k=0;.subst c;rwa[jq ic (_,e,Ŗ) pd (nO _ _) (Ey t l _ n d sl a) (e,(.A _,_,I.laid (o:=.T []) (λb G q=>af _ q) (ah _) (aP _,[],.nil,GN _ _),Ŗ,q _ _ (kg (I.c4.fresh (ah _)) _) (gX.of bC)))]
 erw[jq ic (_,e,Ŗ) pd (nO _ _) (Ew k t l _ n d sl a () g nofun) (e,?_)];let f0:=by let:=GR B k.toNat [];rwa[this]
 rw[f0];erw[(.A _,_,I.laid (λb G q=>af _ q) (ah _) ?_,Ŗ,q _ _ (kg (I.c4.fresh (ah _)) _) (gX.of bC))];erw[(?_,_,r.rep _,GN _ _)];rw[yY];let L:k.toNat<=1000:=()
 let:=Ph L C;rwa[aq ‹_› ∅]
end L2
namespace F
open L2
def F7:O2:=λx y h Q=>gG (tO x) (λX=>gG (iO y) (λk=>gd (vT 0 k&&(vT k 1000&&Ë (Á X) 10)) (Q (.p (.T (Ð k.toNat X).flatten)) h)) ŧ) ŧ
def LL:jw Y (NJ Y.K) F7:=λG M h H x y v u Q t r i j q out=>by let(X,e,b):=cP q;let(k,f,d):=cP b;let(c,g):=cG d;let(C,l,m):=uw c;clear q b d;cases GG e;cases rV f;let(a,n,E,s1,I):=rM i;erw[(a,k,n,E,fK j,s1,by rw[<-I.len];rwa[bv.mp m],gE.mp C,gE.mp l,λp o s S=>?_)];erw[out _ h M o _ (jE s) (vA r s) ?_ g];exact(p,_,Ŗ,S,(I.rep _).ext r (jE s))
def rP:Bo:=(_,_,λ_ _=>(_,MH,LL))
def Mm.N1{Γ:Gm}{t:Tb}(i n:Ń)(l:Ϙ)(T:Tg)(j:Jm Γ t)(F:Fm Γ t)(A:Em Γ t):Mm Γ t:=(zF i (xG n l T _ F.m A.m J),λS st=>S.fr&&D8 S i (λx p e=>zk _ x&&(Rk x p e&&Kh S n l T _ F _ e)) st,λ{k S X E st}o h=>by
 let(M,h):=ag h;erw[nI o h λx p e pos r u w y=>?_];let(B,g):=ag y;let(G,C):=ag g;revert G;erw[tH o.x C λW Y ix I e sc D K L a b N P Q R v G=>?_];erw[(Nv (o.x.fx M).1 (o.x.fx M).2 o.nd r u K (o.x.hc v).1 L (j.pi o.x a) (λf s H=>N (HQ o.x v _ _ f _ _)) (λf s H=>F.pf (HQ o.x v _ _ f _ _) P) (λf s H=>A.pe (HQ o.x v _ _ f _ _) Q) R ?_ w).imp λ_ _ _ q=>tI (λ_ _ _ _ z=>z) b (N6 q)];let(c,d):=ag G;show pure (X.env.blockKind==.function&&X.env.kindOf x==O _&&p.line==D.line&&!sc.names.any _)=pure _;let U:X.env.kindOf x=O .local:=by show X.env.scope.names.lookup x=_;rw[o.x.hs];rwa[vp B]
 rw[LV o.kd,U,c,d];rfl)
end F
namespace L2
def lF.imp{K:Æ}{m:Ä->Ő _}(D:lF P w K m B k x C ps sp)(i:∀vs H Q E,Bu vs H Q E->sp vs H Q E):lF P w K m B k x C ps Bu:=by let(f,g,j,r,ds,s,F,a,b,c,d,e):=D.ex;exact(f,g,j,r,ds,s,F,a,b,c,λvs H Q E h=>d vs H Q E (i vs H Q E h),e)
def gJ.imp(R:gJ X f sp [] E)(i:∀vs H Q E,B vs H Q E->sp vs H Q E):gJ X f B [] E:=λp σ H s Q u vs I r h=>R _ σ H s Q u vs I r (i _ _ _ _ h)
end L2
namespace F
open L2
def ź(C:Ct):Ct:=λds h Q x=>match ds with|.r n::r=>R0 [n] C (.r n::r) h Q x|_=>ŧ
def UG(z:dI Y (ź C) vs H q EV):dI Y C vs H q EV:=by
 let(G,M,h,ds,Q,x,r,i,c,o,a):=z;rcases ds with _|⟨_|n,ds⟩;.rwa[c.elim]
 .rwa[c.elim]
 .rwa[rG r i c o a]
def UE(z:dI Y (R0 [] C) vs H q EV):dI Y C vs H q EV:=by let(G,M,h,ds,Q,x,r,i,c,o,a):=z;rwa[rG r i c o a]
section
variable{Γ:Gm}{t:Tb}
namespace Em
def nwl(c:Ń)(A:Am Γ t):Em Γ t:=(_,λS x=>!Nat.ble 80 c&&je c _&&(S.cm&&Xr S _ A x),λ{k S X E x}o h=>by let(ps,D):=o.ma c (cV.mp (ag (ag h).1).2);replace D:=Lu (iE (ag (ag h).1).1) D;rwa[qU o (ag (ag h).2).2 λ_ _ _ _ H d hn pa p=>Wa (D.imp λ_ _ _ _=>UG) (o.room (ag (ag h).2).1) H pa d p])
def mel(c:Ń)(b:Em Γ t)(A:Am Γ t):Em Γ t:=(_,(me c b A).ck,λ{k S X E x}o h=>rq h λv e s D H d i j=>by let(l,g):=ag H;let(m,n,p,G):=vZ l;let(q,g):=ag g;let(C,r):=o.cls _ (cV.mp p);let(f,u,R):=o.Zh (cV.mp n) m;induction e with|f=>done|g a e=>let(pa,P):=A.pa o (ag g).2;rwa[V9 (b.pe o d) C (λw=>by rw[r]at w;rw[qb w]at G;cases G) u (R.imp λ_ _ _ _=>UE) pa (lJ i) P (aI q) j])
end Em
end
theorem A6(h:∀d,f (b d)=g d):∀ds:Ł Dv,oj f (ds.map b)=oj g ds|[]=>Ŗ|d::r=>by rw[cF];delta oj;rw[h d,A6 h r]
theorem Fv(H:∀i,OV ρ m (.r i)=.r (n+i))(b:∀i,h[n+i]?=l[i]?.map (JY ρ m)):∀(f:Ń)(d:Dv),oW h n f (OV ρ m d)=oW l 0 f d|0,.p x=>Ŗ|f+1,.p x=>Ŗ|0,.r i=>by rw[H];rfl|f+1,.r i=>by rw[H];delta oW;rw[aA (aQ n i),b];let a:=A6 (Fv H b f);induction l[i]? with|a=>rfl|c o=>induction o with|L X=>rfl|C k u=>rfl|K k=>rfl|F c k u=>rfl|D ds=>rwa[bL (ç _) (a ds)]|E k ds=>rwa[bL (ç _) (a ds)]|I C fs=>rwa[bL (ç _) (a fs)]
def ņ:OV [n] (n+1) (.r i)=.r (n+i):=by induction i with|h=>rfl|j i=>show Dv.r (n+1+(i+1-1))=_;lia
def Rb{x:Ob}{l:Hs}:CP (O8 [h.length] (h.length+1) [h.length] (o::l) (h++[x])) h.length (.r h.length)=(oW (o::l) 0 6 (.r 0)).map .p:=by
 let e:O8 [h.length] (h.length+1) [h.length] (o::l) (h++[x])=h++(o::l).map (JY [h.length] (h.length+1)):=by
  let E:(h++[x]).set h.length (JY [h.length] (h.length+1) o)=h++[JY [h.length] (h.length+1) o]:=⋯
  show O8 _ _ [] l _=_;rw[E];induction l with|f=>rfl|g a l=>show h++[_]++_=_;rw[bA];rfl
 rw[e];let:=Fv (h:=h++(o::l).map _) (l:=o::l) (λ_=>ņ) λi=>by rw[aK (aQ _ _),fV,aN] 6 (.r 0);show(match Ë _ _ with|a5=>_|J=>_)=_;rw[aA (ah _)];rwa[bL (ç _) this]
end F
namespace F
open L2
def VY:ON:=λds h Q=>match ds with
 |[x]=>match nh h x with|O X=>gG (oK X) (λp=>gd (Ë (Á p.1) 100) (Q (.r (Á h)) (h++[.C (sJ p.1 p.2 ([],[])).1 (sJ p.1 p.2 ([],[])).2]))) ŧ|ao=>ŧ
 |_=>ŧ
def LG:qO Y (λxs H Q=>∃(l:À)(T:ϕ)(U:Ł _),xs=[.A l]/\gh Y.K H l T/\Á U<=100/\Paired (λt k=>∃b,t=V.A b/\gX Y.K H b [kV k.1,k.2]) T U/\∀a,H a=ao->Q (.A a) (dq H a (.dK (jJ [] U)))) VY:=λG M h H xs s Q g r I q out=>by
 delta VY gG at q;split at q
 .let(v,rfl,i):=I.rC;split at q
  .ext xs ex;split at q
   .ext p E;let(c,q):=cG q;let(a,ws,rfl,s1,f):=g8 r i ex;let(U,d,pp):=DU E f;let hl:=by let:=d.1.len;rw[ae]at this;rwa[this.symm]
    erw[(a,ws,U,Ŗ,gh.of s1,by rw[hl];rwa[aI c],pp,λb e=>?_)];let d2:=tJ d jW.nil;rwa[out _ _ _ _ _ (Ext.push r e) (r.push (o:=.C _ _) e (_,bC,d2.1.ext r (Ext.push r e),d2.2.ext r (Ext.push r e))) (mZ r.ln) q]
   .left
  .left
 .left
def abC:Bi:=(_,_,_,λh H m a hn k d=>vt (kE (h Ŗ)) LG H m yg a hn k d)
end F
namespace W2
open L2 F
abbrev Nm:=Fin 1000000
def nP(n:Nm):Pv:=.I n.val
def iP(n:Ń):Pv:=.I n
def eV:Ő Ń->Pv|ao=>.I (-1)|O n=>.I n
def iU{α:Type}(z:Ä):Ł (Ä×α)->Ő α|[]=>ao|p::r=>match cC p.1 z with|J=>O p.2|a5=>iU z r
def gF{α:Type}(n:Ń):Ł (Ń×α)->Ő α|[]=>ao|p::r=>match Ì p.1 n with|J=>O p.2|a5=>gF n r
def pos(z:Ä):ϐ->Ń->Ő Ń|[],_=>ao|y::r,n=>match cC y z with|J=>O n|a5=>pos z r (n+1)
def ω:ϐ->Ń->ϑ|[],_=>[]|_::r,n=>iP n::ω r (n+1)
def jZ(l:ϐ):Pv:=.dct (l.map .S) (ω l 0)
def X0{α:Type}(g:α->Pv)(l:Ł (Ä×α)):Pv:=.dct (l.map λp=>.S p.1) (l.map λp=>g p.2)
def tQ{α:Type}(g:α->Pv)(l:Ł (Ń×α)):Pv:=.dct (l.map λp=>iP p.1) (l.map λp=>g p.2)
inductive Op where|pl|mi|ti|ov|re|le|sa
def Op.w:Op->Ä|.pl=>"plus"|.mi=>"minus"|.ti=>"times"|.ov=>"over"|.re=>"rest"|.le=>"less"|.sa=>"same"
inductive Ou where|v(n:Nm)|x(c:Ń)
def Op.f:Op->Nm->Nm->Ou|.pl,a,b=>.v (a+b)|.mi,a,b=>.v (a-b)|.ti,a,b=>.v (a*b)|.ov,a,b=>bif Ì b.val 0 then .x 1 else .v (a/b)|.re,a,b=>bif Ì b.val 0 then .x 1 else .v (a%b)|.le,a,b=>.v (bif Ñ a.val b.val then 1 else 0)|.sa,a,b=>.v (bif Ì a.val b.val then 1 else 0)
inductive Vx where|n(i:Nm)|b(z:Ä)|s(z:Ä)|i(z:Ä)(v:Vx)|t(v:Vx)|o(k:Op)(x y:Vx)
def Vx.p:Vx->Pv|.n m=>.T [.S "number",nP m]|.b z=>.T [.S "box",.S z]|.s z=>.T [.S "size",.S z]|.i z v=>.T [.S "item",.S z,v.p]|.t v=>.T [.S "not",v.p]|.o k x y=>.T [.S k.w,x.p,y.p]
def Vx.dp:Vx->Ń|.i _ v=>v.dp+1|.t v=>v.dp+1|.o _ x y=>max x.dp y.dp+1|_=>0
inductive Rw where|st(z:Ä)(v:Vx)|pu(z:Ä)(v:Vx)|po(z y:Ä)|pt(z:Ä)(u v:Vx)|ak(z d:Ä)|te(v:Vx)|ii(v:Vx)(a b:Pv)|wh(v:Vx)(a:Pv)|tr(a:Pv)(z:Ä)(b:Pv)|fa(v:Vx)|ca(z f:Ä)(vs:Ł Vx)|rt(v:Vx)|df(z:Ä)
def Rw.p:Rw->Pv|.st z v=>.T [.S "set",.S z,v.p]|.pu z v=>.T [.S "push",.S z,v.p]|.po z y=>.T [.S "pop",.S z,.S y]|.pt z u v=>.T [.S "put",.S z,u.p,v.p]|.ak z d=>.T [.S "ask",.S z,.S d]|.te v=>.T [.S "tell",v.p]|.ii v a b=>.T [.S "if",v.p,a,b]|.wh v a=>.T [.S "while",v.p,a]|.tr a z b=>.T [.S "try",a,.S z,b]|.fa v=>.T [.S "fail",v.p]|.ca z f s=>.T [.S "call",.S z,.S f,.T (s.map Vx.p)]|.rt v=>.T [.S "return",v.p]|.df z=>.T [.S "def",.S z]
def oo(d:Ń)(vs:Ł Vx):Þ:=vs.all λv=>Ñ v.dp d
def Rw.lo(d:Ń):Rw->Þ|.st _ v=>Ñ v.dp d|.pu _ v=>Ñ v.dp d|.pt _ u v=>Ñ u.dp d&&Ñ v.dp d|.te v=>Ñ v.dp d|.ii v _ _=>Ñ v.dp d|.wh v _=>Ñ v.dp d|.fa v=>Ñ v.dp d|.ca _ _ s=>Ë s.length 100&&oo d s|.rt v=>Ñ v.dp d|_=>J
structure Pn where
 bs:ϐ
 ls:ϐ
 ds:ϐ
 ow:Ł (Ä×ϐ)wd:Ł (Ä×Ł Nm)rw:Ł Rw
 wi:Pv
 bh:Ł (Ń×Ő Ń)fs:Ł (Ń×Ő Ń)sc:Ł (Ń×Ő Ń)ct:Ł (Ń×Ő Ń)df:Ł (Ä×Ń)st:Ł (Ä×Ő Ń)
def Pn.pa(P:Pn):Pv:=.obj 3 [.L (P.rw.map Rw.p),P.wi,tQ eV P.bh,tQ eV P.fs,tQ eV P.sc,tQ eV P.ct,X0 iP P.df,X0 eV P.st]
def Pn.p(P:Pn):Pv:=.obj 2 [jZ P.bs,jZ P.ls,X0 jZ P.ow,jZ P.ds,X0 (λn:Ł Nm=>.T (n.map nP)) P.wd,P.pa]
structure Fr where
 f:Ä
 ns:Ł Nm
 pt:Ő Ń
def Fr.p(x:Fr):Pv:=.T [.S x.f,.T (x.ns.map nP),eV x.pt]
def jd:Ł Fr->ϑ|[]=>[]|x::r=>jd r++[x.p]
structure Wk where
 bx:Ł Nm
 ls:Ł (Ł Nm)fr:Ł Fr
 ak:Ϙ
 td:Ł Nm
 bk:Þ
 rd:Ł (Ł cp)wr:Ł (Ł cp)
def k8(l:Ł (Ł Nm)):ϑ:=l.map λn=>.T (n.map nP)
def đ(P:Pn)(w:Wk):Ob:=.I 1 [.p P.p,.p (.T (w.bx.map nP)),.p (.T (k8 w.ls)),.p (.T (jd w.fr)),.p (.T (w.ak.map iP)),.p (.T (w.td.map nP)),.p (.B w.bk),.r 1,.r 2]
def xY(P:Pn)(w:Wk):Hs:=[đ P w,.K w.rd,.K w.wr]
def OL(fr:Ł Fr):Ä:=match fr with|[(_,_,ao)]=>"done"|_=>"on"
def Wk.wo(w:Wk):Ä:=bif w.bk then"broken"else OL w.fr
def Wk.p(w:Wk):Pv:=.T [.T (w.bx.map nP),.T (k8 w.ls),.T (jd w.fr),.T (w.ak.map iP),.T (w.td.map nP),.S w.wo]
def kA(κ:Ł cp)(k:Ł (Ł cp)):Ő (Ł (Ł cp)):=bif Ñ k.length 1000 then O (Dl κ k)else ao
def rp{α:Type}(l:Ł α)(i:Ń)(x:α):Ő (Ł α):=bif Ñ i l.length&&Ë l.length 100000 then O (l.set i x)else ao
def wu(d:Ń)(z:Ä):Ł cp:=[.inr "own",.inl d,.inr z]
def Dk(z:Ä):Ł cp:=[.inr "box",.inr z]
def Y2(z:Ä):Ł cp:=[.inr "list",.inr z]
def own(P:Pn)(w:Wk):Ő (Fr×Ł Fr×ϐ):=match w.fr with|[]=>ao|x::r=>(iU x.f P.ow).map λo=>(x,r,o)
def cell(P:Pn)(w:Wk)(z:Ä):Ő (Ł cp):=(own P w).map λp=>match pos z p.2.2 0 with|O _=>wu p.2.1.length z|ao=>Dk z
def Bn(P:Pn)(w:Wk)(z:Ä):Ő (Wk×Nm):=(own P w).bind λp=>match pos z p.2.2 0 with|O i=>(kA (wu p.2.1.length z) w.rd).bind λk=>p.1.ns[i]?.map λn=>({w with rd:=k},n)|ao=>(kA (Dk z) w.rd).bind λk=>(pos z P.bs 0).bind λi=>w.bx[i]?.map λn=>({w with rd:=k},n)
def oN(P:Pn)(w:Wk)(z:Ä)(n:Nm):Ő Wk:=(own P w).bind λp=>match pos z p.2.2 0 with|O i=>(kA (wu p.2.1.length z) w.wr).bind λk=>(rp p.1.ns i n).bind λns=>bif Ñ p.2.1.length 1000 then O {w with wr:=k,fr:={p.1 with ns:=ns}::p.2.1}else ao|ao=>(kA (Dk z) w.wr).bind λk=>(pos z P.bs 0).bind λi=>(rp w.bx i n).map λb=>{w with wr:=k,bx:=b}
def nz(P:Pn)(w:Wk)(z:Ä):Ő (Wk×Ł Nm):=(kA (Y2 z) w.rd).bind λk=>(pos z P.ls 0).bind λi=>w.ls[i]?.map λl=>({w with rd:=k},l)
def vM(P:Pn)(w:Wk)(z:Ä)(l:Ł Nm):Ő Wk:=(kA (Y2 z) w.wr).bind λk=>(pos z P.ls 0).bind λi=>(rp w.ls i l).map λls=>{w with wr:=k,ls:=ls}
def Vh(P:Pn)(d:Ä)(a:Ń):Nm:=match iU d P.wd with|O n=>n[a]?.getD 0|ao=>0
def ask(P:Pn)(w:Wk)(d:Ä):Ő (Wk×Nm):=(pos d P.ds 0).bind λi=>w.ak[i]?.bind λa=>(rp w.ak i (a+1)).map λk=>({w with ak:=k},Vh P d a)
def move(w:Wk)(p:Ő Ń):Ő Wk:=match w.fr with|[]=>ao|x::r=>bif Ñ r.length 1000 then O {w with fr:={x with pt:=p}::r}else ao
def xr(w:Wk):Ő Wk:=match w.fr with|[]=>ao|_::r=>O {w with fr:=r}
def nu(w:Wk):Ő (Ő Ń):=match w.fr with|[]=>ao|x::_=>O x.pt
def ro(d:Ń):ϐ->Ł (Ł cp)->Ő (Ł (Ł cp))|[],k=>O k|z::r,k=>(kA (wu d z) k).bind (ro d r)
def ft(P:Pn)(w:Wk)(f:Ä)(vs:Ł Nm):Ő Wk:=(iU f P.ow).bind λo=>(iU f P.st).bind λp=>bif Ë vs.length o.length&&(Ë o.length 100&&Ñ w.fr.length 1000)then(ro w.fr.length o w.wr).map λk=>{w with wr:=k,fr:=(f,vs++Ð (o.length-vs.length) 0,p)::w.fr}else ao
@[irreducible]def wg{α:Type}(o:Ő (Wk×Ou))(k:Wk->Nm->Ő (Wk×α))(x:Ń->α):Ő (Wk×α):=o.bind λp=>match p.2 with|.v n=>k p.1 n|.x c=>O (p.1,x c)
def Uc(l:Ł Nm):Ő Nm:=if h:l.length<1000000 then O (_,h) else ao
def pc(l:Ł Nm)(n:Nm):Ou:=match l[n.val]? with|O y=>.v y|ao=>.x 2
def ev(P:Pn):Vx->Wk->Ő (Wk×Ou)|.n i,w=>O (w,.v i)|.b z,w=>(Bn P w z).map λp=>(p.1,.v p.2)|.s z,w=>(nz P w z).bind λp=>(Uc p.2).map λn=>(p.1,.v n)|.i z v,w=>wg (ev P v w) (λw n=>(nz P w z).map λq=>(q.1,pc q.2 n)) .x|.t v,w=>wg (ev P v w) (λw n=>O (w,Op.sa.f n 0)) .x|.o k a b,w=>wg (ev P a w) (λw x=>wg (ev P b w) (λw y=>O (w,k.f x y)) .x) .x
abbrev Do:=Pn->Wk->Rw->Ő (Wk×Ő Ń)
def DN(o:Ő Wk):Ő (Wk×Ő Ń):=o.map λw=>(w,ao)
def Cz:Do|P,w,.st z v=>wg (ev P v w) (λw n=>DN (oN P w z n)) O|_,_,_=>ao
def uG:Do|P,w,.pu z v=>wg (ev P v w) (λw n=>(nz P w z).bind λp=>bif Ë 12 p.2.length then O (p.1,O 3)else DN (vM P p.1 z (p.2++[n]))) O|_,_,_=>ao
def Qo:Do
 |P,w,.po z y=>(nz P w y).bind λp=>match p.2.getLast? with|ao=>O (p.1,O 4)|O n=>(vM P p.1 y p.2.dropLast).bind λw=>DN (oN P w z n)
 |_,_,_=>ao
def Cw:Do|P,w,.pt z u v=>wg (ev P u w) (λw i=>wg (ev P v w) (λw n=>(nz P w z).bind λp=>bif Ë p.2.length i.val then O (p.1,O 2)else(rp p.2 i.val n).bind λl=>DN (vM P p.1 z l)) O) O|_,_,_=>ao
def Cv:Do|P,w,.ak z d=>(ask P w d).bind λp=>DN (oN P p.1 z p.2)|_,_,_=>ao
def uH:Do|P,w,.te v=>wg (ev P v w) (λW n=>bif Ë w.td.length 100000 then O ({W with td:=w.td++[n]},ao)else ao) O|_,_,_=>ao
def Qm:Do|P,w,.ii v _ _=>(nu w).bind λp=>p.bind λk=>wg (ev P v w) (λw n=>(bif Ì n.val 0 then gF k P.sc else gF k P.fs).bind λq=>DN (move w q)) O|_,_,_=>ao
def Qp:Do|P,w,.wh v _=>(nu w).bind λp=>p.bind λk=>wg (ev P v w) (λw n=>(bif Ì n.val 0 then gF k P.bh else gF k P.fs).bind λq=>DN (move w q)) O|_,_,_=>ao
def OX(P:Pn):Ł Vx->Wk->Ő (Wk×(Ł Nm ⊕ Ń))|[],w=>O (w,.inl [])|v::r,w=>(ev P v w).bind λp=>match p.2 with|.x c=>O (p.1,.inr c)|.v n=>(OX P r p.1).map λq=>(q.1,match q.2 with|.inl N=>.inl (n::N)|.inr c=>.inr c)
def uE:Do
 |P,w,.ca _ f v=>(OX P v w).bind λp=>match p.2 with|.inr c=>O (p.1,O c)|.inl n=>bif Ë 8 p.1.fr.length then O (p.1,O 5)else DN (ft P p.1 f n)
 |_,_,_=>ao
def Qb:Ő Rw->Ő Ä|O (.ca z _ _)=>O z|_=>ao
def Rh(P:Pn)(w:Wk)(n:Nm):Ő Wk:=(xr w).bind λw=>(nu w).bind λp=>p.bind λc=>(Qb P.rw[c]?).bind λz=>(oN P w z n).bind λw=>(gF c P.bh).bind λq=>move w q
def Cy:Do|P,w,.rt v=>wg (ev P v w) (λw n=>DN (Rh P w n)) O|_,_,_=>ao
def Qn:Do|P,w,.df _=>DN (Rh P w 0)|_,_,_=>ao
def uF:Do|P,w,.fa v=>wg (ev P v w) (λw n=>O (w,O n.val)) O|_,_,_=>ao
def plain:Rw->Ő Do|.st _ _=>O Cz|.pu _ _=>O uG|.po _ _=>O Qo|.pt _ _ _=>O Cw|.ak _ _=>O Cv|.te _=>O uH|_=>ao
def F9:Rw->Ő Do|.ii _ _ _=>O Qm|.wh _ _=>O Qp|.ca _ _ _=>O uE|.rt _=>O Cy|.df _=>O Qn|.fa _=>O uF|_=>ao
def kind:Rw->Ä|.ca _ _ _=>"call"|.rt _=>"return"|.df _=>"off"|_=>"plain"
def mV(P:Pn)(w:Wk)(n:Ń):Ő (Wk×Ő Ń):=P.rw[n]?.bind λr=>match plain r with
 |O d=>(d P w r).bind λp=>match p.2 with|O c=>O (p.1,O c)|ao=>(gF n P.bh).bind λq=>DN (move p.1 q)
 |ao=>(F9 r).bind λd=>d P w r
def lK(P:Pn):Ł Fr->Ő (Ł Fr×Ő Ń)|[]=>ao|x::r=>x.pt.bind λp=>(gF p P.ct).bind λc=>match c with|O k=>O (x::r,O k)|ao=>match r.isEmpty with|J=>O ([x],ao)|a5=>lK P r
def UJ:Ő Rw->Ő Ä|O (.tr _ z _)=>O z|_=>ao
def UC(c:Ń):Ő Nm:=if h:c<1000000 then O (c,h) else ao
def qT(P:Pn)(w:Wk)(c:Ń):Ő (Wk×Ő Ń):=(lK P w.fr).bind λp=>match p.2 with|ao=>O ({w with fr:=p.1,bk:=J},ao)|O k=>(UJ P.rw[k]?).bind λz=>(UC c).bind λn=>(oN P {w with fr:=p.1} z n).bind λw=>(gF k P.sc).bind λq=>(move w q).map λw=>(w,O k)
def r9(P:Pn)(w:Wk):Ő Ń:=match w.fr with|[]=>ao|x::_=>match x.pt with|ao=>iU x.f P.df|O p=>O p
def EW(w:Wk):Pv:=match w.fr with|_::y::_=>eV y.pt|_=>.I (-1)
def yo(k:Ł (Ł cp)):Pv:=.T ((IA k).map tK)
def F8(k:Ł (Ł cp)):Þ:=Ñ k.length 64&&mY k
def Wk.cl(w:Wk):Wk:={w with bk:=a5,rd:=[],wr:=[]}
def My(w0:Wk)(n:Ń)(k:Ä)(w:Wk)(c:Ő Ń):Pv:=.T [iP n,.S k,yo w.rd,yo w.wr,EW w0,eV c]
def X'(o:Ő Rw):Ä:=match o with|O r=>kind r|ao=>""
def Ho(P:Pn)(n:Ń)(p:Wk×Ő Ń):Ő (Wk×Ä×Ő Ń):=match p.2 with|ao=>O (p.1,X' P.rw[n]?,ao)|O c=>(qT P p.1 c).map λq=>(q.1,"fault",q.2)
def kZ(P:Pn)(w0:Wk):Ő (Wk×Pv):=(r9 P w0).bind λn=>(mV P w0.cl n).bind λp=>(Ho P n p).bind λq=>bif F8 q.1.rd&&F8 q.1.wr then O (q.1,My w0 n q.2.1 q.1 q.2.2)else ao
inductive Rn(P:Pn):Wk->Ń->Wk->ϑ->ß|z{w:Wk}:Rn P w 0 w []|s{w w1 w':Wk}{n:Ń}{x:Pv}{xs:ϑ}(hw:w.wo="on")(e:kZ P w=O (w1,x))(r:Rn P w1 n w' xs):Rn P w (n+1) w' (x::xs)
def DJ(P:Pn)(w:Wk):Pv:=.obj 4 [P.p,w.p]
def Sf:Pv->Þ|.I _=>J|.B _=>J|.N=>J|.S _=>J|.T _=>J|_=>a5
def ahR(a b:Î):Pv->Þ|.I n=>vT a n&&vT n b|_=>a5
def Pn.lo(P:Pn):Þ:=P.rw.all λr=>r.lo 6
end W2
namespace L2
def IN(D:OT z a b c d)(o1:t≠z/\t≠b/\t≠c/\t≠d)(o:t2≠z/\t2≠b/\t2≠c/\t2≠d):ZipApart z a b c d t t2:=(D.az,D.bz,D.cz,D.dz,D.ab,D.ac,D.ad,D.bc,D.bd,D.cd,o1.1,o1.2.1,o1.2.2.1,o1.2.2.2,o.1,o.2.1,o.2.2.1,o.2.2.2)
def IW{E:dC}(D:OT z a b c d)(Z:BN ü s.heap z a b c d t T k .none)(o1:t≠z/\t≠b/\t≠c/\t≠d)(g:T≠z/\T≠b/\T≠c/\T≠d)(F:s.heap.IsList t xs)(H:s.heap.IsList T ys)(i:xs[k]?=O x)(j:ys[k]?=O y)(l:∀h,BN ü h z a b c d t T (k+1) (ed s.heap.objs.size)->IsPair h s.heap.objs.size x y->(∀e o,e≠z->e≠b->e≠c->e≠d->s.heap.get? e=O o->h.get? e=O o)->Q (O (.ref s.heap.objs.size)) {s with heap:=h}):bn (b' P w) A (em (.ref z)) Q E s:=by let(p,q,m):=Z.own;rwa[wpAny_pyNext_zip_item (IN D o1 g) Z.zip Z.bT m Z.i1 Z.i2 F H i j λn a1 r u v B C f=>l n (a1,f _ _ D.az D.ab D.ac D.ad Z.bT,(_,_,r),u,v) B f]
def IY{E:dC}(H:A.handled=ao)(D:OT z a b c d)(Z:BN ü s.heap z a b c d t T k .none)(o1:t≠z/\t≠b/\t≠c/\t≠d)(e:T≠z/\T≠b/\T≠c/\T≠d)(F:s.heap.IsList t xs)(g:s.heap.IsList T ys)(L:xs[k]?=ao\/ys[k]?=ao)(i:∀h,(∀f o,f≠z->f≠b->f≠c->f≠d->s.heap.get? f=O o->h.get? f=O o)->Q ao {s with heap:=h}):bn (b' P w) A (em (.ref z)) Q E s:=by let(p,q,j):=Z.own;rwa[wpAny_pyNext_zip_end H (IN D o1 e) Z.zip Z.bT j Z.i1 Z.i2 F g L i]
def Tj(H:Gl X "zip")(m:X.mg "zip"=ao)(j:PA X [a,b] t)(hs:dN [a,b] X.env=[(a5,Ê a X.env),(a5,Ê b X.env)])(l:dN [b] X.env=[(a5,Ê b X.env)]):PI X (.Tuple es k R) (.Call (.Name "zip" p) [a,b] [] pos) (Ry (gh X.K) t):=Nh H m j hs l (λi G s q=>by let(M,C,P,l1):=i.list G;let(S,E,u,l2):=i.list s;rwa[call_zip_2 P.isList u.isList λw y Y x A B Z up=>q w (y,Y,(_,_,x),A,B) up]) λn T F D=>BD (λ(o,e,c,d)=>(o,e,λv g=>í (d.symm.trans g))) (λz k=>z.at k) (λe I q=>(I.list (e▸q)).imp λ_ z=>(z.1,z.2.1.isList,z.2.2)) (λe I q r=>I.qf (e▸q) (e▸r)) (λe I q f=>xM I (e▸q) f) (IW D) (λh=>IY h D) D
end L2
namespace F
open L2
def AR:Dv->Ő ϑ|.p (.L x)=>O x|_=>ao
def Zd(h:AR x=O xs):x=.p (.L xs):=by
 delta AR at h;split at h;.left
 .cases h
def Jm.zl{Γ:Gm}{t:Tb}(A:Am Γ t):Jm Γ t:=(_,λS T x=>zn S A T x,λo h=>OR o h λ_ _ _ _ _ _ _ g m pa b H=>Gb (c:=AR) (λr e i=>by cases Zd e;let(a,v,h,n,s,i):=i;exact(a,v,h,λe=>gh.of (e.keep a _ n.1 s),i)) .inl (Tj g m pa (by rw[cA b,cA H];rfl) (by rw[cA H];rfl)))
end F
namespace L2
open PySem.SeqAt
end L2
namespace F
open L2 PySem.SeqAt
def wS:Pv->Ő ϑ|.T x=>O x|.L x=>O x|_=>ao
def qA:Ń->Pv->Þ|0,x=>pX x|n+1,x=>match wS x with|O X=>X.all (qA n)|ao=>pX x
def R1{σ:Ç}{Y:T0}(m:Y.K=X.K)(I:Inv X bb σ H s)(e:wS p=O xs)(i:eg (Y.z G) M H p v)(j:eg (Y.z G) M H p u)(r:RelV v c)(R:RelV u U)(hu:A.units<Ï)(n:∀{p:Pv}{v u:V}{c U:Â},p∈xs->eg (Y.z G) M H p v->eg (Y.z G) M H p u->RelV v c->RelV u U->EqAt A.in1 s c U J):EqAt A s c U J/\RcNeAt A s c U a5/\RcAt A s c U true:=by
 cases p with|T y=>
  cases e;let(a,o,rfl,S,f):=i;let(b,ws,rfl,l,g):=j;cases r;cases R;let(i1,j1,e,t,d,h,C):=Ow I (show gX X.K H a o from m▸S) (show gX X.K H b ws from m▸l) f g n;let q:=RcAt.tuples t d hu h;let Q:=RcNeAt.tuples t d hu h;rw[C]at q Q;erw[(?_,Q,q)];by_cases k:a=b;.subst k;rwa[EqAt.same _]
  .rwa[EqAt.of_refs k q]|L y=>
  cases e;let(a,o,rfl,_,S,f):=i;let(b,ws,rfl,_,l,g):=j;cases r;cases R;obtain⟨B,Z,⟨o1,N,D,E,_,d1⟩,_⟩:=I.list (gh.of S);obtain⟨F,w,⟨P,W,g2,c2,_,d2⟩,_⟩:=I.list (gh.of l);let t:s.heap.IsList a _:=(o1,D,E,N,d1);let d:s.heap.IsList b _:=(P,g2,c2,W,d2);let h:=va Z w f g n;let x:B.toArray.size=F.toArray.size:=by rw[bg,bg,<-Z.length,<-w.length,<-f.len,<-g.len]
  let al:(á B.toArray.size).all _=true:=bJ.mpr λ_ _=>Ŗ;let q:=RcAt.lists t d x hu h;let Q:=RcNeAt.lists t d x hu h;rw[al]at q Q;erw[(?_,Q,q)];by_cases k:a=b;.subst k;rwa[EqAt.same _]
  .rwa[EqAt.of_refs k q]|_=>cases e
def Fq{σ:Ç}{s:be}{Y:T0}{G M:Ł À}{H:Hp}(h:Y.K=X.K)(I:Inv X bb σ H s):∀{n:Ń}{p:Pv}{v u:V}{a U:Â}{A:cr},qA n p=J->eg (Y.z G) M H p v->eg (Y.z G) M H p u->RelV v a->RelV u U->A.units+n<Ï->EqAt A s a U J/\RcNeAt A s a U a5/\RcAt A s a U true:=by
 let fl:∀{p:Pv}{v u:V}{a U:Â}{A:cr},pX p=J->eg (Y.z G) M H p v->eg (Y.z G) M H p u->RelV v a->RelV u U->EqAt A s a U J/\RcNeAt A s a U a5/\RcAt A s a U true:=by intro p v u a U A k i j r R;let:=Wj (s:=s) (A:=A) (FQ k i r) (FQ k j R);rw[KW k]at this;exact(this.2,this.1.2,this.1.1)
 intro n;induction n with|h=>intro p v u a U A k i j r R hu;rwa[fl k i j r R]|j n b=>intro p v u a U A k i j r R hu;delta qA at k;induction e:wS p with|a=>rw[e]at k;rwa[fl k i j r R]|c x=>rw[e]at k;rwa[R1 h I e i j r R (bM (aQ _ _) ‹_›) λc i j r R=>(b (bJ.mp k _ c) i j r R (by show A.units+1+n<Ï;lia)).1]
def Ld(Y:T0):R2:=λv u H Q=>∃G M p,eg (Y.z G) M H p v/\eg (Y.z G) M H p u/\qA 60 p=J/\Q (.B a5) H
def Zy(hu:X.A.units+64<Ï):mm X (compareOp .NotEq) (Ld 'X'):=by intro P s σ H x y v u Q I r R (G,M,p,a,b,k1,h);exact(Fq rfl I k1 a b r R ()).2.1 _ X.w _ _ (.B _,H,I,Ŗ,h)
def pO:Dv->Ő Pv|.p x=>O x|_=>ao
def Ŵ:O2:=λx y h Q=>gG (pO x) (λa=>gG (pO y) (λb=>(a=b/\qA 60 a=J)/\Q (.p (.B a5)) h) ŧ) ŧ
def RI:jw Y (Ld Y) Ŵ:=λG M h H x y v u Q d r i j q out=>by induction x with|r _=>rwa[q.elim]|p a=>induction y with|r _=>rwa[q.elim]|p b=>obtain⟨⟨rfl,c⟩,q⟩:=q;exact(G,M,a,i,j,c,out _ h M H _ Ext.refl r (by rfl) q)
def Ĩ:Co:=(_,_,λ_ _ hu=>(_,Zy hu,RI))
def Yx(Y:T0):R2:=λv u H Q=>∃G M p,eg (Y.z G) M H p v/\eg (Y.z G) M H p u/\qA 60 p=J/\Q (.B J) H
def Zt(hu:X.A.units+64<Ï):mm X (compareOp .Eq) (Yx 'X'):=by intro P s σ H x y v u Q I r R (G,M,p,a,b,k1,h);exact(Fq rfl I k1 a b r R ()).2.2 _ X.w _ _ (.B _,H,I,Ŗ,h)
def Ŭ:O2:=λx y h Q=>gG (pO x) (λa=>gG (pO y) (λb=>(a=b/\qA 60 a=J)/\Q (.p (.B J)) h) ŧ) ŧ
def RD:jw Y (Yx Y) Ŭ:=λG M h H x y v u Q d r i j q out=>by induction x with|r _=>rwa[q.elim]|p a=>induction y with|r _=>rwa[q.elim]|p b=>obtain⟨⟨rfl,c⟩,q⟩:=q;exact(G,M,a,i,j,c,out _ h M H _ Ext.refl r (by rfl) q)
def Ŧ:Co:=(_,_,λ_ _ hu=>(_,Zt hu,RD))
end F
namespace L2
def wT(a:À)(bs:Ł À):It:=(λi H=>H a=O (sE a bs)/\i<Á bs,λi H x h=>h=H/\∀b,bs[i]?=O b->x=.A b,λi H=>H a=O (sE a bs)/\Á bs<=i)
def zP{p:Ł _}{σ:Ç}(I:Inv X p σ H s)(h:H a=O (sE a bs)):s.heap.IsTuple a (bs.map Ò).toArray:=by let(o,n,e,c,_,d):=(show fq X.prog X.w H s.heap a (sE a bs)from I.c4 a _ h).1;exact(o,e,c,n,d)
def Y_{K:Æ}(a it:À)(bs:Ł À):uv P w K t (wT a bs) [it] it λi h=>h.IsTupleIter it a i:=lg (n:="tuple_iterator") rfl (λ(o,e,c,d)=>(o,_,e,c,d)) (λst k=>st.at k) (λ{X i p s σ H E Q}f j l m I st g q=>by subst f j l;let hb:=av g.2;rwa[ν st (zP I g.1) (by rw[fk,aN,hb];rfl) λr v S=>q _ (.A _) r _ rfl (Ŗ,λb e=>by rw[hb]at e;cases e;rfl) v S.extBut]) (λ{X i p s σ H E Q}f j l m I st g q=>by subst f j l;rwa[Ĝ (I.ok.hd m) st (zP I g.1) (by rw[fk,aN,cW g.2];rfl) q]) λst h=>Fk st h
def iW(t:TE):TI:=λσ H R=>t σ H λx h=>∃a bs,x=.A a/\h a=O (sE a bs)/\R (wT a bs) h
def aiO(c:PE X l t):PI X T l (iW t):=by intro p s σ H R I h;erw[kr (c p s σ H _ I h) λv s1 x d i r Q=>?_];let(a,bs,e,f,q):=Q;subst e;cases r;erw[ju (zP i f) ?_];erw[(s1.heap.objs.size,[s1.heap.objs.size],_,_,d,Ŗ,i.kept (t':=s1.toks) λb o e=>af _ e,Y_ a _ bs,(_,ax _ Ŗ,Ŗ,Ŗ),λb g=>?_,q)];rw[aB.mp g];rwa[i.AK (ah _) (i.c4.fresh (ah _))]
end L2
namespace F
open L2
def Ϡ:O1:=λx h Q=>match x with|.p (.wld X)=>gd (qE (Á X)) (Q (.p (.L X)) h)|_=>ŧ
def ϯ(r:bq (Y.z G) M H h)(n:a∉M)(s:H a=O (sE a bs))(q:aY (Y.z G) M H xs (bs.map V.A)):Pt Y G M H (wT a bs) xs:=λk m l o g e R=>by let s':=e.keep a _ n s;erw[(λi x f=>?_,s',by rw[q.len,ae];rwa[ah _])];let(v,c,j):=(aY.mv (e.mv r) (aY.wk g q)).get f;rw[aN]at c;let(b,d,rfl):=cE.mp c;erw[((s',(ar.mp d).1),λw p Z=>?_)];let(rfl,y):=Z;cases y b d;exact(Ext.refl,R,j)
def SN(g:PE X e (de 'X' E A)):PI X tg e (wJ 'X' E (C5 (s1 Ϡ A))):=(aiO g).imp λτ H R z=>by let(G,M,σ,h,x,Q,k,q):=z;erw[(G,M,σ,h,x,_,(k.rel,k.env,λd i m j v l f I b=>?_,k.exc),q)];induction d with|r _=>rwa[b.elim]|p d=>cases d with|wld s=>let(c,b):=cG b;let(a,bs,rfl,n,s1,o):=I;exact(a,bs,Ŗ,s1,k.out s i m j _ l f (ϯ f n.1 s1 o) (f6 c) b)|_=>rwa[b.elim]
def Jm.w{Γ:Gm}{t:Tb}(A:Em Γ t):Jm Γ t:=(_,λS _ x=>A.ck S x,λo h=>SN (A.pe o h))
def CQ(h:Hs)(k:Ń):Es->Ő Es|[]=>O []|ao::r=>(CQ h k r).map (ao::·)|O d::r=>(CP h k d).bind λx=>(CQ h k r).map (O x::·)
theorem yM:∀{σ σ':Es},CQ h k σ=O σ'->Á σ=Á σ'/\∀(i:Ń)x,σ'[i]?=O (O x)->∃d,σ[i]?=O (O d)/\CP h k d=O x
 |[],_,e=>by cases e;exact(Ŗ,λi x e=>by cases e)|ao::r,_,e=>by let(l,E,rfl):=cE.mp e;let(a,b):=yM E;erw[(by rw[aO,aO,a],λi x e=>?_)];cases i with|h=>cases e|j i=>rwa[b i x e]
 |O d::r,_,e=>by let(y,e0,e):=ι.mp e;let(l,E,rfl):=cE.mp e;let(a,b):=yM E;erw[(by rw[aO,aO,a],λi x e=>?_)];cases i with|h=>cases e;exact(d,Ŗ,e0)|j i=>rwa[b i x e]
def Ra(r:bq Z M H h)(v:dm Z M H σ τ)(e:CQ h k σ=O σ'):dm Z (M.take k) H σ' τ:=by let(a,b):=yM e;erw[(a.symm.trans v.ln,λi x c=>?_)];let(d,f,g):=b i x c;let(u,j,l):=v.at' i d f;exact(u,j,CS r l g)
structure ϣ(Z:Tx)(E:XK)(H:Hp)(D:Ô)(M:Ł À)(N:En):ß where
 nx:∀σ' h' M' H' τ',Ext M H M' H'->bq Z M' H' h'->dm Z M' H' σ' τ'->N.nx σ' h'->D.nx τ' H'
 rt:∀d h' M' H' v,Ext M H M' H'->bq Z M' H' h'->eG Z M' H' d v->N.rt d h'->D.rt v H'
 bk:∀σ' h' M' H' τ',Ext M H M' H'->bq Z M' H' h'->dm Z M' H' σ' τ'->N.bk σ' h'->D.bk τ' H'
 ct:∀σ' h' M' H' τ',Ext M H M' H'->bq Z M' H' h'->dm Z M' H' σ' τ'->N.ct σ' h'->D.ct τ' H'
 exc:∀C h' M' H',Ext M H M' H'->bq Z M' H' h'->N.xc C h'->pW Z.ca E C H'
inductive IG(Y:T0)(E:XK)(m:Ń->Ss)(D:Ô)(τ:Ç)(H:Hp):ß|mk(G M0 M:Ł À)(H0:Hp)(σ:Es)(h:Hs)(N:En)(k:ϣ (Y.z G) E H0 D M0 N)(e:Ext M0 H0 M H)(r:bq (Y.z G) M H h)(v:dm (Y.z G) M H σ τ)(q:m (Á M0) N σ h):IG Y E m D τ H
def zr(m:Ss)(n:Ń->Ss):Ń->Ss:=λi N σ h=>m {N with nx:=λa H=>n i N a H} σ h
def r4(k:Ń)(n:Ss):Ń->Ss:=λi N σ h=>match CQ h k σ with|O a=>gd (Ë i k&&bH k (h.take k)) (n N a (h.take k))|ao=>ŧ
def Ta{st:É}(l:PS X st (eJ 'X' E m))(o:iY X rest (IG 'X' E n)):iY X (st::rest) (IG 'X' E (zr m n)):=(qg l o).imp λD τ H z=>by let(G,j,M,p,σ,h,N,k,e,r,v,q):=z;exact(G,M,σ,h,{N with nx:=λa b=>n (Á j) N a b},(r,v,λa b c i f g R s Q=>(G,j,c,p,a,b,N,k,e.trans g,R,s,Q),λd b c i v g=>k.rt d b c i v (e.trans g),λa b c i f g=>k.bk a b c i f (e.trans g),λa b c i f g=>k.ct a b c i f (e.trans g),λC b c i g=>k.exc C b c i (e.trans g)),q)
def Z2(p:iY X rest (eJ 'X' E n)):iY X rest (IG 'X' E (r4 j n)):=p.imp λD τ H z=>by
 let(G,w,M,x,σ,h,N,k,e,r,v,q):=z;delta r4 at q;split at q;.ext a o;let(c,q):=cG q;let(s,u):=ag c;let l:=e.cut (aI s);exact(G,M.take j,a,h.take j,N,(r.cut j u,Ra r v o,λa f m g b i=>k.nx a f m g b (l.trans i),λd f m g v i=>k.rt d f m g v (l.trans i),λa f m g b i=>k.bk a f m g b (l.trans i),λa f m g b i=>k.ct a f m g b (l.trans i),λC f m g i=>k.exc C f m g (l.trans i)),q)
 .rwa[q.elim]
def ŋ(a:iY X rest (IG 'X' E n)):iY X rest (eJ 'X' E λN σ h=>n (Á h) N σ h):=a.imp λD τ H z=>by let(G,M,σ,h,N,k,q):=z;exact(G,M,M,H,σ,h,N,(k.nx,k.rt,k.bk,k.ct,k.exc),Ext.refl,k.rel,k.env,k.rel.ln▸q)
structure Mz(Γ:Gm)(t:Tb)where
 m:Ń->Ss
 ck:Sx->Ł É->Þ
 ps:∀{k S X E st},ô Γ t k S X E->ck S st->iY X st (IG 'X' E m)
section
variable{Γ:Gm}{t:Tb}
def Mz.seq(A:Mm Γ t)(B:Mz Γ t):Mz Γ t:=(_,λS l=>ko (lc l) λp=>A.ck S p.1&&B.ck S p.2,λo h=>by obtain⟨⟨a,r⟩,e,h⟩:=cO h;rw[A3 e];rwa[Ta (A.ps o (ag h).1) (B.ps o (ag h).2)])
def Mz.fz(k:Ń)(B:Ms Γ t):Mz Γ t:=(_,B.ck,λo h=>Z2 (j:=k) (B.ps o h))
def Ms.z(B:Mz Γ t):Ms Γ t:=(_,B.ck,λo h=>ŋ (B.ps o h))
end
end F
namespace W2
open L2 F
def ff(i:Ń):É:=PySem.Challenge.pw_retrace_k24_whole_by_turns.main.body.getD i (.Pass (0,0,0,0))
nonrec def SF:Ł String:=["parts_within","rows_of","add_rows","doors_of","is_whole","names_of","own_names","word_by","replaced","plus","minus","times","over","rest","less","same","reckoned","item","check_place","do_set","do_push","do_pop","do_put","do_ask","do_tell","do_if","do_while","do_call","do_return","do_off","do_fail","give_back","do_row","catch","places","first_state","cells","caller","state_at","notes","run_length","check_steps","_law_cell_at","_law_state","_law_next","_law_names","_law_value","_law_plain","_law_rows","_law_program","_law_world","_law_turns","_law_longer","_law_stepped","law"]
def ż:ϐ:=["NO_ROW","MOST_THINGS","BEYOND","BY_NOTHING","NO_PLACE","FULL_LIST","EMPTY_LIST","TOO_DEEP","MOST_FRAMES","NO_FUNCTION","WORD"]
def ϗ:Ń->Ä|0=>"NoStep"|1=>"Work"|2=>"Plan"|3=>"Paths"|4=>"Machine"|5=>"RunError"|84=>"Machine"|90=>"run_length"|200=>"state"|201=>"point"|202=>"move"|203=>"leave"|204=>"enter"|205=>"box_cell"|206=>"read_box"|207=>"write_box"|208=>"read_list"|209=>"write_list"|210=>"ask"|300=>"answer"|400=>"lay_rows"|401=>"lay_row"|500=>"first"|501=>"step"|502=>"next_row"|_=>"Fault"
def gls:ϑ:=[.I (-1),.I 12,.I 1000000,.I 1,.I 2,.I 3,.I 4,.I 5,.I 8,.S "",.I 5]
def Ϸ:Ń->Ä|0=>"ROW_FORMS"|50=>"KINDS"|100=>"PLAIN_DEEDS"|101=>"DEEDS"|_=>"OF_TWO"
def Xe:ϐ:=["len","isinstance","zip","range","list","tuple","int","bool","set","dict","max","min","sorted","reversed","enumerate"]
nonrec def sB{α:Type}(l:Ł α)(d:α)(i:Ń):α:=l.getD i d
def S0:Sx:=([],aG (.Pass (0,0,0,0)),λi=>ê (sB SF "" i),sB ż "",Ϸ,ϗ,λc=>match c with|1=>["plan","boxes","lists","frames","asked","told","broken","reads","wrote"]|2=>["box_places","list_places","own_places","door_places","door_numbers","paths"]|3=>["rows","within","behind","firsts","seconds","catchers","defs","starts"]|4=>["plan","beginning"]|_=>[],Xe,[1,2,3,4],[0,999],J,J)
def r_:Ł (Ä×ϐ):=[("set",["box","value"]),("push",["list","value"]),("pop",["box","list"]),("put",["list","value","value"]),("ask",["box","door"]),("tell",["value"]),("if",["value","rows","rows"]),("while",["value","rows"]),("try",["rows","box","rows"]),("fail",["value"]),("call",["box","function","values"]),("return",["value"])]
def Y6:Ł (Ä×ϐ):=[("call",["call"]),("return",["return"]),("def",["off"])]
def b_:Ł (Ä×Ń):=[("set",19),("push",20),("pop",21),("put",22),("ask",23),("tell",24)]
def X7:Ł (Ä×Ń):=[("if",25),("while",26),("call",27),("return",28),("def",29),("fail",30)]
def ZE:Ł (Ä×Ń):=[("plus",9),("minus",10),("times",11),("over",12),("rest",13),("less",14),("same",15)]
def ŝ:Ń->Ä->Ő ϐ|0,x=>iU x r_|50,x=>iU x Y6|100,x=>(iU x b_).map λn=>Ð n ""|101,x=>(iU x X7).map λn=>Ð n ""|_,x=>(iU x ZE).map λn=>Ð n ""
inductive iA(R:Pn->Wk->ϑ->Wk->Pv->ß):Ct|mk{P:Pn}{w w':Wk}{as:ϑ}{x:Pv}{Q:Dv->Hs->ß}{xc:XP}(r:R P w as w' x)(q:Q (.p x) (xY P w')):iA R (.r 0::as.map .p) (xY P w) Q xc
inductive Xn:Ct|mk{P:Pn}{w:Wk}{Q:Dv->Hs->ß}{xc:XP}(q:Q (.p .N) (xY P w.cl)):Xn [.r 0,.p P.p,.p w.p] [.I 1 []] Q xc
inductive ĝ:Ct|mk{P:Pn}{d:Ä}{a:Ń}{h:Hs}{Q:Dv->Hs->ß}{xc:XP}(q:Q (.p (nP (Vh P d a))) h):ĝ [.p P.p,.p (.S d),.p (iP a)] h Q xc
inductive J3:Ct|mk{P:Pn}{w:Wk}{h:Hs}{Q:Dv->Hs->ß}{xc:XP}(q:Q (.p w.p) h):J3 [.p (DJ P w)] h Q xc
inductive P6:Ct|mk{P:Pn}{w0 w:Wk}{n:Ń}{h:Hs}{Q:Dv->Hs->ß}{xc:XP}(hw:w.wo="on")(e:r9 P w=O n)(q:Q (.p (iP n)) h):P6 [.p (DJ P w0),.p w.p] h Q xc
inductive G3:Ct|ok{P:Pn}{w0 w w':Wk}{x:Pv}{Q:Dv->Hs->ß}{xc:XP}(hl:P.lo)(hw:w.wo="on")(e:kZ P w=O (w',x))(q:Q (.p (.T [w'.p,x])) []):G3 [.p (DJ P w0),.p w.p] [] Q xc|no{P:Pn}{w0 w:Wk}{Q:Dv->Hs->ß}{xc:XP}(hw:w.wo≠"on")(q:xc 0 []):G3 [.p (DJ P w0),.p w.p] [] Q xc
inductive Xm:Ct|ok{P:Pn}{w0 w':Wk}{m n:Ń}{xs:ϑ}{Q:Dv->Hs->ß}{xc:XP}(hl:P.lo)(r:Rn P w0 m w' xs)(hm:m<=n)(he:m=n\/w'.wo≠"on")(hn:n<=2000)(q:Q (.p (iP m)) []):Xm [.p (DJ P w0),.p (iP n)] [] Q xc|od{P:Pn}{w0:Wk}{x:Pv}{Q:Dv->Hs->ß}{xc:XP}(hx:Sf x)(e:ahR 0 2000 x=a5)(q:xc 0 []):Xm [.p (DJ P w0),.p x] [] Q xc
def Ϫ(Jc:Ń->Ct):Ń->Ct|1=>Xn|90=>λds h Q X=>Xm (ds++[.p (.I 2000)]) h Q X|200=>iA λ_ w a W x=>a=[]/\W=w/\x=w.p|201=>iA λ_ w a W x=>a=[]/\W=w/\∃p,nu w=O p/\x=eV p|202=>iA λ_ w a W x=>∃p,a=[eV p]/\move w p=O W/\x=.N|203=>iA λ_ w a W x=>a=[]/\xr w=O W/\x=.N|204=>iA λP w a W x=>∃f v,a=[.S f,.L (v.map nP)]/\ft P w f v=O W/\x=.N|205=>iA λP w a W x=>∃z c,a=[.S z]/\W=w/\cell P w z=O c/\x=.key c|206=>iA λP w a W x=>∃z n,a=[.S z]/\Bn P w z=O (W,n)/\x=nP n|207=>iA λP w a W x=>∃z n,a=[.S z,nP n]/\oN P w z n=O W/\x=.N|208=>iA λP w a W x=>∃z l,a=[.S z]/\nz P w z=O (W,l)/\x=.T (l.map nP)|209=>iA λP w a W x=>∃z l,a=[.S z,.T (l.map nP)]/\vM P w z l=O W/\x=.N|210=>iA λP w a W x=>∃d n,a=[.S d]/\ask P w d=O (W,n)/\x=nP n|300=>ĝ|500=>J3|501=>G3|502=>P6|n=>Jc n
def Lx(c:Ń->À)(Jc:Ń->Ct):Lw:=(S0,c,sB gls .N,[0,1,2,3,4,5,6,7,8,9,10],ŝ,[0,50,100,101,102],Ϫ Jc)
structure Sg(ca:Ń->À)(K:Æ)(mg:c3):ß where wG:Src K mg "parts_within" (ff 2) ["row"]NG:Src K mg "rows_of" (ff 5) ["program"]xC:Src K mg "add_rows" (ff 6) ["triples","rows","around"]Ij:Src K mg "doors_of" (ff 7) ["program"]Ik:Src K mg "names_of" (ff 13) ["things"]D1:Src K mg "own_names" (ff 14) ["function"]NH:Src K mg "word_by" (ff 21) ["frames"]Il:Src K mg "replaced" (ff 22) ["things","place","thing"]ady:Src K mg "plus" (ff 23) ["one","other"]j_:Src K mg "minus" (ff 24) ["one","other"]k_:Src K mg "times" (ff 25) ["one","other"]adx:Src K mg "over" (ff 26) ["one","other"]adz:Src K mg "rest" (ff 27) ["one","other"]adw:Src K mg "less" (ff 28) ["one","other"]adA:Src K mg "same" (ff 29) ["one","other"]xD:Src K mg "reckoned" (ff 31) ["work","value"]adv:Src K mg "item" (ff 32) ["work","value"]zy:Src K mg "check_place" (ff 33) ["things","place"]TQ:Src K mg "do_set" (ff 39) ["work","row"]NC:Src K mg "do_push" (ff 40) ["work","row"]TK:Src K mg "do_pop" (ff 41) ["work","row"]TL:Src K mg "do_put" (ff 42) ["work","row"]TH:Src K mg "do_ask" (ff 43) ["work","row"]ND:Src K mg "do_tell" (ff 44) ["work","row"]i_:Src K mg "do_if" (ff 45) ["work","row"]Ii:Src K mg "do_while" (ff 46) ["work","row"]NA:Src K mg "do_call" (ff 47) ["work","row"]DY:Src K mg "do_return" (ff 48) ["work","row"]TJ:Src K mg "do_off" (ff 49) ["work","row"]NB:Src K mg "do_fail" (ff 50) ["work","row"]DZ:Src K mg "give_back" (ff 51) ["work","number"]TN:Src K mg "do_row" (ff 55) ["work","number"]g_:Src K mg "catch" (ff 56) ["work","number"]TU:Src K mg "places" (ff 61) ["names"]zA:Src K mg "first_state" (ff 65) ["program","plan"]h_:Src K mg "cells" (ff 66) ["found"]TF:Src K mg "caller" (ff 67) ["state"]wC:Src K mg "_law_cell_at" (ff 69) ["_law_script","_law_k"]Bj:Src K mg "_law_state" (ff 70) ["_law_cell","_law_k"]DW:Src K mg "_law_next" (ff 71) ["_law_state_here","_law_size"]Bg:Src K mg "_law_names" (ff 72) ["_law_state_here","_law_amount"]se:Src K mg "_law_value" (ff 73) ["_law_state_here","_law_deep","_law_boxes","_law_lists"]Bh:Src K mg "_law_plain" (ff 74) ["_law_state_here","_law_names_here"]vz:Src K mg "_law_rows" (ff 75) ["_law_state_here","_law_names_here","_law_deep","_law_most","_law_left"]wD:Src K mg "_law_program" (ff 76) ["_law_state_here","_law_most"]Bl:Src K mg "_law_world" (ff 77) ["_law_state_here"]wF:Src K mg "_law_stepped" (ff 79) ["_law_machine","_law_most"]Bk:Src K mg "_law_turns" (ff 80) ["_law_machines","_law_rows_here","_law_state_here"]zx:Src K mg "_law_longer" (ff 81) ["_law_world_here","_law_asked"]ah2:gK K (ca 1) "state" "Work.state" (c6 (ff 20) 1) ["self"]ah3:gK K (ca 1) "point" "Work.point" (c6 (ff 20) 2) ["self"]ah4:gK K (ca 1) "move" "Work.move" (c6 (ff 20) 3) ["self","point"]ah5:gK K (ca 1) "leave" "Work.leave" (c6 (ff 20) 4) ["self"]ah6:gK K (ca 1) "enter" "Work.enter" (c6 (ff 20) 5) ["self","function","values"]ah7:gK K (ca 1) "box_cell" "Work.box_cell" (c6 (ff 20) 6) ["self","name"]ah8:gK K (ca 1) "read_box" "Work.read_box" (c6 (ff 20) 7) ["self","name"]ah9:gK K (ca 1) "write_box" "Work.write_box" (c6 (ff 20) 8) ["self","name","number"]aia:gK K (ca 1) "read_list" "Work.read_list" (c6 (ff 20) 9) ["self","name"]aib:gK K (ca 1) "write_list" "Work.write_list" (c6 (ff 20) 10) ["self","name","things"]aic:gK K (ca 1) "ask" "Work.ask" (c6 (ff 20) 11) ["self","door"]aid:gK K (ca 2) "answer" "Plan.answer" (c6 (ff 59) 1) ["self","door","place"]aie:gK K (ca 3) "lay_rows" "Paths.lay_rows" (c6 (ff 60) 1) ["self","numbers","behind","catcher"]acI:gK K (ca 3) "lay_row" "Paths.lay_row" (c6 (ff 60) 2) ["self","number","behind","catcher"]aif:gK K (ca 4) "first" "Machine.first" (c6 (ff 64) 1) ["self"]aih:gK K (ca 4) "step" "Machine.step" (c6 (ff 64) 2) ["self","state"]aii:gK K (ca 4) "next_row" "Machine.next_row" (c6 (ff 64) 3) ["self","state"]
abbrev LX(c:Ń->À)(Jc:Ń->Ct)(W:Wd):ß:=Lk (Lx c Jc) W
abbrev DX(c:Ń->À)(Jc:Ń->Ct)(W:Wd)(i k:Ń)(C:Ct):ß:=Dt (Lx c Jc) W i k C
abbrev DI(C:Ń->À)(Jc:Ń->Ct)(W:Wd)(c k:Ń):ß:=Di (Lx C Jc) W c k
abbrev UX(c:Ń->À)(Jc:Ń->Ct)(W:Wd)(i k:Ń)(C:Ct):ß:=Du (Lx c Jc) W i k C
abbrev UI(C:Ń->À)(Jc:Ń->Ct)(W:Wd)(c k:Ń):ß:=Dj (Lx C Jc) W c k
abbrev SX(c:Ń->À)(W:Wd):ß:=Sg c W.K W.mg
nonrec def Ġ:Lean.Syntax:=Lean.Unhygienic.run do let i:=("Am.cons Am.nil Am.u Am.u2 Am.u3 Am.u4 Am.u5 Em.b2 Em.bi Em.c Em.cl Em.clf Em.w8 Em.cmp Em.comp Em.E4 Em.rS _root_.F.Tm.din Em.fld Em.g Em.i Em.O7 Em.ix Em.F5 Em.lst Em.mt Em.neg Em.nw Em.s Em.sl Em.ti Em.tup Em.v Fm.no Fm.one Jg.p Jm.r Jm.s Jm.z Mm.ct Mm.ex Mm.fo Mm.fQ Mm.iff Mm.put Mm.raise Mm.ret Mm.set Mm.setC Mm.UM Ms.cut Ms.nil Ms.one Ms.re Ms.seq Pm.no Pm.of _root_.F.Tm.bo _root_.F.Tm.cmp _root_.F.Tm.isN _root_.F.Tm.tin _root_.F.Tm.val Wm.a1 Wm.ac Wm.o1 Wm.oc Em.ofV Em.me Em.HK Em.key Em.kix Em.mX Em.RV Em.X8 Em.Θ Em.sdf Em.tgs Em.G_ Em.AH Em.Ff Mm.Dm Mm.lW Mm.X_ Mm.foP Mm.foH Mm.wh Mm.dput Jg.rev Jm.e Jm.zl Mm.foT Mm.N1 Em.nwl Em.mel Jm.w Ms.z Mz.seq Mz.fz zr r4 Lw.G Lw.g Lw.gu Lx xj".splitOn " ").toArray.map fun s=>Lean.mkIdent s.toName;`(tacticSeq|dsimp only[$[$i:term],*])
def ib{C:Ń->À}{Jc:Ń->Ct}{l:Ł _}{iok:Ϙ}{M:Ss}(b:Ms ((Lx C Jc).G l iok) (Lx C Jc).t)(h:ø (b.m=M) Ġ):b.m=M:=h
def nfC{C:Ń->À}{Jc:Ń->Ct}{l:Ł _}{iok I:Ϙ}{M:Ss}(b:Ms ((Lx C Jc).gu (xj l) (l.map (·.1)) iok I) (Lx C Jc).t)(h:ø (b.m=M) Ġ):b.m=M:=h
section
variable{ca:Ń->À}{Jc:Ń->Ct}{W:Wd}{i c k:Ń}{C:Ct}{st:É}{cN:Ä}{ps:ϐ}{M:Ss}
def _root_.F.Lk.e(n:Ń)(z:Þ)(l:Ł _)(iok:Ϙ)(B:Lk (Lx ca Jc) W)(b:Ms ((Lx ca Jc).G l iok) (Lx ca Jc).t)(s:Src W.K W.mg ((Lx ca Jc).S.gR i) st ps)(I:(Ì (Á (wx (aG st))) n&&(Jh (wx (aG st)) ps (aG st)&&b.ck ((Lx ca Jc).S.at (wx (aG st)) (aG st) J) (bX st)))=J)(H:All (Lx ca Jc) W (k+1) l)(hi:wN (Lx ca Jc) W k iok)(a:∀ds h Q x,C ds h Q x->Á ds=Á ps/\M (iR z (Á h) Q x) (rF n ds) h)(d:autoParam (b.m=M) î):DX ca Jc W i (k+2) C:=by subst d;rwa[B.e0 n z l iok b s I H hi a]
theorem _root_.F.Lk.ma(N ps:ϐ)(z:Þ)(l:Ł _)(iok:Ϙ)(B:Lk (Lx ca Jc) W)(b:Ms ((Lx ca Jc).G l iok) (Lx ca Jc).t)(s:pK W.K ((Lx ca Jc).ca c) cN st ps)(H:W.mg ((Lx ca Jc).S.sH c)=O (.ref ((Lx ca Jc).ca c)))(I:(!Nat.ble 80 c&&(Jh N ps (aG st)&&b.ck ((Lx ca Jc).S.at N (aG st) a5) (bX st)))=J)(f:All (Lx ca Jc) W (k+1) l)(hi:wN (Lx ca Jc) W k iok)(a:∀ds h Q x,(Lx ca Jc).ma c ds h Q x->Á ds=Á ps/\M (iR z (Á h) Q λ_ _=>ŧ) (rF (Á N) ds) h)(d:autoParam (b.m=M) î):DI ca Jc W c (k+2):=by subst d;rwa[B.ahN N ps z l iok b s H I f hi a]
def _root_.F.Lk.Mj(n:Ń)(z:Þ)(l:Ł _)(iok:Ϙ)(B:Lk (Lx ca Jc) W)(b:Ms ((Lx ca Jc).G l iok) (Lx ca Jc).t)(s:gK W.K ((Lx ca Jc).ca (c/100-1)) ((Lx ca Jc).S.sH c) cN st ps)(I:(Ë 100 c&&(Ì (Á (wx (aG st))) n&&(Jh (wx (aG st)) ps (aG st)&&b.ck ((Lx ca Jc).S.at (wx (aG st)) (aG st) J) (bX st))))=J)(H:All (Lx ca Jc) W (k+1) l)(hi:wN (Lx ca Jc) W k iok)(a:∀ds h Q x,(Lx ca Jc).ma c ds h Q x->Á ds=Á ps/\M (iR z (Á h) Q x) (rF n ds) h)(d:autoParam (b.m=M) î):DI ca Jc W c (k+2):=by subst d;rwa[B.aij n z l iok b s I H hi a]
def GV(L:Lw)(W:Wd)(k:Ń):Ł (Ń×Ct)->ß|[]=>æ|(i,c)::r=>Du L W i k c/\GV L W k r
def GY(L:Lw)(W:Wd)(k:Ń):Ϙ->ß|[]=>æ|c::r=>Dj L W c k/\GY L W k r
theorem GV.at{W:Wd}{k:Ń}:∀{l:Ł _},GV L W k l->∀i∈l.map (·.1),Du L W i k (xj l i)|[],_,i,h=>by cases h|(j,c)::r,f,i,h=>by induction e:Ì i j with
  |d=>
   let E:xj ((j,c)::r) i=c:=by show(match Ì i j with|J=>c|a5=>xj r i)=c;rw[e]
   rw[E,aX e];rwa[f.1]|e=>
   let E:xj ((j,c)::r) i=xj r i:=by show(match Ì i j with|J=>c|a5=>xj r i)=_;rw[e]
   rw[E];erw[GV.at f.2 i ((aw.mp h).resolve_left λz=>?_)];rw[show i=j from z,sh]at e;cases e
theorem GY.at{W:Wd}{k:Ń}:∀{l:Ϙ},GY L W k l->l.all (Ë 100)->∀c∈l,Ë 100 c=J/\Dj L W c k
 |[],_,_,c,h=>by cases h|j::r,f,g,c,h=>by
  rw[cw]at g;rcases aw.mp h with z|z;.subst z;exact((ag g).1,f.1)
  .rwa[GY.at f.2 (ag g).2 c z]
def _root_.F.Lk.u(n:Ń)(z:Þ)(l:Ł _)(iok:Ϙ)(B:Lk (Lx ca Jc) W)(b:Ms ((Lx ca Jc).G l iok) (Lx ca Jc).t)(s:Src W.K W.mg ((Lx ca Jc).S.gR i) st ps)(I:(Ì (Á (wx (aG st))) n&&(iok.all (Ë 100)&&(Jh (wx (aG st)) ps (aG st)&&b.ck ((Lx ca Jc).S.au (wx (aG st)) (aG st)) (bX st)))))(H:GV (Lx ca Jc) W (k+1) l)(hi:GY (Lx ca Jc) W k iok)(a:∀ds h Q x,C ds h Q x->Á ds=Á ps/\M (iR z (Á h) Q λ_ _=>ŧ) (rF n ds) h)(d:autoParam (b.m=M) î):UX ca Jc W i (k+2) C:=by subst d;let(e,f,g,j):=vZ I;obtain rfl:=aX e;rwa[B.du _ ps z b s (lQ g) j H.at (hi.at f) a]
def _root_.F.Lk.v(n:Ń)(z:Þ)(l:Ł _)(iok:Ϙ)(B:Lk (Lx ca Jc) W)(b:Ms ((Lx ca Jc).G l iok) (Lx ca Jc).t)(s:gK W.K ((Lx ca Jc).ca (c/100-1)) ((Lx ca Jc).S.sH c) cN st ps)(I:(Ì (Á (wx (aG st))) n&&(iok.all (Ë 100)&&(Jh (wx (aG st)) ps (aG st)&&b.ck ((Lx ca Jc).S.au (wx (aG st)) (aG st)) (bX st)))))(H:GV (Lx ca Jc) W (k+1) l)(hi:GY (Lx ca Jc) W k iok)(a:∀ds h Q x,(Lx ca Jc).ma c ds h Q x->Á ds=Á ps/\M (iR z (Á h) Q λ_ _=>ŧ) (rF n ds) h)(d:autoParam (b.m=M) î):UI ca Jc W c (k+2):=by subst d;let(e,f,g,j):=vZ I;obtain rfl:=aX e;rwa[B.dv _ ps z b s (lQ g) j H.at (hi.at f) a]
def _root_.F.Lk.mtC(n:Ń)(z:Þ)(l:Ł _)(iok I:Ϙ)(B:Lk (Lx ca Jc) W)(b:Ms ((Lx ca Jc).gu (xj l) (l.map (·.1)) iok I) (Lx ca Jc).t)(s:gK W.K ((Lx ca Jc).ca (c/100-1)) ((Lx ca Jc).S.sH c) cN st ps)(a:(Ë 100 c&&(Ì (Á (wx (aG st))) n&&(Jh (wx (aG st)) ps (aG st)&&b.ck ((Lx ca Jc).S.at (wx (aG st)) (aG st) J) (bX st))))=J)(H:All (Lx ca Jc) W (k+1) l)(hi:wN (Lx ca Jc) W k iok)(hu:∀i∈I,Du (Lx ca Jc) W i (k+1) (xj l i))(d:∀ds h Q x,(Lx ca Jc).ma c ds h Q x->Á ds=Á ps/\M (iR z (Á h) Q x) (rF n ds) h)(e:autoParam (b.m=M) Ķ6):DI ca Jc W c (k+2):=by subst e;let(f,g,j,o):=vZ a;obtain rfl:=aX g;exact(ps,by delta ky;rw[f];rwa[b.abp z s (lQ j) (B.gkC (zT.of H.at) hi hu) o d])
end
def mH{n:Ń}(h:Ë n 1000000):qE n=true:=K_ (aq (aI h) ∅)
def iB{r:Wk×α}(h:wg o k x=O r):(∃w n,o=O (w,.v n)/\k w n=O r)\/∃w c,o=O (w,.x c)/\r=(w,x c):=by delta wg at h;induction o with|a=>cases h|c p=>let(w,u):=p;induction u with|v n=>rwa[.inl (w,n,Ŗ,h)]|x c=>cases h;rwa[.inr (w,c,Ŗ,Ŗ)]
def bd{α β:Type}{o:Ő α}{f:α->Ő β}{b:β}(h:o.bind f=O b):∃a,o=O a/\f a=O b:=ι.mp h
theorem mp{α β:Type}{o:Ő α}{f:α->β}{b:β}(h:o.map f=O b):∃a,o=O a/\b=f a:=by let(a,e,f):=cE.mp h;exact(a,e,f.symm)
def bf{α:Type}{a:α}{o:Ő α}(h:(bif c then o else ao)=O a):c/\o=O a:=by induction c with|d=>exact(Ŗ,h)|e=>cases h
theorem yy{g:α->Pv}:∀{l:Ł _},jy (.S z) (l.map λp=>.S p.1) (l.map λp=>g p.2)=(iU z l).map g|[]=>Ŗ|p::r=>by show(match cC p.1 z with|J=>O _|a5=>jy _ _ _)=ç g (match cC p.1 z with|J=>O p.2|a5=>iU z r);induction cC p.1 z with|d=>rfl|e=>rwa[yy]
theorem KG{g:α->Pv}{n:Ń}:∀{l:Ł _},jy (.I n) (l.map λp=>iP p.1) (l.map λp=>g p.2)=(gF n l).map g|[]=>Ŗ|p::r=>by let e:mr p.1 n=Ì p.1 n:=Ŗ;show(match mr p.1 n with|J=>O _|a5=>jy _ _ _)=ç g (match Ì p.1 n with|J=>O p.2|a5=>gF n r);rw[e];induction Ì p.1 n with|d=>rfl|e=>rwa[KG]
theorem CC:∀{l:ϐ}{n:Ń},jy (.S z) (l.map .S) (ω l n)=(pos z l n).map iP|[],_=>Ŗ|y::r,n=>by show(match cC y z with|J=>O _|a5=>jy _ _ _)=ç iP (match cC y z with|J=>O n|a5=>pos z r _);induction cC y z with|d=>rfl|e=>rwa[CC]
def pM:rO (xs++[x]) (-1)=O x:=by show(match Ë (0+1) _ with|J=>(xs++[x])[Á _-(0+1)]?|a5=>ao)=_;rw[aj];show(xs++[x])[xs.length]?=_;rw[aK (ah _),eA];rfl
def pR:d5 (xs++[x]) ao (O (-1))=xs:=by show((xs++[x]).take _).drop 0=xs;rw[aj,cB,Nat.add_sub_cancel,fj,nU]
theorem gB:∀{l:Ł Fr},(jd l).length=l.length|[]=>Ŗ|x::r=>by show(jd r++[x.p]).length=_;rw[aj,gB];rfl
def Yh:rO (jd (x::r)) ((jd (x::r)).length-1)=O x.p:=by rw[show((jd _).length-1:Î)=r.length by rw[gB,aO];lia];show(jd r++[x.p])[r.length]?=_;rw[aK (by rw[gB];rwa[ah _]),gB,eA];rfl
def zm(e:own P w=O p):w.fr=p.1::p.2.1/\iU p.1.f P.ow=O p.2.2:=by
 delta own at e;split at e;.cases e
 .ext x r h;let(o,E,rfl):=mp e;exact(h,E)
def Ic(e:nu w=O p):∃x r,w.fr=x::r/\p=x.pt:=by
 delta nu at e;split at e;.cases e
 .ext x r h;cases e;exact(x,r,h,Ŗ)
inductive oP:Ct|mk{xs ys:ϑ}{i:Ń}{x:Pv}{h:Hs}{Q:Dv->Hs->ß}{xc:XP}(e:rp xs i x=O ys)(q:Q (.p (.T ys)) h):oP [.p (.T xs),.p (.I (i:Ń)),.p x] h Q xc
abbrev ot(P:Pn)(fs:ϑ)(w:Wk)(rd W:Ł (Ł cp)):Hs:=[.I 1 [.p P.p,.p (.T (w.bx.map nP)),.p (.T (k8 w.ls)),.p (.T fs),.p (.T (w.ak.map iP)),.p (.T (w.td.map nP)),.p (.B w.bk),.r 1,.r 2],.K rd,.K W]
def XD(B:LX ca Jc W)(S:SX ca W):UI ca Jc W 205 2:=by erw[B.v 3 a5 [] [] (.set 2 (.b2 Ap (.bi eT (.u (.fld 1 3 0))) (.i 1))<|>.iff (.din a5 1 (.rS (.fld 2 2 (.fld 1 0 0)) (.ix (.ix (.fld 1 3 0) 2) (.i 0)))) (.re (.key (.u3 (.s "own") 2 1))) .nil<|>.re (.key (.u2 (.s "box") 1))) S.ah7 rfl Ť Ť λds h Q X c=>?_];induction c with|@mk P w a A x Q X r q=>
  let(z,c,rfl,rfl,e,rfl):=r;let(p,E,rfl):=mp e;let(H,o):=zm E;let d:((jd a.fr).length-1:Î)=p.2.1.length:=by rw[gB,H,aO];lia
  erw[(Ŗ,aZ (show rO _ _=O p.1.p by rw[H];rwa[Yh]) (aZ (yy.trans (by rw[o];rfl)) ?_))];show br (jy _ _ _).isSome _ _;rw[CC];revert q;induction pos z _ 0 with|a=>rwa[λq=>bI (mH (n:=2) Ŗ) q]|c i=>intro q;erw[bI (mH (n:=3) Ŗ) ?_];simp only[d];rwa[q]
def ĸ(B:LX ca Jc W)(S:SX ca W):UX ca Jc W 8 2 oP:=by erw[B.u 3 a5 [] [] (.re (.b2 eB (.b2 eB (.sl 0 .no (.of 1)) (.tup (.u 2))) (.sl 0 (.of (.b2 eB 1 (.i 1))) .no))) S.Il rfl Ť Ť λds h Q b c=>?_];cases c with|@mk X y i x _ _ _ e q=>
  let(c,e):=bf e;cases e;let(C,a):=ag c;let H:i<X.length:=aI C;let h2:=aI a;erw[(Ŗ,bI (mH (n:=((X.take i).drop 0).length+1) (bv.mpr ?_)) (bI (mH (n:=((X.take i).drop 0++[x]).length+(X.drop (i+1)).length) (bv.mpr ?_)) ?_))];.rw[fj,bK];lia
  .rw[fj,aj,bK,eh,cB];lia
  .show Q _ h;rw[List.set_eq_take_append_cons_drop,b9 H]at q;rw[bA];rwa[q]
def QE(B:LX ca Jc W)(S:SX ca W):UI ca Jc W 201 2:=by erw[B.v 1 a5 [] [] (.re (.ix (.ix (.fld 1 3 0) (.neg (.i 1))) (.i 2))) S.ah3 rfl Ť Ť λds h Q X c=>?_];induction c with|@mk P w a A x Q X r q=>let(rfl,rfl,p,e,rfl):=r;let(x,r,H,rfl):=Ic e;exact(Ŗ,aZ (show rO _ _=O x.p by rw[H];rwa[pM]) q)
def Qy(B:LX ca Jc W)(S:SX ca W):UI ca Jc W 203 2:=by erw[B.v 1 a5 [] [] (.one (.fQ 1 3 (.sl (.fld 1 3 0) .no (.of (.neg (.i 1)))) 0)) S.ah5 rfl Ť Ť λds h Q X c=>?_];induction c with|@mk P w a A x Q X r q=>let(rfl,e,rfl):=r;let(b,l,fr,k,t,bk,rd,d):=w;cases fr with|f=>cases e|g x r=>cases e;erw[(Ŗ,?_)];show Q _ (ot _ (d5 (jd r++[x.p]) _ _) _ _ _);rw[pR];rwa[q]
def XJ(B:LX ca Jc W)(S:SX ca W):UI ca Jc W 202 2:=by erw[B.v 5 a5 [] [] (.UM [2,3,4] (.ix (.fld 1 3 0) (.neg (.i 1)))<|>.one (.fQ 1 3 (.b2 eB (.sl (.fld 1 3 0) .no (.of (.neg (.i 1)))) (.tup (.u (.tup (.u3 2 3 1))))) 0)) S.ah4 rfl Ť Ť λds h Q X c=>?_];induction c with|@mk P w a A x Q X r q=>let(p,rfl,e,rfl):=r;let(b,l,fr,k,t,bk,rd,d):=w;cases fr with|f=>cases e|g x r=>let(c,e):=bf e;cases e;let h1:=aI c;erw[(Ŗ,aZ pM ?_)];show gd (qE ((d5 (jd r++[x.p]) _ _).length+1)) (Q _ (ot _ (d5 (jd r++[x.p]) _ _++[_]) _ _ _));rw[pR];rwa[bI (mH (bv.mpr (by rw[gB];rwa[aq ‹_› ⋯]))) q]
def o5(e:kA κ ks=O t):qE (ks.length+1)/\t=Dl κ ks:=by let(c,e):=bf e;cases e;exact(mH (bv.mpr (by let:=aI c;rwa[aq ‹_› ⋯])),Ŗ)
def vC{g:α->Pv}(e:rp l i x=O L):rp (l.map g) i (g x)=O (L.map g):=by delta rp at e⊢;rw[ae];let(c,e):=bf e;cases e;rw[c,List.map_set];rfl
def iZ{α:Type}{g:α->Pv}{l:Ł α}{i:Ń}{x:α}(e:l[i]?=O x):rO (l.map g) i=O (g x):=by show(l.map g)[i]?=_;rw[aN,e];rfl
def Cd{w:Wk}(h:w.fr=x::r):rO (jd w.fr) (-1)=O x.p:=by rw[h];rwa[pM]
def uU(e:pos z l n=O i):jy (.S z) (l.map .S) (ω l n)=O (iP i):=CC.trans (by rw[e];rfl)
def uV{g:α->Pv}(e:iU z l=O x):jy (.S z) (l.map λp=>.S p.1) (l.map λp=>g p.2)=O (g x):=yy.trans (by rw[e];rfl)
def jG{g:α->Pv}(e:gF n l=O x):jy (.I n) (l.map λp=>iP p.1) (l.map λp=>g p.2)=O (g x):=KG.trans (by rw[e];rfl)
def Ax(e:own P w=O p)(h:pos z p.2.2 0=ao):cell P w z=O (Dk z):=by delta cell;rw[e];show O (match pos z _ 0 with|O _=>_|ao=>_)=_;rw[h]
def uB(e:own P w=O p)(h:pos z p.2.2 0=O i):cell P w z=O (wu p.2.1.length z):=by delta cell;rw[e];show O (match pos z _ 0 with|O _=>_|ao=>_)=_;rw[h]
section
variable{ca:Ń->À}{Jc:Ń->Ct}{W:Wd}
def QF(B:LX ca Jc W)(S:SX ca W)(D:UI ca Jc W 205 2):DI ca Jc W 206 4:=by erw[B.Mj 6 a5 [] [205] (.set 2 (.me 205 0 (.u 1))<|>.Dm (.c (.B J)) (.fld 1 7 0) 2<|>.iff (.cmp ki (.kix 0 2) (.s "box")) (.re (.ix (.fld 1 1 0) (.rS (.fld 2 0 (.fld 1 0 0)) 1))) .nil<|>.UM [3,4,5] (.ix (.fld 1 3 0) (.neg (.i 1)))<|>.re (.ix 4 (.rS (.rS (.fld 2 2 (.fld 1 0 0)) 3) 1))) S.ah8 rfl Ť (D.di Ŗ,Ť) λds h Q X c=>?_];induction c with|@mk P w j as x Q X r q=>let(z,n,rfl,e,rfl):=r;let(p,E,e):=bd e;let(f,o):=zm E;induction H:pos z _ 0 with|a=>rw[H]at e;let(k,a,e):=bd e;let(i,g,e):=bd e;let(m,b,e):=mp e;cases e;let(d,rfl):=o5 a;exact(Ŗ,iA.mk (as:=[.S z]) (z,_,Ŗ,Ŗ,Ax E H,Ŗ) (bI d (aZ (uU g) (aZ (iZ b) q))))|c i=>rw[H]at e;let(k,a,e):=bd e;let(m,b,e):=mp e;cases e;let(d,rfl):=o5 a;exact(Ŗ,iA.mk (as:=[.S z]) (z,_,Ŗ,Ŗ,uB E H,Ŗ) (bI d (aZ (Cd f) (aZ (uV o) (aZ (uU H) (aZ (iZ b) q))))))
def QL(B:LX ca Jc W)(S:SX ca W)(D:UI ca Jc W 205 2)(g:UX ca Jc W 8 2 oP):UI ca Jc W 207 4:=by erw[B.v 7 a5 [(8,oP)] [205] (.set 3 (.me 205 0 (.u 1))<|>.Dm (.c (.B J)) (.fld 1 8 0) 3<|>.one (.iff (.cmp ki (.kix 0 3) (.s "box")) (.one (.fQ 1 1 (.cl 8 [] (.u3 (.fld 1 1 0) (.rS (.fld 2 0 (.fld 1 0 0)) 1) 2)) 0)) (.UM [4,5,6] (.ix (.fld 1 3 0) (.neg (.i 1)))<|>.set 5 (.cl 8 [] (.u3 5 (.rS (.rS (.fld 2 2 (.fld 1 0 0)) 4) 1) 2))<|>.one (.fQ 1 3 (.b2 eB (.sl (.fld 1 3 0) .no (.of (.neg (.i 1)))) (.tup (.u (.tup (.u3 4 5 6))))) 0)))) S.ah9 rfl (g.le (bt _),Ť) (D,Ť) λds h Q X c=>?_];induction c with|@mk P w t as x Q X r q=>let(z,n,rfl,e,rfl):=r;let(p,E,e):=bd e;let(f,o):=zm E;induction H:pos z p.2.2 0 with|a=>rw[H]at e;let(k,a,e):=bd e;let(i,j,e):=bd e;let(m,b,e):=mp e;cases e;let(d,rfl):=o5 a;exact(Ŗ,iA.mk (as:=[.S z]) (z,_,Ŗ,Ŗ,Ax E H,Ŗ) (bI d (aZ (uU j) (oP.mk (vC b) q))))|c i=>
   rw[H]at e;let(k,a,e):=bd e;let(N,b,e):=bd e;let(c,e):=bf e;cases e;let(d,rfl):=o5 a;erw[(Ŗ,iA.mk (as:=[.S z]) (z,_,Ŗ,Ŗ,uB E H,Ŗ) (bI d (aZ (Cd f) (aZ (uV o) (aZ (uU H) (oP.mk (vC b) ?_))))))];show gd (qE ((d5 (jd w.fr) ao (O (-1))).length+1)) (Q _ (ot _ (d5 (jd w.fr) ao (O _)++[_]) _ _ _));let l:d5 (jd w.fr) ao (O (-1))=jd p.2.1:=by rw[f];rwa[pR]
   rw[l];rwa[bI (mH (bv.mpr (by let:=aI c;rw[gB];rwa[aq ‹_› ⋯]))) q]
def QG(B:LX ca Jc W)(S:SX ca W):DI ca Jc W 208 2:=by erw[B.Mj 2 a5 [] [] (.Dm (.c (.B J)) (.fld 1 7 0) (.key (.u2 (.s "list") 1))<|>.re (.ix (.fld 1 2 0) (.rS (.fld 2 1 (.fld 1 0 0)) 1))) S.aia rfl Ť Ť λds h Q X c=>?_];induction c with|@mk P w d A x Q X r q=>let(z,l,rfl,e,rfl):=r;let(k,E,e):=bd e;let(i,a,e):=bd e;let(m,b,e):=mp e;cases e;let(H,rfl):=o5 E;exact(Ŗ,bI H (aZ (uU a) (aZ (iZ b) q)))
def QM(B:LX ca Jc W)(S:SX ca W)(D:UX ca Jc W 8 2 oP):DI ca Jc W 209 4:=by erw[B.Mj 3 a5 [(8,oP)] [] (.Dm (.c (.B J)) (.fld 1 8 0) (.key (.u2 (.s "list") 1))<|>.one (.fQ 1 2 (.cl 8 [] (.u3 (.fld 1 2 0) (.rS (.fld 2 1 (.fld 1 0 0)) 1) 2)) 0)) S.aib rfl ((D.le (bt _)).dt,Ť) Ť λds h Q X c=>?_];induction c with|@mk P w d A x Q X r q=>let(z,l,rfl,e,rfl):=r;let(k,E,e):=bd e;let(i,a,e):=bd e;let(m,b,e):=mp e;cases e;let(H,rfl):=o5 E;exact(Ŗ,bI H (aZ (uU a) (oP.mk (vC b) q)))
inductive uz:Ct|mk{fr:Ł Fr}{h:Hs}{Q:Dv->Hs->ß}{xc:XP}(q:Q (.p (.S (OL fr))) h):uz [.p (.T (jd fr))] h Q xc
def ť{A B C:Sm}{X:XP}{σ:Es}{h:Hs}{Q:KP}{d:Pv}(H:∀a:KP,a [.p (X0 g l)] h->A X σ h a)(b:∀a:KP,a [.p (.S z)] h->B X σ h a)(c:∀a:KP,a [.p d] h->C X σ h a)(q:Q [.p (((iU z l).map g).getD d)] h):NU A B C X σ h Q:=by erw[H _ ?_];erw[bI (by rfl) (b _ (aZ (by rfl) (c _ (aZ (bL (λo=>O _) yy) ?_))))];revert q;induction iU z l with|a=>rwa[λq=>q]|c x=>rwa[λq=>q]
def Km(B:LX ca Jc W)(S:SX ca W):DI ca Jc W 300 2:=by erw[B.Mj 4 a5 [] [] (.set 3 (.Θ (.fld 2 4 0) 1 (.tup .nil))<|>.re (.O7 (.cmp Jb 2 (.bi eT (.u 3))) (.ix 3 2) (.i 0))) S.aid rfl Ť Ť λds h Q x c=>?_];induction c with|@mk P d a h Q x q=>erw[(Ŗ,?_)];erw[ť (λ_ q=>q) (λ_ q=>q) (λ_ q=>q) ?_];delta Vh at q;revert q;induction iU d _ with|a=>intro q;rwa[q]|c n=>
   intro q;change Q (.p (nP (n[a]?.getD 0))) h at q;erw[d8 (λe=>?_) λe=>?_]
   .let e:=fM.mp e;rw[ae]at e;let H:a<n.length:=()
    rw[av H]at q;rwa[aZ (iZ (av H)) q]
   .let e:=bF.mp e;rw[ne_eq,fM,ae]at e;rw[cW ()]at q;rwa[q]
def abk(B:LX ca Jc W)(S:SX ca W)(D:DI ca Jc W 300 2)(b:UX ca Jc W 8 2 oP):DI ca Jc W 210 4:=by erw[B.Mj 4 a5 [(8,oP)] [300] (.set 2 (.rS (.fld 2 3 (.fld 1 0 0)) 1)<|>.set 3 (.ix (.fld 1 4 0) 2)<|>.fQ 1 4 (.cl 8 [] (.u3 (.fld 1 4 0) 2 (.b2 eB 3 (.i 1)))) 0<|>.re (.me 300 (.fld 1 0 0) (.u2 1 3))) S.aic rfl ((b.le (bt _)).dt,Ť) (D,Ť) λds h Q X c=>?_];induction c with|@mk P w j A x Q X r q=>let(d,n,rfl,e,rfl):=r;let(i,E,e):=bd e;let(a,f,e):=bd e;let(k,g,e):=mp e;cases e;exact(Ŗ,aZ (uU E) (aZ (iZ f) (oP.mk (vC g) (.mk q))))
def KC(B:LX ca Jc W)(S:SX ca W):DX ca Jc W 7 2 uz:=by erw[B.e 1 a5 [] [] (.iff (.bo (Wm.ac (.cmp ki (.bi eT (.u 0)) (.i 1)) (Wm.a1 (.cmp ki (.ix (.ix 0 (.i 0)) (.i 2)) (.g 0))))) (.re (.s "done")) .nil<|>.re (.s "on")) S.NH rfl Ť Ť λds h Q x c=>?_];induction c with|@mk fr h Q x q=>
  erw[(Ŗ,?_)];rcases fr with _|⟨⟨f,N,pt⟩,_|⟨y,r⟩⟩;.rwa[q]
  .induction pt with|a=>rwa[q]|c n=>rwa[q]
  .erw[EU (bF.mpr λz=>?_) (by induction pt<;>rwa[q])];let:=pV.mp (show mr (jd _).length 1=J from z);rw[gB,aO,aO]at this;lia
def QH(B:LX ca Jc W)(S:SX ca W)(D:DX ca Jc W 7 2 uz):DI ca Jc W 200 4:=by erw[B.Mj 2 a5 [(7,uz)] [] (.set 1 (.O7 (.val (.fld 1 6 0)) (.s "broken") (.cl 7 [] (.u (.fld 1 3 0))))<|>.re (.tup (.cons (.fld 1 1 0) (.u5 (.fld 1 2 0) (.fld 1 3 0) (.fld 1 4 0) (.fld 1 5 0) 1)))) S.ah2 rfl (D.le (bt _),Ť) Ť λds h Q X c=>?_];induction c with|@mk P w a A x Q X r q=>let(rfl,rfl,rfl):=r;erw[(Ŗ,?_)];delta Wk.p Wk.wo at q;show br _ _ _;revert q;induction a.bk with|d=>rwa[λq=>q]|e=>rwa[λq=>.mk q]
def XQ(B:LX ca Jc W)(S:pK W.K (ca 1) "Work.__init__" (c6 (ff 20) 0) ["self","plan","state"])(H:W.mg "Work"=O (.ref (ca 1))):DI ca Jc W 1 2:=by erw[Lk.ma ["self","plan","state"] _ a5 [] [] B (.fQ 1 0 1 0<|>.fQ 1 1 (.ix 2 (.i 0)) 0<|>.fQ 1 2 (.ix 2 (.i 1)) 0<|>.fQ 1 3 (.ix 2 (.i 2)) 0<|>.fQ 1 4 (.ix 2 (.i 3)) 0<|>.fQ 1 5 (.ix 2 (.i 4)) 0<|>.fQ 1 6 (.c (.B a5)) 0<|>.fQ 1 7 .RV 0<|>.one (.fQ 1 8 .RV 0)) S H rfl Ť Ť λds h Q x c=>?_];induction c with|@mk P w Q x q=>exact(Ŗ,q)
theorem lV:∀{o:ϐ}{n:Ń},z∈o->∃i,pos z o n=O i|y::r,n,h=>by show ∃i,(match cC y z with|J=>O n|a5=>pos z r _)=O i;induction e:cC y z with|d=>lia|e=>
   rcases aw.mp h with h|h;.subst h;rw[bQ.mpr Ŗ]at e;cases e
   .rwa[lV h]
def eq:fZ (o.map Pv.S)=O o:=by induction o with|f=>rfl|g y r i=>rw[cF,fZ,i]
inductive JE(P:Pn)(w:Wk)(f:Ä)(vs:Ł Nm)(o:ϐ)(p:Ő Ń)(k:Ł (Ł cp))(post:ϑ):Es->Hs->ß|mk{x:Ő Dv}{po:ϐ}{ks:Ł (Ł cp)}(hp:post=po.map Pv.S)(hm:∀z∈po,z∈o)(e:ro w.fr.length po ks=O k):JE P w f vs o p k post [O (.r 0),O (.p (.S f)),O (.p (.L (vs.map nP))),O (.p (jZ o)),O (.p (.T ((vs++Ð (o.length-vs.length) 0).map nP))),x] (xY P {w with wr:=ks,fr:=(f,vs++Ð (o.length-vs.length) 0,p)::w.fr})
def Qw(B:LX ca Jc W)(S:SX ca W)(D:UI ca Jc W 205 2):DI ca Jc W 204 4:=by erw[B.Mj 6 a5 [] [205] (.set 3 (.rS (.fld 2 2 (.fld 1 0 0)) 1)<|>.set 4 (.b2 eB (.bi sL (.u 2)) (.b2 rP (.tup (.u (.i 0))) (.b2 Ap (.bi eT (.u 3)) (.bi eT (.u 2)))))<|>.fQ 1 3 (.b2 eB (.fld 1 3 0) (.tup (.u (.tup (.u3 1 4 (.rS (.fld 3 7 (.fld 2 5 (.fld 1 0 0))) 1)))))) 0<|>.one (.foP (.one 5) 3 (.one (.Dm (.c (.B J)) (.fld 1 8 0) (.me 205 0 (.u 5)))))) S.ah6 rfl Ť (D.di Ŗ,Ť) λds h Q X c=>?_];induction c with|@mk P w w' as x Q X r q=>
  let(f,v,rfl,e,rfl):=r;let(o,d,e):=bd e;let(p,n,e):=bd e;let(c,e):=bf e;let(k,s,e):=mp e;subst e;let(C,t,A):=uw c;let h1:=aI C;let h2:=aI t;let h3:w.fr.length<1000:=aI A;let g:(((o.map Pv.S).length:Ń)-((v.map nP).length:Ń):Î)=((o.length-v.length:Ń):Î):=by rw[ae,ae];lia
  let hn:(Ð (((o.map Pv.S).length:Ń)-((v.map nP).length:Ń):Î).toNat [Pv.I 0]).flatten=(Ð (o.length-v.length) (0:Nm)).map nP:=by rw[g,List.map_replicate];show(Ð (o.length-v.length) [Pv.I 0]).flatten=Ð (o.length-v.length) (Pv.I 0);generalize o.length-v.length=m;induction m with|h=>rfl|j m F=>rw[mz,BW,F];rfl
  erw[(Ŗ,aZ (uV d) (bI ?_ (bI ?_ (aZ (uV n) (bI ?_ ?_)))))];.show(vT 0 (((o.map Pv.S).length:Ń)-((v.map nP).length:Ń):Î)&&(vT (((o.map Pv.S).length:Ń)-((v.map nP).length:Ń):Î) 1000&&J))=J;rw[g,gE.mpr (),gE.mpr ()];rfl
  .show qE ((v.map nP).length+((Ð (((o.map Pv.S).length:Ń)-((v.map nP).length:Ń):Î).toNat [Pv.I 0]).flatten).length)=J;rw[hn,ae,ae,bP];rwa[mH (bv.mpr ())]
  .show qE ((jd w.fr).length+1)=J;rw[gB];rwa[mH (bv.mpr (aq ‹_› ∅))]
  show gG (fZ (o.map .S)) (λ_=>CO _ _ _ _ _ [O (.r 0),O (.p (.S f)),O (.p (.L (v.map nP))),O (.p (jZ o)),O (.p (.T (v.map nP++(Ð (((o.map Pv.S).length:Ń)-((v.map nP).length:Ń):Î).toNat [Pv.I 0]).flatten))),ao] (ot P (jd w.fr++[.T [.S f,.T (v.map nP++(Ð (((o.map Pv.S).length:Ń)-((v.map nP).length:Ń):Î).toNat [Pv.I 0]).flatten),eV p]]) w w.rd w.wr)) ŧ;rw[hn,<-aD];erw[aZ eq (jF (λ_=>JE P w f v o p k) (.mk (x:=ao) Ŗ (λ_ h=>h) s) (λpre x post b G ex j=>?_) λb G j=>?_)];.induction j with|@mk y a K l H E=>cases a with|f=>done|g z a=>
   cases l;let(i,M):=lV (H z aF);let(tU,N,R):=bd E;let(U,rfl):=o5 N;let Y:own P {w with wr:=K,fr:=(f,v++Ð (o.length-v.length) 0,p)::w.fr}=O ((f,v++Ð (o.length-v.length) 0,p),w.fr,o):=by show(iU f _).map _=_;rw[d];rfl
   rwa[iA.mk (as:=[.S z]) (z,_,Ŗ,Ŗ,uB Y M,Ŗ) (bI U (JE.mk Ŗ (λy Z=>H y (aE _ Z)) R))]
  .induction j with|@mk y a K l H E=>induction a with|g z a=>done|f=>cases E;rwa[q]
def Ou.k(Q:Dv->Hs->ß)(X:XP)(h:Hs):Ou->ß|.v n=>Q (.p (nP n)) h|.x c=>X (1000+c) h
inductive tG(k:Op):Ct|mk{a b:Nm}{h:Hs}{Q:Dv->Hs->ß}{xc:XP}(q:(k.f a b).k Q xc h):tG k [.p (nP a),.p (nP b)] h Q xc
inductive Au:Ct|ok{l:Ł Nm}{n:Nm}{h:Hs}{Q:Dv->Hs->ß}{xc:XP}(e:n.val<l.length)(q:Q (.p .N) h):Au [.p (.T (l.map nP)),.p (nP n)] h Q xc|no{l:Ł Nm}{n:Nm}{h:Hs}{Q:Dv->Hs->ß}{xc:XP}(e:l.length<=n.val)(q:xc 1002 h):Au [.p (.T (l.map nP)),.p (nP n)] h Q xc
inductive iH(d:Ń):Ct|mk{P:Pn}{w w':Wk}{v:Vx}{u:Ou}{Q:Dv->Hs->ß}{xc:XP}(hd:v.dp<d)(e:ev P v w=O (w',u))(q:u.k Q xc (xY P w')):iH d [.r 0,.p v.p] (xY P w) Q xc
inductive cIt(d:Ń):Ct|mk{P:Pn}{w w':Wk}{z:Ä}{v:Vx}{u:Ou}{Q:Dv->Hs->ß}{xc:XP}(hd:v.dp<d)(e:ev P (.i z v) w=O (w',u))(q:u.k Q xc (xY P w')):cIt d [.r 0,.p (Vx.i z v).p] (xY P w) Q xc
def Qg(a b:Nm):yi a.val b.val=true:=by let:=b.isLt;delta yi υ;rw[aA (show(b.val:Î).natAbs<=18446744073709551615 by lia)];rfl
def EX(a:Nm){b:Nm}(h:Ì b.val 0=a5):PV a.val b.val=true:=by
 let:b.val≠0:=λz=>nofun
 delta PV;rw[cJ (),cJ ()];rfl
def yH{a b:Ń}:mr a b=Ì a b:=rfl
def tM{a:Ń}:mr a 0=Ì a 0:=yH
def L4{a b:Ń}:vT a b=Ë a b:=rfl
def Ml{a b:Ń}(h:Ë a b=a5):b<a:=Nat.lt_of_not_le λz=>by rw[aA z]at h;cases h
def y6{a b:Ń}:sR a b=Ñ a b:=rfl
def XT(B:LX ca Jc W)(S:SX ca W):DX ca Jc W 9 2 (tG .pl):=by erw[B.e 2 a5 [] [] (.re (.b2 sF (.b2 eB 0 1) (.g 2))) S.ady rfl Ť Ť λds h Q x c=>?_];induction c with|@mk a b h Q x q=>done
def Qz(B:LX ca Jc W)(S:SX ca W):DX ca Jc W 10 2 (tG .mi):=by erw[B.e 2 a5 [] [] (.re (.b2 sF (.b2 Ap 0 1) (.g 2))) S.j_ rfl Ť Ť λds h Q x c=>?_];induction c with|@mk a b h Q x q=>erw[(Ŗ,?_)];show Q (.p (.I ((a.val-b.val)%1000000))) h;rw[show((a.val-b.val)%1000000:Î)=(a-b).val by let:=b.isLt;rw[Fin.val_sub];lia];rwa[q]
def QI(B:LX ca Jc W)(S:SX ca W):DX ca Jc W 11 2 (tG .ti):=by erw[B.e 2 a5 [] [] (.re (.b2 sF (.b2 Ao 0 1) (.g 2))) S.k_ rfl Ť Ť λds h Q x c=>?_];induction c with|@mk a b h Q x q=>exact(Ŗ,bI (Qg a b) q)
def XS(B:LX ca Jc W)(S:SX ca W):DX ca Jc W 12 2 (tG .ov):=by erw[B.e 2 a5 [] [] (.iff (.cmp ki 1 (.i 0)) (.one (.lW (.g 3))) .nil<|>.re (.b2 Ce 0 1)) S.adx rfl Ť Ť λds h Q X c=>?_];induction c with|@mk a b h Q X q=>erw[(Ŗ,?_)];show br (mr b.val 0) (X 1001 h) (gd _ (Q _ h));rw[tM];change Ou.k Q X h (bif Ì _ 0 then .x 1 else .v _)at q;revert q;induction H:Ì _ 0 with|d=>rwa[λq=>q]|e=>rwa[λq=>bI (EX a H) q]
def XW(B:LX ca Jc W)(S:SX ca W):DX ca Jc W 13 2 (tG .re):=by erw[B.e 2 a5 [] [] (.iff (.cmp ki 1 (.i 0)) (.one (.lW (.g 3))) .nil<|>.re (.b2 sF 0 1)) S.adz rfl Ť Ť λds h Q X c=>?_];induction c with|@mk a b h Q X q=>erw[(Ŗ,?_)];show br (mr b.val 0) (X 1001 h) (gd _ (Q _ h));rw[tM];change Ou.k Q X h (bif Ì _ 0 then .x 1 else .v _)at q;revert q;induction H:Ì _ 0 with|d=>rwa[λq=>q]|e=>rwa[λq=>bI (ag (EX a H)).1 q]
def XI(B:LX ca Jc W)(S:SX ca W):DX ca Jc W 14 2 (tG .le):=by erw[B.e 2 a5 [] [] (.re (.O7 (.cmp Jb 0 1) (.i 1) (.i 0))) S.adw rfl Ť Ť λds h Q x c=>?_];induction c with|@mk a b h Q x q=>erw[(Ŗ,?_)];show br _ (Q _ h) (Q _ h);rw[y6];change Q _ h at q;revert q;induction Ñ _ _ with|d=>rwa[λq=>q]|e=>rwa[λq=>q]
def XX(B:LX ca Jc W)(S:SX ca W):DX ca Jc W 15 2 (tG .sa):=by erw[B.e 2 a5 [] [] (.re (.O7 (.cmp ki 0 1) (.i 1) (.i 0))) S.adA rfl Ť Ť λds h Q x c=>?_];induction c with|@mk a b h Q x q=>erw[(Ŗ,?_)];show br (mr a.val b.val) (Q _ h) (Q _ h);rw[yH];change Q _ h at q;revert q;induction Ì _ _ with|d=>rwa[λq=>q]|e=>rwa[λq=>q]
def Qs(B:LX ca Jc W)(S:SX ca W):DX ca Jc W 18 2 Au:=by erw[B.e 2 a5 [] [] (.one (.iff (.cmp la 1 (.bi eT (.u 0))) (.one (.lW (.g 4))) .nil)) S.zy rfl Ť Ť λds h Q x c=>?_];induction c with|@ok l n h Q x e q=>erw[(Ŗ,EU (c:=vT _ _) (bF.mpr λz=>?_) q)];let:=gE.mp z;rw[ae]at this;lia|@no l n h Q x e q=>exact(Ŗ,qR (c:=vT _ _) (gE.mpr nofun) q)
structure Aj(ca:Ń->À)(Jc:Ń->Ct)(W:Wd):ß where
 a0:DI ca Jc W 200 4a1:UI ca Jc W 201 4a2:UI ca Jc W 202 4a3:UI ca Jc W 203 4a4:DI ca Jc W 204 4a6:DI ca Jc W 206 4a7:UI ca Jc W 207 4a8:DI ca Jc W 208 4a9:DI ca Jc W 209 4a10:DI ca Jc W 210 4nw:DI ca Jc W 1 4rep:UX ca Jc W 8 4 oP
 pl:DX ca Jc W 9 4 (tG .pl)mi:DX ca Jc W 10 4 (tG .mi)ti:DX ca Jc W 11 4 (tG .ti)ov:DX ca Jc W 12 4 (tG .ov)re:DX ca Jc W 13 4 (tG .re)le:DX ca Jc W 14 4 (tG .le)sa:DX ca Jc W 15 4 (tG .sa)ch:DX ca Jc W 18 4 Au
def XZ(B:LX ca Jc W)(S:SX ca W)(s:pK W.K (ca 1) "Work.__init__" (c6 (ff 20) 0) ["self","plan","state"])(h:W.mg "Work"=O (.ref (ca 1))):Aj ca Jc W:=let D:=XD B S;let R:=ĸ B S;(QH B S (KC B S),(QE B S).le (aH _ _),(XJ B S).le (aH _ _),(Qy B S).le (aH _ _),Qw B S D,QF B S D,QL B S D R,(QG B S).le (aH _ _),QM B S R,abk B S (Km B S) R,(XQ B s h).le (aH _ _),R.le (aH _ _),(XT B S).le (aH _ _),(Qz B S).le (aH _ _),(QI B S).le (aH _ _),(XS B S).le (aH _ _),(XW B S).le (aH _ _),(XI B S).le (aH _ _),(XX B S).le (aH _ _),(Qs B S).le (aH _ _))
def XG(B:LX ca Jc W)(S:SX ca W)(M:Aj ca Jc W)(h:4<=k)(D:DX ca Jc W 16 (k+1) (iH d)):DX ca Jc W 17 (k+2) (cIt d):=by erw[B.e 4 a5 [(16,iH d),(18,Au)] [208] (.set 2 (.w8 16 (.u2 0 (.ix 1 (.i 2))))<|>.set 3 (.me 208 0 (.u (.ix 1 (.i 1))))<|>.ex (.cl 18 [] (.u2 3 2))<|>.re (.ix 3 2)) S.adv rfl (D,M.ch.le (aS ‹_›),Ť) (M.a8.le h,Ť) λds h Q x c=>?_];induction c with|@mk P w f z v u Q x H e q=>
  erw[(Ŗ,?_)];rcases iB e with ⟨a,n,E,e⟩|⟨a,c,E,e⟩;.let(p,b,e):=mp e;cases e;erw[iH.mk H E (iA.mk (as:=[.S z]) (z,p.2,Ŗ,b,Ŗ) ?_)];delta pc at q;induction hn:p.2[n.val]? with|a=>rw[hn]at q;rwa[.no (List.getElem?_eq_none_iff.mp hn) q]|c y=>rw[hn]at q;rwa[.ok (ar.mp hn).1 (aZ (iZ hn) q)]
  .cases e;rwa[iH.mk H E q]
def XU(B:LX ca Jc W)(S:SX ca W)(M:Aj ca Jc W)(h:4<=k)(D:DX ca Jc W 16 (k+1) (iH d))(Di:DX ca Jc W 17 (k+1) (cIt d)):DX ca Jc W 16 (k+2) (iH (d+1)):=by erw[B.e 4 a5 [(16,iH d),(17,cIt d),(9,tG .pl),(10,tG .mi),(11,tG .ti),(12,tG .ov),(13,tG .re),(14,tG .le),(15,tG .sa)] [206,208] (.set 2 (.ix 1 (.i 0))<|>.iff (.cmp ki 2 (.s "number")) (.re (.ix 1 (.i 1))) .nil<|>.iff (.cmp ki 2 (.s "box")) (.re (.me 206 0 (.u (.ix 1 (.i 1))))) .nil<|>.iff (.cmp ki 2 (.s "size")) (.re (.bi eT (.u (.me 208 0 (.u (.ix 1 (.i 1))))))) .nil<|>.iff (.cmp ki 2 (.s "item")) (.re (.w8 17 (.u2 0 1))) .nil<|>.set 3 (.w8 16 (.u2 0 (.ix 1 (.i 1))))<|>.iff (.cmp ki 2 (.s "not")) (.re (.cl 15 [] (.u2 3 (.i 0)))) .nil<|>.re (.clf 102 2 (.u2 3 (.w8 16 (.u2 0 (.ix 1 (.i 2))))))) S.xD rfl (D,Di,M.pl.le (aS ‹_›),M.mi.le (aS ‹_›),M.ti.le (aS ‹_›),M.ov.le (aS ‹_›),M.re.le (aS ‹_›),M.le.le (aS ‹_›),M.sa.le (aS ‹_›),Ť) (M.a6.le h,M.a8.le h,Ť) λds h Q X c=>?_];induction c with|@mk P w A v u Q X H e q=>erw[(Ŗ,?_)];cases v with
  |n m=>cases e;rwa[q]|b z=>let(p,E,e):=mp e;cases e;rwa[iA.mk (as:=[.S z]) (z,p.2,Ŗ,E,Ŗ) q]|s z=>
   let(p,E,e):=bd e;let(n,f,e):=mp e;cases e;erw[iA.mk (as:=[.S z]) (z,p.2,Ŗ,E,Ŗ) ?_];show Q (.p (.I ((p.2.map nP).length:Ń))) _;delta Uc at f;split at f;.cases f;rw[ae];rwa[q]
   .cases f|i z v=>rwa[cIt.mk (si H) e q]|t v=>
   rcases iB e with ⟨g,n,E,e⟩|⟨g,c,E,e⟩;.cases e;rwa[iH.mk (si H) E (tG.mk (b:=0) q)]
   .cases e;rwa[iH.mk (si H) E q]|o k a b=>
   let H:max a.dp b.dp+1<d+1:=H;let j:a.dp<d:=()
   let l:b.dp<d:=()
   rcases iB e with ⟨g,x,E,e⟩|⟨g,c,E,e⟩
   .rcases iB e with ⟨r,y,f,e⟩|⟨r,c,f,e⟩;.cases e;induction k<;>rwa[iH.mk j E (iH.mk l f (tG.mk q))]
    .cases e;induction k<;>rwa[iH.mk j E (iH.mk l f q)]
   .cases e;induction k<;>rwa[iH.mk j E q]
theorem E8(B:LX ca Jc W)(S:SX ca W)(M:Aj ca Jc W):∀d:Ń,DX ca Jc W 16 (2*d+6) (iH d)
 |0=>(Dt.no S.xD).imp λds h Q x c=>by induction c with|mk H e q=>lia
 |d+1=>by let D:=E8 B S M d;rwa[XU (k:=2*d+6) B S M (aH _ _) (D.le (bt _)) (XG B S M (aH _ _) D)]
end
def dK(Q:Dv->Hs->ß)(x:XP)(h:Hs):Ő Ń->ß|ao=>Q (.p .N) h|O c=>x (1000+c) h
inductive iz(f:Do)(d:Ń):Ct|mk{P:Pn}{w w':Wk}{r:Rw}{o:Ő Ń}{Q:Dv->Hs->ß}{xc:XP}(hd:r.lo d)(e:f P w r=O (w',o))(q:dK Q xc (xY P w') o):iz f d [.r 0,.p r.p] (xY P w) Q xc
inductive Vm:Ct|mk{P:Pn}{w w':Wk}{n:Nm}{Q:Dv->Hs->ß}{xc:XP}(e:Rh P w n=O w')(q:Q (.p .N) (xY P w')):Vm [.r 0,.p (nP n)] (xY P w) Q xc
def Kc(e:Qb o=O z):∃f vs,o=O (.ca z f vs):=by
 delta Qb at e;split at e;.cases e;exact(_,_,Ŗ)
 .cases e
def d0(h:Ñ a b):a<b:=aI h
section
variable{ca:Ń->À}{Jc:Ń->Ct}{W:Wd}{d k:Ń}
def Kw(B:LX ca Jc W)(S:SX ca W)(M:Aj ca Jc W)(h:4<=k)(D:DX ca Jc W 16 (k+1) (iH d)):DX ca Jc W 19 (k+2) (iz Cz d):=by erw[B.e 2 a5 [(16,iH d)] [207] (.one (.ex (.me 207 0 (.u2 (.ix 1 (.i 1)) (.w8 16 (.u2 0 (.ix 1 (.i 2)))))))) S.TQ rfl (D,Ť) ((M.a7.di Ŗ).le h,Ť) λds h Q x c=>?_];induction c with|@mk P w f r o Q x H e q=>
  erw[(Ŗ,?_)];induction r<;>first|cases e|skip
  ext z v;rcases iB e with ⟨a,n,E,e⟩|⟨a,c,E,e⟩;.let(g,b,e):=mp e;cases e;rwa[iH.mk (d0 H) E (iA.mk (as:=[.S z,nP n]) (z,n,Ŗ,b,Ŗ) q)]
  .cases e;rwa[iH.mk (d0 H) E q]
def Hf(B:LX ca Jc W)(S:SX ca W)(M:Aj ca Jc W)(h:4<=k)(D:DX ca Jc W 16 (k+1) (iH d)):DX ca Jc W 20 (k+2) (iz uG d):=by erw[B.e 4 a5 [(16,iH d)] [208,209] (.set 2 (.w8 16 (.u2 0 (.ix 1 (.i 2))))<|>.set 3 (.me 208 0 (.u (.ix 1 (.i 1))))<|>.iff (.cmp la (.bi eT (.u 3)) (.g 1)) (.one (.lW (.g 5))) .nil<|>.one (.ex (.me 209 0 (.u2 (.ix 1 (.i 1)) (.b2 eB 3 (.tup (.u 2))))))) S.NC rfl (D,Ť) (M.a8.le h,M.a9.le h,Ť) λds h Q x c=>?_];induction c with|@mk P w l r o Q x a e q=>
  erw[(Ŗ,?_)];induction r<;>first|cases e|skip
  ext z v;rcases iB e with ⟨b,n,E,e⟩|⟨b,c,E,e⟩;.let(p,f,e):=bd e;erw[iH.mk (d0 a) E (iA.mk (as:=[.S z]) (z,p.2,Ŗ,f,Ŗ) ?_)];show br (vT (12:Ń) _) _ _;rw[ae,L4];induction H:Ë 12 _ with|d=>rw[H]at e;cases e;rwa[q]|e=>rw[H]at e;let(m,j,e):=mp e;cases e;let:=Ml H;rwa[bI (mH (bv.mpr (by rw[ae];rwa[aq ‹_› ⋯]))) (iA.mk (as:=[.S z,.T _]) (z,_,by rw[aD];rfl,j,Ŗ) q)]
  .cases e;rwa[iH.mk (d0 a) E q]
def Kr(B:LX ca Jc W)(S:SX ca W)(M:Aj ca Jc W):DX ca Jc W 21 6 (iz Qo d):=by erw[B.e 3 a5 [] [207,208,209] (.set 2 (.me 208 0 (.u (.ix 1 (.i 2))))<|>.iff (.cmp ki (.bi eT (.u 2)) (.i 0)) (.one (.lW (.g 6))) .nil<|>.ex (.me 209 0 (.u2 (.ix 1 (.i 2)) (.sl 2 .no (.of (.neg (.i 1))))))<|>.one (.ex (.me 207 0 (.u2 (.ix 1 (.i 1)) (.ix 2 (.neg (.i 1))))))) S.TK rfl Ť (M.a7.di Ŗ,M.a8,M.a9,Ť) λds h Q x c=>?_];induction c with|@mk P w f r o Q x H e q=>
  erw[(Ŗ,?_)];induction r<;>first|cases e|skip
  ext z y;obtain⟨⟨j,l⟩,E,e⟩:=bd e;erw[iA.mk (as:=[.S y]) (y,l,Ŗ,E,Ŗ) ?_];rcases ĕ l with rfl|⟨l,n,rfl⟩;.cases e;rwa[q]
  .rw[Fa]at e⊢;simp only[List.getLast?_append,List.dropLast_concat]at e;let(m,a,e):=bd e;let(p,b,e):=mp e;cases e;rw[aD];erw[EU (c:=mr (l.map nP++[nP n]).length 0) (bF.mpr λz=>?_) ?_];.let:=pV.mp z;rw[aj]at this;simp only[aO]at this;lia
   rwa[iA.mk (as:=[.S y,.T (d5 (l.map nP++[nP n]) _ _)]) (y,l,by rw[pR],a,Ŗ) (aZ pM (iA.mk (as:=[.S z,nP n]) (z,n,Ŗ,b,Ŗ) q))]
def Kt(B:LX ca Jc W)(S:SX ca W)(M:Aj ca Jc W)(h:4<=k)(D:DX ca Jc W 16 (k+1) (iH d)):DX ca Jc W 22 (k+2) (iz Cw d):=by erw[B.e 5 a5 [(16,iH d),(18,Au),(8,oP)] [208,209] (.set 2 (.w8 16 (.u2 0 (.ix 1 (.i 2))))<|>.set 3 (.w8 16 (.u2 0 (.ix 1 (.i 3))))<|>.set 4 (.me 208 0 (.u (.ix 1 (.i 1))))<|>.ex (.cl 18 [] (.u2 4 2))<|>.one (.ex (.me 209 0 (.u2 (.ix 1 (.i 1)) (.cl 8 [] (.u3 4 2 3)))))) S.TL rfl (D,M.ch.le (aS ‹_›),M.rep.dt.le (aS ‹_›),Ť) (M.a8.le h,M.a9.le h,Ť) λds h Q x c=>?_];induction c with|@mk P w A r o Q x g e q=>
  erw[(Ŗ,?_)];induction r<;>first|cases e|skip
  ext z u v;let(b,f):=ag g;rcases iB e with ⟨j,i,E,e⟩|⟨j,c,E,e⟩
  .erw[iH.mk (d0 b) E ?_];rcases iB e with ⟨m,n,a,e⟩|⟨m,c,a,e⟩;.let(p,s,e):=bd e;erw[iH.mk (d0 f) a (iA.mk (as:=[.S z]) (z,p.2,Ŗ,s,Ŗ) ?_)];induction H:Ë _ _ with|d=>rw[H]at e;cases e;rwa[Au.no (aI H) q]|e=>rw[H]at e;let(l,t,e):=bd e;let(C,y,e):=mp e;cases e;rwa[Au.ok (Ml H) (oP.mk (vC t) (iA.mk (as:=[.S z,.T _]) (z,l,Ŗ,y,Ŗ) q))]
   .cases e;rwa[iH.mk (d0 f) a q]
  .cases e;rwa[iH.mk (d0 b) E q]
def Kp(B:LX ca Jc W)(S:SX ca W)(M:Aj ca Jc W):DX ca Jc W 23 6 (iz Cv d):=by erw[B.e 2 a5 [] [207,210] (.one (.ex (.me 207 0 (.u2 (.ix 1 (.i 1)) (.me 210 0 (.u (.ix 1 (.i 2)))))))) S.TH rfl Ť (M.a7.di Ŗ,M.a10,Ť) λds h Q x c=>?_];induction c with|@mk P w b r o Q x H e q=>
  erw[(Ŗ,?_)];induction r<;>first|cases e|skip
  ext z y;let(p,E,e):=bd e;let(f,a,e):=mp e;cases e;rwa[iA.mk (as:=[.S y]) (y,p.2,Ŗ,E,Ŗ) (iA.mk (as:=[.S z,nP p.2]) (z,p.2,Ŗ,a,Ŗ) q)]
def Hg(B:LX ca Jc W)(S:SX ca W)(D:DX ca Jc W 16 (k+1) (iH d)):DX ca Jc W 24 (k+2) (iz uH d):=by erw[B.e 2 a5 [(16,iH d)] [] (.one (.fQ 1 5 (.b2 eB (.fld 1 5 0) (.tup (.u (.w8 16 (.u2 0 (.ix 1 (.i 1))))))) 0)) S.ND rfl (D,Ť) Ť λds h Q x c=>?_];induction c with|@mk P w b r o Q x H e q=>
  erw[(Ŗ,?_)];induction r<;>first|cases e|skip
  rcases iB e with ⟨a,n,E,e⟩|⟨a,c,E,e⟩
  .let(c,e):=bf e;cases e;erw[iH.mk (d0 H) E (bI (mH (bv.mpr ?_)) ?_)];.rw[ae];let:=aI c;rwa[bM ‹_› ⋯]
   .delta xY đ at q;rw[aD]at q;rwa[q]
  .cases e;rwa[iH.mk (d0 H) E q]
def Qu(B:LX ca Jc W)(S:SX ca W)(M:Aj ca Jc W)(h:4<=k)(D:DX ca Jc W 16 (k+1) (iH d)):DX ca Jc W 25 (k+2) (iz Qm d):=by erw[B.e 4 a5 [(16,iH d)] [201,202] (.set 2 (.fld 2 5 (.fld 1 0 0))<|>.set 3 (.HK 201 0)<|>.one (.ex (.me 202 0 (.u (.O7 (.cmp ki (.w8 16 (.u2 0 (.ix 1 (.i 1)))) (.i 0)) (.rS (.fld 3 4 2) 3) (.rS (.fld 3 3 2) 3)))))) S.i_ rfl (D,Ť) ((M.a1.di Ŗ).le h,(M.a2.di Ŗ).le h,Ť) λds h Q x c=>?_];induction c with|@mk P w l r o Q x H e q=>
  erw[(Ŗ,?_)];induction r<;>first|cases e|skip
  let(p,f,e):=bd e;let(n,rfl,e):=bd e;erw[iA.mk (as:=[]) (Ŗ,Ŗ,_,f,Ŗ) ?_];rcases iB e with ⟨j,m,a,e⟩|⟨j,c,a,e⟩;.erw[iH.mk (d0 H) a ?_];show br (mr m.val 0) _ _;rw[tM];let(g,E,e):=bd e;let(s,b,e):=mp e;cases e;revert E;cases Ì _ 0 with|d=>rwa[λE=>aZ (jG E) (iA.mk (as:=[eV g]) (g,Ŗ,b,Ŗ) q)]|e=>rwa[λE=>aZ (jG E) (iA.mk (as:=[eV g]) (g,Ŗ,b,Ŗ) q)]
  .cases e;rwa[iH.mk (d0 H) a q]
def CA(B:LX ca Jc W)(S:SX ca W)(M:Aj ca Jc W)(h:4<=k)(D:DX ca Jc W 16 (k+1) (iH d)):DX ca Jc W 26 (k+2) (iz Qp d):=by erw[B.e 4 a5 [(16,iH d)] [201,202] (.set 2 (.fld 2 5 (.fld 1 0 0))<|>.set 3 (.HK 201 0)<|>.one (.ex (.me 202 0 (.u (.O7 (.cmp ki (.w8 16 (.u2 0 (.ix 1 (.i 1)))) (.i 0)) (.rS (.fld 3 2 2) 3) (.rS (.fld 3 3 2) 3)))))) S.Ii rfl (D,Ť) ((M.a1.di Ŗ).le h,(M.a2.di Ŗ).le h,Ť) λds h Q x c=>?_];induction c with|@mk P w l r o Q x H e q=>
  erw[(Ŗ,?_)];induction r<;>first|cases e|skip
  let(p,f,e):=bd e;let(n,rfl,e):=bd e;erw[iA.mk (as:=[]) (Ŗ,Ŗ,_,f,Ŗ) ?_];rcases iB e with ⟨j,m,a,e⟩|⟨j,c,a,e⟩;.erw[iH.mk (d0 H) a ?_];show br (mr m.val 0) _ _;rw[tM];let(g,E,e):=bd e;let(s,b,e):=mp e;cases e;revert E;cases Ì _ 0 with|d=>rwa[λE=>aZ (jG E) (iA.mk (as:=[eV g]) (g,Ŗ,b,Ŗ) q)]|e=>rwa[λE=>aZ (jG E) (iA.mk (as:=[eV g]) (g,Ŗ,b,Ŗ) q)]
  .cases e;rwa[iH.mk (d0 H) a q]
def XF(B:LX ca Jc W)(S:SX ca W)(M:Aj ca Jc W):DX ca Jc W 31 6 Vm:=by erw[B.e 3 a5 [] [201,202,203,207] (.ex (.HK 203 0)<|>.set 2 (.HK 201 0)<|>.ex (.me 207 0 (.u2 (.ix (.ix (.fld 3 0 (.fld 2 5 (.fld 1 0 0))) 2) (.i 1)) 1))<|>.one (.ex (.me 202 0 (.u (.rS (.fld 3 2 (.fld 2 5 (.fld 1 0 0))) 2))))) S.DZ rfl Ť (M.a1.di Ŗ,M.a2.di Ŗ,M.a3.di Ŗ,M.a7.di Ŗ,Ť) λds h Q x c=>?_];induction c with|@mk P w r n Q x e q=>let(s,E,e):=bd e;let(p,a,b):=bd e;let(c,rfl,j):=bd b;let(z,l,e):=bd j;let(t,m,e):=bd e;let(g,o,e):=bd e;let(f,v,H):=Kc l;exact(Ŗ,iA.mk (as:=[]) (Ŗ,E,Ŗ) (iA.mk (as:=[]) (Ŗ,Ŗ,_,a,Ŗ) (aZ (iZ H) (iA.mk (as:=[.S z,nP n]) (z,n,Ŗ,m,Ŗ) (aZ (jG o) (iA.mk (as:=[eV g]) (g,Ŗ,e,Ŗ) q))))))
def Ku(B:LX ca Jc W)(S:SX ca W)(h:5<=k)(D:DX ca Jc W 16 (k+1) (iH d))(g:DX ca Jc W 31 6 Vm):DX ca Jc W 28 (k+2) (iz Cy d):=by erw[B.e 2 a5 [(16,iH d),(31,Vm)] [] (.one (.ex (.w8 31 (.u2 0 (.w8 16 (.u2 0 (.ix 1 (.i 1)))))))) S.DY rfl (D,g.le (cH ‹_›),Ť) Ť λds h Q x c=>?_];induction c with|@mk P w f r o Q x H e q=>
  erw[(Ŗ,?_)];induction r<;>first|cases e|skip
  rcases iB e with ⟨a,n,E,e⟩|⟨a,c,E,e⟩;.let(j,b,e):=mp e;cases e;rwa[iH.mk (d0 H) E (Vm.mk b q)]
  .cases e;rwa[iH.mk (d0 H) E q]
def Kq(B:LX ca Jc W)(S:SX ca W)(D:DX ca Jc W 31 6 Vm):DX ca Jc W 29 7 (iz Qn d):=by erw[B.e 2 a5 [(31,Vm)] [] (.one (.ex (.w8 31 (.u2 0 (.i 0))))) S.TJ rfl (D,Ť) Ť λds h Q x c=>?_];induction c with|@mk P w a r o Q x H e q=>
  erw[(Ŗ,?_)];induction r<;>first|cases e|skip
  let(b,E,e):=mp e;cases e;rwa[Vm.mk E q]
def He(B:LX ca Jc W)(S:SX ca W)(D:DX ca Jc W 16 (k+1) (iH d)):DX ca Jc W 30 (k+2) (iz uF d):=by erw[B.e 2 a5 [(16,iH d)] [] (.one (.lW (.w8 16 (.u2 0 (.ix 1 (.i 1)))))) S.NB rfl (D,Ť) Ť λds h Q x c=>?_];induction c with|@mk P w b r o Q x H e q=>
  erw[(Ŗ,?_)];induction r<;>first|cases e|skip
  rcases iB e with ⟨a,n,E,e⟩|⟨a,c,E,e⟩;.cases e;rwa[iH.mk (d0 H) E q]
  .cases e;rwa[iH.mk (d0 H) E q]
def ś(ns:Ł Nm):Ł Nm ⊕ Ń->Ł Nm ⊕ Ń|.inl m=>.inl (ns++m)|.inr c=>.inr c
def rK(P:Pn)(n:Ń)(Q:Dv->Hs->ß)(x:XP)(h:Hs):Ő Ń->ß|ao=>Q (.p (.S (X' P.rw[n]?))) h|O c=>x (1000+c) h
inductive G2(d:Ń):Ct|mk{P:Pn}{w w':Wk}{n:Ń}{o:Ő Ń}{Q:Dv->Hs->ß}{xc:XP}(hd:∀r,P.rw[n]?=O r->r.lo d)(e:mV P w n=O (w',o))(q:rK P n Q xc (xY P w') o):G2 d [.r 0,.p (iP n)] (xY P w) Q xc
inductive ė(P:Pn)(vs:Ł Vx)(p:Wk×(Ł Nm ⊕ Ń))(i:Ń):ϑ->Hs->ß|mk{w1:Wk}{ns:Ł Nm}{o':Ł Nm ⊕ Ń}{acc:ϑ}(ha:acc=ns.map nP)(e2:OX P (vs.drop i) w1=O (p.1,o'))(e3:p.2=ś ns o'):ė P vs p i acc (xY P w1)
def Hc(B:LX ca Jc W)(S:SX ca W)(M:Aj ca Jc W)(h:4<=k)(D:DX ca Jc W 16 (k+1) (iH d)):DX ca Jc W 27 (k+2) (iz uE d):=by erw[B.e 3 a5 [(16,iH d)] [204] (.N1 2 1 [0] (.one 0) (.s (.ix 1 (.i 3))) .no (.w8 16 (.u2 1 0))<|>.iff (.cmp la (.bi eT (.u (.fld 1 3 0))) (.g 8)) (.one (.lW (.g 7))) .nil<|>.one (.ex (.me 204 0 (.u2 (.ix 1 (.i 2)) 2)))) S.NA rfl (D,Ť) (M.a4.le h,Ť) λds h Q X c=>?_];induction c with|@mk P w w' r o Q X I e q=>
  erw[(Ŗ,?_)];induction r<;>first|cases e;all_goals fail|skip
  ext z f t;let(p,K,e):=bd e;let(h1,N):=ag I;let h1:=aI h1;show mQ (xY P w) _ _ _ _ _;delta mQ;erw[(ė P t p,.mk (ns:=[]) Ŗ K (by induction p.2<;>rfl),λi y a R H j=>?_,λa R j=>?_)];.induction j with|@mk T ns U a m b E=>subst m;rw[aN]at H;induction A:t[i]? with|a=>left|c v=>rw[A]at H;cases H;let(C,rfl):=ar.mp A;rw[U7 C]at b;obtain⟨⟨Y,u⟩,l,F⟩:=bd b;let hl:=d0 (bJ.mp N _ (eW C));induction u with|x c=>cases F;let(Z,G):=p;subst E;cases e;rwa[iH.mk hl l (Ŗ,q)]|v n=>obtain⟨⟨w3,o3⟩,e6,e7⟩:=mp F;cases e7;erw[iH.mk hl l (bI Ŗ (.mk (ns:=ns++[n]) (by rw[aD];rfl) e6 ?_))];rw[E];induction o3 with|inl ms=>show Sum.inl _=Sum.inl _;rw[bA];rfl|inr c=>rfl
  .induction j with|@mk T ns U a m b E=>subst m;rw[ae,List.drop_length]at b;let(Z,G):=p;cases b;change G=.inl _ at E;rw[aV]at E;subst E;show br (vT (8:Ń) _) _ _;rw[gB,L4];revert e;induction Ë 8 _ with|d=>intro e;cases e;rwa[q]|e=>intro e;let(Y,l,e):=mp e;cases e;rwa[iA.mk (as:=[.S f,.L _]) (f,ns,Ŗ,l,Ŗ) q]
inductive G1:Ct|mk{P:Pn}{w w':Wk}{c:Ń}{k:Ő Ń}{Q:Dv->Hs->ß}{xc:XP}(e:qT P w c=O (w',k))(q:Q (.p (eV k)) (xY P w')):G1 [.r 0,.p (.I (c:Ń))] (xY P w) Q xc
def Ot(e:UJ o=O z):∃a b,o=O (.tr a z b):=by
 delta UJ at e;split at e;.cases e;exact(_,_,Ŗ)
 .cases e
inductive JC(P:Pn)(w:Wk)(c:Ń)(p:Ł Fr×Ő Ń)(m:Ń):Es->Hs->ß|mk{fr:Ł Fr}(hm:m=fr.length)(e:lK P fr=O p):JC P w c p m [O (.r 0),O (.p (.I (c:Ń))),O (.p P.pa),ao] (xY P {w with fr:=fr})
structure Dd(ca:Ń->À)(Jc:Ń->Ct)(W:Wd)(d k:Ń):ß where a19:DX ca Jc W 19 k (iz Cz d)a20:DX ca Jc W 20 k (iz uG d)a21:DX ca Jc W 21 k (iz Qo d)a22:DX ca Jc W 22 k (iz Cw d)a23:DX ca Jc W 23 k (iz Cv d)a24:DX ca Jc W 24 k (iz uH d)a25:DX ca Jc W 25 k (iz Qm d)a26:DX ca Jc W 26 k (iz Qp d)a27:DX ca Jc W 27 k (iz uE d)a28:DX ca Jc W 28 k (iz Cy d)a29:DX ca Jc W 29 k (iz Qn d)a30:DX ca Jc W 30 k (iz uF d)
def Qt(B:LX ca Jc W)(S:SX ca W)(M:Aj ca Jc W)(d:Ń):Dd ca Jc W d (2*d+7):=let D:=E8 B S M d;let G:=XF B S M;(Kw B S M (aH _ _) D,Hf B S M (aH _ _) D,(Kr B S M).le (aH _ _),Kt B S M (aH _ _) D,(Kp B S M).le (aH _ _),Hg B S D,Qu B S M (aH _ _) D,CA B S M (aH _ _) D,Hc B S M (aH _ _) D,Ku B S (aH _ _) D G,(Kq B S G).le (aH _ _),He B S D)
def Kv(B:LX ca Jc W)(S:SX ca W)(M:Aj ca Jc W)(h:4<=k)(D:Dd ca Jc W d (k+1)):DX ca Jc W 32 (k+2) (G2 d):=by erw[B.e 3 a5 [(19,iz Cz d),(20,iz uG d),(21,iz Qo d),(22,iz Cw d),(23,iz Cv d),(24,iz uH d),(25,iz Qm d),(26,iz Qp d),(27,iz uE d),(28,iz Cy d),(29,iz Qn d),(30,iz uF d)] [202] (.set 2 (.ix (.fld 3 0 (.fld 2 5 (.fld 1 0 0))) 1)<|>.iff (.tin 100 (.ix 2 (.i 0))) (.ex (.clf 100 (.ix 2 (.i 0)) (.u2 0 2))<|>.one (.ex (.me 202 0 (.u (.rS (.fld 3 2 (.fld 2 5 (.fld 1 0 0))) 1))))) (.one (.ex (.clf 101 (.ix 2 (.i 0)) (.u2 0 2))))<|>.re (.tgs 50 (.ix 2 (.i 0)) (.s "plain"))) S.TN rfl (D.a19,D.a20,D.a21,D.a22,D.a23,D.a24,D.a25,D.a26,D.a27,D.a28,D.a29,D.a30,Ť) ((M.a2.di Ŗ).le h,Ť) λds h Q X c=>?_];induction c with|@mk P w y n o Q X C e q=>
  let(r,A,e):=bd e;let hl:=C r A;erw[(Ŗ,aZ (iZ A) ?_)];delta rK at q;rw[A]at q;let x:∀f:Do,plain r=O f->(∃j c,f P w r=O (j,O c)/\y=j/\o=O c)\/∃j g p,f P w r=O (j,ao)/\gF n P.bh=O g/\move j g=O p/\y=p/\o=none:=λf H=>by rw[H]at e;obtain⟨⟨j,c⟩,E,l⟩:=bd e;induction c with|c c=>cases l;rwa[.inl (_,c,E,Ŗ,Ŗ)]|a=>let(g,m,F):=bd l;let(p,G,I):=mp F;cases I;rwa[.inr (j,g,_,E,m,G,Ŗ,Ŗ)]
  let t:plain r=ao->(F9 r).bind (λf=>f P w r)=O (y,o):=λH=>by rw[H]at e;rwa[e]
  clear e;induction r with
  |tr a z b=>cases t Ŗ|st z v=>
   rcases x _ Ŗ with ⟨j,c,E,rfl,rfl⟩|⟨j,g,p,E,l,m,rfl,rfl⟩;.rwa[iz.mk hl E q]
   .rwa[iz.mk hl E (aZ (jG l) (iA.mk (as:=[eV g]) (g,Ŗ,m,Ŗ) q))]|pu z v=>
   rcases x _ Ŗ with ⟨j,c,E,rfl,rfl⟩|⟨j,g,p,E,l,m,rfl,rfl⟩;.rwa[iz.mk hl E q]
   .rwa[iz.mk hl E (aZ (jG l) (iA.mk (as:=[eV g]) (g,Ŗ,m,Ŗ) q))]|po z v=>
   rcases x _ Ŗ with ⟨j,c,E,rfl,rfl⟩|⟨j,g,p,E,l,m,rfl,rfl⟩;.rwa[iz.mk hl E q]
   .rwa[iz.mk hl E (aZ (jG l) (iA.mk (as:=[eV g]) (g,Ŗ,m,Ŗ) q))]|pt z u v=>
   rcases x _ Ŗ with ⟨j,c,E,rfl,rfl⟩|⟨j,g,p,E,l,m,rfl,rfl⟩;.rwa[iz.mk hl E q]
   .rwa[iz.mk hl E (aZ (jG l) (iA.mk (as:=[eV g]) (g,Ŗ,m,Ŗ) q))]|ak z v=>
   rcases x _ Ŗ with ⟨j,c,E,rfl,rfl⟩|⟨j,g,p,E,l,m,rfl,rfl⟩;.rwa[iz.mk hl E q]
   .rwa[iz.mk hl E (aZ (jG l) (iA.mk (as:=[eV g]) (g,Ŗ,m,Ŗ) q))]|te v=>
   rcases x _ Ŗ with ⟨j,c,E,rfl,rfl⟩|⟨j,g,p,E,l,m,rfl,rfl⟩;.rwa[iz.mk hl E q]
   .rwa[iz.mk hl E (aZ (jG l) (iA.mk (as:=[eV g]) (g,Ŗ,m,Ŗ) q))]|ii v a b=>erw[iz.mk hl (t Ŗ) ?_];induction o with|a=>rwa[q]|c c=>rwa[q]
  |wh v a=>erw[iz.mk hl (t Ŗ) ?_];induction o with|a=>rwa[q]|c c=>rwa[q]
  |fa v=>erw[iz.mk hl (t Ŗ) ?_];induction o with|a=>rwa[q]|c c=>rwa[q]
  |ca z f K=>erw[iz.mk hl (t Ŗ) ?_];induction o with|a=>exact(_,Ŗ,q)|c c=>rwa[q]
  |rt v=>erw[iz.mk hl (t Ŗ) ?_];induction o with|a=>exact(_,Ŗ,q)|c c=>rwa[q]
  |df z=>erw[iz.mk hl (t Ŗ) ?_];induction o with|a=>exact(_,Ŗ,q)|c c=>rwa[q]
def Qq(B:LX ca Jc W)(S:SX ca W)(M:Aj ca Jc W):UX ca Jc W 33 6 G1:=by erw[B.u 4 a5 [] [201,202,203,207] (.set 2 (.fld 2 5 (.fld 1 0 0))<|>.wh (.bo (Wm.ac (.cmp ki (.rS (.fld 3 5 2) (.HK 201 0)) (.g 0)) (Wm.a1 (.cmp zU (.bi eT (.u (.fld 1 3 0))) (.i 1))))) (.one (.ex (.HK 203 0)))<|>.set 3 (.rS (.fld 3 5 2) (.HK 201 0))<|>.iff (.cmp ki 3 (.g 0)) (.one (.fQ 1 6 (.c (.B J)) 0)) (.ex (.me 207 0 (.u2 (.ix (.ix (.fld 3 0 2) 3) (.i 2)) 1))<|>.one (.ex (.me 202 0 (.u (.rS (.fld 3 4 2) 3)))))<|>.re 3) S.g_ rfl Ť (M.a1,M.a2,M.a3,M.a7,Ť) λds h Q X c=>?_];induction c with|@mk P w w' c k Q X e q=>let(p,D,e):=bd e;erw[(Ŗ,JC P w c p,(_,.mk Ŗ D),λm F h' G=>?_)];induction G with|@mk fr K L=>subst K;cases fr with|f=>done|g x r=>
   let(n,N,R):=bd L;let(g,E,f):=bd R;let H:nu {w with fr:=x::r}=O (O n):=by show O _=_;rw[N]
   erw[iA.mk (as:=[]) (Ŗ,Ŗ,_,H,Ŗ) (aZ (jG E) ?_)];induction g with|c j=>
    cases f;let(z,T,U):=bd e;let(m,l,o):=bd U;let(w2,s,t):=bd o;let(g,Y,v):=bd t;let(w3,A,C):=mp v;cases C;let(a,b,Z):=Ot T;let hc:nP m=.I c:=by
     delta UC at l;split at l;.cases l;rfl
     .done
    rwa[iA.mk (as:=[]) (Ŗ,Ŗ,_,H,Ŗ) (aZ (jG E) (aZ (iZ Z) (iA.mk (as:=[.S z,.I c]) (z,m,by rw[hc],s,Ŗ) (aZ (jG Y) (iA.mk (as:=[eV g]) (g,Ŗ,A,Ŗ) q)))))]|a=>induction r with|f=>cases f;cases e;rwa[iA.mk (as:=[]) (Ŗ,Ŗ,_,H,Ŗ) (aZ (jG E) q)]|g y r=>
     let hl:sR 1 (jd (x::y::r)).length=true:=by rw[gB];rfl
     rwa[qR hl (iA.mk (as:=[]) (Ŗ,show xr _=O {w with fr:=y::r}from Ŗ,Ŗ) (_,fW _,.mk Ŗ f))]
end
inductive Cm:Ct|mk{i:Ń}{ks:Ł (Ł cp)}{h:Hs}{Q:Dv->Hs->ß}{xc:XP}(hi:h[i]?=O (.K ks))(ok:F8 ks)(q:Q (.p (yo ks)) h):Cm [.r i] h Q xc
inductive J2:Ct|mk{w:Wk}{h:Hs}{Q:Dv->Hs->ß}{xc:XP}(q:Q (.p (EW w)) h):J2 [.p w.p] h Q xc
def Qx(B:LX ca Jc W)(S:SX ca W):DI ca Jc W 500 2:=by erw[B.Mj 1 a5 [] [] (.re (.fld 4 1 0)) S.aif rfl Ť Ť λds h Q x c=>?_];induction c with|@mk P w h Q x q=>done
def uJ(B:LX ca Jc W)(S:SX ca W):DI ca Jc W 502 2:=by erw[B.Mj 5 a5 [] [] (.iff (.cmp s0 (.ix 1 (.g 10)) (.s "on")) (.re (.g 0)) .nil<|>.UM [2,3,4] (.ix (.ix 1 (.i 2)) (.neg (.i 1)))<|>.iff (.cmp ki 4 (.g 0)) (.re (.rS (.fld 3 6 (.fld 2 5 (.fld 4 0 0))) 2)) .nil<|>.re 4) S.aii rfl Ť Ť λds h Q X c=>?_];induction c with|@mk P w0 w n h Q X H e q=>
  erw[(Ŗ,?_)];show br (!cC _ _) _ _;rw[H];delta r9 at e;split at e;.cases e
  .ext x r a;erw[aZ (Cd a) ?_];let(f,N,pt):=x;induction pt with|a=>rwa[aZ (uV e) q]|c p=>cases e;rwa[q]
def Qr(B:LX ca Jc W)(S:SX ca W):DX ca Jc W 36 2 Cm:=by erw[B.e 1 a5 [] [] (.re (.bi sL (.u (.bi Ż (.u 0))))) S.h_ rfl Ť Ť λds h Q x c=>?_];induction c with|@mk i K h Q x H ok q=>exact(Ŗ,aZ (by rw[H];rfl) (bI ok q))
def Ko(B:LX ca Jc W)(S:SX ca W):DX ca Jc W 37 2 J2:=by erw[B.e 2 a5 [] [] (.set 1 (.ix 0 (.i 2))<|>.re (.O7 (.cmp zU (.bi eT (.u 1)) (.i 1)) (.ix (.ix 1 (.neg (.i 2))) (.i 2)) (.g 0))) S.TF rfl Ť Ť λds h Q X c=>?_];induction c with|@mk w h Q X q=>
  erw[(Ŗ,?_)];show br (sR _ _) _ _;simp only[gB];let(b,l,fr,a,t,bk,rd,d):=w;rcases fr with _|⟨x,_|⟨y,r⟩⟩;.rwa[q]
  .rwa[q]
  .erw[qR Ŗ (aZ (x:=y.p) ?_ q)];show rO (jd r++[y.p]++[x.p]) (.negSucc 1)=_;rw[tF,aj,aj,cB,cB];simp only[Nat.add_sub_cancel (m:=2),bA,aK (ah _),eA];rfl
def XY(B:LX ca Jc W)(S:SX ca W)(M:Aj ca Jc W)(h:5<=k)(D:DX ca Jc W 32 (k+1) (G2 6))(d:UX ca Jc W 33 6 G1):DI ca Jc W 501 (k+2):=by erw[B.mtC 8 J [(32,G2 6),(33,G1),(36,Cm),(37,J2)] [1,200,502] [33] (.iff (.cmp s0 (.ix 1 (.g 10)) (.s "on")) (.one (.raise 0 (.s "the run has ended"))) .nil<|>.set 2 (.me 502 0 (.u 1))<|>.set 3 (.nw 1 (.u2 (.fld 4 0 0) 1))<|>.set 4 (.g 0)<|>.X_ 6 5 3 4 "fault" 32 33 (.u2 3 2)<|>.set 7 (.tup (.cons 2 (.u5 5 (.w8 36 (.u (.fld 1 7 3))) (.w8 36 (.u (.fld 1 8 3))) (.cl 37 [] (.u 1)) 4)))<|>.re (.tup (.u2 (.HK 200 3) 7))) S.aih rfl (D,d.dt.le (cH ‹_›),(Qr B S).le (),(Ko B S).le (),Ť) (M.nw.le (dF ‹_›),M.a0.le (dF ‹_›),(uJ B S).le (aq (aH _ _) ‹_›),Ť) (λi l=>by rw[aB.mp l];rwa[d.le (cH ‹_›)]) λds h Q X c=>?_];induction c with|@no P w0 w Q X H q=>erw[(Ŗ,?_)];show br (!cC w.wo "on") _ _;erw[qR (by rw[bF.mpr λz=>H (bQ.mp z)];rfl) q]|@ok P w0 w F x Q X m H e q=>erw[(Ŗ,?_)];show br (!cC w.wo "on") _ _;rw[H];let(n,t,e):=bd e;let(p,E,e):=bd e;obtain⟨⟨G,K,ct⟩,a,e⟩:=bd e;let(C,e):=bf e;cases e;let(b,f):=ag C;clear C;let j:∀r,P.rw[n]?=O r->r.lo 6=true:=λr v=>bJ.mp m r (aL v);erw[P6.mk H t (Xn.mk ?_)];let(I,o):=p;induction o with|a=>cases a;rwa[G2.mk j E (Cm.mk Ŗ b (Cm.mk Ŗ f (J2.mk (iA.mk (as:=[]) (Ŗ,Ŗ,Ŗ) q))))]|c c=>let(L,y,A):=mp a;cases A;erw[G2.mk j E (bI (by rw[aA (aQ 1000 c)];rfl) ?_)];show G1 _ _ _ _;rw[fV];rwa[G1.mk y (Cm.mk Ŗ b (Cm.mk Ŗ f (J2.mk (iA.mk (as:=[]) (Ŗ,Ŗ,Ŗ) q))))]
inductive Tr where|lf(r:Rw)|ii(v:Vx)(a b:Ł Tr)|wh(v:Vx)(a:Ł Tr)|tr(a:Ł Tr)(z:Ä)(b:Ł Tr)
mutual
def Tr.r:Tr->Rw|.lf r=>r|.ii v a b=>.ii v (.T (eE a)) (.T (eE b))|.wh v a=>.wh v (.T (eE a))|.tr a z b=>.tr (.T (eE a)) z (.T (eE b))def eE:Ł Tr->ϑ|[]=>[]|t::r=>t.r.p::eE r
end
mutual
def Tr.sz:Tr->Ń|.lf _=>1|.ii _ a b=>1+dc a+dc b|.wh _ a=>1+dc a|.tr a _ b=>1+dc a+dc b
def dc:Ł Tr->Ń|[]=>0|t::r=>t.sz+dc r
end
mutual
def Tr.d:Tr->Ń|.lf _=>0|.ii _ a b=>max (dL a) (dL b)+1|.wh _ a=>dL a+1|.tr a _ b=>max (dL a) (dL b)+1def dL:Ł Tr->Ń|[]=>0|t::r=>max t.d (dL r)end
def Rw.lf:Rw->Þ|.ii _ _ _=>a5|.wh _ _=>a5|.tr _ _ _=>a5|.df _=>a5|_=>J
mutual
def Tr.ok:Tr->Þ|.lf r=>r.lf|.ii _ a b=>mG a&&mG b|.wh _ a=>mG a|.tr a _ b=>mG a&&mG b
def mG:Ł Tr->Þ|[]=>J|t::r=>t.ok&&mG r
end
def Tr.ps:Tr->Ł (Ł Tr)|.lf _=>[]|.ii _ a b=>[a,b]|.wh _ a=>[a]|.tr a _ b=>[a,b]
def tP(t:Ł Tr):Pv:=.T (eE t)
mutual
def oG:Tr->Ń->Ő Ń->Ł (Rw×Ő Ń)|.lf r,_,o=>[(r,o)]|.ii v a b,n,o=>(.ii v (.T (eE a)) (.T (eE b)),o)::(hZ a (n+1) (O n)++hZ b (n+1+dc a) (O n))|.wh v a,n,o=>(.wh v (.T (eE a)),o)::hZ a (n+1) (O n)|.tr a z b,n,o=>(.tr (.T (eE a)) z (.T (eE b)),o)::(hZ a (n+1) (O n)++hZ b (n+1+dc a) (O n))def hZ:Ł Tr->Ń->Ő Ń->Ł (Rw×Ő Ń)|[],_,_=>[]|t::r,n,o=>oG t n o++hZ r (n+t.sz) o
end
def CK:Ł (Ł Tr)->Ń->Ő Ń->Ł (Rw×Ő Ń)|[],_,_=>[]|t::r,n,o=>hZ t n o++CK r (n+dc t) o
def Bz:Ł (Ł Tr)->Ń|[]=>0|t::r=>dc t+Bz r
def fS:Ł (Rw×Ő Ń)->Ń->ϑ|[],_=>[]|x::r,n=>.T [iP n,x.1.p,eV x.2]::fS r (n+1)
theorem qt:∀{l m:Ł _}{n:Ń},fS (l++m) n=fS l n++fS m (n+l.length)|[],m,n=>Ŗ|x::l,m,n=>by show _::fS (l++m) _=_::(fS l _++fS m (n+(l.length+1)));rw[qt,show n+1+l.length=n+(l.length+1)by lia]
theorem qu:∀{l:Ł _}{n:Ń},(fS l n).length=l.length|[],_=>Ŗ|x::l,n=>bL _ qu
mutual
theorem j7:∀(t:Tr)(n:Ń)(o:Ő Ń),(oG t n o).length=t.sz|.lf _,_,_=>by delta oG Tr.sz;rfl|.ii _ a b,n,o=>by delta oG Tr.sz;rw[aO,aj,cI,cI];lia|.wh _ a,n,o=>by delta oG Tr.sz;rw[aO,cI];rwa[Nat.add_comm _ _]|.tr a _ b,n,o=>by delta oG Tr.sz;rw[aO,aj,cI,cI];lia
theorem cI:∀(T:Ł Tr)(n:Ń)(o:Ő Ń),(hZ T n o).length=dc T|[],_,_=>by delta hZ dc;rfl|t::r,n,o=>by delta hZ dc;rw[aj,j7,cI]end
theorem K5:oG t n o=(t.r,o)::CK t.ps (n+1) (O n):=by cases t with|lf r=>rfl|ii v a b=>delta oG Tr.r;show _=_::(hZ a _ _++(hZ b _ _++[]));rw[aV]|wh v a=>delta oG Tr.r;show _=_::(hZ a _ _++[]);rw[aV]|tr a z b=>delta oG Tr.r;show _=_::(hZ a _ _++(hZ b _ _++[]));rw[aV]
theorem vG{t:Tr}:t.sz=1+Bz t.ps:=by cases t with|lf r=>rfl|ii v a b=>rwa[dD _ _ _]|wh v a=>rfl|tr a z b=>rwa[dD _ _ _]
theorem ϥ{t:Tr}(h:t.ok):∀T∈t.ps,mG T=true:=by cases t with|lf r=>intro T h;cases h|ii v a b=>intro T H;rcases aw.mp H with rfl|H;exact(ag h).1;rw[aB.mp H];exact(ag h).2|wh v a=>intro T H;rw[aB.mp H];rwa[h]|tr a z b=>intro T H;rcases aw.mp H with rfl|H;exact(ag h).1;rw[aB.mp H];exact(ag h).2
theorem ţ{t:Tr}:∀T∈t.ps,dL T<t.d:=by cases t with|lf r=>intro T h;cases h|ii v a b=>intro T H;delta Tr.d;rcases aw.mp H with rfl|H;lia;rw[aB.mp H];lia|wh v a=>intro T H;simp only[aB.mp H];rwa[ah _]|tr a z b=>intro T H;delta Tr.d;rcases aw.mp H with rfl|H;lia;rw[aB.mp H];lia
def FP:Pv->Þ|.T [.S k,_]=>cC k "rows"|_=>a5
def Ug:Pv->Pv|.T [_,p]=>p|_=>.N
inductive û:Ct|mk{t:Tr}{Q:Dv->Hs->ß}{xc:XP}(ok:t.ok)(q:Q (.p (.L (t.ps.map tP))) []):û [.p t.r.p] [] Q xc
inductive χ(d:Ń):Ct|mk{ts:Ł Tr}{o:Ő Ń}{xs:ϑ}{Q:Dv->Hs->ß}{xc:XP}(hd:dL ts<d)(ok:mG ts)(hs:xs.length+dc ts<=100000)(q:Q (.p .N) [.L (xs++fS (hZ ts xs.length o) xs.length)]):χ d [.r 0,.p (tP ts),.p (eV o)] [.L xs] Q xc
theorem E7(B:LX ca Jc W)(S:SX ca W):DX ca Jc W 0 2 û:=by erw[B.e 1 J [] [] (.re (.comp 2 [] (.many [0,1]) (.z (.u2 (.ti 0 (.ix 0 (.i 0))) (.sl 0 (.of (.i 1)) .no))) (.one (.cmp ki 0 (.s "rows"))) 1)) S.wG rfl Ť Ť λds h Q x c=>?_];induction c with|@mk t Q x ok q=>erw[(Ŗ,?_)];let st:∀y:Pv,y ∈[Pv.N]->æ:=λ_ _=>Ť;cases t with|ii v a b=>delta Tr.r;erw[nE FP Ug Ŗ (λy H=>?_) q];rcases aw.mp H with rfl|H;exact(λ_ q=>q,λ_ _ q=>q);rcases aw.mp H with rfl|H;exact(λ_ q=>q,λ_ _ q=>q);rw[aB.mp H];exact(λ_ q=>q,λ_ _ q=>q)|wh v a=>delta Tr.r;erw[nE FP Ug Ŗ (λy H=>?_) q];rcases aw.mp H with rfl|H;exact(λ_ q=>q,λ_ _ q=>q);rw[aB.mp H];exact(λ_ q=>q,λ_ _ q=>q)|tr a z b=>delta Tr.r;erw[nE FP Ug Ŗ (λy H=>?_) q];rcases aw.mp H with rfl|H;exact(λ_ q=>q,λ_ _ q=>q);rcases aw.mp H with rfl|H;exact(λ_ q=>q,λ_ _ q=>q);rw[aB.mp H];exact(λ_ q=>q,λ_ _ q=>q)|lf r=>delta Tr.r;induction r<;>first|rwa[AY ok]|(erw[nE FP Ug Ŗ (λy H=>?_) q];repeat(first|(rw[aB.mp H];exact(λ_ q=>q,λ_ _ q=>q))|(rcases aw.mp H with rfl|H;exact(λ_ q=>q,λ_ _ q=>q))))
structure Fn where
 f:Ä
 ps:ϐ
 os:ϐ
 rs:Ł Tr
def Fn.p(x:Fn):Pv:=.T [.S x.f,.T (x.ps.map .S),.T (x.os.map .S),tP x.rs]
structure Pg where
 bs:Ł (Ä×Nm)ls:Ł (Ä×Ł Nm)fs:Ł Fn
 rs:Ł Tr
def Xj(x:Ä×Nm):Pv:=.T [.S x.1,nP x.2]
def Za(x:Ä×Ł Nm):Pv:=.T [.S x.1,.T (x.2.map nP)]
def Pg.p(g:Pg):Pv:=.T [.T (g.bs.map Xj),.T (g.ls.map Za),.T (g.fs.map Fn.p),tP g.rs]
def qB:Ł Fn->Ń->Ł (Rw×Ő Ń)|[],_=>[]|x::r,n=>(.df x.f,ao)::(hZ x.rs (n+1) (O n)++qB r (n+1+dc x.rs))
def eY:Ł Fn->Ń|[]=>0|x::r=>1+dc x.rs+eY r
def Pg.fl(g:Pg):Ł (Rw×Ő Ń):=qB g.fs 0++hZ g.rs (eY g.fs) ao
def Pg.ok(g:Pg):Þ:=g.fs.all (λx=>mG x.rs&&Ñ (dL x.rs) 8)&&(mG g.rs&&(Ñ (dL g.rs) 8&&Ë (eY g.fs+dc g.rs) 100000))
theorem iJ:∀{fs:Ł Fn}{n:Ń},(qB fs n).length=eY fs|[],_=>Ŗ|x::r,n=>by show(_::(hZ _ _ _++qB r _)).length=1+dc _+eY r;rw[aO,aj,cI,iJ];lia
inductive J9:Ct|mk{g:Pg}{Q:Dv->Hs->ß}{xc:XP}(ok:g.ok)(q:Q (.p (.L (fS g.fl 0))) []):J9 [.p g.p] [] Q xc
inductive JO(ts:Ł Tr)(o:Ő Ń)(xs:ϑ)(d:Ń)(post:ϑ):Es->Hs->ß|mk{rest:Ł Tr}{ys:ϑ}{v3 v4 v5:Ő Dv}(e1:post=eE rest)(e2:ys++fS (hZ rest ys.length o) ys.length=xs++fS (hZ ts xs.length o) xs.length)(hs:ys.length+dc rest<=100000)(ok:mG rest)(hd:dL rest<d+1):JO ts o xs d post [O (.r 0),O (.p (tP ts)),O (.p (eV o)),v3,v4,v5] [.L ys]
inductive JI(ts:Ł Tr)(o:Ő Ń)(xs:ϑ)(d:Ń)(t:Tr)(rest:Ł Tr)(n:Ń)(post:ϑ):Es->Hs->ß|mk{ps:Ł (Ł Tr)}{zs:ϑ}{v5:Ő Dv}(e4:post=ps.map tP)(e5:zs++(fS (CK ps zs.length (O n)) zs.length++fS (hZ rest (n+t.sz) o) (n+t.sz))=xs++fS (hZ ts xs.length o) xs.length)(hz:zs.length+Bz ps=n+t.sz)(hp:∀p∈ps,mG p=J/\dL p<d):JI ts o xs d t rest n post [O (.r 0),O (.p (tP ts)),O (.p (eV o)),O (.p t.r.p),O (.p (iP n)),v5] [.L zs]
inductive JQ(g:Pg)(post:ϑ):Es->Hs->ß|mk{rest:Ł Fn}{ys:ϑ}{v2 v3:Ő Dv}(e1:post=rest.map Fn.p)(e2:ys++fS (qB rest ys.length) ys.length=fS (qB g.fs 0) 0)(hs:ys.length+eY rest=eY g.fs)(hm:∀x∈rest,x∈g.fs):JQ g post [O (.p g.p),O (.r 0),v2,v3] [.L ys]
def XC(B:LX ca Jc W)(S:SX ca W)(h:1<=k)(D:DX ca Jc W 2 (k+1) (χ d)):DX ca Jc W 2 (k+2) (χ (d+1)):=by erw[B.e 6 a5 [(0,û),(2,χ d)] [] (.one (.fo (.one 3) (.s 1) (.set 4 (.bi eT (.u 0))<|>.ex (.mt oh 0 (.u (.tup (.u3 4 3 2))))<|>.one (.fo (.one 5) (.s (.cl 0 [] (.u 3))) (.one (.ex (.cl 2 [0] (.u3 0 5 4)))))))) S.xC rfl ((E7 B S).le (cH ‹_›),D,Ť) Ť λds h Q A c=>?_];induction c with|@mk l o X Q A b ok H q=>
  erw[(Ŗ,jF (λ_=>JO l o X d) (.mk (v3:=ao) (v4:=ao) (v5:=ao) rfl rfl H ok b) (λpre x post σ h ex j=>?_) λσ h j=>?_)];.induction j with|@mk rest Y v3 v4 v5 E f H ok b=>cases rest with|f=>cases E|g t rest=>
   let E:x::post=t.r.p::eE rest:=E;cases E;let H:Y.length+(t.sz+dc rest)<=100000:=H;let ok:(t.ok&&mG rest)=true:=ok;let b:max t.d (dL rest)<d+1:=b;let(g,m):=ag ok;rw[vG]at H;let C:Y++.T [iP Y.length,t.r.p,eV o]::(fS (CK t.ps (Y.length+1) (O Y.length)) (Y.length+1)++fS (hZ rest (Y.length+t.sz) o) (Y.length+t.sz))=X++fS (hZ l X.length o) X.length:=by rw[<-f];show _=Y++fS (oG t Y.length o++hZ rest (Y.length+t.sz) o) Y.length;rw[qt,j7,K5];rfl
   erw[bI (mH (n:=Y.length+1) (bv.mpr ())) (.mk g ?_)];erw[jF (λ_=>JI l o X d t rest Y.length) (.mk (v5:=v5) Ŗ ?_ ?_ λp a=>(ϥ g p a,by let:=ţ p a;lia)) (λF y G σ h I j=>?_) λσ h j=>?_];.rw[aj,cB,bA];rwa[C]
   .rw[aj,vG];rwa[dD _ _ _]
   .induction j with|@mk ps z v5 w v i a=>cases ps with|f=>done|g p ps=>
    cases w;let i:z.length+(dc p+Bz ps)=Y.length+t.sz:=i;let(R,K):=a p aF;let M:t.sz=1+Bz _:=vG;erw[.mk (o:=O _) K R () (JI.mk Ŗ ?_ ?_ λp L=>a p (aE _ L))];.rw[<-v,aj,qu,cI,bA];show _=z++(fS (hZ p _ _++CK ps _ _) _++_);rw[qt,cI,bA]
    .rw[aj,qu,cI];lia
   .induction j with|@mk ps z v5 w v i a=>cases ps with|g p ps=>done|f=>
    erw[JO.mk Ŗ ?_ ?_ m ()];.rw[show z.length=Y.length+t.sz from ‹_›];rwa[v]
    .rw[vG]at i;lia
  .induction j with|@mk rest Y v3 v4 v5 E f H ok b=>cases rest with|g t rest=>done|f=>let f:Y++[]=_:=f;rw[<-f,aV]at q;rwa[q]
theorem Kl(B:LX ca Jc W)(S:SX ca W):∀d:Ń,DX ca Jc W 2 (d+2) (χ d)
 |0=>(Dt.no S.xC).imp λds h Q x c=>by induction c with|mk H ok s q=>lia
 |d+1=>XC B S (aH _ _) (Kl B S d)
def Hk(B:LX ca Jc W)(S:SX ca W):DX ca Jc W 1 12 J9:=by erw[B.e 4 J [(2,χ 8)] [] (.set 1 (.F5 .nil)<|>.fo (.one 2) (.s (.ix 0 (.i 2))) (.set 3 (.bi eT (.u 1))<|>.ex (.mt oh 1 (.u (.tup (.u3 3 (.tup (.u2 (.s "def") (.ix 2 (.i 0)))) (.g 0)))))<|>.one (.ex (.cl 2 [0] (.u3 1 (.ix 2 (.i 3)) 3))))<|>.ex (.cl 2 [0] (.u3 1 (.ix 0 (.i 3)) (.g 0)))<|>.re 1) S.NG rfl ((Kl B S 8).le (bt _),Ť) Ť λds h Q X c=>?_];induction c with|@mk g Q X ok q=>
  let(o1,f,n,a):=vZ ok;let a:=aI a;erw[(Ŗ,jF (λ_=>JQ g) (.mk Ŗ Ŗ (cR _) λ_ h=>h) (λpre x post σ h ex j=>?_) λσ h j=>?_)];.induction j with|@mk r Y v p b E H m=>cases r with|f=>done|g x r=>
   cases b;let H:Y.length+(1+dc _+eY _)=eY _:=H;let(P,w):=ag (bJ.mp o1 x (m x aF));erw[bI (mH (bv.mpr ())) (.mk (o:=O _) (d0 w) P (by rw[aj,cB];lia) (JQ.mk Ŗ ?_ ?_ λy z=>m y (aE _ z)))];.rw[<-E];simp only[aj,cB,qu,cI,bA];show _=Y++.T _::fS _ _;rw[qt,cI,<-dD];rfl
   .rw[aj,aj,cB,qu,cI];lia
  .induction j with|@mk r Y v p b E H m=>cases r with|g t r=>done|f=>
    let E:Y++[]=_:=E;rw[aV]at E;subst E;let l:(fS (qB g.fs 0) 0).length=eY g.fs:=by done
    erw[.mk (o:=ao) (d0 n) f (by rw[l];rwa[a]) ?_];simp only[Pg.fl,qt,iJ,cR]at q;rw[l];rwa[q]
theorem AF:∀{K:ϑ},nZ (.S z) (K++[k])=(nZ (.S z) K||kM k (.S z))|[]=>by show(kM k _||a5)=(a5||kM k _);rw[Bool.or_false,Bool.false_or]|x::r=>by show(kM x _||nZ _ (r++[k]))=(kM x _||nZ _ r||kM k _);rw[AF,Bool.or_assoc]
theorem pS:∀(l:Ł (Ä×Pv))(k us:ϑ),(∀p∈l,nZ (.S p.1) k=a5)->(l.map (·.1)).Nodup->sJ (l.map λp=>.S p.1) (l.map λp=>p.2) (k,us)=(k++l.map λp=>.S p.1,us++l.map λp=>p.2)|[],k,us,_,_=>by show Ý k us=Ý (k++[]) (us++[]);rw[aV,aV]|p::l,k,us,h,n=>by let(N,a):=dA.mp n;show sJ (l.map _) _ _=_;delta oE oF;rw[h p aF,pS l _ _ (λq H=>?_) a,bA,bA];rfl;rw[AF,h q (aE _ H)];rwa[bF.mpr λz=>N (cx.mpr (q,H,(bQ.mp z).symm))]
theorem tZ:∀{l:Ł (Ä×Pv)},oK (l.map λp=>.T [.S p.1,p.2])=O (l.map λp=>.S p.1,l.map λp=>p.2)|[]=>Ŗ|p::l=>by rw[cF,oK,tZ];rfl
def Rm:Pv->Pv|.T (a::_)=>a|_=>.N
def NX:Pv->Þ|.T (_::_)=>J|_=>a5
def Rs:Pv->Pv|.T [a,b]=>.T [b,a]|_=>.N
def Z6(l:ϐ)(n:Ń):Ł (Ä×Pv):=match l with|[]=>[]|z::r=>(z,iP n)::Z6 r (n+1)
theorem Fp:∀{l:ϐ}{n:Ń},(Hr n (l.map .S)).map Rs=(Z6 l n).map λp=>.T [.S p.1,p.2]|[],_=>Ŗ|z::r,n=>bL _ Fp
theorem zv:∀{l:ϐ}{n:Ń},(Z6 l n).map (·.1)=l|[],_=>Ŗ|z::r,n=>bL (z::·) zv
def Wc:(Z6 l n).map (λp=>Pv.S p.1)=l.map .S:=by
 let:(Z6 l n).map (λp=>Pv.S p.1)=((Z6 l n).map (·.1)).map .S:=by rw[bB];rfl
 rw[this,zv]
theorem Gh:∀{l:ϐ}{n:Ń},(Z6 l n).map (λp=>p.2)=ω l n|[],_=>Ŗ|z::r,n=>bL _ Gh
inductive Xq:Ct|mk{l:ϐ}{Q:Dv->Hs->ß}{xc:XP}(nd:l.Nodup)(hl:l.length<=100)(q:Q (.p (jZ l)) []):Xq [.p (.L (l.map .S))] [] Q xc
inductive P2:Ct|mk{xs:ϑ}{Q:Dv->Hs->ß}{xc:XP}(h:∀x∈xs,NX x=J)(q:Q (.p (.L (xs.map Rm))) []):P2 [.p (.T xs)] [] Q xc
inductive Xp:Ct|mk{x:Fn}{Q:Dv->Hs->ß}{xc:XP}(hl:(x.ps++x.os).length<=100)(q:Q (.p (.L ((x.ps++x.os).map .S))) []):Xp [.p x.p] [] Q xc
def BP:Ł (Rw×Ő Ń)->ϐ|[]=>[]|(.ak _ d,_)::r=>d::BP r|_::r=>BP r
inductive Xk:Ct|mk{g:Pg}{Q:Dv->Hs->ß}{xc:XP}(ok:g.ok)(hl:(dO (BP g.fl)).length<=63)(q:∀ss:ϐ,ss.Perm (dO (BP g.fl))->Ā ss->Q (.p (.L (ss.map .S))) []):Xk [.p g.p] [] Q xc
def Fz(g:Pg)(P:Pn)(p:Ő Ń):Wk:=(g.bs.map (·.2),g.ls.map (·.2),[("",[],p)],Ð P.ds.length 0,[],a5,[],[])
inductive PX:Ct|mk{g:Pg}{P:Pn}{p:Ő Ń}{Q:Dv->Hs->ß}{xc:XP}(hl:P.ds.length<=100)(e:iU "" P.st=O p)(q:Q (.p (Fz g P p).p) []):PX [.p g.p,.p P.p] [] Q xc
def ZB:Pv->Þ|.T [_,.T (.S z::_),_]=>cC z "ask"|_=>a5
def ww:Pv->Pv|.T [_,.T [_,_,d],_]=>d|_=>.N
theorem yD:∀{l:Ł _}{n:Ń},((fS l n).filter ZB).map ww=(BP l).map .S|[],_=>Ŗ|(r,o)::l,n=>by show((Pv.T [iP n,r.p,eV o]::fS l _).filter _).map ww=_;induction r<;>first|(rwa[yD])|(rwa[bL _ yD])
theorem zM:∀{l:Ł _}{n:Ń}{y:Pv},y∈fS l n->∃m r o,y=.T [iP m,Rw.p r,eV o]
 |x::l,n,y,h=>by
  rcases aw.mp h with h|h;.exact(n,x.1,x.2,h)
  .rwa[zM h]
def Kz(B:LX ca Jc W)(S:SX ca W):DX ca Jc W 34 2 Xq:=by erw[B.e 1 J [] [] (.re (.bi ό (.u (.comp 2 [] (.many [0,1]) (.e 0) .no (.tup (.u2 1 0)))))) S.TU rfl Ť Ť λds h Q X c=>?_];induction c with|@mk l Q X n H q=>
  erw[(Ŗ,lL Rs Ŗ (λy a=>?_) ?_)];.let(i,b):=lE a;let(x,_,rfl):=uO b;rwa[λR q=>q]
  .rw[Fp];erw[aZ tZ (bI (bv.mpr ?_) ?_)];.rw[Wc,ae];rwa[H]
   .rw[pS _ _ _ (λ_ _=>Ŗ) (by rw[zv];rwa[n])];simp only[Wc,Gh];rwa[q]
def CB(B:LX ca Jc W)(S:SX ca W):DX ca Jc W 5 2 P2:=by erw[B.e 1 J [] [] (.re (.comp 1 [] (.one 0) (.s 0) .no (.ix 0 (.i 0)))) S.Ik rfl Ť Ť λds h Q x c=>?_];induction c with|@mk X Q x h q=>
  erw[(Ŗ,lL Rm Ŗ (λy H=>?_) q)];let:=h y H;delta NX at this;split at this;.rwa[λR q=>q]
  .done
def AB(B:LX ca Jc W)(S:SX ca W):DX ca Jc W 6 2 Xp:=by erw[B.e 1 J [] [] (.re (.b2 eB (.bi YH (.u (.ix 0 (.i 1)))) (.bi YH (.u (.ix 0 (.i 2)))))) S.D1 rfl Ť Ť λds h Q X c=>?_];induction c with|@mk x Q X H q=>rw[aD]at q;exact(Ŗ,bI (mH (bv.mpr (by rw[aj]at H;rw[ae,ae];rwa[aq ‹_› ⋯]))) q)
def Qv(B:LX ca Jc W)(S:SX ca W)(D:DX ca Jc W 1 12 J9):DX ca Jc W 3 13 Xk:=by erw[B.e 1 J [(1,J9)] [] (.re (.G_ (.comp 3 [] (.many [0,1,2]) (.s (.cl 1 [] (.u 0))) (.one (.cmp ki (.ix 1 (.i 0)) (.s "ask"))) (.ix 1 (.i 2))))) S.Ij rfl (D,Ť) Ť λds h Q x c=>?_];induction c with|@mk g Q x ok l q=>
  erw[(Ŗ,.mk ok (nE ZB ww Ŗ (λy H=>?_) ?_))];.let(m,r,o,rfl):=zM H;induction r<;>first|exact(λR q=>q,λh R q=>q)|exact(λR q=>q,λh R q=>AY h)
  .rw[yD];rwa[aZ eq (bI (bv.mpr (cH ‹_›)) q)]
def wc(B:LX ca Jc W)(S:SX ca W)(D:DX ca Jc W 7 2 uz):DX ca Jc W 35 4 PX:=by erw[B.e 5 J [(7,uz)] [] (.set 2 (.bi sL (.u (.comp 2 [] (.many [0,1]) (.s (.ix 0 (.i 0))) .no 1)))<|>.set 3 (.bi sL (.u (.comp 2 [] (.many [0,1]) (.s (.ix 0 (.i 1))) .no (.bi sL (.u 1)))))<|>.set 4 (.tup (.u (.tup (.u3 (.g 9) (.tup .nil) (.rS (.fld 3 7 (.fld 2 5 1)) (.g 9))))))<|>.re (.tup (.cons 2 (.u5 3 4 (.b2 rP (.tup (.u (.i 0))) (.bi eT (.u (.fld 2 3 1)))) (.tup .nil) (.cl 7 [] (.u 4)))))) S.zA rfl (D.le (bt _),Ť) Ť λds h Q X c=>?_];induction c with|@mk g P p Q X l e q=>
  erw[(Ŗ,lL (λy=>match y with|.T [_,n]=>n|_=>.N) Ŗ (λy H=>?_) ?_)];.let(x,_,rfl):=cx.mp H;rwa[λR q=>q]
  erw[lL (λy=>match y with|.T [_,n]=>n|_=>.N) Ŗ (λy H=>?_) ?_];.let(x,_,rfl):=cx.mp H;rwa[λR q=>q]
  rw[show(g.bs.map Xj).map (λy=>match y with|.T [_,n]=>n|_=>.N)=(g.bs.map (·.2)).map nP by rw[bB,bB];rfl,show(g.ls.map Za).map (λy=>match y with|.T [_,n]=>n|_=>.N)=k8 (g.ls.map (·.2))by delta k8;rw[bB,bB];rfl];let a:∀m:Ń,(Ð m [Pv.I 0]).flatten=(Ð m 0).map iP:=λm=>by rw[List.map_replicate];induction m with|h=>rfl|j m b=>rw[mz,BW,b];rfl
  erw[aZ (uV e) (bI (c:=vT 0 (P.ds.map _).length&&(vT _ _&&J)) ?_ (uz.mk (fr:=[("",[],p)]) ?_))];.rw[ae,gE.mpr (),gE.mpr ()];rfl
  .rw[a,ae];rwa[q]
section
variable{α:Type}
def qZ(n:Ń):Ł (Ń×α)->Þ|[]=>a5|p::r=>Ì p.1 n||qZ n r
def D9(n:Ń)(v:α):Ł (Ń×α)->Ł (Ń×α)|[]=>[]|p::r=>(match Ì p.1 n with|J=>(p.1,v)|a5=>p)::D9 n v r
def eI(n:Ń)(v:α)(l:Ł (Ń×α)):Ł (Ń×α):=match qZ n l with|J=>D9 n v l|a5=>l++[(n,v)]
theorem Bs{v:α}:∀{l:Ł _},(D9 n v l).length=l.length|[]=>Ŗ|_::_=>bL (·+1) Bs
def qh{v:α}:(eI n v l).length<=l.length+1:=by delta eI;induction qZ n l with|d=>simp only[Bs];rwa[bt _]|e=>simp only[aj];rwa[ah _]
theorem FY{v:α}:∀{l:Ł _},qZ n l=J->gF n (D9 n v l)=O v|p::r,h=>by show(match Ì _ n with|J=>O _|a5=>gF n _)=_;let h:(Ì p.1 n||qZ n r)=true:=h;induction e:Ì p.1 n with|d=>lia|e=>rw[e]at h⊢;rwa[FY h]
theorem FZ{v:α}(h:m≠n):∀{l:Ł _},gF m (D9 n v l)=gF m l|[]=>Ŗ|p::r=>by show(match Ì _ m with|J=>O _|a5=>gF m _)=match Ì p.1 m with|J=>O p.2|a5=>gF m r;rw[FZ h];induction e:Ì p.1 n with|d=>let:=bF.mpr λz=>h ((aX z).symm.trans (aX e));rw[this]|e=>rfl
theorem VP:∀{l:Ł (Ń×α)},qZ n l=a5->gF n l=ao|[],_=>Ŗ|p::r,h=>by let h:(Ì p.1 n||qZ n r)=false:=h;rw[L5]at h;show(match Ì p.1 n with|J=>O p.2|a5=>gF n r)=_;rw[h.1];rwa[VP h.2]
theorem DA{m:Ń}{q:Ń×α}:∀{l:Ł _},gF m (l++[q])=match gF m l with|O x=>O x|ao=>gF m [q]
 |[]=>Ŗ|p::r=>by show(match Ì p.1 m with|J=>O p.2|a5=>gF m _)=match match Ì p.1 m with|J=>O p.2|a5=>gF m r with|O x=>O x|ao=>gF m [q];induction Ì p.1 m with|d=>rfl|e=>rwa[DA]
def rj{v:α}:gF n (eI n v l)=O v:=by delta eI;induction h:qZ n l with|d=>rwa[FY h]|e=>simp only[DA,VP h];show(match Ì n n with|J=>O v|a5=>ao)=_;rw[sh]
def tW{v:α}(H:m≠n):gF m (eI n v l)=gF m l:=by delta eI;induction h:qZ n l with|d=>rwa[FZ H]|e=>
  simp only[DA];let:gF m [(n,v)]=none:=by show(match Ì n m with|J=>O v|a5=>ao)=_;rw[bF.mpr λz=>H (aX z).symm]
  rw[this];induction gF m l<;>rfl
end
def vR{α:Type}(l:Ł (Ń×α)):ϑ:=l.map λp=>iP p.1
def EE(l:Ł (Ń×Ő Ń)):ϑ:=l.map λp=>eV p.2
def L0{b:Ń}:kM (iP a) (.I b)=Ì a b:=yH
theorem CD{n:Ń}:∀{l:Ł (Ń×α)},nZ (.I n) (vR l)=qZ n l|[]=>Ŗ|p::r=>by show(kM (iP p.1) _||nZ _ (vR r))=(Ì p.1 n||qZ n r);rw[L0,CD]
theorem KQ{n:Ń}:∀{l:Ł _},CJ (.I n) (eV v) (vR l) (EE l)=EE (D9 n v l)|[]=>Ŗ|p::r=>by show(match kM (iP p.1) _ with|J=>eV v|a5=>eV p.2)::CJ _ _ (vR r) (EE r)=eV _::EE _;rw[L0,KQ];induction Ì p.1 n<;>rfl
theorem Gx{v:Ő Ń}:∀{l:Ł _},vR (D9 n v l)=vR l|[]=>Ŗ|p::r=>by show iP _::vR _=iP p.1::vR r;rw[Gx];induction Ì p.1 n<;>rfl
def KL{n:Ń}{v:Ő Ń}:oE (.I n) (vR l)=vR (eI n v l):=by delta oE eI;rw[CD];induction qZ n l with|d=>rwa[Gx.symm]|e=>delta vR;rw[aD];rfl
def KN{n:Ń}:oF (.I n) (eV v) (vR l) (EE l)=EE (eI n v l):=by delta oF eI;rw[CD];induction qZ n l with|d=>rwa[KQ]|e=>delta EE;rw[aD];rfl
structure Ly where bh:Ł (Ń×Ő Ń)fs:Ł (Ń×Ő Ń)sc:Ł (Ń×Ő Ń)ct:Ł (Ń×Ő Ń)
mutual
def kP:Tr->Ń->Ő Ń->Ő Ń->Ly->Ly×Ő Ń|.lf _,n,_,_,S=>(S,O n)|.wh _ a,n,_,c,S=>({(d7 a (n+1) (O n) c S).1 with fs:=eI n (d7 a (n+1) (O n) c S).2 (d7 a (n+1) (O n) c S).1.fs},O n)|.ii _ x y,n,b,c,S=>let p:=d7 y (n+1+dc x) b c S;let q:=d7 x (n+1) b c {p.1 with sc:=eI n p.2 p.1.sc};({q.1 with fs:=eI n q.2 q.1.fs},O n)|.tr x _ y,n,b,c,S=>let p:=d7 y (n+1+dc x) b c S;d7 x (n+1) b (O n) {p.1 with sc:=eI n p.2 p.1.sc}def d7:Ł Tr->Ń->Ő Ń->Ő Ń->Ly->Ly×Ő Ń|[],_,b,_,S=>(S,b)|t::r,n,b,c,S=>let p:=d7 r (n+t.sz) b c S;kP t n p.2 c {p.1 with bh:=eI n p.2 p.1.bh,ct:=eI n c p.1.ct}end
def Ly.le(S:Ly)(m:Ń):ß:=S.bh.length<=m/\S.fs.length<=m/\S.sc.length<=m/\S.ct.length<=m
theorem Ly.le.mono{S:Ly}(h:S.le m)(k:m<=n):S.le n:=(by let:=h.1;rwa[aq ‹_› ‹_›],by let:=h.2.1;rwa[aq ‹_› ‹_›],by let:=h.2.2.1;rwa[aq ‹_› ‹_›],by let:=h.2.2.2;rwa[aq ‹_› ‹_›])
theorem VO{S:Ly}(h:S.le m):Ly.le {S with fs:=eI n v S.fs} (m+1):=by let:=qh (n:=n) (v:=v) (l:=S.fs);let(H,a,b,c):=h;exact(by rwa[aS ‹_›],by show(eI n v _).length<=_;lia,by rwa[aS ‹_›],by rwa[aS ‹_›])
theorem A5{S:Ly}(h:S.le m):Ly.le {S with sc:=eI n v S.sc} (m+1):=by let:=qh (n:=n) (v:=v) (l:=S.sc);let(H,a,b,c):=h;exact(by rwa[aS ‹_›],by rwa[aS ‹_›],by show(eI n v _).length<=_;lia,by rwa[aS ‹_›])
theorem VN{S:Ly}(h:S.le m):Ly.le {S with bh:=eI n v S.bh,ct:=eI n c S.ct} (m+1):=by let:=qh (n:=n) (v:=v) (l:=S.bh);let:=qh (n:=n) (v:=c) (l:=S.ct);let(H,a,b,d):=h;exact(by show(eI n v _).length<=_;lia,by rwa[aS ‹_›],by rwa[aS ‹_›],by show(eI n c _).length<=_;lia)
mutual
theorem RY:∀(t:Tr)(n:Ń)(b c:Ő Ń)(S:Ly)(m:Ń),S.le m->(kP t n b c S).1.le (m+(3*t.sz-1))|.lf _,n,b,c,S,m,h=>by delta kP;rwa[h.mono (aQ _ _)]|.wh _ a,n,b,c,S,m,h=>by delta kP Tr.sz;exact(VO (gD a _ _ _ _ _ h)).mono ()|.ii _ x y,n,b,c,S,m,h=>by delta kP Tr.sz;exact(VO (gD x _ _ _ _ _ (A5 (gD y _ _ _ _ _ h)))).mono ()|.tr x _ y,n,b,c,S,m,h=>by delta kP Tr.sz;exact(gD x _ _ _ _ _ (A5 (gD y _ _ _ _ _ h))).mono ()theorem gD:∀(T:Ł Tr)(n:Ń)(b c:Ő Ń)(S:Ly)(m:Ń),S.le m->(d7 T n b c S).1.le (m+3*dc T)
 |[],n,b,c,S,m,h=>by delta d7;rwa[h.mono (ah _)]|t::r,n,b,c,S,m,h=>by
  delta d7 dc;let:1<=t.sz:=by rw[vG];rwa[aQ _ _]
  exact(RY t _ _ _ _ _ (VN (gD r _ _ _ _ _ h))).mono ()end
def jh:Ł Tr->Ń->Ϙ|[],_=>[]|t::r,n=>n::jh r (n+t.sz)
structure Pb where
 rw:Ł Rw
 kw:ϑ
 dw:Ł Dv
 df:Ob
 st:Ob
 ls:Ł Ob
def gW(b:Pb)(S:Ly):Hs:=.I 3 [.p (.L (b.rw.map Rw.p)),.r 1,.r 2,.r 3,.r 4,.r 5,.r 6,.r 7]::.E b.kw b.dw::.C (vR S.bh) (EE S.bh)::.C (vR S.fs) (EE S.fs)::.C (vR S.sc) (EE S.sc)::.C (vR S.ct) (EE S.ct)::b.df::b.st::b.ls
def PB(b:Pb)(wi:Ő Ń->Ϙ):ß:=∀k,match lP (eV k) b.kw b.dw with|ao=>wi k=[]|O d=>∃j,d=.r (j+8)/\b.ls[j]?=O (.L ((wi k).map iP))
mutual
def wM(R:Ł Rw)(wi:Ő Ń->Ϙ):Tr->Ń->ß|.lf r,n=>R[n]?=O r|.ii v a b,n=>R[n]?=O (.ii v (.T (eE a)) (.T (eE b)))/\wi (O n)=jh a (n+1)++jh b (n+1+dc a)/\Ae R wi a (n+1)/\Ae R wi b (n+1+dc a)|.wh v a,n=>R[n]?=O (.wh v (.T (eE a)))/\wi (O n)=jh a (n+1)/\Ae R wi a (n+1)|.tr a z b,n=>R[n]?=O (.tr (.T (eE a)) z (.T (eE b)))/\wi (O n)=jh a (n+1)++jh b (n+1+dc a)/\Ae R wi a (n+1)/\Ae R wi b (n+1+dc a)def Ae(R:Ł Rw)(wi:Ő Ń->Ϙ):Ł Tr->Ń->ß|[],_=>æ|t::r,n=>wM R wi t n/\Ae R wi r (n+t.sz)end
def EL(b:Pb)(x:Dv)(l:Ϙ):ß:=x=.p (.L (l.map iP))\/∃j,x=.r (j+8)/\b.ls[j]?=O (.L (l.map iP))
inductive ux(d:Ń):Ct|mk{b:Pb}{S:Ly}{wi:Ő Ń->Ϙ}{ts:Ł Tr}{n m:Ń}{o c:Ő Ń}{x:Dv}{Q:Dv->Hs->ß}{xc:XP}(hw:PB b wi)(yN:Ae b.rw wi ts n)(ok:mG ts)(hd:dL ts<d)(hx:EL b x (jh ts n))(hs:S.le m)(hz:m+3*dc ts<=400000)(q:Q (.p (eV (d7 ts n o c S).2)) (gW b (d7 ts n o c S).1)):ux d [.r 0,x,.p (eV o),.p (eV c)] (gW b S) Q xc
inductive J4(d:Ń):Ct|mk{b:Pb}{S:Ly}{wi:Ő Ń->Ϙ}{t:Tr}{n m:Ń}{o c:Ő Ń}{Q:Dv->Hs->ß}{xc:XP}(hw:PB b wi)(yN:wM b.rw wi t n)(ok:t.ok)(hd:t.d<d)(hs:S.le m)(hz:m+3*t.sz<=400001)(q:Q (.p (eV (kP t n o c S).2)) (gW b (kP t n o c S).1)):J4 d [.r 0,.p (iP n),.p (eV o),.p (eV c)] (gW b S) Q xc
def Jl(Jc:Ń->Ct)(d e:Ń):Ń->Ct|400=>ux d|401=>J4 e|n=>Jc n
theorem qq:∀{us vs:Ł Tr},dc (us++vs)=dc us+dc vs|[],vs=>by show dc vs=dc []+dc vs;delta dc;lia|t::us,vs=>by show t.sz+dc (us++vs)=t.sz+dc us+dc vs;rw[qq];exact(dD _ _ _).symm
theorem Ba:∀{us vs:Ł Tr}{n:Ń},jh (us++vs) n=jh us n++jh vs (n+dc us)|[],vs,n=>by rfl|t::us,vs,n=>by show n::jh (us++vs) _=n::(jh us _++jh vs (n+(t.sz+dc us)));rw[Ba,dD]
theorem ye:∀{us vs:Ł Tr}{n:Ń},Ae R wi (us++vs) n->Ae R wi us n/\Ae R wi vs (n+dc us)|[],vs,n,h=>by done|t::us,vs,n,h=>by let(H,a):=ye h.2;erw[((h.1,H),?_)];show Ae R wi vs (n+(t.sz+dc us));rw[<-dD];rwa[a]
theorem zh:∀{us vs:Ł Tr},mG (us++vs)=J->mG us/\mG vs=J|[],vs,h=>(Ŗ,h)|t::us,vs,h=>by let(H,a):=zh (ag h).2;exact(by show(t.ok&&mG us)=J;rw[(ag h).1,H];rfl,a)
theorem yu:∀{us vs:Ł Tr},dL (us++vs)=max (dL us) (dL vs)|[],vs=>Ŗ|t::us,vs=>by show max t.d (dL (us++vs))=max (max t.d _) _;rw[yu];lia
theorem Fi{h':Hs}{k:Ń}(H:∀Q:KP,Q [.p (eV v)] h->A N.xc σ h Q)(a:∀Q:KP,Q [.r i] h->B N.xc σ h Q)(b:∀Q:KP,Q [.p (.I k)] h->C N.xc σ h Q)(hi:h[i]?=O (.C (vR l) (EE l)))(d:l.length<=500000)(c:h.set i (.C (vR (eI k v l)) (EE (eI k v l)))=h')(q:N.nx σ h'):oM A B C N σ h:=by erw[H _ (a _ (b _ ?_))];simp only[hi];erw[bI (mH (bv.mpr (by delta vR;rw[ae];rwa[bM ‹_› ⋯]))) ?_];rw[KL,KN,c];rwa[q]
inductive JL(b:Pb)(S:Ly)(ts:Ł Tr)(n:Ń)(o c:Ő Ń)(x:Dv)(post:ϑ):Es->Hs->ß|mk{us vs:Ł Tr}{v4:Ő Dv}(e1:ts=us++vs)(e2:post=(jh us n).reverse.map iP):JL b S ts n o c x post [O (.r 0),O x,O (.p (eV (d7 vs (n+dc us) o c S).2)),O (.p (eV c)),v4] (gW b (d7 vs (n+dc us) o c S).1)
section
variable{ca:Ń->À}{Jc:Ń->Ct}{W:Wd}{d k:Ń}
theorem LX.to(B:LX ca Jc W):LX ca j W:=(B.bl,B.gl,B.tab,B.cls,B.exc)
theorem uI(B:LX ca (Jl Jc d d) W)(S:SX ca W)(D:DI ca (Jl Jc d d) W 401 k):DI ca (Jl Jc d d) W 400 (k+2):=by erw[B.Mj 5 a5 [] [401] (.foT (.one 4) (.rev 1) (.dput 2 (.fld 3 2 0) 4<|>.dput 3 (.fld 3 5 0) 4<|>.one (.set 2 (.me 401 0 (.u3 4 2 3))))<|>.re 2) S.aie rfl Ť (D,Ť) λds h Q X c=>?_];induction c with|@mk b S wi T n m o c x Q X C Y ok u F G H q=>
  erw[(Ŗ,?_)];let v:((jh T n).reverse.map iP).map Dv.p=((jh T n).map iP).reverse.map Dv.p:=by rw[<-List.map_reverse]
  suffices L:∀P:Pw,(∀s,P (gW b s) (((jh T n).reverse.map iP).map .p))->K7 (.one 4) P (om (oM (sV 2) (s1 (HN 3 2) (sV 0)) (sV 4)) (om (oM (sV 3) (s1 (HN 3 5) (sV 0)) (sV 4)) (zF 2 (wf 3 (J4 d) (sV 0) (bj (sV 4) (bj (sV 2) (bj (sV 3) dB))))))) ((iR a5 (Á (gW b S)) Q X).sq (qj (sV 2))) [O (.r 0),O x,O (.p (eV o)),O (.p (eV c)),ao] (gW b S)by
   rcases F with rfl|⟨j,rfl,I⟩;.rwa[L (λ_ K=>K=((jh T n).map iP).reverse.map .p) λ_=>v]
   .let w:∀s,HH (gW b s) (.r (j+8))=O (((jh T n).map iP).map .p):=λs=>by delta HH;rw[Ze (h:=gW b s) (l:=j+8) (show b.ls[j]?=_ from I)]
    erw[aZ (w S) (L _ λs=>(?_,?_))];.rw[w,v,<-List.map_reverse,List.reverse_reverse]
    .rw[ae,ae,iN,ae,ae]
  intro P M;erw[Fu _ (λ_=>JL b S T n o c x) (.mk (us:=T) (vs:=[]) (v4:=ao) (aV _).symm Ŗ) (λpre post a z j=>by induction j with|mk E e=>rwa[M _]) (λpre y post a z ex j=>?_) λa z j=>?_];.induction j with|@mk us vs v4 E e=>
   subst E;rcases ĕ us with rfl|⟨us,t,rfl⟩;.cases e
   rw[Fa]at e Y ok u H⊢;rw[Ba,show jh [t] (n+dc us)=[n+dc us]from Ŗ,List.reverse_append,List.reverse_singleton,List.singleton_append,cF]at e;injection e with e N;subst e N;let Z:dc (us++[t])=dc us+t.sz:=by rw[qq];delta dc;show _+(_+dc [])=_;delta dc;exact(dD _ _ _).symm
   let(R,A):=ye (ye Y).1;let(U,g):=zh (zh ok).1;rw[yu,yu]at u;let hd2:max t.d 0=dL [t]:=by delta dL;show _=max t.d (dL []);rfl
   rw[qq]at H;rw[Z]at H⊢;rw[<-dD];let i:=gD vs (n+dc us+t.sz) o c S m G;generalize hp:d7 vs _ o c S=p at i;let e5:d7 (t::vs) (n+dc us) o c S=kP t (n+dc us) p.2 c {p.1 with bh:=eI (n+dc us) p.2 p.1.bh,ct:=eI (n+dc us) c p.1.ct}:=by rw[<-hp];rfl
   let(l1,l2,l3,l4):=id i;erw[Fi (λ_ q=>q) (λ_ q=>q) (λ_ q=>q) rfl () rfl ?_];dsimp only[En.sq];erw[Fi (l:=p.1.ct) (λ_ q=>q) (λ_ q=>q) (λ_ q=>q) rfl () rfl ?_];erw[.mk C A.1 (ag g).1 () (VN i) () ?_];let f:JL b S (us++[t]++vs) n o c x _ _ _:=.mk (vs:=t::vs) (v4:=O (.p (iP (n+dc us)))) (by rw[bA];rfl) Ŗ;rw[e5]at f;rwa[f]
  .induction j with|@mk us vs v4 E e=>subst E;induction us with|g t us=>let:=bL Á e;rw[ae,iN]at this;cases this|f=>done
theorem yA{h':Hs}(H:∀Q:KP,Q [.p (eV v)] h->A N.xc σ h0 Q)(a:∀Q:KP,Q [.r i] h->B N.xc σ h Q)(b:∀Q:KP,Q [.p (.I k)] h->C N.xc σ h Q)(hi:h[i]?=O (.C (vR l) (EE l)))(e:l.length<=500000)(c:h.set i (.C (vR (eI k v l)) (EE (eI k v l)))=h')(q:N.nx σ h'):oM A B C N σ h0:=by erw[H _ (a _ (b _ ?_))];simp only[hi];erw[bI (mH (bv.mpr (by delta vR;rw[ae];rwa[bM ‹_› ⋯]))) ?_];rw[KL,KN,c];rwa[q]
theorem AE{k:Ő Ń}(w:PB b wi)(c:∀a:KP,a [.r 1] (gW b S)->A X σ (gW b S) a)(e:∀a:KP,a [.p (eV k)] (gW b S)->B X σ (gW b S) a)(f:∀a:KP,a [.p (.L [])] (gW b S)->C X σ (gW b S) a)(q:∀x,EL b x (wi k)->Q [x] (gW b S)):NU A B C X σ (gW b S) Q:=by
 erw[c _ (bI Ŗ (e _ ?_))];let H:∃κ,jY (eV k)=O κ:=by induction k<;>exact(_,Ŗ)
 let(κ,H):=H;erw[aZ H (f _ (aZ Ŗ ?_))];let h:=w k;revert h;induction lP _ _ _ with|a=>intro h;rwa[q _ (.inl (by rw[h];rfl))]|c d=>intro h;let(j,rfl,g):=h;rwa[q _ (.inr (j,Ŗ,g))]
theorem Zk(h:EL b x l):nh (gW b S) x=O (l.map iP):=by
 rcases h with rfl|⟨j,rfl,H⟩;.rfl
 .rwa[Ze H]
theorem rB{lo:Ő Î}(h:EL b x l)(q:Q (.p (.L (d5 (l.map iP) lo hi))) (gW b S)):nG x lo hi (gW b S) Q:=by
 rcases h with rfl|⟨j,rfl,H⟩;.rwa[q]
 .show(match nh _ _ with|O X=>Q _ _|ao=>ŧ);rw[Zk (.inr (j,Ŗ,H))];rwa[q]
theorem kQ:∀{T:Ł Tr}{n:Ń},(jh T n).length=T.length|[],_=>Ŗ|t::r,n=>bL _ kQ
theorem jB:∀{T:Ł Tr},(eE T).length=T.length|[]=>Ŗ|t::r=>by rwa[bL _ jB]
theorem yt{b:Ϙ}(h:a.length=k):d5 ((a++b).map iP) ao (O k)=a.map iP:=by show(((a++b).map iP).take k).drop 0=_;rw[fj,aD,<-h,<-ae,nU]
theorem E6{b:Ϙ}(h:a.length=k):d5 ((a++b).map iP) (O k) ao=b.map iP:=by show((a++b).map iP).drop k=_;rw[aD,<-h,<-ae,List.drop_left]
theorem abt{c:Ń}{st:É}(r:gK W.K (L.ca (c/100-1)) (L.S.sH c) l st ps)(a:Ë 100 c)(no:∀ds h Q x,¬L.ma c ds h Q x):Di L W c k:=by let(f,F,e,m,b):=r.ex;let n:∀v H Q E,¬dI (L.y W) (L.ma c) v H Q E:=λv H Q E z=>(by let(_,_,_,_,_,_,_,_,c,_,_):=z;rwa[no _ _ _ _ c]);exact(ps,by delta ky;rw[a];exact(f,F,(λv H Q E q=>Ă q (n v H Q E),λA o s H args u v Q E _ _ _ _ q=>Ă q (n v H Q E)),m,b))
seal NU oM nG in
theorem Hi(B:LX ca (Jl Jc d (d+1)) W)(S:SX ca W)(h:1<=k)(D:DI ca (Jl Jc d (d+1)) W 400 k):DI ca (Jl Jc d (d+1)) W 401 (k+2):=by erw[B.Mj 9 a5 [(0,û)] [400] (.set 4 (.ix (.fld 3 0 0) 1)<|>.set 5 (.cl 0 [] (.u 4))<|>.iff (.cmp ki (.bi eT (.u 5)) (.i 0)) (.re 1) .nil<|>.set 6 (.Θ (.fld 3 1 0) 1 (.lst .nil))<|>.set 7 (.sl 6 .no (.of (.bi eT (.u (.ix 5 (.i 0))))))<|>.set 8 (.sl 6 (.of (.bi eT (.u (.ix 5 (.i 0))))) .no)<|>.iff (.cmp ki (.ix 4 (.i 0)) (.s "while")) (.dput (.me 400 0 (.u3 7 1 3)) (.fld 3 3 0) 1<|>.re 1) .nil<|>.dput (.me 400 0 (.u3 8 2 3)) (.fld 3 4 0) 1<|>.iff (.cmp ki (.ix 4 (.i 0)) (.s "if")) (.dput (.me 400 0 (.u3 7 2 3)) (.fld 3 3 0) 1<|>.re 1) .nil<|>.re (.me 400 0 (.u3 7 2 1))) S.acI rfl ((E7 B S).le (cH ‹_›),Ť) (D,Ť) λds h Q X c=>?_];induction c with|@mk b S wi t n m o c Q X w Y ok j e C q=>
  let G:b.rw[n]?=O t.r:=by cases t with|lf r=>delta wM at Y;delta Tr.r;rwa[Y]|ii v x y=>delta wM at Y;delta Tr.r;rwa[Y.1]|wh v x=>delta wM at Y;delta Tr.r;rwa[Y.1]|tr x z y=>delta wM at Y;delta Tr.r;rwa[Y.1]
  erw[(Ŗ,aZ (iZ G) (.mk ok ?_))];cases t with|lf r=>delta kP at q;rwa[q]|wh v a=>delta wM at Y;delta Tr.d at j;delta Tr.sz at C;let(_,f,g):=Y;let A:=gD a (n+1) (O n) c S m e;delta kP at q;erw[AE (k:=O n) w (λ_ q=>q) (λ_ q=>q) (λ_ q=>q) λx H=>?_];rw[f,<-aV (jh a (n+1))]at H;erw[rB (S:=S) H ?_];erw[rB (S:=S) H ?_];erw[yA (h:=gW b (d7 a (n+1) (O n) c S).1) (v:=(d7 a (n+1) (O n) c S).2) (k:=n) (i:=3) (l:=(d7 a (n+1) (O n) c S).1.fs) (λQ q=>ux.mk (o:=O n) w g ok (dS ‹_›) (.inl (by rw[yt (by rw[kQ,jB])])) e () q) (λ_ q=>q) (λ_ q=>q) rfl (by let:=A.2.1;lia) (h':=gW b {(d7 a (n+1) (O n) c S).1 with fs:=eI n (d7 a (n+1) (O n) c S).2 (d7 a (n+1) (O n) c S).1.fs}) rfl ?_];rwa[q]|ii v x y=>delta wM at Y;delta Tr.d at j;delta Tr.sz at C;delta Tr.ok at ok;let(_,f,g,E):=Y;let A:=gD y (n+1+dc x) o c S m e;let L:=gD x (n+1) o c {(d7 y (n+1+dc x) o c S).1 with sc:=eI n (d7 y (n+1+dc x) o c S).2 (d7 y (n+1+dc x) o c S).1.sc} _ (A5 A);delta kP at q;dsimp only at q;erw[AE (k:=O n) w (λ_ q=>q) (λ_ q=>q) (λ_ q=>q) λz H=>?_];rw[f]at H;erw[rB (S:=S) H ?_];erw[rB (S:=S) H ?_];generalize F:d7 y (n+1+dc x) o c S=p at q A L;erw[yA (h:=gW b p.1) (v:=p.2) (k:=n) (i:=4) (l:=p.1.sc) (λQ q=>ux.mk (o:=o) w E (ag ok).2 () (.inl (by rw[E6 (by rw[kQ,jB])])) e () (by rw[F];rwa[q])) (λ_ q=>q) (λ_ q=>q) rfl (by let:=A.2.2.1;lia) (h':=gW b {p.1 with sc:=eI n p.2 p.1.sc}) rfl ?_];generalize I:d7 x (n+1) o c {p.1 with sc:=eI n p.2 p.1.sc}=P at q L;erw[yA (h:=gW b P.1) (v:=P.2) (k:=n) (i:=3) (l:=P.1.fs) (λQ q=>ux.mk (o:=o) w g (ag ok).1 () (.inl (by rw[yt (by rw[kQ,jB])])) (A5 A) () (by rw[I];rwa[q])) (λ_ q=>q) (λ_ q=>q) rfl (by let:=L.2.1;lia) (h':=gW b {P.1 with fs:=eI n P.2 P.1.fs}) rfl ?_];rwa[q]|tr x s y=>delta wM at Y;delta Tr.d at j;delta Tr.sz at C;delta Tr.ok at ok;let(_,f,g,E):=Y;let A:=gD y (n+1+dc x) o c S m e;delta kP at q;dsimp only at q;erw[AE (k:=O n) w (λ_ q=>q) (λ_ q=>q) (λ_ q=>q) λz H=>?_];rw[f]at H;erw[rB (S:=S) H ?_];erw[rB (S:=S) H ?_];generalize F:d7 y (n+1+dc x) o c S=p at q A;erw[yA (h:=gW b p.1) (v:=p.2) (k:=n) (i:=4) (l:=p.1.sc) (λQ q=>ux.mk (o:=o) w E (ag ok).2 () (.inl (by rw[E6 (by rw[kQ,jB])])) e () (by rw[F];rwa[q])) (λ_ q=>q) (λ_ q=>q) rfl (by let:=A.2.2.1;lia) (h':=gW b {p.1 with sc:=eI n p.2 p.1.sc}) rfl ?_];rwa[ux.mk (o:=o) (c:=O n) w g (ag ok).1 () (.inl (by rw[yt (by rw[kQ,jB])])) (A5 A) () q]
theorem XH(B:LX ca Jc W)(S:SX ca W):∀d:Ń,DI ca (Jl Jc d d) W 400 (4*d+4):=λd=>by
 let o:∀d:Ń,DI ca (Jl Jc d d) W 401 (4*d+2)/\DI ca (Jl Jc d d) W 400 (4*d+4):=λd=>by
  induction d with|h=>
   let h:DI ca (Jl Jc 0 0) W 401 2:=abt S.acI Ŗ λds h Q x c=>by induction c with|mk _ _ _ H=>left
   exact(h,uI (LX.to B) S h)|j d i=>let h:DI ca (Jl Jc d _) W 401 _:=Hi (LX.to B) S (aH _ _) i.2;exact(h,uI (LX.to B) S h)
 exact(o d).2
end
abbrev Ws:=Ł (Ő Ń×Ϙ)
def qP(o:Ő Ń)(n:Ń):Ws->Ws|[]=>[(o,[n])]|p::r=>if p.1=o then(p.1,p.2++[n])::r else p::qP o n r
def Jo(o:Ő Ń):Ws->Ő Ϙ|[]=>ao|p::r=>if p.1=o then O p.2 else Jo o r
def yV(ws:Ws):ϑ:=ws.map λp=>eV p.1
def wA(ws:Ws):Ł Ob:=ws.map λp=>.L (p.2.map iP)
def yE:Ń->Ń->Ł Dv|0,_=>[]|k+1,o=>.r o::yE k (o+1)
def VL:kM (eV a) (eV b)=Đ (a=b):=by induction a with
 |a=>cases b with|a=>rfl|c b=>rfl
 |c a=>induction b with|a=>rfl|c b=>show mr a b=_;rw[yH];induction h:Ì a b with|d=>rw[cJ (by rw[aX h])]|e=>rw[cq λz=>nofun]
theorem EQ:∀(ws:Ws)(off:Ń),lP (eV o) (yV ws) (yE ws.length off)=ao/\qP o n ws=ws++[(o,[n])]\/∃j l,lP (eV o) (yV ws) (yE ws.length off)=O (.r (j+off))/\ws[j]?=O (o,l)/\qP o n ws=ws.set j (o,l++[n])
 |[],off=>.inl (Ŗ,Ŗ)|p::r,off=>by
  let e:lP (eV o) (yV (p::r)) (yE (p::r).length off)=match kM (eV p.1) _ with|J=>O _|a5=>lP _ (yV r) _:=Ŗ;rw[e,VL];delta qP;by_cases h:p.1=o;.rw[b9 h];rwa[.inr (0,p.2,(),by rw[<-h];rfl,by rw[<-h];rfl)]
  .rw[cq h,bS h];rcases EQ r _ with ⟨a,H⟩|⟨j,l,a,H,b⟩;.rwa[.inl (a,by rw[H];rfl)]
   .rwa[.inr (j+1,l,(),H,by rw[b];rfl)]
theorem Gc{o:Ő Ń}:∀(ws:Ws)(off:Ń),match lP (eV o) (yV ws) (yE ws.length off)with|ao=>(Jo o ws).getD []=[]|O d=>∃j,d=.r (j+off)/\(wA ws)[j]?=O (.L (((Jo o ws).getD []).map iP))
 |[],off=>Ŗ|p::r,off=>by
  let e:lP (eV o) (yV (p::r)) (yE (p::r).length off)=match kM (eV p.1) _ with|J=>O _|a5=>lP _ (yV r) _:=Ŗ;rw[e,VL];delta Jo;by_cases h:p.1=o;.rw[cJ h,b9 h];exact(0,(),Ŗ)
  .rw[cq h,bS h];let:=Gc (o:=o) r (off+1);revert this;induction lP _ _ _ with|a=>lia|c d=>rwa[λz=>by let(j,a,H):=z;exact(j+1,(),H)]
theorem L8:∀(ws:Ws),(Jo k (qP o n ws)).getD []=if o=k then(Jo k ws).getD []++[n]else(Jo k ws).getD []
 |[]=>by show(if o=k then O [n]else ao).getD []=if o=k then[]++[n]else[];split<;>rfl|p::r=>by
  delta qP;by_cases h:p.1=o
  .rw[b9 h];delta Jo;by_cases H:p.1=k;.rw[b9 H,b9 H,b9 (h.symm.trans H)];rfl
   .lia
  .rw[bS h];delta Jo;by_cases H:p.1=k;.lia
   .rw[bS H,bS H];rwa[L8 r]
def wn:Ł (Rw×Ő Ń)->Ń->Ws->Ws|[],_,ws=>ws|(.df _,_)::r,n,ws=>wn r (n+1) ws|(_,o)::r,n,ws=>wn r (n+1) (qP o n ws)
def w9:Ł (Rw×Ő Ń)->Ń->Ł (Ä×Ń)|[],_=>[]|(.df z,_)::r,n=>(z,n)::w9 r (n+1)|_::r,n=>w9 r (n+1)
def qy(k:Ő Ń):Ł (Rw×Ő Ń)->Ń->Ϙ|[],_=>[]|(.df _,_)::r,n=>qy k r (n+1)|(_,o)::r,n=>if o=k then n::qy k r (n+1)else qy k r (n+1)
def De:Rw->Þ|.df _=>J|_=>a5
def sg(h:De r=a5):wn ((r,o)::l) n ws=wn l (n+1) (qP o n ws)/\w9 ((r,o)::l) n=w9 l (n+1)/\∀k,qy k ((r,o)::l) n=if o=k then n::qy k l (n+1)else qy k l (n+1):=by induction r<;>first|exact(Ŗ,Ŗ,λ_=>Ŗ)|cases h
theorem EG:∀(l:Ł _)(n:Ń)(ws:Ws),(Jo k (wn l n ws)).getD []=(Jo k ws).getD []++qy k l n|[],n,ws=>by show _=_++[];rw[aV];rfl|(r,o)::l,n,ws=>by induction h:De r with
  |d=>induction r<;>first|rwa[EG l _ ws]|cases h
  |e=>
   let(H,_,a):=sg h;rw[H,a,EG,L8];split;.simp
   .rfl
def PR(o:Ő Ń)(n:Ń):ß:=∀m,o=O m->m<n
def out(k:Ő Ń)(n s:Ń):ß:=∀m,k=O m->m<n\/n+s<=m
theorem fL:∀{l m:Ł _}{n:Ń},qy k (l++m) n=qy k l n++qy k m (n+l.length)
 |[],m,n=>Ŗ|(r,o)::l,m,n=>by
  let e:n+1+l.length=n+(l.length+1):=()
  induction h:De r with
  |d=>induction r<;>first|(show qy k (l++m) _=qy k l _++qy k m (n+(l.length+1));rw[fL,e])|cases h
  |e=>
   rw[qH,(sg (ws:=[]) h).2.2,(sg (ws:=[]) h).2.2,fL,e];split;.rfl
   .rfl
def gY(H:o≠k):qy k ((r,o)::l) n=qy k l (n+1):=by induction h:De r with
 |d=>induction r<;>first|rfl|cases h
 |e=>rw[(sg (ws:=[]) h).2.2,bS H]
mutual
theorem EZ:∀(t:Tr)(n:Ń)(o k:Ő Ń),o≠k->out k n t.sz->qy k (oG t n o) n=[]
 |.lf r,n,o,k,h,u=>by delta oG;rw[gY h];rfl|.ii v a b,n,o,k,h,u=>by
  delta oG;delta Tr.sz at u;let hn:O n≠k:=λz=>by let:=u n z.symm;lia
  rw[gY h,fL,fA a _ _ _ hn λm e=>by let:=u m e;lia,cI,fA b _ _ _ hn λm e=>by let:=u m e;lia];rfl|.wh v a,n,o,k,h,u=>by
  delta oG;delta Tr.sz at u;let hn:O n≠k:=λz=>by let:=u n z.symm;lia
  rw[gY h,fA a _ _ _ hn λm e=>by let:=u m e;lia]|.tr a z b,n,o,k,h,u=>by
  delta oG;delta Tr.sz at u;let hn:O n≠k:=λz=>by let:=u n z.symm;lia
  rw[gY h,fL,fA a _ _ _ hn λm e=>by let:=u m e;lia,cI,fA b _ _ _ hn λm e=>by let:=u m e;lia];rfl
theorem fA:∀(T:Ł Tr)(n:Ń)(o k:Ő Ń),o≠k->out k n (dc T)->qy k (hZ T n o) n=[]|[],n,o,k,h,u=>by delta hZ;rfl|t::r,n,o,k,h,u=>by delta hZ;delta dc at u;rw[fL,EZ t _ _ _ h λm e=>by let:=u m e;lia,j7,fA r _ _ _ h λm e=>by let:=u m e;lia];rfl
end
def ϋ{t:Tr}(h:t.ok):De t.r=false:=by cases t with
 |lf r=>induction r<;>first|rfl|cases h
 |ii v a b=>rfl|wh v a=>rfl|tr a z b=>rfl
theorem EY(h:o≠k):∀(ps:Ł _)(n:Ń),out k n (Bz ps)->qy k (CK ps n o) n=[]|[],n,u=>Ŗ|t::r,n,u=>by let u:out k n (dc t+Bz r):=u;show qy k (hZ t n o++CK r _ o) n=[];rw[fL,fA t _ _ _ h λm e=>by let:=u m e;lia,cI,EY h r _ λm e=>by let:=u m e;lia];rfl
def Qe(h:t.ok)(b:PR o n):qy o (oG t n o) n=[n]:=by rw[K5,(sg (ws:=[]) (ϋ h)).2.2,b9 Ŗ,EY (λz=>by let:=b n z.symm;rwa[Ă ‹_› (cM _)]) _ _ λm e=>by let:=b m e;lia]
theorem j5:∀(T:Ł Tr)(n:Ń)(o:Ő Ń),mG T=J->PR o n->qy o (hZ T n o) n=jh T n|[],n,o,h,b=>by rfl|t::r,n,o,h,b=>by rw[hZ,fL,Qe (ag h).1 b,j7,j5 r _ _ (ag h).2 λm e=>by let:=b m e;rwa[aq ‹_› (aQ _ _)]];rfl
structure EJ(R:Ł Rw)(wi:Ő Ń->Ϙ)(l:Ł (Rw×Ő Ń))(n:Ń):ß where at':∀i p,l[i]?=O p->R[n+i]?=O p.1W':∀m,n<=m->m<n+l.length->wi (O m)=qy (O m) l n
section
variable{R:Ł Rw}{wi:Ő Ń->Ϙ}
def EJ.left(a:EJ R wi (l++m) n)(h:∀j,n<=j->j<n+l.length->qy (O j) m (n+l.length)=[]):EJ R wi l n:=(λi p e=>a.at' i p (by rw[aT (ar.mp e).1];rwa[e]),λj H b=>by rw[a.W' j H (by rw[aj];lia),fL,h j H b,aV])
def EJ.right(a:EJ R wi (l++m) n)(h:∀j,n+l.length<=j->qy (O j) l n=[]):EJ R wi m (n+l.length):=(λi p e=>by let:=a.at' _ p (by rw[aK (aQ _ _),fV];rwa[e]);rw[dD];rwa[this],λj H b=>by rw[a.W' j (aq (aQ _ _) ‹_›) (by rw[aj];lia),fL,h j H];rfl)
def EJ.tail(a:EJ R wi ((r,o)::l) n)(b:PR o n):EJ R wi l (n+1):=(λi p e=>by rw[dD,Nat.add_comm 1 i];rwa[a.at' _ p e],λj h H=>by rw[a.W' j (dF ‹_›) (by rw[aO];lia),gY λz=>by let:=b j z;lia])
mutual
theorem W8:∀(t:Tr)(n:Ń)(o:Ő Ń),t.ok=J->PR o n->EJ R wi (oG t n o) n->wM R wi t n
 |.lf r,n,o,h,b,a=>by delta oG at a;delta wM;rwa[a.at' 0 _ Ŗ]|.ii v x y,n,o,h,b,a=>by
  delta Tr.ok at h;delta oG at a;let H:PR (O n) (n+1):=λm e=>by cases e;rwa[ah _]
  let w:=a.W' n (ah _) (by rw[aO];lia);rw[gY λz=>by let:=b n z;rwa[Ă ‹_› (cM _)],fL,j5 x _ _ (ag h).1 H,cI,j5 y _ _ (ag h).2 λm e=>by cases e;rwa[aQ _ _]]at w;let a1:=a.tail b;let l1:=a1.left λj c f=>by rw[cI]at f⊢;rwa[fA y _ _ _ (λz=>by cases z;rwa[Ă ‹_› (cM _)]) λm e=>by cases e;lia]
  let d:=a1.right λj c=>fA x _ _ _ λz=>by cases z;lia (λm e=>by cases e;rw[cI]at c;lia);rw[cI]at d;delta wM;exact(a.at' 0 _ Ŗ,w,mO x _ _ (ag h).1 H l1,mO y _ (O n) (ag h).2 (λm e=>by cases e;rwa[aQ _ _]) d)|.wh v x,n,o,h,b,a=>by
  delta Tr.ok at h;delta oG at a;let H:PR (O n) (n+1):=λm e=>by cases e;rwa[ah _]
  let w:=a.W' n (ah _) (by rw[aO];lia);rw[gY λz=>by let:=b n z;rwa[Ă ‹_› (cM _)],j5 x _ _ h H]at w;delta wM;exact(a.at' 0 _ Ŗ,w,mO x _ _ h H (a.tail b))|.tr x z y,n,o,h,b,a=>by
  delta Tr.ok at h;delta oG at a;let H:PR (O n) (n+1):=λm e=>by cases e;rwa[ah _]
  let w:=a.W' n (ah _) (by rw[aO];lia);rw[gY λz=>by let:=b n z;rwa[Ă ‹_› (cM _)],fL,j5 x _ _ (ag h).1 H,cI,j5 y _ _ (ag h).2 λm e=>by cases e;rwa[aQ _ _]]at w;let a1:=a.tail b;let l1:=a1.left λj c f=>by rw[cI]at f⊢;rwa[fA y _ _ _ (λz=>by cases z;rwa[Ă ‹_› (cM _)]) λm e=>by cases e;lia]
  let d:=a1.right λj c=>fA x _ _ _ λz=>by cases z;lia (λm e=>by cases e;rw[cI]at c;lia);rw[cI]at d;delta wM;exact(a.at' 0 _ Ŗ,w,mO x _ _ (ag h).1 H l1,mO y _ (O n) (ag h).2 (λm e=>by cases e;rwa[aQ _ _]) d)theorem mO:∀(T:Ł Tr)(n:Ń)(o:Ő Ń),mG T=J->PR o n->EJ R wi (hZ T n o) n->Ae R wi T n
 |[],n,o,h,b,a=>Ť|t::r,n,o,h,b,a=>by
  let h:(t.ok&&mG r)=true:=h;delta hZ at a;let l1:=a.left λj c f=>by rw[j7]at f⊢;rwa[fA r _ _ _ (λz=>by let:=b j z;rwa[Ă ‹_› (Nat.not_lt_of_le ‹_›)]) λm e=>by cases e;lia]
  let d:=a.right λj c=>EZ t _ _ _ λz=>by let:=b j z;lia (λm e=>by cases e;rw[j7]at c;lia);rw[j7]at d;delta Ae;exact(W8 t n o (ag h).1 b l1,mO r _ o (ag h).2 (λm e=>by let:=b m e;rwa[aq ‹_› (aQ _ _)]) d)end
def Vc(R:Ł Rw)(wi:Ő Ń->Ϙ):Ł Fn->Ń->ß|[],_=>æ|x::r,n=>(R[n]?=O (.df x.f)/\wi (O n)=jh x.rs (n+1)/\Ae R wi x.rs (n+1))/\Vc R wi r (n+1+dc x.rs)
theorem pN:∀(fs:Ł Fn)(n:Ń),out k n (eY fs)->qy k (qB fs n) n=[]|[],n,u=>Ŗ|x::r,n,u=>by let u:out k n (1+dc _+eY r):=u;show qy k (hZ _ _ _++qB r _) _=[];rw[fL,fA _ _ _ _ λz=>by let:=u n z.symm;lia λm e=>by let:=u m e;lia,cI,pN r _ λm e=>by let:=u m e;lia];rfl
theorem JU:∀(fs:Ł Fn)(n:Ń),(∀x∈fs,mG x.rs=J)->EJ R wi (qB fs n) n->Vc R wi fs n
 |[],n,h,a=>Ť|x::r,n,h,a=>by
  let a:EJ R wi ((.df x.f,ao)::(hZ _ _ _++qB r _)) n:=a;let hx:=h x aF;let H:PR (O n) (n+1):=λm e=>()
  let w:=a.W' n (ah _) (by rw[aO];lia);rw[gY λz=>(),fL,j5 _ _ _ hx H,cI,pN r _ λm e=>(),aV]at w;let a1:=a.tail λm e=>()
  let b:=a1.right λj c=>fA _ _ _ _ λz=>by lia (λm e=>by rw[cI]at c;lia);rw[cI]at b;exact((a.at' 0 _ Ŗ,w,mO _ _ _ hx H (a1.left λj c d=>by rw[cI]at d⊢;rwa[pN r _ λm e=>()])),JU r _ (λy g=>h y (aE _ g)) b)
end
def Pg.wi(g:Pg)(k:Ő Ń):Ϙ:=qy k g.fl 0
def Pg.at'{g:Pg}(h:∀x∈g.fs,mG x.rs=J)(H:mG g.rs):Vc (g.fl.map (·.1)) g.wi g.fs 0/\Ae (g.fl.map (·.1)) g.wi g.rs (eY g.fs)/\g.wi ao=jh g.rs (eY g.fs):=by let a:EJ (g.fl.map (·.1)) g.wi _ 0:=(λi p e=>nofun,λm _ _=>Ŗ);let r:=a.right λj b=>pN _ _ (λm e=>by cases e;rw[iJ]at b;lia);rw[iJ,cR]at r;erw[(JU _ _ h (a.left λj b H=>by rw[iJ,cR]at H⊢;rwa[fA _ _ _ _ (λz=>by cases z) λm e=>()]),mO _ _ _ H (λm e=>by cases e) r,?_)];show qy _ (qB _ 0++hZ _ _ _) 0=_;rw[fL,pN _ 0 (λm e=>by cases e),iJ,cR,j5 _ _ _ H λm e=>by cases e];rfl
def Q6{i:Ń}{o:Ø}{k us:ϑ}{a:Pv->Es->Ő Es}{b:Ss}{N:En}{σ:Es}{h:Hs}(Jc:ϑ->ϑ->Es->Hs->ß)(g:Jc [] k σ h)(d:∀pre post σ' h',Jc pre post σ' h'->h'[i]?=O (.F o k us))(step:∀pre x post σ' h',k=pre++x::post->Jc pre (x::post) σ' h'->match a x σ' with|O c=>b ((vr (jp i o k us N)).lp (lM (Á h) (Jc (pre++[x]) post)) (lM (Á h) (jp i o k us N).nx)) c h'|ao=>ŧ)(f:∀σ' h',Jc k [] σ' h'->N.nx σ' (h'.set i (.C k us))):Q5 i o k us a b N σ h:=by
 delta Q5;erw[(λj σ' h'=>Jc (k.take j) (k.drop j) σ' h',by done,λj σ' h' w=>d _ _ _ _ w,λj x σ' h' H w=>?_,λσ' h' w=>f σ' h' nofun)];let(l,e):=ar.mp H;let E:k.drop j=x::k.drop (j+1):=by rw[<-e,jO]
 let z:=step _ x _ σ' h' (qX H) (E▸w);rw[<-wL H]at z;rwa[z]
def ue{h':Hs}(H:∀Q:KP,Q [.p v] h->A N.xc σ h0 Q)(a:∀Q:KP,Q [.r i] h->B N.xc σ h Q)(b:∀Q:KP,Q [.p (.S z)] h->C N.xc σ h Q)(hi:h[i]?=O (.C k us))(f:nZ (.S z) k=a5)(l:k.length<=500000)(c:h.set i (.C (k++[.S z]) (us++[v]))=h')(q:N.nx σ h'):oM A B C N σ h0:=by erw[H _ (a _ (b _ ?_))];simp only[hi];erw[bI (mH (bv.mpr (bM ‹_› ⋯))) ?_];delta oE oF;rw[f];simp only[c];rwa[q]
def cS{α:Type}(f:α->Pv)(l:Ł (Ä×α)):Ob:=.C (l.map λp=>.S p.1) (l.map λp=>f p.2)
theorem uK{α:Type}:∀{l:Ł (Ä×α)},z∉l.map (·.1)->nZ (.S z) (l.map λp=>Pv.S p.1)=a5|[],_=>Ŗ|p::r,h=>by rw[cF,aw,not_or]at h;show(cC p.1 z||nZ _ _)=a5;rw[uK h.2,bF.mpr λe=>h.1 (bQ.mp e).symm];rfl
theorem vi:∀{l:Ł _}{p:Ä×α},(l.map (·.1)).Nodup->p∈l->iU p.1 l=O p.2
 |q::r,p,n,h=>by
  let(N,a):=dA.mp n;show(match cC q.1 p.1 with|J=>O q.2|a5=>iU p.1 r)=_;rcases aw.mp h with rfl|h;.rw[bQ.mpr Ŗ]
  .rw[bF.mpr λe=>N (cx.mpr (p,h,(bQ.mp e).symm))];rwa[vi a h]
def mT:Ł Fn->Ń->Ł (Ä×Ń)|[],_=>[]|x::r,n=>(x.f,n)::mT r (n+1+dc x.rs)
theorem pT:∀{fs:Ł Fn}{n:Ń},(mT fs n).map (·.1)=fs.map Fn.f|[],_=>Ŗ|x::r,n=>bL (x.f::·) pT
theorem lO:∀{l m:Ł _}{n:Ń},w9 (l++m) n=w9 l n++w9 m (n+l.length)
 |[],m,n=>Ŗ|(r,o)::l,m,n=>by
  let e:n+1+l.length=n+(l.length+1):=()
  induction h:De r with
  |d=>induction r<;>first|(show _::w9 (l++m) _=_::(w9 l _++w9 m (n+(l.length+1)));rw[lO,e])|cases h
  |e=>rw[qH,(sg (ws:=[]) h).2.1,(sg (ws:=[]) h).2.1,lO,e];rfl
mutual
theorem X2:∀(t:Tr)(n:Ń)(o:Ő Ń),t.ok=J->w9 (oG t n o) n=[]
 |.lf r,n,o,h=>by delta Tr.ok at h;delta oG;cases r<;>first|rfl|cases h
 |.ii v a b,n,o,h=>by delta Tr.ok at h;delta oG;show w9 (_++_) (n+1)=[];rw[lO,mU a _ _ (ag h).1,cI,mU b _ _ (ag h).2];rfl|.wh v a,n,o,h=>by delta Tr.ok at h;delta oG;rwa[mU a _ _ h]|.tr a z b,n,o,h=>by delta Tr.ok at h;delta oG;show w9 (_++_) (n+1)=[];rw[lO,mU a _ _ (ag h).1,cI,mU b _ _ (ag h).2];rfl
theorem mU:∀(T:Ł Tr)(n:Ń)(o:Ő Ń),mG T=J->w9 (hZ T n o) n=[]|[],n,o,h=>by delta hZ;rfl|t::r,n,o,h=>by let h:(t.ok&&mG r)=true:=h;delta hZ;rw[lO,X2 t _ _ (ag h).1,j7,mU r _ _ (ag h).2];rfl
end
theorem Vp:∀(fs:Ł Fn)(n:Ń),(∀x∈fs,mG x.rs=J)->w9 (qB fs n) n=mT fs n|[],n,h=>Ŗ|x::r,n,h=>by show(x.f,n)::w9 _ _=(x.f,n)::mT r _;rw[lO,mU _ _ _ (h x aF),cI,Vp r _ λy H=>h y (aE _ H)];rfl
def Pg.abq{g:Pg}(h:∀x∈g.fs,mG x.rs=J)(H:mG g.rs):w9 g.fl 0=mT g.fs 0:=by show w9 (qB _ 0++hZ _ _ _) 0=_;rw[lO,Vp _ _ h,iJ,cR,mU _ _ _ H,aV]
def jf:Ł Fn->Ń->Ly->Ł (Ä×Ő Ń)->Ly×Ł (Ä×Ő Ń)|[],_,S,st=>(S,st)|x::r,n,S,st=>jf r (n+1+dc x.rs) (d7 x.rs (n+1) ao ao S).1 (st++[(x.f,(d7 x.rs (n+1) ao ao S).2)])
def sS:Ly:=([],[],[],[])
def Pg.lf(g:Pg):Ly×Ł (Ä×Ő Ń):=jf g.fs 0 sS []
def Pg.lr(g:Pg):Ly×Ő Ń:=d7 g.rs (eY g.fs) ao ao g.lf.1
def Pg.st(g:Pg):Ł (Ä×Ő Ń):=g.lf.2++[(("":Ä),g.lr.2)]
def Pg.ws(g:Pg):Ws:=wn g.fl 0 []
def pb(g:Pg)(ws:Ws)(d st:Ob):Pb:=(g.fl.map (·.1),yV ws,yE ws.length 8,d,st,wA ws)
def Pg.U0{st:Ob}:PB (pb g g.ws d st) g.wi:=λk=>by
 let h:=Gc (o:=k) g.ws 8;let e:(Jo k g.ws).getD []=g.wi k:=by let:=EG (k:=k) g.fl 0 [];rwa[this]
 rw[e]at h;rwa[h]
theorem LW:∀{ws:Ws}{j:Ń},ws[j]?=O (o,l)->yV (ws.set j (o,L))=yV ws|p::r,0,h=>by cases h;rfl|p::r,j+1,h=>bL (_::·) (LW h)
def Zf:wA (ws.set j (o,l))=(wA ws).set j (.L (l.map iP)):=by delta wA;rw[List.map_set]
theorem Fo:∀{k off:Ń},yE (k+1) off=yE k off++[.r (k+off)]|0,off=>by show[Dv.r off]=[.r _];rw[cR]|k+1,off=>by show Dv.r off::yE _ _=Dv.r off::(yE k _++[.r _]);rw[Fo,show k+(off+1)=k+1+off by lia]
def JT{N:En}(hi:h[i]?=O (.L xs))(l:xs.length<=500000)(H:∀Q:KP,Q [.p (iP n)] h->C N.xc σ h Q)(q:N.nx σ (h.set i (.L (xs++[iP n])))):gd (RU oh.c h (.r i)) (bj C dB N.xc σ h λds a=>oh.o (.r i) ds a λd b=>N.nx σ b):=by
 erw[bI ?_ (H _ ?_)];.show((nh h _).isSome||(yX h _).isSome)=J;rw[Ze hi];rfl
 .show(match h[i]? with|O (.L xs)=>gd _ (N.nx σ _)|O (.D xs)=>gd _ (N.nx σ _)|_=>ŧ);rw[hi];rwa[bI (mH (bv.mpr (bM ‹_› ⋯))) q]
def z_{Ç:Ob}(f:∀Q:KP,Q [.r 1] (gW (pb g ws D Ç) sS)->A N.xc σ (gW (pb g ws D Ç) sS) Q)(i:∀Q:KP,Q [.p (eV o)] (gW (pb g ws D Ç) sS)->B N.xc σ (gW (pb g ws D Ç) sS) Q)(H:∀(h':Hs)(Q:KP),Q [.p (iP n)] h'->C N.xc σ h' Q)(v:ws.length<=100000)(k:∀p∈ws,p.2.length<=100000)(q:N.nx σ (gW (pb g (qP o n ws) D Ç) sS)):wl (ia oh.c oh.o (YG A B) (bj C dB)) N σ (gW (pb g ws D Ç) sS):=by
 erw[f _ (bI (by rfl) (i _ ?_))];let h:∃κ,jY (eV o)=O κ:=by induction o<;>exact(_,Ŗ)
 let(κ,h):=h;erw[aZ h (aZ (x:=(yV ws,yE _ 8)) Ŗ ?_)];rcases EQ ws 8 with ⟨a,e⟩|⟨j,l,a,e,m⟩
 .rw[e]at q;rw[a];erw[bI (mH (bv.mpr (by delta yV;rw[ae];rwa[bM ‹_› ⋯]))) ?_];let d:(wA ws).length=ws.length:=ae _;let lh:(gW (pb g ws D Ç) sS).length=ws.length+8:=by show(wA ws).length+8=_;rw[d]
  let s:∀x,(List.set (gW (pb g ws D Ç) sS++[Ob.L []]) 1 (Ob.E (yV ws++[eV o]) (yE ws.length 8++[Dv.r (ws.length+8)]))).set (ws.length+8) x=gW (_,_,_,D,Ç,(wA ws++[Ob.L []]).set _ x) sS:=λx=>Ŗ;rw[lh];erw[JT (xs:=[]) ?_ (by rwa[aP _]) (H _) ?_];.show(wA ws++[Ob.L []])[ws.length]?=_;rw[<-d,aK (ah _),eA];rfl
  .rw[s];let b:(wA ws++[Ob.L []]).set ws.length (Ob.L ([]++[iP n]))=wA (ws++[(o,[n])]):=by delta wA;rw[<-ae,List.set_append,bS (cM _),eA,aD];rfl
   let t:yV ws++[eV o]=yV (ws++[(o,[n])]):=by delta yV;rw[aD];rfl
   rw[b,t,<-Fo];let u:ws.length+1=(ws++[Ý o [n]]).length:=by rw[aj];rfl
   rw[u];rwa[q]
 .rw[m]at q;simp only[a];erw[JT (xs:=l.map iP) ?_ ?_ (H _) ?_];.show(wA ws)[j]?=_;delta wA;rw[aN,e];rfl
  .rw[ae];let:=k _ (aL e);rwa[aq ‹_› ⋯]
  .let b:(gW (pb g ws D Ç) sS).set (j+8) (Ob.L (l.map iP++[iP n]))=gW (pb g (ws.set j (o,l++[n])) D Ç) sS:=by show gW (g.fl.map _,yV ws,yE _ 8,D,Ç,(wA ws).set j _) sS=gW (_,_,_,D,Ç,_) sS;rw[LW e,Zf,cn,aD];rfl
   rw[b];rwa[q]
def Wn:Pv->Pv|.T [_,r,_]=>r|_=>.N
theorem GJ:∀{l:Ł _}{n:Ń},(fS l n).map Wn=(l.map (·.1)).map Rw.p|[],_=>Ŗ|x::l,n=>bL _ GJ
theorem EM:∀{ws:Ws},(qP o n ws).length<=ws.length+1/\∀m,(∀p∈ws,p.2.length<=m)->∀p∈qP o n ws,p.2.length<=m+1
 |[]=>(ah _,λm h p H=>by rw[aB.mp H];rwa[aH _ _])|q::r=>by
  delta qP;split
  .erw[(⋯,λm h p H=>?_)];rcases aw.mp H with rfl|H;.simp only[aj];let:=h q aF;rwa[cH ‹_›]
   .let:=h p (aE _ H);rwa[aS ‹_›]
  .let(c,a):=EM (o:=o) (n:=n) (ws:=r);erw[(nofun,λm h p H=>?_)];rcases aw.mp H with rfl|H;.let:=h p aF;rwa[aS ‹_›]
   .rwa[a m (λy b=>h y (aE _ b)) p H]
theorem yW:∀(fs:Ł Fn)(n:Ń)(S:Ly)(st:Ł _),(jf fs n S st).2.map (·.1)=st.map (·.1)++fs.map Fn.f|[],n,S,st=>(aV _).symm|x::r,n,S,st=>by show(jf r _ _ _).2.map _=_;rw[yW,aD,bA];rfl
theorem Vi:∀{k off m:Ń},k+off<=m->PQ m (yE k off)=J|0,_,_,_=>Ŗ|k+1,off,m,h=>by show(Đ _&&PQ m _)=J;rw[cJ (),Vi ()];rfl
theorem Vj:∀{ws:Ws},bH m (wA ws)=J|[]=>Ŗ|p::r=>by show(J&&bH m (wA r))=J;rw[Vj];rfl
def MI{st:Ob}:(gW (pb g ws d st) S).length=ws.length+8:=by show(wA ws).length+8=_;delta wA;rw[ae]
def adf{st:Ob}(h:bO (ws.length+8) d)(H:bO (ws.length+8) st):bH (ws.length+8) (gW (pb g ws d st) S)=true:=by show(J&&(Đ (1<ws.length+8)&&(Đ (2<ws.length+8)&&(Đ (3<ws.length+8)&&(Đ (4<ws.length+8)&&(Đ (5<ws.length+8)&&(Đ (6<ws.length+8)&&(Đ (7<ws.length+8)&&J)))))))&&(PQ _ (yE _ 8)&&(J&&(J&&(J&&(J&&(bO _ d&&(bO _ st&&bH _ (wA ws)))))))))=J;rw[Vi (ah _),h,H,Vj];rfl
inductive JA(g:Pg)(post:ϑ):Es->Hs->ß|mk{l:Ł (Rw×Ő Ń)}{n:Ń}{ws:Ws}{D:Ł (Ä×Ń)}{v2 v3 v4:Ő Dv}(e1:post=fS l n)(e2:wn l n ws=g.ws)(e3:D++w9 l n=mT g.fs 0)(h1:ws.length<=n)(h2:∀p∈ws,p.2.length<=n)(h3:n+l.length<=100000):JA g post [O (.r 0),O (.p (.L (fS g.fl 0))),v2,v3,v4,ao] (gW (pb g ws (cS iP D) (cS eV [])) sS)
theorem yZ:∀fs:Ł Fn,fs.length<=eY fs|[]=>ah _|x::r=>by let:=yZ r;show r.length+1<=1+dc _+eY r;lia
def acN(N:(fs.map Fn.f).Nodup)(e:D++(z,n)::r=mT fs 0)(c:eY fs<=100000):z∉D.map (·.1)/\D.length<=100000:=by
 let:=pT (fs:=fs) (n:=0);rw[<-e,aD,cF]at this;erw[(λH=>?_,?_)];.rw[<-this]at N;exact(dg.mp N).2.2 z H z aF Ŗ
 .let h:=bL Á this;rw[aj,ae,ae]at h;rwa[aq (aq (aQ _ _) (gm h)) (aq (yZ fs) c)]
def N7{α:Type}{st:Ł (Ä×α)}(hn:st.map (·.1)++r=fs.map Fn.f)(c:eY fs<=100000):st.length<=100000:=by let h:=bL Á hn;rw[aj,ae,ae]at h;rwa[aq (aq (aQ _ _) (gm h)) (aq (yZ fs) c)]
def Fd:(mT fs n).map (λp=>Pv.S p.1)=fs.map λx=>Pv.S x.f:=by
 let:(mT fs n).map (λp=>Pv.S p.1)=((mT fs n).map (·.1)).map Pv.S:=by rw[bB];rfl
 rw[this,pT,bB];rfl
def QO:fZ ((mT fs 0).map λp=>Pv.S p.1)=O (fs.map Fn.f):=by
 let:(fs.map λx=>Pv.S x.f)=(fs.map Fn.f).map Pv.S:=by rw[bB];rfl
 rw[Fd,this];rwa[eq]
def QN{st:Ob}:(gW (pb g ws (cS iP D) st) S).set 6 (.C ((D.map λp=>Pv.S p.1)++[.S z]) ((D.map λp=>iP p.2)++[iP n]))=gW (pb g ws (cS iP (D++[(z,n)])) st) S:=by delta cS;rw[aD,aD];rfl
def GB:(gW (pb g ws d (cS eV D)) S).set 7 (.C ((D.map λp=>Pv.S p.1)++[.S z]) ((D.map λp=>eV p.2)++[eV n]))=gW (pb g ws d (cS eV (D++[(z,n)]))) S:=by delta cS;rw[aD,aD];rfl
inductive JB(g:Pg)(ob:Ø)(post:ϑ):Es->Hs->ß|mk{rest:Ł Fn}{n:Ń}{S:Ly}{st:Ł (Ä×Ő Ń)}{v2 v3 v4 v5:Ő Dv}{m:Ń}{pr:Ł (Ä×Ń)}(e1:post=rest.map λx=>Pv.S x.f)(e2:jf rest n S st=g.lf)(ha:Vc (g.fl.map (·.1)) g.wi rest n)(hs:S.le m)(hz:m+3*eY rest<=3*eY g.fs)(hm:∀x∈rest,x∈g.fs)(hn:st.map (·.1)++rest.map Fn.f=g.fs.map Fn.f)(Ru:mT g.fs 0=pr++mT rest n):JB g ob post [O (.r 0),O (.p (.L (fS g.fl 0))),v2,v3,v4,v5] (gW (pb g g.ws (.F ob ((mT g.fs 0).map λp=>Pv.S p.1) ((mT g.fs 0).map λp=>iP p.2)) (cS eV st)) S)
def XA{st:Ob}(h:L=ws.length+8)(H:bO (ws.length+8) d)(a:bO (ws.length+8) st)(q:R (Qf L σ) (gW (pb g ws d st) S)):lM L R σ (gW (pb g ws d st) S):=by delta lM;rw[jP (by rw[MI,h];rwa[ah _])];erw[bI ?_ q];rw[h];rwa[adf H a]
inductive J7:Ct|mk{g:Pg}{Q:Dv->Hs->ß}{xc:XP}(ok:g.ok)(nd:(g.fs.map Fn.f).Nodup)(ne:∀x∈g.fs,x.f≠"")(q:Q (.p .N) (gW (pb g g.ws (cS iP (mT g.fs 0)) (cS eV g.st)) g.lr.1)):J7 [.r 0,.p (.L (fS g.fl 0))] [.I 3 []] Q xc
def Ja(Jc:Ń->Ct):Ń->Ct|3=>J7|400=>ux 8|401=>J4 8|n=>Jc n
section
variable{ca:Ń->À}{Jc:Ń->Ct}{W:Wd}{k:Ń}
seal oM wl NU ia in
def XM(B:LX ca (Ja Jc) W)(S:SX ca W)(Sr:pK W.K (ca 3) "Paths.__init__" (c6 (ff 60) 0) ["self","triples"])(w:W.mg "Paths"=O (.ref (ca 3)))(D:DI ca (Ja Jc) W 400 k):DI ca (Ja Jc) W 3 (k+2):=by erw[Lk.ma ["self","triples","number","row","around","name"] ["self","triples"] a5 [] [400] B (.fQ 3 0 (.E4 3 [] (.many [0,1,2]) (.s 1) .no 1) 0<|>.fQ 3 1 .X8 0<|>.fQ 3 2 .AH 0<|>.fQ 3 3 .AH 0<|>.fQ 3 4 .AH 0<|>.fQ 3 5 .AH 0<|>.fQ 3 6 .AH 0<|>.fQ 3 7 .AH 0<|>.foT (.many [2,3,4]) (.p (.s 1)) (.one (.iff (.cmp ki (.ix 3 (.i 0)) (.s "def")) (.one (.dput 2 (.fld 3 6 0) (.ix 3 (.i 1)))) (.one (.ex (.mt oh (.sdf (.fld 3 1 0) 4) (.u 2))))))<|>.foH (.one 5) (.fld 3 6 0) (.one (.dput (.me 400 0 (.u3 (.Θ (.fld 3 1 0) (.rS (.fld 3 6 0) 5) (.lst .nil)) (.g 0) (.g 0))) (.fld 3 7 0) 5))<|>.one (.dput (.me 400 0 (.u3 (.Θ (.fld 3 1 0) (.g 0) (.lst .nil)) (.g 0) (.g 0))) (.fld 3 7 0) (.g 9))) Sr w rfl Ť (D,Ť) λds h Q xc c=>?_];cases c with|@mk g Q xc ok N ne q=>
  let(o1,U,X,C):=vZ ok;let X:=d0 X;let C:=aI C;let Se:∀x∈g.fs,mG x.rs=true:=λx w=>(ag (bJ.mp o1 x w)).1;let(Y,Z,at3):=Pg.at' Se U;let edf:=Pg.abq Se U;let ln:g.fl.length=eY g.fs+dc g.rs:=by delta Pg.fl;rw[aj,iJ,cI]
  let cz:eY g.fs<=100000:=aq (aQ _ _) C;erw[(Ŗ,lL Wn Ŗ (λy H=>?_) ?_)];.let(m,r,o,rfl):=zM H;rwa[λR q=>q]
  rw[GJ];erw[Fu (fS g.fl 0) (λ_=>JA g) (.mk (ws:=[]) (D:=[]) (v2:=ao) (v3:=ao) (v4:=ao) rfl rfl edf (ah 0) (λp A=>nomatch A) (by rw[ln,cR];rwa[C])) (λ_ _ _ _ _=>Ŗ) (λpre x post a G ex j=>?_) λa G j=>?_]
  .induction j with|@mk l n ws D v2 v3 v4 b e E h1 I M=>cases l with|f=>cases b|g y l=>let(r,o):=y;cases b;rw[aO]at M;cases hd:De r with|d=>
    cases r<;>first|cases hd;all_goals fail|skip
    ext z;let E:D++(z,n)::w9 l (n+1)=mT g.fs 0:=E;let(hD,hL):=acN N E cz;erw[ue (z:=z) (v:=iP n) (h:=gW (pb g ws (cS iP D) (cS eV [])) sS) (i:=6) (λ_ q=>q) (λ_ q=>q) (λ_ q=>q) rfl (uK hD) (by rw[ae];rwa[aq ‹_› ∅]) QN ?_];rwa[.mk rfl e (by rw[bA];rwa[E]) (aS ‹_›) (λp A=>aS (I p A)) (by rw[zZ];rwa[M])]|e=>let(w1,w2,_):=sg (o:=o) (l:=l) (n:=n) (ws:=ws) hd;rw[w1]at e;rw[w2]at E;let(a1,a2):=EM (o:=o) (n:=n) (ws:=ws);let fin:JA g (fS l (n+1)) [O (.r 0),O (.p (.L (fS g.fl 0))),O (.p (iP n)),O (.p r.p),O (.p (eV o)),ao] (gW (pb g (qP o n ws) (cS iP D) (cS eV [])) sS):=.mk rfl e E () (a2 n I) (by rw[zZ];rwa[M]);induction r<;>first|rwa[é hd]|rwa[z_ (ws:=ws) (o:=o) (n:=n) (λ_ q=>q) (λ_ q=>q) (λ_ _ q=>q) () λp A=>by let:=I p A;lia fin]
  .induction j with|@mk l n ws D v2 v3 v4 b e E h1 I M=>induction l with|g y l=>cases b|f=>
   let e:ws=g.ws:=e;subst e;let E:D++[]=mT g.fs 0:=E;rw[aV]at E;subst E;let ndf:((mT g.fs 0).map (·.1)).Nodup:=by rw[pT];rwa[N]
   erw[aZ QO λob=>Q6 (λ_=>JB g ob) (.mk (pr:=[]) (m:=0) Fd rfl Y (ah _,ah _,ah _,ah _) (gm (cR _)) (λ_ h=>h) rfl rfl) (λpre post a G j=>?_) (λpre x post a G ex j=>?_) λa G j=>?_];.induction j with|mk=>rfl
   .induction j with|@mk t n S st v2 v3 v4 v5 m pr b e P T d hm hn Ru=>cases t with|f=>cases b|g x t=>
    cases b;let P:(_/\_/\_)/\_:=P;obtain⟨⟨_,OY,ha2⟩,Rj⟩:=P;let d:m+3*(1+dc x.rs+eY t)<=3*eY g.fs:=d;let(p1,p2):=ag (bJ.mp o1 x (hm x aF));let p2:=d0 p2;let A4:=gD x.rs (n+1) ao ao S m T;let w:iU x.f (mT g.fs 0)=O n:=vi (p:=(x.f,n)) ndf (by rw[Ru];rwa[aW _ aF]);let AU:x.f∉st.map (·.1):=λd=>by rw[<-hn,cF]at N;exact(dg.mp N).2.2 _ d _ aF Ŗ
    let hsl:=N7 hn cz;let e:jf t (n+1+dc x.rs) (d7 x.rs (n+1) ao ao S).1 (st++[(x.f,(d7 x.rs (n+1) ao ao S).2)])=g.lf:=e;generalize A:d7 x.rs (n+1) ao ao S=p at A4 e;erw[ue (z:=x.f) (v:=eV p.2) (h:=gW (pb g g.ws (.F ob ((mT g.fs 0).map λp=>Pv.S p.1) ((mT g.fs 0).map λp=>iP p.2)) (cS eV st)) p.1) (i:=7) (λQ q=>?_) (λ_ q=>q) (λ_ q=>q) rfl (uK AU) (by rw[ae];rwa[aq ‹_› ∅]) GB ?_];.erw[bI (by rfl) ?_];erw[AE (k:=O n) Pg.U0 (λ_ q=>q) (λ_ q=>aZ (uV w) q) (λ_ q=>q) λy H=>?_];rw[OY]at H;rwa[ux.mk (o:=ao) (c:=ao) Pg.U0 ha2 p1 p2 H T () (by rw[A];rwa[q])]
    .erw[XA ?_ Ŗ Ŗ (.mk (pr:=pr++[(x.f,n)]) rfl e Rj A4 () (λy H=>hm y (aE _ H)) ?_ ?_)];.rwa[MI]
     .rw[aD,bA];rwa[hn]
     .rw[bA];rwa[Ru]
   .induction j with|@mk t n S st v2 v3 v4 v5 m pr b e P T d hm hn Ru=>induction t with|g x t=>cases b|f=>
    let e:(S,st)=g.lf:=e;let AU:("":Ä)∉st.map (·.1):=λd=>by rw[List.map_nil,aV]at hn;rw[hn]at d;let(x,w,he):=cx.mp d;rwa[ne x w he]
    let hsl:=N7 hn cz;delta Pg.st Pg.lr at q;rw[<-e]at q;show oM _ _ _ _ _ (gW (pb g g.ws (cS iP (mT g.fs 0)) (cS eV st)) S);erw[ue (z:="") (v:=eV (d7 g.rs (eY g.fs) ao ao S).2) (h:=gW (pb g g.ws (cS iP (mT g.fs 0)) (cS eV st)) (d7 g.rs (eY g.fs) ao ao S).1) (i:=7) (λQ q=>?_) (λ_ q=>q) (λ_ q=>q) rfl (uK AU) (by rw[ae];rwa[aq ‹_› ∅]) GB q];erw[bI (by rfl) ?_];erw[AE (k:=ao) Pg.U0 (λ_ q=>q) (λ_ q=>q) (λ_ q=>q) λy H=>?_];rw[at3]at H;rwa[ux.mk (o:=ao) (c:=ao) Pg.U0 Z U X H T () q]
def Xu:ϑ->Ń->ϑ|[],_=>[]|_::r,n=>iP n::Xu r (n+1)
def Nq(xs:ϑ):Pv:=.dct xs (Xu xs 0)
theorem Ki:∀{l:ϐ}{n:Ń},Xu (l.map .S) n=ω l n|[],_=>Ŗ|_::_,_=>bL _ Ki
def Nr:Nq (l.map .S)=jZ l:=by delta Nq jZ;rw[Ki]
def Yd:Pv->Pv|.T [a,.T ps,.T os,_]=>.T [a,Nq (ps++os)]|_=>.N
def MA(ns:Ł Nm):Pv:=.T (ns.map nP)
def Pd:Ő (Ł (Ä×Ł Nm))->Pv|ao=>.N|O wd=>.wld (wd.map λp=>.T [.S p.1,MA p.2])
def Pg.ow(g:Pg):Ł (Ä×ϐ):=(g.fs.map λx=>(x.f,x.ps++x.os))++[(("":Ä),[])]
def Pg.pn(g:Pg)(ss:ϐ)(wd:Ł (Ä×Ł Nm)):Pn where bs:=g.bs.map (·.1);ls:=g.ls.map (·.1);ds:=ss;ow:=g.ow;wd:=wd;rw:=g.fl.map (·.1);wi:=.dct (yV g.ws) (g.ws.map λp=>.L (p.2.map iP));bh:=g.lr.1.bh;fs:=g.lr.1.fs;sc:=g.lr.1.sc;ct:=g.lr.1.ct;df:=mT g.fs 0;st:=g.st
theorem K8:∀{ws:Ws}{off:Ń},(∀i,h[i+off]?=(wA ws)[i]?)->oj (oW h 0 (n+1)) (yE ws.length off)=O (ws.map λp=>.L (p.2.map iP))
 |[],off,_=>Ŗ|p::r,off,H=>by
  let a:=H 0;rw[cR]at a;let e:oW h 0 (n+1) (.r off)=O (.L (p.2.map iP)):=by rw[oW,a];rfl
  show oj _ (.r off::yE _ _)=_;rw[oj,e,K8 λi=>by let:=H (i+1);rw[show i+(off+1)=i+1+off by lia];rwa[this]];rfl
def mc(h:f d=O x)(H:oj f r=O xs):oj f (d::r)=O (x::xs):=by rw[oj,h,H]
def Yj:oW (gW (pb g g.ws (cS iP (mT g.fs 0)) (cS eV g.st)) g.lr.1) 0 6 (.r 0)=O (g.pn ss wd).pa:=by rwa[bL (ç _) (mc (f:=oW _ 0 5) (d:=.p _) Ŗ (mc (by show ç (Pv.dct (yV _)) (oj _ (yE _ 8))=_;rw[K8 (h:=gW (pb g g.ws (cS iP (mT g.fs 0)) (cS eV g.st)) g.lr.1) (n:=3) (off:=8) λi=>Ŗ];rfl) (mc (d:=.r 2) Ŗ (mc (d:=.r 3) Ŗ (mc (d:=.r 4) Ŗ (mc (d:=.r 5) Ŗ (mc (d:=.r 6) Ŗ (mc (d:=.r 7) (r:=[]) Ŗ Ŗ))))))))]
structure GdM(g:Pg):ß where
 ok:g.ok=J
 nd:(g.fs.map Fn.f).Nodup
 ne:∀x∈g.fs,x.f≠""nb:(g.bs.map (·.1)).Nodup
 nl:(g.ls.map (·.1)).Nodup
 lb:g.bs.length<=100ll:g.ls.length<=100lf:g.fs.length<=90no:∀x∈g.fs,(x.ps++x.os).Nodup/\(x.ps++x.os).length<=50dr:(dO (BP g.fl)).length<=63
def BU(w:Ő (Ł (Ä×Ł Nm))):Ł (Ä×Ł Nm):=w.getD []
def Ve(w:Ő (Ł (Ä×Ł Nm))):ß:=((BU w).map (·.1)).Nodup/\(BU w).length<=100
def oi(g:Pg):Ob:=.C (g.ow.map λp=>.S p.1) (g.ow.map λp=>jZ p.2)
def Pg.ol(g:Pg):Ł (Ä×Pv):=g.fs.map λx=>(x.f,jZ (x.ps++x.os))
def ϖ(g:Pg):Ob:=.C (g.ol.map λp=>.S p.1) (g.ol.map λp=>p.2)
def Cf(g:Pg)(o:Ob):Hs:=[.I 2 [.p (jZ (g.bs.map (·.1))),.p (jZ (g.ls.map (·.1))),.r 1],o]
inductive P5:Ct|mk{g:Pg}{w:Ő (Ł (Ä×Ł Nm))}{Q:Dv->Hs->ß}{xc:XP}(G:GdM g)(hw:Ve w)(q:∀ss:ϐ,ss.Perm (dO (BP g.fl))->Ā ss->Q (.p .N) [.I 2 [.p (jZ (g.bs.map (·.1))),.p (jZ (g.ls.map (·.1))),.r 1,.p (jZ ss),.p (X0 MA (BU w)),.p (g.pn ss (BU w)).pa],oi g]):P5 [.r 0,.p g.p,.p (Pd w)] [.I 2 []] Q xc
def Jp(Jc:Ń->Ct):Ń->Ct|2=>P5|3=>J7|n=>Jc n
def Go(g:Pg)(ss:ϐ):Hs:=[.I 2 [.p (jZ (g.bs.map (·.1))),.p (jZ (g.ls.map (·.1))),.r 1,.p (jZ ss)],oi g]
def YI(h:Ve w)(q:Q' [.p (X0 MA (BU w))] (Go g ss)):T6 (s1 (MC a5) (sV 2)) NV (sN Vu.o (bj (sV 2) dB)) x [O (.r 0),O (.p g.p),O (.p (Pd w))] (Go g ss) Q':=by induction w with|a=>rwa[q]|c wd=>
  let e:(wd.map λp=>Pv.T [.S p.1,MA p.2])=(wd.map λp=>Ý p.1 (MA p.2)).map λp=>.T [.S p.1,p.2]:=by rw[bB];rfl
  let E:(wd.map λp=>Ý p.1 (MA p.2)).map (·.1)=wd.map (·.1):=by rw[bB];rfl
  show gG _ _ _;rw[e];erw[aZ tZ (bI (bv.mpr (by rw[ae,ae];rwa[h.2])) ?_)];rw[pS _ _ _ (λ_ _=>Ŗ) (by rw[E];rwa[h.1])];simp only[bB,bB];rwa[q]
seal oM T6 in
def XO(B:LX ca (Jp Jc) W)(S:SX ca W)(r:pK W.K (ca 2) "Plan.__init__" (c6 (ff 59) 0) ["self","program","world"])(H:W.mg "Plan"=O (.ref (ca 2)))(h:13<=k)(D:DI ca (Jp Jc) W 3 k):DI ca (Jp Jc) W 2 (k+2):=by let R:=Hk B S;erw[Lk.ma ["self","program","world"] ["self","program","world"] a5 [(34,Xq),(5,P2),(6,Xp),(3,Xk),(1,J9)] [3] B (.fQ 2 0 (.cl 34 [] (.u (.cl 5 [] (.u (.ix 1 (.i 0)))))) 0<|>.fQ 2 1 (.cl 34 [] (.u (.cl 5 [] (.u (.ix 1 (.i 1)))))) 0<|>.fQ 2 2 (.bi abC (.u (.E4 1 [] (.one 0) (.s (.ix 1 (.i 2))) .no (.tup (.u2 (.ix 0 (.i 0)) (.cl 34 [] (.u (.cl 6 [] (.u 0))))))))) 0<|>.dput .Ff (.fld 2 2 0) (.g 9)<|>.fQ 2 3 (.cl 34 [] (.u (.cl 3 [] (.u 1)))) 0<|>.fQ 2 4 (.O7 (.isN a5 2) .Ff (.bi Vu (.u 2))) 0<|>.one (.fQ 2 5 (.mX (.nwl 3 (.u (.cl 1 [] (.u 1))))) 0)) r H rfl ((Kz B S).le (),(CB B S).le (),(AB B S).le (),(Qv B S R).le (aS ‹_›),R.le (),Ť) (D,Ť) λds h Q X c=>?_];induction c with|@mk g w Q X G m q=>
  let n:(g.bs.map Xj).map Rm=(g.bs.map (·.1)).map .S:=by rw[bB,bB];rfl
  let o:(g.ls.map Za).map Rm=(g.ls.map (·.1)).map .S:=by rw[bB,bB];rfl
  let t:(g.fs.map Fn.p).map Yd=g.ol.map λp=>.T [.S p.1,p.2]:=by delta Pg.ol;rw[bB,bB];erw[my λx _=>?_];show Pv.T [.S x.f,Nq (x.ps.map .S++x.os.map .S)]=Pv.T [.S x.f,jZ (x.ps++x.os)];rw[<-aD,Nr]
  let b:g.ol.map (·.1)=g.fs.map Fn.f:=by delta Pg.ol;rw[bB];rfl
  let d:g.ol.length=g.fs.length:=by delta Pg.ol;rw[ae]
  erw[(Ŗ,.mk λx H=>by let(y,_,rfl):=cx.mp H;rfl ?_)];rw[n];erw[.mk G.nb (by rw[ae];rwa[G.lb]) ?_];erw[P2.mk λx H=>by let(y,_,rfl):=cx.mp H;rfl ?_];rw[o];erw[.mk G.nl (by rw[ae];rwa[G.ll]) ?_];erw[lL Yd Ŗ (λy A=>?_) ?_]
  .let(x,H,rfl):=cx.mp A;intro R q;erw[.mk (aq (G.no x H).2 ∅) (.mk (G.no x H).1 (aq (G.no x H).2 ∅) ?_)];let e:Yd x.p=.T [.S x.f,jZ (x.ps++x.os)]:=by show Pv.T [.S x.f,Nq (x.ps.map .S++x.os.map .S)]=_;rw[<-aD,Nr]
   rw[e]at q;rwa[q]
  rw[t];erw[aZ tZ (bI (bv.mpr (by rw[ae,d];let:=G.lf;rwa[aq ‹_› ∅])) ?_)];rw[pS _ _ _ (λ_ _=>Ŗ) (by rw[b];rwa[G.nd])];erw[ue (z:="") (v:=jZ []) (i:=1) (h:=Cf g (ϖ g)) (h':=Cf g (oi g)) (λ_ q=>q) (λ_ q=>q) (λ_ q=>q) rfl ?_ ?_ ?_ ?_];.erw[uK λj=>?_];rw[b]at j;let(x,H,C):=cx.mp j;rwa[G.ne x H C]
  .rw[ae,d];let:=G.lf;rwa[aq ‹_› ∅]
  .delta oi Pg.ow;delta Cf Pg.ol;rw[aD,aD,bB,bB,bB,bB];rfl
  rwa[.mk G.ok G.dr λl a E=>.mk (a.symm.nodup (iS _).1) (by rw[a.length_eq];let:=G.dr;rwa[aq ‹_› ⋯]) (YI m (.mk G.ok (J7.mk G.ok G.nd G.ne (aZ (x:=.p (g.pn l (BU w)).pa) ((Rb).trans (bL _ Yj)) (bI Ŗ (q l a E))))))]
end
theorem DB{v:α}:∀{l:Ł _},z∉l.map (·.1)->iU z (l++[(z,v)])=O v|[],_=>by show(match cC z z with|J=>O v|a5=>ao)=_;rw[bQ.mpr Ŗ]|p::r,h=>by rw[cF,aw,not_or]at h;show(match cC p.1 z with|J=>O p.2|a5=>iU z _)=_;rw[bF.mpr λe=>h.1 (bQ.mp e).symm];rwa[DB h.2]
def N8(G:GdM g):iU "" g.st=O g.lr.2:=by erw[DB λh=>?_];simp only[Pg.lf,yW]at h;let(x,H,e):=cx.mp h;rwa[G.ne x H e]
def Pg.w0(g:Pg)(ss:ϐ)(w:Ő (Ł (Ä×Ł Nm))):Wk:=Fz g (g.pn ss (BU w)) g.lr.2
inductive J8:Ct|mk{g:Pg}{w:Ő (Ł (Ä×Ł Nm))}{Q:Dv->Hs->ß}{xc:XP}(G:GdM g)(hw:Ve w)(q:∀ss:ϐ,ss.Perm (dO (BP g.fl))->Ā ss->Q (.p .N) [.I 4 [.p (g.pn ss (BU w)).p,.p (g.w0 ss w).p]]):J8 [.r 0,.p g.p,.p (Pd w)] [.I 4 []] Q xc
def Jm:Ń->Ct|2=>P5|3=>J7|4=>J8|84=>λds h Q x=>J8 (ds++[.p .N]) h Q x|400=>ux 8|_=>J4 8
def XN(B:LX ca Jm W)(S:SX ca W)(r:B7 W.K (ca 4) "Machine.__init__" (c6 (ff 64) 0) ["self","program","world"] [.none])(x:W.mg "Machine"=O (.ref (ca 4)))(h:4<=k)(D:DI ca Jm W 2 k):DI ca Jm W 4 (k+2)/\DI ca Jm W 84 (k+2):=by erw[Lk.agR (dd:=[.p .N]) (dvs:=[.jn]) (fn:=xj [(35,PX)]) (fok:=[35]) (iok:=[2]) ["self","program","world"] _ a5 B (.fQ 4 0 (.mX (.nwl 2 (.u2 1 2))) 0<|>.one (.fQ 4 1 (.cl 35 [] (.u2 1 (.fld 4 0 0))) 0)) r x (lQ Ŗ) rfl ((wc B S (KC B S)).le (aS ‹_›),Ť) (D,Ť) (λds h Q X c=>?_) rfl rfl rfl rfl rfl (.cons Ŗ .nil) (λ_ _ _=>(Ŗ,Ť)) λ_ _ _ _ c=>c];induction c with|@mk g w Q X G a q=>
  erw[(Ŗ,P5.mk G a λs H o=>?_)];let l:s.length<=100:=by rw[H.length_eq];let:=G.dr;rwa[aq ‹_› ⋯]
  rwa[PX.mk (P:=g.pn s (BU w)) l (N8 G) (q s H o)]
def FJ:Rw->Þ|.tr _ _ _=>J|_=>a5
def mn(R:Ł Rw)(lo hi:Ń)(q:Ő Ń):ß:=∀m,q=O m->lo<=m/\m<hi/\∃r,R[m]?=O r/\FJ r=a5
def Jz(R:Ł Rw)(lo hi:Ń)(c:Ő Ń):ß:=∀m,c=O m->lo<=m/\m<hi/\∃r,R[m]?=O r/\FJ r=J
def aha:Rw->Þ|.ii _ _ _=>J|.wh _ _=>J|_=>a5
def ϔ:Rw->Þ|.ii _ _ _=>J|.tr _ _ _=>J|_=>a5
structure Laid(R:Ł Rw)(lo hi:Ń)(S:Ly)(m:Ń):ß where
 bh:∃q,gF m S.bh=O q/\mn R lo hi q
 ct:∃c,gF m S.ct=O c/\Jz R lo hi c
 fs:∀r,R[m]?=O r->aha r->∃q,gF m S.fs=O q/\mn R lo hi q
 sc:∀r,R[m]?=O r->ϔ r->∃q,gF m S.sc=O q/\mn R lo hi q
structure ir(S S':Ly)(m:Ń):ß where
 bh:gF m S'.bh=gF m S.bh
 fs:gF m S'.fs=gF m S.fs
 sc:gF m S'.sc=gF m S.sc
 ct:gF m S'.ct=gF m S.ct
def ir.refl:ir S S m:=(Ŗ,Ŗ,Ŗ,Ŗ)
theorem ir.trans(a:ir S T m)(b:ir T U m):ir S U m:=(b.bh.trans a.bh,b.fs.trans a.fs,b.sc.trans a.sc,b.ct.trans a.ct)
def Laid.same{lo:Ń}(l:Laid R lo hi S m)(s:ir S T m):Laid R lo hi T m:=(by rw[s.bh];rwa[l.bh],by rw[s.ct];rwa[l.ct],by rw[s.fs];rwa[l.fs],by rw[s.sc];rwa[l.sc])
def qk(h:m≠n):ir S {S with fs:=eI n v S.fs} m:=(Ŗ,tW h,Ŗ,Ŗ)
def uc(h:m≠n):ir S {S with sc:=eI n v S.sc} m:=(Ŗ,Ŗ,tW h,Ŗ)
def Gw(h:m≠n):ir S {S with bh:=eI n v S.bh,ct:=eI n c S.ct} m:=(tW h,Ŗ,Ŗ,tW h)
def mn.at{lo:Ń}(h:lo<=n)(H:n<hi)(a:R[n]?=O r)(t:FJ r=a5):mn R lo hi (O n):=λm e=>by cases e;exact(h,H,r,a,t)
section
variable{R:Ł Rw}{wi:Ő Ń->Ϙ}{lo hi:Ń}
mutual
theorem RZ:∀(t:Tr)(n:Ń)(b c:Ő Ń)(S:Ly),t.ok=J->wM R wi t n->mn R lo hi b->Jz R lo hi c->lo<=n->n+t.sz<=hi->(∃q,gF n S.bh=O q/\mn R lo hi q)->(∃c,gF n S.ct=O c/\Jz R lo hi c)->mn R lo hi (kP t n b c S).2/\(∀m,n<=m->m<n+t.sz->Laid R lo hi (kP t n b c S).1 m)/\∀m,m<n\/n+t.sz<=m->ir S (kP t n b c S).1 m
 |.lf r,n,b,c,S,h,H,g,d,j,l,u,w=>by
  delta Tr.sz at l⊢;delta wM at H;delta kP;let K:FJ r=false:=by delta Tr.ok at h;cases r<;>first|rfl|rwa[é h]
  erw[(.at j (dh ‹_›) H K,λm m1 M=>?_,λm _=>.refl)];obtain rfl:m=n:=()
  erw[(u,w,λA e f=>?_,λA e f=>?_)];.delta Tr.ok at h;rw[H]at e;cases e;cases r<;>first|rwa[é f]|rwa[é h]
  .delta Tr.ok at h;rw[H]at e;cases e;cases r<;>first|rwa[é f]|rwa[é h]
 |.wh v a,n,b,c,S,h,H,g,d,j,l,u,w=>by
  delta Tr.sz at l⊢;delta wM at H;delta Tr.ok at h;delta kP;let(Y,E,F):=H;let(I,o,i):=iK a (n+1) (O n) c S h F (.at j () Y Ŗ) d (aS ‹_›) ();erw[(.at j () Y Ŗ,λm m1 M=>?_,λm G=>(i m ()).trans (qk ()))];by_cases e:m=n;.subst e;let s:=i m ();erw[(by rw[show gF m _=_ from s.bh];rwa[u],by rw[show gF m _=_ from s.ct];rwa[w],λA _ _=>(_,rj,I),λA e f=>?_)];rw[Y]at e;cases e;cases f
  .exact(o m () ()).same (qk e)|.ii v x y,n,b,c,S,h,H,g,d,j,l,u,w=>by
  delta Tr.sz at l⊢;delta wM at H;delta Tr.ok at h;delta kP;let(Y,E,F,B):=H;let(I,o,i):=iK y (n+1+dc x) b c S (ag h).2 B g d () ();dsimp only;generalize d7 y (n+1+dc x) b c S=p at I o i;let(C,D,k):=iK x (n+1) b c {p.1 with sc:=eI n p.2 p.1.sc} (ag h).1 F g d (aS ‹_›) ();generalize d7 x (n+1) b c {p.1 with sc:=eI n p.2 p.1.sc}=q at C D k;erw[(.at j () Y Ŗ,λm m1 M=>?_,λm G=>(i m ()).trans ((uc ()).trans ((k m ()).trans (qk ()))))];by_cases e:m=n;.subst e;let s:=i m ();let s2:=k m ();erw[(by rw[show gF m _=_ from s2.bh.trans s.bh];rwa[u],by rw[show gF m _=_ from s2.ct.trans s.ct];rwa[w],λA _ _=>(_,rj,C),λA _ _=>(p.2,s2.sc.trans rj,I))]
  .by_cases L:m<n+1+dc x;.exact(D m () ‹_›).same (qk e)
   .exact(((o m (da.mp ‹_›) ()).same (uc e)).same (k m ())).same (qk e)|.tr x z y,n,b,c,S,h,H,g,d,j,l,u,w=>by
  delta Tr.sz at l⊢;delta wM at H;delta Tr.ok at h;delta kP;let(Y,E,F,B):=H;let(I,o,i):=iK y (n+1+dc x) b c S (ag h).2 B g d () ();dsimp only;generalize d7 y (n+1+dc x) b c S=p at I o i;let(C,D,k):=iK x (n+1) b (O n) {p.1 with sc:=eI n p.2 p.1.sc} (ag h).1 F g (λm e=>by cases e;exact(j,(),_,Y,Ŗ)) (aS ‹_›) ();erw[(C,λm m1 M=>?_,λm G=>(i m ()).trans ((uc ()).trans (k m ())))];by_cases e:m=n;.subst e;let s:=i m ();let s2:=k m ();erw[(by rw[show gF m _=_ from s2.bh.trans s.bh];rwa[u],by rw[show gF m _=_ from s2.ct.trans s.ct];rwa[w],λA e f=>?_,λA _ _=>(p.2,s2.sc.trans rj,I))];rw[Y]at e;cases e;cases f
  .by_cases L:m<n+1+dc x;.rwa[D m () ‹_›]
   .exact((o m (da.mp ‹_›) ()).same (uc e)).same (k m ())theorem iK:∀(T:Ł Tr)(n:Ń)(b c:Ő Ń)(S:Ly),mG T=J->Ae R wi T n->mn R lo hi b->Jz R lo hi c->lo<=n->n+dc T<=hi->mn R lo hi (d7 T n b c S).2/\(∀m,n<=m->m<n+dc T->Laid R lo hi (d7 T n b c S).1 m)/\∀m,m<n\/n+dc T<=m->ir S (d7 T n b c S).1 m
 |[],n,b,c,S,h,H,g,d,j,l=>by delta d7;exact(g,λm m1 M=>by delta dc at M;rwa[Ă ‹_› (Nat.not_lt_of_le ‹_›)],λm _=>.refl)|t::r,n,b,c,S,h,H,g,d,j,l=>by
  delta dc at l⊢;let H:wM R wi t n/\Ae R wi r (n+t.sz):=H;let h:(t.ok&&mG r)=true:=h;let(I,o,i):=iK r (n+t.sz) b c S (ag h).2 H.2 g d (aq ‹_› (aQ _ _)) ();delta d7;dsimp only;generalize d7 r (n+t.sz) b c S=p at I o i;let hz:1<=t.sz:=by rw[vG];rwa[aQ _ _]
  let(C,D,k):=RZ t n p.2 c {p.1 with bh:=eI n p.2 p.1.bh,ct:=eI n c p.1.ct} (ag h).1 H.1 I d j () (_,rj,I) (_,rj,d);erw[(C,λm m1 M=>?_,λm G=>(i m ()).trans ((Gw ()).trans (k m ())))];by_cases e:m<n+t.sz;.rwa[D m m1 e]
  .exact((o m (da.mp ‹_›) ()).same (Gw ())).same (k m ())end
end
def sD(bs ls:ϐ):Vx->ß|.n _=>æ|.b z=>z∈bs|.s z=>z∈ls|.i z v=>z∈ls/\sD bs ls v|.t v=>sD bs ls v|.o _ x y=>sD bs ls x/\sD bs ls y
def Vx.rc:Vx->Ń|.n _=>0|.b _=>1|.s _=>1|.i _ v=>v.rc+1|.t v=>v.rc|.o _ x y=>x.rc+y.rc
def NP:Ł Vx->Ń|[]=>0|v::r=>v.rc+NP r
def Rw.rc:Rw->Ń|.st _ v=>v.rc|.pu _ v=>v.rc+1|.po _ _=>1|.pt _ u v=>u.rc+v.rc+1|.te v=>v.rc|.ii v _ _=>v.rc|.wh v _=>v.rc|.fa v=>v.rc|.ca _ _ s=>NP s|.rt v=>v.rc|_=>0
def X6:ϐ:=["door","a","zz"]
structure Sc where
 bs:ϐ
 ls:ϐ
 fs:Ł (Ä×Ń)inF:Þ
def ϵ(c:Sc):Rw->ß|.st z v=>z∈c.bs/\sD c.bs c.ls v|.pu z v=>z∈c.ls/\sD c.bs c.ls v|.po z y=>z∈c.bs/\y∈c.ls|.pt z u v=>z∈c.ls/\sD c.bs c.ls u/\sD c.bs c.ls v|.ak z d=>z∈c.bs/\d∈X6|.te v=>sD c.bs c.ls v|.ii v _ _=>sD c.bs c.ls v|.wh v _=>sD c.bs c.ls v|.tr _ z _=>z∈c.bs|.fa v=>sD c.bs c.ls v|.ca z f s=>z∈c.bs/\(f,s.length)∈c.fs/\∀v∈s,sD c.bs c.ls v|.rt v=>c.inF=J/\sD c.bs c.ls v|.df _=>ŧ
def Ah(c:Sc)(r:Rw):ß:=ϵ c r/\r.lo 6=J/\r.rc<=40
mutual
def uu(c:Sc):Tr->ß|.lf r=>r.lf=J/\Ah c r|.ii v a b=>sD c.bs c.ls v/\v.dp<6/\v.rc<=40/\gP c a/\gP c b|.wh v a=>sD c.bs c.ls v/\v.dp<6/\v.rc<=40/\gP c a|.tr a z b=>z∈c.bs/\gP c a/\gP c b
def gP(c:Sc):Ł Tr->ß|[]=>æ|t::r=>uu c t/\gP c r
end
mutual
theorem Ye{c:Sc}:∀(t:Tr)(n:Ń)(o:Ő Ń),uu c t->∀p∈oG t n o,Ah c p.1
 |.lf r,n,o,h,p,H=>by delta uu at h;delta oG at H;rw[aB.mp H];rwa[h.2]|.ii v a b,n,o,h,p,H=>by
  delta uu at h;delta oG at H;let(d,f,g,e,i):=h;rcases aw.mp H with rfl|H;.exact(d,aA f,g)
  .rcases bu.mp H with H|H;.rwa[jc a _ _ e p H]
   .rwa[jc b _ _ i p H]|.wh v a,n,o,h,p,H=>by
  delta uu at h;delta oG at H;let(d,f,g,e):=h;rcases aw.mp H with rfl|H;.exact(d,aA f,g)
  .rwa[jc a _ _ e p H]|.tr a z b,n,o,h,p,H=>by
  delta uu at h;delta oG at H;let(d,e,i):=h;rcases aw.mp H with rfl|H;.exact(d,Ŗ,aP _)
  .rcases bu.mp H with H|H;.rwa[jc a _ _ e p H]
   .rwa[jc b _ _ i p H]
theorem jc{c:Sc}:∀(T:Ł Tr)(n:Ń)(o:Ő Ń),gP c T->∀p∈hZ T n o,Ah c p.1
 |[],n,o,h,p,H=>by delta hZ at H;cases H|t::r,n,o,h,p,H=>by
  delta gP at h;delta hZ at H;rcases bu.mp H with H|H;.rwa[Ye t _ _ h.1 p H]
  .rwa[jc r _ _ h.2 p H]
end
mutual
theorem UH{c:Sc}:∀(t:Tr),uu c t->t.ok=J|.lf r,h=>by delta uu at h;delta Tr.ok;rwa[h.1]|.ii v a b,h=>by delta uu at h;delta Tr.ok;rw[eZ a h.2.2.2.1,eZ b h.2.2.2.2];rfl|.wh v a,h=>by delta uu at h;delta Tr.ok;rwa[eZ a h.2.2.2]|.tr a z b,h=>by delta uu at h;delta Tr.ok;rw[eZ a h.2.1,eZ b h.2.2];rfl
theorem eZ{c:Sc}:∀(T:Ł Tr),gP c T->mG T=J|[],h=>Ŗ|t::r,h=>by delta gP at h;show(t.ok&&mG r)=J;rw[UH t h.1,eZ r h.2];rfl
end
def Pg.fns(g:Pg):Ł (Ä×Ń):=g.fs.map λx=>(x.f,x.ps.length)
def Pg.sc(g:Pg)(o:ϐ)(i:Þ):Sc:=(o++g.bs.map (·.1),g.ls.map (·.1),g.fns,i)
structure JK(g:Pg):ß extends GdM g where
 fok:∀x∈g.fs,gP (g.sc (x.ps++x.os) J) x.rs
 O9:gP (g.sc [] a5) g.rs
 A0:∀p∈g.ls,p.2.length<=12
structure WS(g:Pg)(P:Pn)(f:Ä)(lo hi:Ń)(o:ϐ):ß where
 ow:iU f P.ow=O o
 ol:o.length<=50st:∃p,iU f P.st=O p/\mn P.rw lo hi p
 df:f≠""->∃n,iU f P.df=O n/\P.rw[n]?=O (.df f)row:∀m,lo<=m->m<hi->∃r,P.rw[m]?=O r/\Ah (g.sc o !cC f "") r/\(∀z d,r=.ak z d->d∈P.ds)/\Laid P.rw lo hi (P.bh,P.fs,P.sc,P.ct) m
def N0{α:Type}{A B C:Ł α}(h:i<B.length):(A++(B++C))[A.length+i]?=B[i]?:=by rw[aK (aQ _ _),fV,aT h]
theorem yC:∀{l:Ł _}{z d:Ä}{o:Ő Ń},(Rw.ak z d,o)∈l->d∈BP l
 |(r,a)::l,z,d,o,h=>by
  rcases aw.mp h with h|h;.cases h;rwa[aF]
  .let:=yC h;induction r<;>first|done|rwa[aE _ this]
theorem Ft:∀{fs g:Ł Fn}{n:Ń},qB (fs++g) n=qB fs n++qB g (n+eY fs)|[],g,n=>Ŗ|x::r,g,n=>by show _::(hZ _ _ _++qB (r++g) _)=_::(hZ _ _ _++qB r _)++qB g (n+(1+dc _+eY r));rw[Ft,qH,bA,show n+1+dc _+eY r=n+(1+dc x.rs+eY r)by lia]
theorem GF:∀{fs g:Ł Fn},eY (fs++g)=eY fs+eY g|[],g=>(cR _).symm|x::r,g=>by show 1+dc _+eY (r++g)=1+dc _+eY r+eY g;rw[GF];exact(dD _ _ _).symm
theorem Fc:∀{fs g:Ł Fn}{n:Ń},mT (fs++g) n=mT fs n++mT g (n+eY fs)|[],g,n=>Ŗ|x::r,g,n=>by show _::mT (r++g) _=_::(mT r _++mT g (n+(1+dc _+eY r)));rw[Fc,show n+1+dc _+eY r=n+(1+dc x.rs+eY r)by lia]
theorem A1:∀{fs g:Ł Fn}{n:Ń}{S:Ly}{st:Ł _},jf (fs++g) n S st=jf g (n+eY fs) (jf fs n S st).1 (jf fs n S st).2|[],g,n,S,st=>Ŗ|x::r,g,n,S,st=>by show jf (r++g) _ _ _=jf g (n+(1+dc _+eY r)) (jf r _ _ _).1 (jf r _ _ _).2;rw[A1,show n+1+dc _+eY r=n+(1+dc x.rs+eY r)by lia]
theorem A2:∀{fs:Ł Fn}{n:Ń}{S:Ly}{st:Ł _}{p:Ä×Ő Ń},p∈st->p∈(jf fs n S st).2|[],n,S,st,p,h=>h|x::r,n,S,st,p,h=>A2 (fs:=r) (dP _ h)
theorem ER:∀{fs g:Ł Fn}{n:Ń},Vc R wi (fs++g) n->Vc R wi g (n+eY fs)|[],g,n,h=>h|x::r,g,n,h=>by let:=ER h.2;show Vc R wi g (n+(1+dc _+eY r));rw[show n+(1+dc _+eY r)=n+1+dc x.rs+eY r by lia];rwa[this]
theorem xq:∀{fs:Ł Fn}{n:Ń}{S:Ly}{st:Ł _},(∀x∈fs,mG x.rs=J)->Vc R wi fs n->m<n->ir S (jf fs n S st).1 m|[],n,S,st,h,H,a=>.refl|x::r,n,S,st,h,H,a=>by let(_,_,b):=iK _ _ ao ao S (h x aF) H.1.2.2 λm e=>by lia λm e=>by lia (ah _) (ah _);exact(b m ()).trans (xq (λy c=>h y (aE _ c)) H.2 ())
def JK.Se(G:JK g):∀x∈g.fs,mG x.rs=true:=λx h=>eZ _ (G.fok x h)
def AI(G:JK g)(hs:ss.Perm (dO (BP g.fl))):WS g (g.pn ss wd) "" (eY g.fs) (eY g.fs+dc g.rs) []:=by
 let(c,a,f):=Pg.at' G.Se (eZ _ G.O9);let(l1,l2,l):=iK _ _ ao ao _ (eZ _ G.O9) a (λm e=>by cases e) (λm e=>by cases e) (ah _) (ah _);erw[(DB λh=>?_,aP _,(_,N8 G.toGdM,l1),λz=>Ă Ŗ z,λm m1 M=>?_)];.rw[bB]at h;let(x,j,k):=cx.mp h;rwa[G.ne x j k]
 .let(i,rfl):=Nat.le.dest m1;let H:i<(hZ g.rs (eY g.fs) ao).length:=by rw[cI];lia
  let e:=N0 (A:=qB g.fs 0) (C:=[]) H;rw[aV,iJ]at e;obtain⟨p,b⟩:∃p,(hZ _ _ _)[i]?=O p:=(_,av H);rw[b]at e;let e:g.fl[eY _+i]?=O p:=e;erw[(p.1,by show(g.fl.map _)[eY _+i]?=_;rw[aN,e];rfl,jc _ _ _ G.O9 p (aL b),λz d r=>?_,l2 _ m1 M)];erw[hs.mem_iff.mpr ((iS _).2 d|>.mpr (yC (z:=z) (o:=p.2) ?_))];rw[<-r];rwa[aL e]
def Q1(G:JK g)(hs:ss.Perm (dO (BP g.fl)))(h:x∈g.fs):∃lo hi,WS g (g.pn ss wd) x.f lo hi (x.ps++x.os):=by
 let(j,k,t):=Pg.at' G.Se (eZ _ G.O9);let(pre,post,e):=List.append_of_mem h;let Se:=G.Se;let a1:=j;rw[e]at a1;let a2:=ER a1;rw[cR]at a2;let a2:(_/\_/\_)/\_:=a2;obtain⟨⟨u,D,v⟩,w⟩:=a2;let Sf:=Se x h;let(l1,l2,L):=iK (lo:=eY pre+1) (hi:=eY pre+1+dc x.rs) x.rs (eY pre+1) ao ao (jf pre 0 sS []).1 Sf v (λm e=>by cases e) (λm e=>by cases e) (ah _) (ah _);let H:g.lf=jf post (eY pre+1+dc x.rs) (d7 x.rs (eY pre+1) ao ao (jf pre 0 sS []).1).1 ((jf pre 0 sS []).2++[(x.f,(d7 x.rs (eY pre+1) ao ao (jf pre 0 sS []).1).2)]):=by delta Pg.lf;rw[e,A1,cR];rfl
 let F:eY g.fs=eY pre+(1+dc x.rs+eY post):=by rw[e,GF];rfl
 let l:(g.st.map (·.1)).Nodup:=by delta Pg.st Pg.lf;rw[aD,yW];erw[dg.mpr (G.nd,⋯,λa n b q z=>?_)];rw[aB.mp q]at z;let(y,c,r):=cx.mp (show a∈g.fs.map Fn.f from n);rwa[G.ne y c (r.trans z)]
 erw[(eY pre+1,eY pre+1+dc x.rs,?_,(G.no x h).2,(_,vi (p:=(x.f,(d7 x.rs (eY pre+1) ao ao (jf pre 0 sS []).1).2)) l ?_,l1),λ_=>(eY pre,vi (p:=(x.f,eY pre)) ?_ ?_,u),λm m1 M=>?_)];.erw[vi (p:=(x.f,x.ps++x.os)) ?_ (dP _ (cx.mpr (x,h,Ŗ)))];show(((g.fs.map λx=>Ý x.f (x.ps++x.os))++[Ý ("":Ä) ([]:ϐ)]).map (·.1)).Nodup;rw[aD,bB];erw[dg.mpr (G.nd,⋯,λa n b q z=>?_)];rw[aB.mp q]at z;let(y,c,r):=cx.mp n;rwa[G.ne y c (r.trans z)]
 .erw[dP _ ?_];rw[H];rwa[A2 (aW _ aF)]
 .show((mT g.fs 0).map (·.1)).Nodup;rw[pT];rwa[G.nd]
 .show _∈mT g.fs 0;rw[e,Fc,cR];rwa[aW _ aF]
 .let(i,rfl):=Nat.le.dest m1;let hi:i<(hZ x.rs (eY pre+1) (O (eY pre))).length:=by rw[cI];lia
  let E:g.fl=qB pre 0++[(.df x.f,ao)]++(hZ x.rs (eY pre+1) (O (eY pre))++(qB post (eY pre+1+dc x.rs)++hZ g.rs (eY g.fs) ao)):=by delta Pg.fl;rw[e,Ft,cR,<-e,bA,bA];show _++(_::(hZ _ _ _++qB _ _)++_)=_;rw[qH,bA];rfl
  let e2:=N0 (A:=qB pre 0++[(Rw.df x.f,ao)]) (C:=qB post (eY pre+1+dc x.rs)++hZ g.rs (eY g.fs) ao) hi;rw[<-E,aj,iJ]at e2;obtain⟨p,s⟩:∃p,(hZ _ _ _)[i]?=O p:=(_,av hi);rw[s]at e2;let e2:g.fl[eY pre+1+i]?=O p:=e2;let K:(!cC x.f "")=true:=by rw[bF.mpr λz=>G.ne x h (bQ.mp z)];rfl
  erw[(p.1,by show(g.fl.map _)[eY pre+1+i]?=_;rw[aN,e2];rfl,?_,λz d B=>?_,?_)];.rw[K];rwa[jc _ _ _ (G.fok x h) p (aL s)]
  .erw[hs.mem_iff.mpr ((iS _).2 d|>.mpr (yC (z:=z) (o:=p.2) ?_))];rw[<-B];rwa[aL e2]
  .let s1:=xq (S:=(d7 x.rs (eY pre+1) ao ao (jf pre 0 sS []).1).1) (st:=(jf pre 0 sS []).2++[(x.f,(d7 x.rs (eY pre+1) ao ao (jf pre 0 sS []).1).2)]) (λy c=>Se y (by rw[e];rwa[aW _ (aE _ c)])) w M;rw[<-H]at s1;let(_,_,s2):=iK _ _ ao ao _ (eZ _ G.O9) k (λm e=>by cases e) (λm e=>by cases e) (ah _) (ah _);exact((l2 _ m1 M).same s1).same (s2 _ ())
def WW(k:Ł cp):ß:=(∃d z,k=wu d z)\/(∃z,k=Dk z)\/∃z,k=Y2 z
def Ks(K:Ł (Ł cp))(n:Ń):ß:=(∀k∈K,WW k)/\K.length<=n
def Ks.mono{K:Ł _}(h:Ks K m)(k:m<=n):Ks K n:=(h.1,aq h.2 k)
def RS{K:Ł _}(h:Ks K n)(H:WW κ):Ks (Dl κ K) (n+1):=by delta Dl;induction K.any _ with|d=>rwa[h.mono (bt n)]|e=>
  erw[(λk R=>?_,by show(K++[κ]).length<=_;rw[aj];rwa[Nat.succ_le_succ h.2])];rcases bu.mp R with z|z;.rwa[h.1 k z]
  .rw[aB.mp z];rwa[H]
def vd(h:Ks k n)(H:WW κ)(hn:n<=900):∃t,kA κ k=O t/\Ks t (n+1):=by erw[(_,?_,RS h H)];delta kA;rw[show Ñ _ _=J from aA (show k.length<1000 by let:=h.2;lia)];rfl
def MD{K:Ł _}(h:Ks K n)(hn:n<=63):F8 K=true:=by
 delta F8 mY;rw[show Ñ _ 64=J from aA (show K.length<64 by let:=h.2;lia)];erw[bJ.mpr λk H=>?_];let s1:qd k=true:=by rcases h.1 k H with ⟨d,z,rfl⟩|⟨z,rfl⟩|⟨z,rfl⟩<;>rfl
 rw[s1];erw[bJ.mpr λb R=>?_];let own:∀(d D:Ń)(z Z:Ä),Xt (wu d z) (wu D Z)=true:=λd D z Z=>by show(nc _ _&&(! Đ _||nc _ _&&(! Đ _||nc _ _&&(! Đ (Ü z=.inr Z)||J))))=J;rw[mJ,show nc _ _=J from Ŗ,show nc _ _=J from Ŗ,show nc _ _=J from Ŗ];simp
 let two:∀(a:Ä)(z Z:Ä),Xt [.inr a,.inr z] [.inr a,.inr Z]=true:=λa z Z=>by show(nc _ _&&(! Đ _||nc _ _&&(! Đ (Ü z=.inr Z)||J)))=J;rw[mJ,show nc _ _=J from Ŗ,show nc _ _=J from Ŗ];simp
 rcases h.1 k H with ⟨d,z,rfl⟩|⟨z,rfl⟩|⟨z,rfl⟩<;>rcases h.1 b R with ⟨D,Z,rfl⟩|⟨Z,rfl⟩|⟨Z,rfl⟩;.rwa[own d D z Z]
 .rfl
 .rfl
 .rfl
 .rwa[two _ z Z]
 .rfl
 .rfl
 .rfl
 .rwa[two _ z Z]
theorem ny:∀{l:ϐ}{n i:Ń},pos z l n=O i->n<=i/\i<n+l.length|y::r,n,i,h=>by let h:(match cC y z with|J=>O n|a5=>pos z r _)=O i:=h;rw[aO];induction e:cC y z with|d=>lia|e=>rw[e]at h;let:=ny h;lia
structure lY(g:Pg)(P:Pn)(f:Ä)(pt:Ő Ń)(r:Ł Fr)(lo hi:Ń)(o:ϐ)(w:Wk)(a b t:Ń):ß where
 fr:∃ns,w.fr=(f,ns,pt)::r/\ns.length=o.length
 fn:WS g P f lo hi o
 bs:P.bs=g.bs.map (·.1)DE:P.ls=g.ls.map (·.1)bx:w.bx.length=P.bs.length
 ls:w.ls.length=P.ls.length
 A0:∀l∈w.ls,l.length<=12ak:w.ak.length=P.ds.length/\∀a∈w.ak,a<=t
 lim:P.bs.length<=100/\P.ls.length<=100/\P.ds.length<=100/\r.length<=7bk:w.bk=a5
 rd:Ks w.rd a
 wr:Ks w.wr b
 td:w.td.length<=t
section
variable{g:Pg}{P:Pn}{f:Ä}{pt:Ő Ń}{r:Ł Fr}{lo hi:Ń}{o:ϐ}{w:Wk}{a b t:Ń}
def lY.read(m:lY g P f pt r lo hi o w a b t)(h:Ks k n):lY g P f pt r lo hi o {w with rd:=k} n b t:=(m.fr,m.fn,m.bs,m.DE,m.bx,m.ls,m.A0,m.ak,m.lim,m.bk,h,m.wr,m.td)
def lY.up(m:lY g P f pt r lo hi o w a b t)(h:a<=A)(c:b<=B)(H:t<=t'):lY g P f pt r lo hi o w A B t':=(m.fr,m.fn,m.bs,m.DE,m.bx,m.ls,m.A0,(m.ak.1,λa h=>aq (m.ak.2 a h) H),m.lim,m.bk,m.rd.mono h,m.wr.mono c,aq m.td H)
theorem lY.own(m:lY g P f pt r lo hi o w a b t):∃ns,w.fr=(f,ns,pt)::r/\ns.length=o.length/\own P w=O ((f,ns,pt),r,o):=by let(ns,h,H):=m.fr;erw[(ns,h,H,?_)];delta W2.own;rw[h];simp only[m.fn.ow];rfl
def NQ(m:lY g P f pt r lo hi o w a b t)(hz:z∈(g.sc o !cC f "").bs)(H:a<=900):∃k n,Bn P w z=O ({w with rd:=k},n)/\Ks k (a+1):=by
 let(N,s,u,d):=m.own;delta Bn;rw[d];show ∃k n,(match pos z o 0 with|O i=>(kA (wu r.length z) w.rd).bind λk=>N[i]?.map λn=>Ý {w with rd:=k} n|ao=>(kA (Dk z) w.rd).bind λk=>(pos z P.bs 0).bind λi=>w.bx[i]?.map λn=>Ý {w with rd:=k} n)=_/\_
 cases p:pos z o 0 with|c i=>
  let(k,e,E):=vd m.rd (.inl (r.length,z,Ŗ)) H;let hi:i<N.length:=by let:=ny p;lia
  erw[(k,N[i],?_,E)];simp only[e,av hi];rfl|a=>
  let(k,e,E):=vd m.rd (.inr (.inl (z,Ŗ))) H;let l:z∈P.bs:=by
   rcases bu.mp hz with h|h;.let(i,hi):=lV h;rw[p]at hi;cases hi
   .rw[m.bs];rwa[h]
  let(j,c):=lV (n:=0) l;let q:j<w.bx.length:=by let:=ny c;rw[m.bx];lia
  erw[(k,w.bx[j],?_,E)];show(kA _ _).bind _=_;rw[e,c];show(w.bx[j]?).map _=_;rw[av q];rfl
def nA(m:lY g P f pt r lo hi o w a b t)(hz:z∈(g.sc o !cC f "").ls)(c:a<=900):∃k l,nz P w z=O ({w with rd:=k},l)/\Ks k (a+1)/\l.length<=12:=by
 let(k,e,E):=vd m.rd (.inr (.inr (z,Ŗ))) c;let(j,h):=lV (n:=0) (show z∈P.ls by rw[m.DE];rwa[hz]);let H:j<w.ls.length:=by let:=ny h;rw[m.ls];lia
 erw[(k,_,?_,E,m.A0 _ (eW H))];delta nz;rw[e,h];show(w.ls[j]?).map _=_;rw[av H];rfl
def ZD{k:Op}(h:k.f x y=.x c):c<1000000:=by induction k with|ov=>let h:(bif Ì _ 0 then Ou.x 1 else .v _)=.x c:=h;cases e:Ì _ 0<;>rw[e]at h<;>cases h;decide|re=>let h:(bif Ì _ 0 then Ou.x 1 else .v _)=.x c:=h;cases e:Ì _ 0<;>rw[e]at h<;>cases h;decide|_=>cases h
unseal wg in def gQ{x:Ń->α}(e:q=O (W,.v n)):wg q k x=k W n:=by rw[e];rfl
unseal wg in def kG{x:Ń->α}(e:q=O (W,.x c)):wg q k x=O (W,x c):=by rw[e];rfl
theorem j6:∀(v:Vx)(w:Wk)(a:Ń),lY g P f pt r lo hi o w a b t->sD (g.sc o !cC f "").bs (g.sc o !cC f "").ls v->a+v.rc<=900->∃k u,ev P v w=O ({w with rd:=k},u)/\Ks k (a+v.rc)/\∀c,u=.x c->c<1000000
 |.n i,w,a,m,H,ha=>(_,_,Ŗ,m.rd,λc e=>())|.b z,w,a,m,H,ha=>by let(k,n,e,h):=NQ m H (dF ‹_›);exact(k,.v n,by show(Bn P w z).map _=_;rw[e];rfl,h,λc e=>())|.s z,w,a,m,H,ha=>by let(k,l,e,h,p):=nA m H (dF ‹_›);erw[(k,.v (_,bM ‹_› ()),?_,h,λc e=>())];show(nz P w z).bind _=_;rw[e];show(Uc l).map _=_;delta Uc;rw[dif_pos _];rfl|.i z v,w,a,m,H,ha=>by let ha:=ha;let(k,u,e,h,d):=j6 v w a m H.2 (dF ‹_›);cases u with|x c=>exact(k,_,kG e,h.mono (bt _),d)|v n=>let(k2,l,E,j,p):=nA (m.read h) H.1 (dF ‹_›);erw[(k2,pc l n,(gQ e).trans nofun,j,λc e=>?_)];delta pc at e;split at e<;>cases e;decide
 |.t v,w,a,m,H,ha=>by let(k,u,e,h,d):=j6 v w a m H ha;induction u with|x c=>exact(k,_,kG e,h,d)|v n=>exact(k,_,gQ e,h,λc e=>by cases e)
 |.o q x y,w,a,m,H,ha=>by let ha:a+(x.rc+y.rc)<=900:=ha;let(k,u,e,h,d):=j6 x w a m H.1 ();cases u with|x c=>exact(k,_,kG e,h.mono (by show _<=a+(x.rc+y.rc);lia),d)|v n=>
   let(k2,u2,E,j,R):=j6 y _ _ (m.read h) H.2 ();let j:Ks k2 (a+(x.rc+y.rc)):=()
   induction u2 with|x c=>exact(k2,_,(gQ e).trans (kG E),j,R)|v N=>exact(k2,_,(gQ e).trans (gQ E),j,λc e=>ZD e)
def Bq{x:α}(h:i<l.length)(H:l.length<=100000):rp l i x=O (l.set i x):=by delta rp;rw[show Ñ i _=J from aA h,aA H];rfl
def nD(m:lY g P f pt r lo hi o w a b t)(hz:z∈(g.sc o !cC f "").bs)(H:b<=900):∃w',oN P w z n=O w'/\lY g P f pt r lo hi o w' a (b+1) t:=by let(s,q,d,l):=m.own;delta oN;rw[l];show ∃w',(match pos z o 0 with|O i=>(kA (wu r.length z) w.wr).bind λk=>(rp s i n).bind λN=>bif Ñ r.length 1000 then O {w with wr:=k,fr:=(f,N,pt)::r}else ao|ao=>(kA (Dk z) w.wr).bind λk=>(pos z P.bs 0).bind λi=>(rp w.bx i n).map λb=>{w with wr:=k,bx:=b})=_/\_;let ol:=m.fn.ol;let(l1,l2,L,u):=m.lim;cases p:pos z o 0 with|c i=>let(k,e,E):=vd m.wr (.inl (_,z,Ŗ)) H;erw[({w with wr:=k,fr:=(f,s.set i n,pt)::r},?_,((_,Ŗ,by rw[cn];rwa[d]),m.fn,m.bs,m.DE,m.bx,m.ls,m.A0,m.ak,m.lim,m.bk,m.rd,E,m.td))];show(kA _ _).bind _=_;rw[e,Bq (by let:=ny p;lia) (),show Ñ _ _=J from aA (bM ‹_› ⋯)];rfl|a=>
  let(k,e,E):=vd m.wr (.inr (.inl (z,Ŗ))) H;let H:z∈P.bs:=by
   rcases bu.mp hz with h|h;.let(i,hi):=lV h;rw[p]at hi;cases hi
   .rw[m.bs];rwa[h]
  let(j,c):=lV H;erw[({w with wr:=k,bx:=w.bx.set j n},?_,(m.fr,m.fn,m.bs,m.DE,by simp only[cn];rwa[m.bx],m.ls,m.A0,m.ak,m.lim,m.bk,m.rd,E,m.td))];show(kA _ _).bind _=_;rw[e,c];show(rp _ j n).map _=_;rw[Bq (by let:=ny c;rw[m.bx];lia) (by rw[m.bx];rwa[aq ‹_› ⋯])];rfl
def vN(m:lY g P f pt r lo hi o w a b t)(hz:z∈(g.sc o !cC f "").ls)(c:b<=900)(d:l.length<=12):∃w',vM P w z l=O w'/\lY g P f pt r lo hi o w' a (b+1) t:=by
 let(k,e,E):=vd m.wr (.inr (.inr (z,Ŗ))) c;let(j,H):=lV (show z∈P.ls by rw[m.DE];rwa[hz]);let(l1,l2,L,n):=m.lim;erw[({w with wr:=k,ls:=w.ls.set j l},?_,(m.fr,m.fn,m.bs,m.DE,m.bx,by simp only[cn];rwa[m.ls],λx i=>?_,m.ak,m.lim,m.bk,m.rd,E,m.td))];.delta vM;rw[e,H];show(rp _ j l).map _=_;rw[Bq (by let:=ny H;rw[m.ls];lia) (by rw[m.ls];rwa[aq ‹_› ⋯])];rfl
 .rcases U8 i with h|h;.rwa[m.A0 x h]
  .rw[h];rwa[d]
def lS(m:lY g P f pt r lo hi o w a b t)(q:Ő Ń):∃w',move w q=O w'/\lY g P f q r lo hi o w' a b t:=by let(n,h,H):=m.fr;let(l1,l2,l,L):=m.lim;erw[({w with fr:=(f,n,q)::r},?_,((n,Ŗ,H),m.fn,m.bs,m.DE,m.bx,m.ls,m.A0,m.ak,m.lim,m.bk,m.rd,m.wr,m.td))];delta move;rw[h];show(bif Ñ _ _ then _ else ao)=_;rw[show Ñ _ _=J from aA (bM ‹_› ⋯)];rfl
def W6(m:lY g P f pt r lo hi o w a b t)(e:d∈P.ds):∃w' n,ask P w d=O (w',n)/\lY g P f pt r lo hi o w' a b (t+1):=by
 let(j,c):=lV (n:=0) e;let H:j<w.ak.length:=by let:=ny c;rw[m.ak.1];lia
 let(l1,l2,l,L):=m.lim;erw[({w with ak:=w.ak.set j (w.ak[j]+1)},Vh P d w.ak[j],?_,(m.fr,m.fn,m.bs,m.DE,m.bx,m.ls,m.A0,(by simp only[cn];rwa[m.ak.1],λx i=>(U8 i).elim (λh=>aS (m.ak.2 x h)) λh=>h▸Nat.succ_le_succ (m.ak.2 _ (eW H))),m.lim,m.bk,m.rd,m.wr,aS m.td))];delta ask;rw[c];show(w.ak[j]?).bind _=_;rw[av H];show(rp _ j _).map _=_;rw[Bq H (by rw[m.ak.1];rwa[aq ‹_› ⋯])];rfl
def After(g:Pg)(P:Pn)(f:Ä)(pt:Ő Ń)(r:Ł Fr)(lo hi:Ń)(o:ϐ)(a b t:Ń)(q:Ő (Wk×Ő Ń)):ß:=∃W c,q=O (W,c)/\lY g P f pt r lo hi o W a b t/\∀x,c=O x->x<1000000
def After.ok{q:Ő _}(e:q=O (w',ao))(m:lY g P f pt r lo hi o w' a b t):After g P f pt r lo hi o a b t q:=(w',_,e,m,λx e=>by cases e)
def After.no{q:Ő _}(e:q=O (w',O c))(m:lY g P f pt r lo hi o w' a b t)(h:c<1000000):After g P f pt r lo hi o a b t q:=(w',_,e,m,λx e=>nofun)
def iF(e:q=O w'):DN q=O (w',ao):=by rw[e];rfl
def Np(m:lY g P f pt r lo hi o w 0 b t)(N:Ah (g.sc o !cC f "") x)(Q:∀z d,x=.ak z d->d∈P.ds)(A:plain x=O d)(T:b<=800)(U:t<=90000):After g P f pt r lo hi o 41 (b+2) (t+1) (d P w x):=by let(hn,_,H):=N;induction x with
 |st z v=>cases A;let H:v.rc<=40:=H;let(k,u,e,h,p):=j6 v w 0 m hn.2 ();cases u with|x c=>rwa[.no (kG e) ((m.read h).up () (aQ _ _) (bt _)) (p c Ŗ)]|v n=>let(w',E,D):=nD (m.read h) hn.1 (n:=n) (aq ‹_› ∅);rwa[.ok ((gQ e).trans (iF E)) (D.up () (bt _) (bt _))]
 |pu z v=>cases A;let H:v.rc+1<=40:=H;let(k,u,e,h,p):=j6 v w 0 m hn.2 ();cases u with|x c=>rwa[.no (kG e) ((m.read h).up () (aQ _ _) (bt _)) (p c Ŗ)]|v n=>let(k2,l,E,j,F):=nA (m.read h) hn.1 ();induction s:Ë 12 l.length with|d=>rwa[.no ((gQ e).trans (by rw[E];show(bif Ë 12 l.length then _ else _)=_;rw[s];rfl)) (((m.read h).read j).up () (aQ _ _) (bt _)) ∅]|e=>let(w',B,M):=vN ((m.read h).read j) hn.1 (l:=l++[n]) (aq ‹_› ∅) (by rw[aj,cB];let:=Ml s;rwa[‹_›]);rwa[.ok ((gQ e).trans (by rw[E];show(bif Ë 12 l.length then _ else _)=_;rw[s];rwa[iF B])) (M.up () (bt _) (bt _))]
 |po z y=>cases A;let(k2,l,E,j,F):=nA m hn.2 (aP _);cases L:l.getLast? with|a=>rwa[.no (show(nz P w y).bind _=_ by rw[E];show(match l.getLast? with|ao=>_|O n=>_)=_;rw[L]) ((m.read j).up (aH _ _) (aQ _ _) (bt _)) ∅]|c n=>let(w',B,M):=vN (m.read j) hn.2 (l:=l.dropLast) (aq ‹_› ∅) (by rw[List.length_dropLast];lia);let(W,G,I):=nD M hn.1 (n:=n) (bM ‹_› ∅);rwa[.ok (show(nz P w y).bind _=_ by rw[E];show(match l.getLast? with|ao=>_|O n=>_)=_;rw[L];show(vM P _ y l.dropLast).bind _=_;rw[B];rwa[iF G]) (I.up (aH _ _) (ah _) (bt _))]
 |pt z u v=>cases A;let H:u.rc+v.rc+1<=40:=H;let(k,q,e,h,p):=j6 u w 0 m hn.2.1 ();induction q with|x c=>rwa[.no (kG e) ((m.read h).up () (aQ _ _) (bt _)) (p c Ŗ)]|v i=>let(k1,q,K,C,Z):=j6 v _ _ (m.read h) hn.2.2 ();induction q with|x c=>rwa[.no ((gQ e).trans (kG K)) (((m.read h).read C).up () (aQ _ _) (bt _)) (Z c Ŗ)]|v n=>let(k2,l,E,j,F):=nA ((m.read h).read C) hn.1 ();induction s:Ë l.length i.val with|d=>rwa[.no ((gQ e).trans ((gQ K).trans (by rw[E];show(bif Ë l.length i.val then _ else _)=_;rw[s];rfl))) ((((m.read h).read C).read j).up () (aQ _ _) (bt _)) ∅]|e=>let hi:=Ml s;let(w',B,M):=vN (((m.read h).read C).read j) hn.1 (l:=l.set i.val n) (aq ‹_› ∅) (by rw[cn];rwa[F]);rwa[.ok ((gQ e).trans ((gQ K).trans (by rw[E];show(bif Ë l.length _ then _ else(rp l _ n).bind _)=_;rw[s,Bq hi (aq ‹_› ⋯)];rwa[iF B]))) (M.up () (bt _) (bt _))]
 |ak z d=>cases A;let(w',n,E,D):=W6 m (Q z d Ŗ);let(X,G,I):=nD D hn.1 (n:=n) (aq ‹_› ∅);rwa[.ok (show(ask P w d).bind _=_ by rw[E];rwa[iF G]) (I.up (aP _) (bt _) (ah _))]|te v=>cases A;let H:v.rc<=40:=H;let(k,u,e,h,p):=j6 v w 0 m hn ();cases u with|x c=>rwa[.no (kG e) ((m.read h).up () (aQ _ _) (bt _)) (p c Ŗ)]|v n=>
   let R:=m.td;erw[.ok (w':={w with rd:=k,td:=w.td++[n]}) ((gQ e).trans ?_) (m.fr,m.fn,m.bs,m.DE,m.bx,m.ls,m.A0,(m.ak.1,λa S=>aS (m.ak.2 a S)),m.lim,m.bk,h.mono (),m.wr.mono (aQ _ _),?_)];.simp only[aA (show w.td.length<=100000 by lia)];rfl
   .simp only[aj];rwa[cH ‹_›]
 |_=>done
theorem K0:∀(vs:Ł Vx)(w:Wk)(a:Ń),lY g P f pt r lo hi o w a b t->(∀v∈vs,sD (g.sc o !cC f "").bs (g.sc o !cC f "").ls v)->a+NP vs<=900->∃k u,OX P vs w=O ({w with rd:=k},u)/\Ks k (a+NP vs)/\(∀ns,u=.inl ns->ns.length=vs.length)/\∀c,u=.inr c->c<1000000|[],w,a,m,H,d=>(_,_,Ŗ,m.rd,λns e=>nofun,λc e=>())|v::vs,w,a,m,H,d=>by let d:a+(v.rc+NP vs)<=900:=d;let(k,u,e,h,p):=j6 v w a m (H v aF) ();induction u with|x c=>exact(k,_,by show(ev P v w).bind _=_;rw[e];rfl,h.mono (by show _<=a+(v.rc+NP vs);lia),λns e=>(),λC e=>())|v n=>
   let(k2,u2,E,i,j,q):=K0 vs _ _ (m.read h) (λy l=>H y (aE _ l)) ();let i:Ks k2 (a+(v.rc+NP vs)):=()
   induction u2 with|inl ns=>exact(k2,.inl _,by show(ev P v w).bind _=_;rw[e];show(OX P vs _).map _=_;rw[E];rfl,i,λN e=>by cases e;rwa[bL _ (j ns Ŗ)],λc e=>())|inr c=>exact(k2,.inr c,by show(ev P v w).bind _=_;rw[e];show(OX P vs _).map _=_;rw[E];rfl,i,λN e=>(),λC e=>())
theorem LU:∀(l:ϐ)(K:Ł _)(n:Ń),Ks K n->n+l.length<=900->∃T,ro d l K=O T/\Ks T (n+l.length)|[],K,n,h,hn=>(K,Ŗ,h)|z::l,K,n,h,hn=>by rw[aO]at hn⊢;let(k,e,H):=vd h (.inl (d,z,Ŗ)) (aq (aQ _ _) ‹_›);let(k2,E,c):=LU l k _ H ();erw[(k2,?_,())];show(kA _ K).bind _=_;rw[e];rwa[E]
structure Px(g:Pg)(P:Pn):ß where main:∃lo hi,WS g P "" lo hi []fn:∀x∈g.fs,∃lo hi,WS g P x.f lo hi (x.ps++x.os)ne:∀x∈g.fs,x.f≠""bs:P.bs=g.bs.map (·.1)DE:P.ls=g.ls.map (·.1)lim:P.bs.length<=100/\P.ls.length<=100/\P.ds.length<=100
def Fy(g:Pg)(P:Pn)(x:Fr):ß:=∃lo hi o,WS g P x.f lo hi o/\x.ns.length=o.length/\mn P.rw lo hi x.pt
def LB(P:Pn)(q:Ő Ń):ß:=∃m z f v,q=O m/\P.rw[m]?=O (.ca z f v)
def lw(g:Pg)(P:Pn):Ł Fr->ß|[]=>ŧ|x::r=>Fy g P x/\match r with|[]=>x.f=""|y::_=>x.f≠""/\LB P y.pt/\lw g P r
def rJ(g:Pg)(P:Pn)(f:Ä)(r:Ł Fr):ß:=match r with|[]=>f=""|y::_=>f≠""/\LB P y.pt/\lw g P r
def k6:lw g P (x::r)↔Fy g P x/\rJ g P x.f r:=by rfl
structure Inv(g:Pg)(P:Pn)(k:Ń)(w:Wk):ß where
 N9:lw g P w.fr
 f8:w.fr.length<=8bx:w.bx.length=P.bs.length
 ls:w.ls.length=P.ls.length
 A0:∀l∈w.ls,l.length<=12ak:w.ak.length=P.ds.length/\∀a∈w.ak,a<=k
 td:w.td.length<=k
def lY.inv(m:lY g P f pt r lo hi o w a b t)(H:mn P.rw lo hi pt)(c:rJ g P f r):Inv g P t w:=by let(n,h,d):=m.fr;let(_,_,_,l):=m.lim;exact(by rw[h];rwa[k6.mpr ((lo,hi,o,m.fn,d,H),c)],by rw[h];rwa[cH ‹_›],m.bx,m.ls,m.A0,m.ak,m.td)
def Step(g:Pg)(P:Pn)(f:Ä)(pt:Ő Ń)(r:Ł Fr)(lo hi:Ń)(o:ϐ)(t:Ń)(q:Ő (Wk×Ő Ń)):ß:=(∃W,q=O (W,ao)/\Inv g P t W/\Ks W.rd 60/\Ks W.wr 60)\/∃W c,q=O (W,O c)/\c<1000000/\lY g P f pt r lo hi o W 60 59 t
def Step.ok{F:Ä}{p:Ő Ń}{R:Ł Fr}{z T:Ń}{c:ϐ}{q:Ő _}(e:q=O (w',ao))(m:lY g P F p R z T c w' a b t)(H:a<=60)(d:b<=60)(i:mn P.rw z T p)(h:rJ g P F R):Step g P f pt r lo hi o t q:=.inl (w',e,m.inv i h,m.rd.mono H,m.wr.mono d)
def Step.no{c:Ń}{q:Ő _}(e:q=O (w',O c))(h:c<1000000)(m:lY g P f pt r lo hi o w' a b t)(H:a<=60)(d:b<=59):Step g P f pt r lo hi o t q:=.inr (w',c,e,h,m.up H d (ah _))
def Fw(K:Px g P)(m:lY g P f pt r lo hi o w a b t)(I:f≠"")(j:rJ g P f r)(k:b<=800)(n:Nm):∃w' e q r' Z T d,Rh P w n=O w'/\lY g P e q r' Z T d w' a (b+1) t/\mn P.rw Z T q/\rJ g P e r':=by let(N,l,R):=m.fr;induction r with|f=>done|g y r=>
  obtain⟨_,⟨c,z,e,S,p,H⟩,s⟩:=j;obtain⟨⟨Z,T,d,F,hn,u⟩,Q⟩:=k6.mp s;let(Y,i,U):=y;subst p;let(v,x,_):=u c Ŗ;let(X,h,ok,_,ld):=F.row c v x;rw[H]at h;cases h;let(q,A,B):=ld.bh;let(l1,l2,L,l4):=m.lim;let m1:lY g P Y (O c) r Z T d {w with fr:=(Y,i,_)::r} a b t:=((i,Ŗ,hn),F,m.bs,m.DE,m.bx,m.ls,m.A0,m.ak,(l1,l2,L,dF ‹_›),m.bk,m.rd,m.wr,m.td);let(w2,E,M):=nD m1 ok.1.1 (aq ‹_› ⋯);let(W,C,D):=lS M q;erw[(W,Y,q,r,Z,T,d,?_,D,B,Q)];let G:xr w=O {w with fr:=(Y,i,O c)::r}:=by delta xr;rw[l]
  show(xr w).bind _=_;rw[G];show(Qb _).bind _=_;rw[H];show(oN P _ z n).bind _=_;rw[E,A];rwa[C]
def KS(K:Px g P)(m:lY g P f pt r lo hi o w a b t)(h:x∈g.fs)(v:vs.length=x.ps.length)(i:r.length<=6)(j:b<=800):∃w' z T q,ft P w x.f vs=O w'/\(∀ns,w.fr=(f,ns,pt)::r->lY g P x.f q ((f,ns,pt)::r) z T (x.ps++x.os) w' a (b+50) t)/\mn P.rw z T q:=by
 let(z,T,F):=K.fn x h;let(q,H,Y):=F.st;let ol:=F.ol;let(k,e,c):=LU (x.ps++x.os) _ b m.wr ();let p:x.ps.length<=(x.ps++x.os).length:=⋯
 let(ns,B,D):=m.fr;let(l1,l2,l,L):=m.lim;erw[({w with wr:=k,fr:=(x.f,vs++Ð ((x.ps++x.os).length-vs.length) 0,q)::w.fr},z,T,q,?_,λn d=>((_,by show _::w.fr=_;rw[d],nofun),F,m.bs,m.DE,m.bx,m.ls,m.A0,m.ak,(l1,l2,l,by rwa[cH ‹_›]),m.bk,m.rd,c.mono (Nat.add_le_add_left ‹_› _),m.td),Y)];.delta ft;rw[F.ow];show(iU x.f _).bind _=_;rw[H,aA (show vs.length<=(x.ps++x.os).length by lia),aA (aq ‹_› ⋯),show Ñ _ _=J from aA (show w.fr.length<1000 by rw[B,aO];lia),e];rfl
def o_(K:Px g P)(m:lY g P f (O n) r lo hi o w 0 0 t)(hn:mn P.rw lo hi (O n))(A:P.rw[n]?=O x)(hr:Ah (g.sc o !cC f "") x)(hd:∀z d,x=.ak z d->d∈P.ds)(ld:Laid P.rw lo hi (P.bh,P.fs,P.sc,P.ct) n)(j:rJ g P f r)(R:t<=90000):Step g P f (O n) r lo hi o (t+1) (mV P w n):=by
 let e0:mV P w n=match plain x with
   |O d=>(d P w x).bind λp=>match p.2 with|O c=>O (p.1,O c)|ao=>(gF n P.bh).bind λq=>DN (move p.1 q)
   |ao=>(F9 x).bind λd=>d P w x:=by delta mV;rw[A];rfl
 rw[e0];induction hp:plain x with
 |c d=>let(w',c,e,D,H):=Np m hr hd hp (aP _) R;show Step g P f (O n) r lo hi o (t+1) ((d P w x).bind _);rw[e];induction c with|c c=>rwa[.no Ŗ (H c Ŗ) D (aH _ _) (aH _ _)]|a=>let(q,G,YF):=ld.bh;let(W,E,M):=lS D q;erw[.ok (w':=W) ?_ M (aH _ _) (aH _ _) YF j];show(gF n P.bh).bind _=_;rw[G];rwa[iF E]
 |a=>
  show Step g P f (O n) r lo hi o (t+1) ((F9 x).bind λd=>d P w x);let(B,_,H):=hr;let I:nu w=O (O n):=by let(ns,Q,_):=m.fr;delta nu;rw[Q]
  induction x with
  |ii v X S=>
   let H:v.rc<=40:=H;let(k,u,e,h,C):=j6 v w 0 m B ();let m1:=(m.read h).up (ah _) (ah _) (bt t);let T:Qm P w (.ii v X S)=wg (ev P v w) (λw m=>(bif Ì m.val 0 then gF n P.sc else gF n P.fs).bind λq=>DN (move w q)) some:=by show(nu w).bind _=_;rw[I];rfl
   show Step g P f (O n) r lo hi o (t+1) (Qm P w (.ii v X S));rw[T];induction u with|x c=>rwa[.no (kG e) (C c Ŗ) m1 () (aP _)]|v i=>let(U,l,Y):=ld.sc _ A Ŗ;let(Z,s,Ln):=ld.fs _ A Ŗ;induction F:Ì i.val 0 with|d=>let(W,E,M):=lS m1 U;rwa[.ok ((gQ e).trans (by rw[F];show(gF n P.sc).bind _=_;rw[l];rwa[iF E])) M () (aP _) Y j]|e=>let(W,E,M):=lS m1 Z;rwa[.ok ((gQ e).trans (by rw[F];show(gF n P.fs).bind _=_;rw[s];rwa[iF E])) M () (aP _) Ln j]
  |wh v X=>
   let H:v.rc<=40:=H;let(k,u,e,h,C):=j6 v w 0 m B ();let m1:=(m.read h).up (ah _) (ah _) (bt t);let T:Qp P w (.wh v X)=wg (ev P v w) (λw m=>(bif Ì m.val 0 then gF n P.bh else gF n P.fs).bind λq=>DN (move w q)) some:=by show(nu w).bind _=_;rw[I];rfl
   show Step g P f (O n) r lo hi o (t+1) (Qp P w (.wh v X));rw[T];induction u with|x c=>rwa[.no (kG e) (C c Ŗ) m1 () (aP _)]|v i=>let(U,l,Y):=ld.bh;let(Z,s,Ln):=ld.fs _ A Ŗ;cases F:Ì i.val 0 with|d=>let(W,E,M):=lS m1 U;rwa[.ok ((gQ e).trans (by rw[F];show(gF n P.bh).bind _=_;rw[l];rwa[iF E])) M () (aP _) Y j]|e=>let(W,E,M):=lS m1 Z;rwa[.ok ((gQ e).trans (by rw[F];show(gF n P.fs).bind _=_;rw[s];rwa[iF E])) M () (aP _) Ln j]
  |fa v=>let H:v.rc<=40:=H;let(k,u,e,h,C):=j6 v w 0 m B ();let m1:=(m.read h).up (ah _) (ah _) (bt t);induction u with|x c=>rwa[.no (kG e) (C c Ŗ) m1 () (aP _)]|v i=>rwa[.no (gQ e) i.isLt m1 () (aP _)]
  |rt v=>
   let H:v.rc<=40:=H;let(k,u,e,h,C):=j6 v w 0 m B.2 ();let m1:=(m.read h).up (ah _) (ah _) (bt t);let hf:f≠"":=λz=>by let Q:(!cC f "")=true:=B.1;rw[bQ.mpr z]at Q;cases Q
   cases u with|x c=>rwa[.no (kG e) (C c Ŗ) m1 () (aP _)]|v i=>let(w',f',q,r',zW,tR,o',e2,D,G,VA):=Fw K m1 hf j (aP _) i;rwa[.ok ((gQ e).trans (iF e2)) D () (aH _ _) G VA]
  |ca z f' L=>let H:NP L<=40:=H;let(F,hm,hv):=B;let(fx,N,he):=cx.mp hm;let he1:fx.f=f':=bL Prod.fst he;let he2:fx.ps.length=L.length:=bL Prod.snd he;subst he1;let(k,u,e,h,h3,C):=K0 L w 0 m hv ();let m1:=(m.read h).up (ah _) (ah _) (bt t);let(ns,mD,_):=m1.fr;show Step g P f _ r lo hi o _ ((OX P L w).bind _);rw[e];induction u with|inr c=>rwa[.no Ŗ (C c Ŗ) m1 () (aP _)]|inl ns'=>show Step g P f _ r lo hi o _ (bif Ë 8 w.fr.length then _ else _);rw[show w.fr.length=r.length+1 by rw[mD];rfl];induction h8:Ë 8 _ with|d=>rwa[.no Ŗ ⋯ m1 () (aP _)]|e=>let:=Ml h8;let(w',zW,tR,q,e2,D,G):=KS K m1 N ((h3 ns' Ŗ).trans he2.symm) () (aP _);rwa[.ok (iF e2) (D ns mD) () (aH _ _) G (K.ne fx N,(n,z,_,L,Ŗ,A),by let(ns2,g1,g2):=m1.fr;rw[mD]at g1;cases g1;rwa[k6.mpr ((lo,hi,o,m.fn,g2,hn),j)])]
  |tr X z S=>let(_,_,y,hy,R):=hn n Ŗ;rw[A]at hy;cases hy;cases R|df z=>rwa[B.elim]|_=>done
theorem wZ:∀(fr:Ł Fr),lw g P fr->(∃x r m,fr=x::r/\x.pt=O m)->∃x r lo hi o k,lK P fr=O (x::r,k)/\WS g P x.f lo hi o/\x.ns.length=o.length/\rJ g P x.f r/\Jz P.rw lo hi k/\r.length+1<=fr.length
 |[],h,_=>h.elim|x::r,h,(M,N,m,e,n)=>by
  cases e;obtain⟨⟨lo,hi,o,F,hn,p⟩,d⟩:=k6.mp h;let(q,s,_):=p m n;let(_,_,_,_,ld):=F.row m q s;let(c,u,H):=ld.ct;let E:∀C,gF m P.ct=O C->lK P (x::r)=match C with|O k=>O _|ao=>match r.isEmpty with|J=>O _|a5=>lK P r:=λC i=>by show x.pt.bind _=_;rw[n];show(gF m _).bind _=_;rw[i];rfl
  rw[E c u];induction c with|c k=>exact(x,r,lo,hi,o,_,Ŗ,F,hn,d,H,⋯)|a=>cases r with|f=>exact(x,[],lo,hi,o,_,Ŗ,F,hn,d,H,ah _)|g y r=>obtain⟨_,⟨c,z,Q,S,v,_⟩,A⟩:=d;let(X,R,l,j,B,k,G,D,I,K,L,T):=wZ _ A (y,r,c,Ŗ,v);exact(X,R,l,j,B,k,G,D,I,K,L,by rwa[aS ‹_›])
def Ke(K:Px g P)(m:lY g P f (O n) r lo hi o w 60 59 t)(j:mn P.rw lo hi (O n))(l:rJ g P f r)(s:c<1000000):∃w' k,qT P w c=O (w',k)/\Ks w'.rd 60/\Ks w'.wr 60/\(w'.bk=a5->Inv g P t w'):=by let(U,H,u):=m.fr;let(x,R,Z,T,v,k,e,F,hn,Q,A,B):=wZ _ (by rw[H];rwa[k6.mpr ((lo,hi,o,m.fn,u,j),l)]) (_,_,n,H,Ŗ);let(l1,l2,L,l4):=m.lim;rw[H,aO]at B;delta qT;rw[e];induction k with|a=>exact(_,_,Ŗ,m.rd,m.wr.mono (bt _),λz=>by cases z)|c k=>let(C,D,y,d,ht):=A k Ŗ;let(y2,h,ok,_,ld):=F.row k C D;rw[d]at h;cases h;induction y with|tr xa z xb=>let(X,i,p):=x;let m1:lY g P X p R Z T v {w with fr:=(X,i,p)::R} 60 59 t:=((i,Ŗ,hn),F,m.bs,m.DE,m.bx,m.ls,m.A0,m.ak,(l1,l2,L,()),m.bk,m.rd,m.wr,m.td);let(W,E,G):=nD m1 ok.1 (aH _ _);let(q,I,Y):=ld.sc _ d Ŗ;let(N,S,M):=lS G q;erw[(N,O k,?_,M.rd,M.wr,λ_=>M.inv Y Q)];show(UJ _).bind _=_;rw[d,show UC c=O _ by delta UC;rw[dif_pos s]];show(oN P _ z _).bind _=_;rw[E,I];show(move W q).map _=_;rw[S];rfl|_=>done
def zK(K:Px g P)(I:Inv g P k w)(A:w.wo="on")(i:k<=90000):∃w' x,kZ P w=O (w',x)/\(w'.wo="on"->Inv g P (k+1) w'):=by
 let s:w.bk=false:=by induction e:w.bk with|e=>rfl|d=>let h:(bif w.bk then("broken":Ä)else OL _)="on":=A;rw[e]at h;rwa[Ă (bQ.mpr (show("broken":Ä)="on"from h)) ∅]
 let d:∀(n:Ń)(p:Wk×Ő Ń),r9 P w=O n->mV P _ n=O p->∀q:Wk×Ä×Ő Ń,Ho P n p=O q->Ks _ 60->Ks _ 60->(q.1.bk=a5->Inv g P (k+1) q.1)->∃w' x,kZ P w=O (w',x)/\(w'.wo="on"->Inv g P _ w'):=λn p C E q D G L N=>by
  erw[(q.1,My w n q.2.1 q.1 q.2.2,?_,λQ=>N ?_)];.delta kZ;rw[C];show(mV P _ n).bind _=_;rw[E];show(Ho P n p).bind _=_;rw[D];show(bif F8 _&&F8 _ then _ else ao)=_;rw[MD G (aH _ _),MD L (aH _ _)];rfl
  .induction e:q.1.bk with|e=>rfl|d=>let h:(bif q.1.bk then("broken":Ä)else OL _)="on":=Q;rw[e]at h;rwa[Ă (bQ.mpr (show("broken":Ä)="on"from h)) ∅]
 let hs:=I.N9;cases H:w.fr with|f=>rw[H]at hs;rwa[hs.elim]|g x r=>let(R,S,X):=x;rw[H]at hs;obtain⟨⟨lo,hi,o,F,hn,u⟩,l⟩:=k6.mp hs;let f8:=I.f8;rw[H]at f8;let(l1,l2,T):=K.lim;let m:lY g P R X r lo hi o w.cl 0 0 k:=((S,H,hn),F,K.bs,K.DE,I.bx,I.ls,I.A0,I.ak,(l1,l2,T,dS ‹_›),Ŗ,((λk i=>nomatch i),ah _),((λk i=>nomatch i),ah _),I.td);induction X with
  |a=>induction r with|f=>let h:(bif w.bk then("broken":Ä)else OL _)="on":=A;rw[s,H]at h;rwa[Ă (bQ.mpr (show("done":Ä)="on"from h)) ∅]|g y r=>
    let B:=l.1;let(n,v,z):=F.df B;let(w',f',q,r',zW,tR,o',E,M,U,W):=Fw K m B l (aP _) 0;erw[d n (w',ao) ?_ ?_ _ rfl (M.rd.mono (aP _)) (M.wr.mono (aH _ _)) λ_=>(M.up (ah _) (ah _) (bt k)).inv U W];.delta r9;rw[H];rwa[v]
    .delta mV;rw[z];rwa[iF E]
  |c n=>
   let(Y,Z,_):=u n Ŗ;let(y,hy,ok,v,ld):=F.row n Y Z;let j:r9 P w=O n:=by delta r9;rw[H]
   rcases o_ K m u hy ok v ld l i with ⟨w',e,iv,k1,k2⟩|⟨w',c,e,hc,M⟩;.rwa[d n _ j e _ rfl k1 k2 λ_=>iv]
   .let(w2,k3,E,j1,j2,j3):=Ke K M u l hc;rwa[d n _ j e _ (by show(qT P w' c).map _=_;rw[E];rfl) j1 j2 j3]
end
def Nt(G:JK g)(hs:ss.Perm (dO (BP g.fl))):Px g (g.pn ss wd):=((_,_,AI G hs),λx h=>Q1 G hs h,G.ne,Ŗ,Ŗ,by show(g.bs.map _).length<=100;rw[ae];rwa[G.lb],by show(g.ls.map _).length<=100;rw[ae];rwa[G.ll],by show ss.length<=100;rw[hs.length_eq];let:=G.dr;rwa[aq ‹_› ⋯])
def YL(G:JK g)(hs:ss.Perm (dO (BP g.fl))):Inv g (g.pn ss (BU w)) 0 (g.w0 ss w):=by let F:=AI (wd:=BU w) G hs;let(p,h,H):=F.st;let h:iU "" g.st=O p:=h;rw[N8 G.toGdM]at h;cases h;erw[(((_,_,[],F,Ŗ,H),Ŗ),by show 1<=8;decide,by show(g.bs.map _).length=(g.bs.map _).length;rw[ae,ae],by show(g.ls.map _).length=(g.ls.map _).length;rw[ae,ae],λl b=>?_,(bP,λa c=>gm (List.eq_of_mem_replicate c)),ah _)];let(p,d,rfl):=cx.mp b;rwa[G.A0 p d]
theorem NS(K:Px g P):∀(n:Ń)(k:Ń)(w:Wk),(w.wo="on"->Inv g P k w)->k+n<=90000->∃m w' xs,Rn P w m w' xs/\m<=n/\(m=n\/w'.wo≠"on")
 |0,k,w,I,h=>(0,w,[],.z,ah _,.inl Ŗ)|n+1,k,w,I,h=>by
  by_cases H:w.wo="on";.let(W,x,e,i):=zK K (I H) H (aq (aQ _ _) ‹_›);let(m,w',xs,r,b,a):=NS K n _ W i ();exact(_,w',_,.s H e r,cH ‹_›,a.imp (bL _) id)
  .exact(0,w,[],.z,aP _,.inr H)
theorem kH:∀(v:Vx)(w:Wk),ev {P with wd:=d} v w=ev P v w|.n i,w=>Ŗ|.b z,w=>Ŗ|.s z,w=>Ŗ|.i z v,w=>by rw[ev,kH v w];rfl|.t v,w=>by delta ev;rw[kH v w]|.o k a b,w=>by rw[ev,kH a w];congr 1;funext w x;rw[kH b w]
theorem K1:∀(l:Ł Vx)(w:Wk),OX {P with wd:=d} l w=OX P l w
 |[],w=>Ŗ|v::r,w=>by
  rw[OX,kH v w];congr 1;funext p;split;.rfl
  .rw[K1 r _]
theorem w6:∀(l:Ł Fr),lK {P with wd:=d} l=lK P l|[]=>Ŗ|x::r=>by delta lK;rw[w6 r]
def EK(P:Pn)(d:Ł (Ä×Ł Nm))(w:Wk):ß:=∀(z:Ä)(i a:Ń),pos z P.ds 0=O i->w.ak[i]?=O a->Vh {P with wd:=d} z a=Vh P z a
def W7(h:EK P d w):ask {P with wd:=d} w z=ask P w z:=by delta ask;cases H:pos z _ 0 with|a=>rfl|c i=>show(w.ak[i]?).bind _=w.ak[i]?.bind _;cases b:w.ak[i]? with|a=>rfl|c a=>show(rp _ i _).map _=(rp _ i _).map _;rw[h z i a H b]
def p_(h:EK P d w):mV {P with wd:=d} w n=mV P w n:=by delta mV;congr 1;funext r;cases r with|st z v=>show(Cz _ w _).bind _=(Cz P w _).bind _;delta Cz;dsimp only;rw[kH];rfl|pu z v=>show(uG _ w _).bind _=(uG P w _).bind _;delta uG;dsimp only;rw[kH];rfl|po z y=>rfl|pt z u v=>show(Cw _ w _).bind _=(Cw P w _).bind _;delta Cw;simp only[kH];rfl|ak z y=>show(Cv _ w _).bind _=(Cv P w _).bind _;delta Cv;dsimp only;rw[W7 h];rfl|te v=>show(uH _ w _).bind _=(uH P w _).bind _;delta uH;dsimp only;rw[kH]|ii v a b=>show Qm _ w (.ii v a b)=Qm P w (.ii v a b);delta Qm;simp only[kH]|wh v a=>show Qp _ w (.wh v a)=Qp P w (.wh v a);delta Qp;simp only[kH]|tr a z b=>rfl|fa v=>show uF _ w (.fa v)=uF P w (.fa v);delta uF;simp only[kH]|ca z f s=>show uE _ w (.ca z f s)=uE P w (.ca z f s);delta uE;simp only[K1];rfl|rt v=>show Cy _ w (.rt v)=Cy P w (.rt v);delta Cy;dsimp only;rw[kH];rfl|df z=>rfl
def GC(h:EK P d w):kZ {P with wd:=d} w=kZ P w:=by
 delta kZ;congr 1;funext n;rw[p_ (show EK P d w.cl from h)];congr 1;funext p;let e:Ho {P with wd:=d} n p=Ho P n p:=by
  delta Ho;split;.rfl
  .rw[qT,w6];rfl
 rw[e]
def Jw(P:Pn)(d:Ł (Ä×Ł Nm))(n:Ń):ß:=∀z a,a<n->Vh {P with wd:=d} z a=Vh P z a
def s_(K:Px g P)(A:Jw P d n)(hn:n<=90000):∀{m k:Ń}{w w':Wk}{xs:ϑ},Rn P w m w' xs->(w.wo="on"->Inv g P k w)->k+m<=n->Rn {P with wd:=d} w m w' xs:=by intro m k w w' xs r;induction r generalizing k with|z=>rwa[λ_ _=>.z]|@s w W w' m x xs h e r c=>intro I j;let b:=I h;let(l,X,E,f):=zK K b h ();rw[e]at E;cases E;erw[.s h ?_ (c f ())];rw[GC λz i a _ H=>A z a (bM (b.ak.2 a (aL H)) ())];rwa[e]
def HI(n:Ń)(ns:Ł Nm):Ł Nm:=((ns++Ð n 0).take (max n ns.length)++[5,6]).take 40
def F1(n:Ń)(wd:Ł (Ä×Ł Nm)):Ł (Ä×Ł Nm):=wd.map λp=>(p.1,HI n p.2)
theorem L9:∀{wd:Ł _},iU z (F1 n wd)=(iU z wd).map (HI n)|[]=>Ŗ|p::r=>by show(match cC p.1 z with|J=>O (HI n p.2)|a5=>iU z (F1 n r))=(match cC p.1 z with|J=>O p.2|a5=>iU z r).map _;rw[L9];cases cC p.1 z<;>rfl
def R3(h:a<n)(hn:n<=38):(HI n ns)[a]?.getD 0=ns[a]?.getD 0:=by
 delta HI;rw[eo (),aT (by rw[bK,aj,bP];lia),eo ()];by_cases H:a<ns.length;.rw[aT H]
 .rw[aK (),cW (by lia:ns.length<=a),eK,b9 ()];rfl
def Ź(hn:n<=38):Jw P (F1 n P.wd) n:=λz a h=>by show(match iU z (F1 n _)with|O N=>N[a]?.getD 0|ao=>0)=match iU z P.wd with|O N=>N[a]?.getD 0|ao=>0;rw[L9];cases iU z _ with|a=>rfl|c N=>rwa[R3 h hn]
def Zc(h:Ve (O wd)):Ve (O (F1 n wd)):=by
 erw[(?_,?_)];.show((F1 n wd).map _).Nodup;delta F1;rw[bB];rwa[h.1]
 .show(F1 n wd).length<=100;delta F1;rw[ae];rwa[h.2]
def qi:(vB a n).length=n:=by delta vB;rw[ae,eL]
def zE{n:Ń}(h:n<=2000):(qE (n:Î).toNat&&Đ ((-4611686018427387904:Î)<=n))=true:=by rw[mH (bv.mpr (aq ‹_› ⋯))];rfl
def TZ(w W:Wk)(x:Pv):Pv:=.T [w.p,.T [W.p,x]]
inductive RT(P:Pn)(w0:Wk):ϑ->Wk->ß|z:RT P w0 [] w0|s{rs:ϑ}{w w1:Wk}{x:Pv}(r:RT P w0 rs w)(hw:w.wo="on")(e:kZ P w=O (w1,x)):RT P w0 (rs++[TZ w w1 x]) w1
inductive Ka:Ct|mk{P:Pn}{w0 w':Wk}{m n:Ń}{xs:ϑ}{Q:Dv->Hs->ß}{xc:XP}(hl:P.lo)(r:Rn P w0 m w' xs)(hm:m<=n)(he:m=n\/w'.wo≠"on")(hn:n<=2000)(q:∀rs,RT P w0 rs w'->rs.length=m->Q (.p (.L rs)) []):Ka [.p (DJ P w0),.p (iP n)] [] Q xc
inductive JZ(P:Pn)(w0 w':Wk)(m n:Ń)(f:Ń):Es->Hs->ß|mk{w:Wk}{zs rs:ϑ}(rt:RT P w0 rs w)(r:Rn P w f w' zs)(hi:rs.length+f=m):JZ P w0 w' m n f [O (.p (DJ P w0)),O (.p (iP n)),O (.r 0),O (.p w.p)] [.L rs]
section
variable{ca:Ń->À}{Jc:Ń->Ct}{W:Wd}{k:Ń}
def Hm(B:LX ca Jc W)(S:SX ca W)(h:2<=k)(D:DI ca Jc W 500 2)(d:DI ca Jc W 501 k):DX ca Jc W 53 (k+2) Ka:=by erw[B.e 4 J [] [500,501] (.set 2 (.F5 .nil)<|>.set 3 (.HK 500 0)<|>.wh (.bo (Wm.ac (.cmp ki (.ix 3 (.i 5)) (.s "on")) (Wm.a1 (.cmp Jb (.bi eT (.u 2)) 1)))) (.ex (.mt oh 2 (.u (.tup (.u2 3 (.mel 501 0 (.u 3))))))<|>.one (.set 3 (.ix (.ix (.ix 2 (.neg (.i 1))) (.i 1)) (.i 0))))<|>.re 2) S.wF rfl Ť (D.le h,d,Ť) λds h Q x c=>?_];induction c with|@mk P w0 l m n X Q x o r y p hn q=>erw[(Ŗ,J3.mk (JZ P w0 l m n,(m,.mk .z r (cR _)),λf v A j=>?_))];induction j with|@mk w C R t a b=>show br (cC _ _) _ _;cases a with|@s _ E _ F G Z H e a=>rw[H];erw[qR Ŗ ?_];show br _ _ _;rw[y6,show Ñ _ n=J from aA (show R.length<n by lia)];rwa[G3.ok o H e (bI (mH (bv.mpr ())) (aZ pM (F,fW _,.mk (t.s H e) a (by rw[aj];show R.length+1+F=m;lia))))]|z=>cases H:cC _ _ with|e=>rwa[q R t b]|d=>erw[qR Ŗ ?_];show br _ _ _;rw[y6,show Ñ _ n=a5 from bF.mpr λz=>by let:=d0 z;let:=p.resolve_right λg=>g (bQ.mp H);lia];rwa[q R t b]
def RX(n:Ń)(ns:Ł Nm):Ł Nm:=(ns++Ð n 0).take (max n ns.length)++[5,6]
def U1(p:Ä×Ł Nm):Pv:=.T [.S p.1,MA p.2]
inductive PY:Ct|mk{wd:Ł (Ä×Ł Nm)}{n:Ń}{Q:Dv->Hs->ß}{xc:XP}(hl:wd.length<=100)(hs:∀p∈wd,p.2.length<=100)(hn:n<=100)(q:Q (.p (Pd (O (F1 n wd)))) []):PY [.p (Pd (O wd)),.p (iP n)] [] Q xc
inductive JWl(wd:Ł (Ä×Ł Nm))(n:Ń)(pre post:ϑ):Es->Hs->ß|mk{us vs:Ł (Ä×Ł Nm)}{v3 v4:Ő Pv}(e:wd=us++vs)(hp:post=vs.map U1):JWl wd n pre post [O (.p (Pd (O wd))),O (.p (iP n)),O (.r 0),v3.map .p,v4.map .p] [.L (us.map λp=>U1 (p.1,RX n p.2))]
def ď:(Ð n [Pv.I 0]).flatten=(Ð n 0).map nP:=by induction n with|h=>rfl|j m i=>rw[mz,BW,i];rfl
def F2:d5 (ns.map nP++(Ð n [Pv.I 0]).flatten) ao (O (if((ns.map nP).length:Î)>n then(ns.map nP).length else(n)))++[.I 5,.I 6]=(RX n ns).map nP:=by
 let E:(RX n ns).map nP=((ns++Ð n 0).map nP).take (max n ns.length)++[.I 5,.I 6]:=by delta RX;rw[aD,iV];rfl
 let e:(if(ns.length:Î)>n then(ns.length:Î)else(n))=(max n ns.length:Ń):=()
 rw[ď,<-aD,ae,e,E];show(((ns++Ð n 0).map nP).take _).drop 0++_=_;rw[fj]
def R4{ns:Ł Nm}(h:ns.length<=100)(hn:n<=100):(d5 (ns.map nP++(Ð n [Pv.I 0]).flatten) ao (O (if((ns.map nP).length:Î)>n then(ns.map nP).length else(n)))).length+2<=202:=by let e:=bL Á (F2 (n:=n) (ns:=ns));let e:=e.trans (ae ..);simp only[RX,aj,bK,aj,bP]at e;let l2:[Pv.I 5,Pv.I 6].length=2:=Ŗ;let l:([5,6]:Ł Nm).length=2:=Ŗ;lia
def Ĥ:Pv->Pv|.T [a,.T l]=>.T [a,.T (l.take 40)]|_=>.N
def Ql:(wd.map λp=>U1 (p.1,RX n p.2)).map Ĥ=(F1 n wd).map λp=>.T [.S p.1,MA p.2]:=by delta F1;rw[bB,bB];erw[my λp _=>?_];show Pv.T [.S p.1,.T _]=.T [.S p.1,.T ((HI n p.2).map nP)];rw[<-iV];rfl
theorem Ak:∀{wd:Ł (Ä×Ł Nm)},PF (wd.map λp=>.T [.S p.1,MA p.2])=J|[]=>Ŗ|_::r=>Ak (wd:=r)
def Kx(B:LX ca Jc W)(S:SX ca W):DX ca Jc W 52 2 PY:=by erw[B.e 5 J [] [] (.z (.set 2 (.F5 .nil)<|>.fo (.many [3,4]) (.w 0) (.one (.ex (.mt oh 2 (.u (.tup (.u2 3 (.b2 eB (.sl (.b2 eB 4 (.b2 rP (.tup (.u (.i 0))) 1)) .no (.of (.bi C4 (.u2 1 (.bi eT (.u 4)))))) (.tup (.u2 (.i 5) (.i 6))))))))))<|>.fz 0 (.re (.bi Vv (.u (.comp 2 [] (.many [0,1]) (.s 2) .no (.tup (.u2 0 (.sl 1 .no (.of (.i 40))))))))))) S.zx rfl Ť Ť λds h Q X c=>?_];induction c with|@mk wd n Q X l b hn q=>
  erw[(Ŗ,bI (mH (n:=(wd.map U1).length) (bv.mpr (by rw[ae];rwa[aq l ∅]))) ?_)];erw[jF (λpre post=>JWl wd n pre post) (.mk (us:=[]) (vs:=wd) (v3:=ao) (v4:=ao) rfl rfl) (λpre x post a d ex j=>?_) λa d j=>?_];.induction j with|@mk us vs v3 v4 E H=>cases vs with|f=>cases H|g p vs=>
   injection H with g H;subst g H;let h1:=b p (by rw[E];rwa[aW _ aF]);erw[bI (c:=vT 0 ((n:Ń):Î)&&(vT ((n:Ń):Î) 1000&&J)) (by rw[gE.mpr (),gE.mpr ()];rfl) ?_];erw[bI (mH (n:=(p.2.map nP).length+((Ð n [Pv.I 0]).flatten).length) (bv.mpr (by rw[ď,ae,ae,bP];lia))) ?_];erw[bI (mH (n:=(d5 (p.2.map nP++(Ð n [Pv.I 0]).flatten) ao (O (if(((p.2.map nP).length:Ń):Î)>(n:Ń)then(((p.2.map nP).length:Ń):Î)else(n:Ń)))).length+2) (bv.mpr (aq (R4 h1 hn) ∅))) ?_];let o:us.length<=100:=by let:=bL Á E;rw[aj]at this;lia
   erw[bI (mH (n:=(us.map λp=>U1 (p.1,RX n p.2)).length+1) (bv.mpr (by rw[ae];lia))) ?_];let:=JWl.mk (wd:=wd) (n:=n) (pre:=pre++[U1 p]) (post:=vs.map U1) (us:=us++[p]) (vs:=vs) (v3:=O (.S p.1)) (v4:=O (MA p.2)) (by rw[bA];rwa[E]) rfl;let e:U1 (p.1,RX n p.2)=.T [.S p.1,.T (d5 (p.2.map nP++(Ð n [Pv.I 0]).flatten) ao (O (if(((p.2.map nP).length:Ń):Î)>(n:Ń)then(((p.2.map nP).length:Ń):Î)else(n:Ń)))++[.I 5,.I 6])]:=by rw[F2];rfl
   rw[aD,show[p].map _=[.T _]from bL ([·]) e]at this;rwa[this]
  .induction j with|@mk us vs v3 v4 E H=>cases vs with|g p vs=>done|f=>
   rw[aV]at E;subst E;let f:∀v3 v4:Ő Pv,CQ [.L (wd.map λp=>U1 (p.1,RX n p.2))] 0 [O (.p (Pd (O wd))),O (.p (iP n)),O (.r 0),v3.map .p,v4.map .p]=O [O _,O _,O _,v3.map .p,v4.map .p]:=λv3 v4=>by cases v3<;>cases v4<;>rfl
   simp only[f];erw[bI Ŗ (lL Ĥ Ŗ (λy m=>?_) ?_)];.let(p,_,rfl):=cx.mp m;rwa[λR q=>q]
   .rw[Ql];rwa[bI Ak q]
def gA(n:Î):Þ:=vT 0 n&&sR n 2147483629
def Eh:gA n=J↔0<=n/\n<2147483629:=by delta gA;rw[aM,gE,fM]
inductive wX:Ct|mk{xs:ϑ}{k:Ń}{Q:Dv->Hs->ß}{xc:XP}(h:xs.all isInt)(q:∀i:Î,Q (.p (.I i)) []):wX [.p (.scr xs),.p (iP k)] [] Q xc
inductive qS:Ct|mk{a b:Î}{Q:Dv->Hs->ß}{xc:XP}(q:∀n:Î,gA n=J->Q (.r 0) [.L [.I n]]):qS [.p (.I a),.p (.I b)] [] Q xc
inductive jm:Ct|mx{n x:Î}{m:Ń}{Q:Dv->Hs->ß}{xc:XP}(hx:x=(m:Ń))(h:gA n)(h1:1<=m)(h2:m<=1000000)(q:∀(n':Î)(k:Ń),gA n'=J->k<m->Q (.p (.I (k:Ń))) [.L [.I n']]):jm [.r 0,.p (.I x)] [.L [.I n]] Q xc
def jm.mk(h:gA n)(H:1<=m)(a:m<=1000000)(q:∀(N:Î)(k:Ń),gA N=J->k<m->Q (.p (.I k)) [.L [.I N]]):jm [.r 0,.p (.I m)] [.L [.I n]] Q xc:=.mx Ŗ h H a q
def Zi(h:υ i):yi i j=true:=by delta yi;rw[h,mJ]
def Ē(h:0<=j)(H:j<2147483647):yi i j=true:=by delta yi υ;rw[aA ()];rfl
def Md(c:Ń):Ä:=⟨#[97+c]⟩
def Me(h:Md a=Md b):a=b:=by injection h with h;let:=bL (λx:Array Ń=>x.toList) h;let h:=this;injection h with h;lia
def π:Ä:="abcdefghijklmnopqrstuvwxyz"
def W3{c:Ń}(h:c<26):rO π.cps.toList c=O (97+c):=by
 let:∀c:Fin 26,π.cps.toList[c.val]?=O (97+c.val):=∅
 rwa[this (c,h)]
theorem FE:∀{ws:ϐ},i9 (.S x) (ws.map .S)=J↔x∈ws|[]=>Iff.intro (λh=>AY h) λh=>nomatch h|w::ws=>by show(cC w x||i9 _ _)=J↔_;rw[jj,FE,bQ,aw];exact(λh=>h.imp Eq.symm id,λh=>h.imp Eq.symm id)
theorem xi:∀{ws:ϐ},xh (ws.map .S)=J|[]=>Ŗ|w::ws=>by show(J&&xh _)=J;rw[xi];rfl
def IV:ϐ:=["box","list","def","end","else","catch","own","set","push","try","size","item"]
structure Vf(s:Ń)(i:Ń)(l:ϐ):ß where
 nd:l.Nodup
 ln:l.length=i
 lt:∀c,Md c∈l->∃j,j<i/\c=(s+j)%26ne:∀z∈l,z≠""
def Vf.snoc(h:Vf s i l)(hz:z∉l)(f:∀c,Md c=z->c=(s+i)%26)(hn:z≠""):Vf s (i+1) (l++[z]):=by
 erw[(dg.mpr (h.nd,⋯,λa g b m e=>?_),by rw[aj,h.ln];rfl,λc H=>?_,λy d=>?_)];.rw[aB.mp m]at e;rwa[hz (e▸g)]
 .rcases bu.mp H with H|H;.let(j,o,n):=h.lt c H;exact(j,aS ‹_›,n)
  .exact(i,fW i,f c (aB.mp H))
 .rcases bu.mp d with d|d;.rwa[h.ne y d]
  .rw[aB.mp d];rwa[hn]
def Vf.fresh(h:Vf s i l)(hi:i<26):Md ((s+i)%26)∉l:=λz=>by let(j,H,a):=h.lt _ z;lia
def Mg:Md c≠"":=λh=>by let:=bL Str.length h;cases this
def D5(e:vB 0 m=pre++x::post):x=.I pre.length/\pre.length<m:=by
 let h:(vB 0 m)[pre.length]?=O x:=by rw[e,aK (ah _),eA];rfl
 delta vB at h;rw[aN]at h;let(i,a,c):=mp h;let(H,b):=ar.mp a;rw[List.getElem_range]at b;rw[eL]at H;exact(nofun,H)
def Mf{s i:Ń}:rO π.cps.toList ((s+i)%26)=O (97+(s+i)%26):=by rwa[W3 ()]
def zg{m:Ń}{K:Pv}(h:Vf s i l)(hi:i<26)(hz:∀c,Md c=z->c=(s+i)%26)(a:z≠"")(q:∀Z,Vf s (i+1) (l++[Z])->N.nx [O (.r 0),O (.p (.I m)),O (.p (.S π)),O (.p (.L (IV.map .S))),O (.p (.I s)),O (.r 1),O (.p (.I i)),O (.p (.S Z)),O (.p K)] [.L [.I n],.L ((l++[Z]).map .S)]):om (T5 (s2 Fx.o (sV 7) (sV 5)) (zF 7 (s2 zX (sV 2) (s2 sF.o (s2 eB.o (sV 4) (sV 6)) (sC (.I 26))))) Pa) (wl (ia oh.c oh.o (sV 5) (bj (sV 7) dB))) N [O (.r 0),O (.p (.I m)),O (.p (.S π)),O (.p (.L (IV.map .S))),O (.p (.I s)),O (.r 1),O (.p (.I i)),O (.p (.S z)),O (.p K)] [.L [.I n],.L (l.map .S)]:=by let hl:=h.ln;let H:qE ((l.map Pv.S).length+1)=true:=mH (bv.mpr (by rw[ae];lia));erw[bI (by rw[xi];rfl) ?_];induction b:i9 _ _ with|d=>erw[aZ Mf (bI H ?_)];let:=q _ (h.snoc (h.fresh hi) (λc e=>Me e) Mg);rw[aD]at this;rwa[this]|e=>erw[bI H ?_];let:=q z (h.snoc (λd=>by rw[FE.mpr d]at b;cases b) hz a);rw[aD]at this;rwa[this]
def γ:∀j,j<12->∃z:Ä,(IV.map Pv.S)[j]?=O (.S z)/\z.length≠1/\z≠"":=λj h=>by
 let:∀j:Fin 12,(IV[j.val]?.map λz=>Đ (z.length≠1/\z.length≠0))=O true:=∅
 let(z,H,h2):=mp (this (j,h));let h2:=bZ h2.symm;exact(z,by rw[aN,H];rfl,h2.1,λe=>h2.2 (by rw[e];rfl))
inductive P4:Ct|mk{n:Î}{m:Ń}{Q:Dv->Hs->ß}{xc:XP}(h:gA n)(hm:m<=20)(q:∀(n':Î)(l:ϐ),gA n'=J->l.length=m->l.Nodup->(∀z∈l,z≠"")->Q (.p (.L (l.map .S))) [.L [.I n']]):P4 [.r 0,.p (.I (m:Ń))] [.L [.I n]] Q xc
inductive JN(m s k:Ń):Es->Hs->ß|mk{l:ϐ}{n2:Î}{v6 v7 v8:Ő Dv}(hN:Vf s k l)(h:gA n2):JN m s k [O (.r 0),O (.p (.I (m:Ń))),O (.p (.S π)),O (.p (.L (IV.map .S))),O (.p (.I (s:Ń))),O (.r 1),v6,v7,v8] [.L [.I n2],.L (l.map .S)]
def G9(B:LX ca Jc W)(S:SX ca W):DX ca Jc W 42 2 wX:=by erw[B.e 2 J [] [] (.iff (.cmp Jb 1 (.bi eT (.u 0))) (.re (.ix 0 1)) .nil<|>.re (.i 0)) S.wC rfl Ť Ť λds h Q a c=>?_];induction c with|@mk X k Q a h q=>
  erw[(Ŗ,d8 (λc=>?_) λ_=>q 0)];let c:k<X.length:=by let:=fM.mp c;lia
  let e:=av c;let hi:=bJ.mp h _ (eW c);generalize X[k]=x at e hi;cases x<;>first|rwa[é hi]|rwa[aZ e (q _)]
def Ky(B:LX ca Jc W)(S:SX ca W):DX ca Jc W 43 2 qS:=by erw[B.e 3 a5 [] [] (.set 2 (.b2 sF (.b2 Ao (.b2 eB (.b2 eB 0 (.b2 Ao (.i 7919) 1)) (.i 1)) (.i 48271)) (.i 2147483647))<|>.re (.F5 (.u (.b2 sF (.b2 eB (.b2 eB (.b2 Ao 2 2) (.b2 Ao (.i 7) 2)) 1) (.i 2147483629))))) S.Bj rfl Ť Ť λds h Q x c=>?_];induction c with|@mk a b Q x q=>exact(Ŗ,bI (Zi Ŗ) (bI (Ē (tw _ ∅) (nQ _ ⋯)) (bI (Zi Ŗ) (q _ (Eh.mpr (tw _ ∅,nQ _ ⋯))))))
def XR(B:LX ca Jc W)(S:SX ca W):DX ca Jc W 44 2 jm:=by erw[B.e 3 J [] [] (.put (.b2 sF (.b2 eB (.b2 Ao (.ix 0 (.i 0)) (.i 69621)) (.i 11)) (.i 2147483629)) 0 (.i 0)<|>.set 2 (.b2 sF (.b2 Ao (.ix 0 (.i 0)) (.ix 0 (.i 0))) (.i 2147483587))<|>.re (.b2 sF (.b2 Ce 2 (.i 7)) 1)) S.DW rfl Ť Ť λds h Q X c=>?_];induction c with|@mx v x m Q X a b d f q=>subst a;let H:gA ((v*69621+11)%2147483629)=true:=Eh.mpr (tw _ ∅,nQ _ ⋯);let(g,G):=Eh.mp H;erw[(Ŗ,bI (Ē g ()) (bI (cJ (show(0:Î)<m by lia)) ?_))];let k1:(v*69621+11)%2147483629*((v*69621+11)%2147483629)%2147483587/7%m<m:=nQ _ ();let q:=q _ ((v*69621+11)%2147483629*((v*69621+11)%2147483629)%2147483587/7%m).toNat H ();rw[I0 (tw _ ())]at q;rwa[q]
def QA(B:LX ca Jc W)(S:SX ca W)(D:DX ca Jc W 44 2 jm):DX ca Jc W 45 4 P4:=by erw[B.e 9 J [(44,jm)] [] (.set 2 (.s "abcdefghijklmnopqrstuvwxyz")<|>.set 3 (.lst (.cons (.s "box") (.cons (.s "list") (.cons (.s "def") (.cons (.s "end") (.cons (.s "else") (.cons (.s "catch") (.cons (.s "own") (.u5 (.s "set") (.s "push") (.s "try") (.s "size") (.s "item"))))))))))<|>.set 4 (.cl 44 [0] (.u2 0 (.i 26)))<|>.set 5 (.F5 .nil)<|>.fo (.one 6) (.r (.u 1)) (.set 7 (.ix 2 (.b2 sF (.b2 eB 4 6) (.i 26)))<|>.set 8 (.cl 44 [0] (.u2 0 (.i 6)))<|>.iff (.cmp Jb 8 (.i 2)) (.one (.set 7 (.ix (.lst (.u2 (.ix 3 (.cl 44 [0] (.u2 0 (.i 12)))) (.b2 eB (.s "aaaaa") 7))) 8))) .nil<|>.iff (.cmp Fx 7 5) (.one (.set 7 (.ix 2 (.b2 sF (.b2 eB 4 6) (.i 26))))) .nil<|>.one (.ex (.mt oh 5 (.u 7))))<|>.re 5) S.Bg rfl (D.le (bt _),Ť) Ť λds h Q X c=>?_];induction c with|@mk n m Q X h L q=>
  erw[(Ŗ,.mk (m:=26) h ∅ ∅ λM s v P=>?_)];erw[bI (zE (aq ‹_› ∅)) (jF (λpre _=>JN m s pre.length) (.mk (l:=[]) (v6:=ao) (v7:=ao) (v8:=ao) (hU,Ŗ,λc y=>(nomatch y),λz A=>nomatch A) v) (λpre x post a C ex j=>?_) λa C j=>?_)];.induction j with|@mk l o v6 v7 v8 N b=>
   let(rfl,R):=D5 ex;erw[aZ Mf (.mk (m:=6) b ∅ ∅ λT K p U=>?_)];erw[d8 (λc=>?_) λc=>?_]
   .let c:K<2:=by let:=fM.mp c;lia
    erw[.mk (m:=12) p ∅ ∅ λY j t E=>?_];let(w,F,G,I):=γ j E;erw[aZ (show rO (IV.map Pv.S) ((j:Ń):Î)=_ from F) ?_];let d:∀c,Md c=w->c=(s+pre.length)%26:=λc e=>Ă (by rw[<-e];rfl) G;let f:∀c,Md c=("aaaaa":Ä)++Md ((s+pre.length)%26)->c=(s+pre.length)%26:=λc e=>by let:=bL Str.length e;let:(1:Ń)=6:=this;cases this
    let g:("aaaaa":Ä)++Md ((s+pre.length)%26)≠"":=λe=>by let:=bL Str.length e;let:(6:Ń)=0:=this;cases this
    obtain rfl|rfl:K=0\/K=1:=()
    .rwa[zg N () d I λZ H=>.mk (by rw[aj];rwa[H]) t]
    .rwa[zg N () f g λZ H=>.mk (by rw[aj];rwa[H]) t]
   .rwa[zg N () (λc e=>Me e) Mg λZ H=>.mk (by rw[aj];rwa[H]) p]
  .induction j with|@mk l o v6 v7 v8 N b=>let hl:=N.ln;rw[qi]at hl;rwa[q o l b hl N.nd N.ne]
def l0(h:pX x):qA n x=true:=by cases n with|h=>rwa[h]|j n=>cases x<;>first|rwa[h]|cases h
def X4(h:∀x∈xs,qA n x=J):qA (n+1) (.T xs)=true:=bJ.mpr h
def mW{α:Type}{l:Ł α}{f:α->Pv}(h:∀x,qA n (f x)=J):qA (n+1) (.T (l.map f))=true:=X4 λx H=>by let(y,_,rfl):=cx.mp H;rwa[h y]
def KJ:qA n (eV o)=true:=by induction o<;>rwa[l0 Ŗ]
def jD(h:qA n x)(q:qA (n+1) (.T xs)):qA (n+1) (.T (x::xs))=true:=X4 λy H=>(aw.mp H).elim (λe=>e▸h) λH=>bJ.mp q y H
def CI:qA (n+1) (.T [])=true:=rfl
theorem Vs:∀{fr:Ł Fr}{x:Pv},x∈jd fr->qA (n+2) x=J
 |[],x,h=>by cases h|y::r,x,h=>by
  rcases bu.mp h with h|h;.rwa[Vs h]
  .rw[aB.mp h];rwa[jD (l0 Ŗ) (jD (mW λ_=>l0 Ŗ) (jD KJ CI))]
def Fh{w:Wk}:qA (n+4) w.p=true:=jD (mW λ_=>l0 Ŗ) (jD (mW λ_=>mW λ_=>l0 Ŗ) (jD (X4 λ_ h=>Vs h) (jD (mW λ_=>l0 Ŗ) (jD (mW λ_=>l0 Ŗ) (jD (l0 Ŗ) CI)))))
def abv:qA n (i' κ)=true:=by induction κ<;>rwa[l0 Ŗ]
def Vr{K:Ł _}:qA (n+2) (yo K)=true:=mW λ_=>mW λ_=>abv
def abu:qA n (EW w)=true:=by delta EW;split<;>first|rwa[KJ]|rwa[l0 Ŗ]
def ϧ:qA (n+4) (My w0 i z w c)=true:=jD (l0 Ŗ) (jD (l0 Ŗ) (jD Vr (jD Vr (jD abu (jD KJ CI)))))
def Ej(e:kZ P w=O (a,x)):∃n ys,r9 P w=O n/\x=.T (iP n::ys)/\∀j,qA (j+4) x=true:=by let(n,E,e):=bd e;let(p,b,e):=bd e;let(q,c,e):=bd e;let(C,e):=bf e;cases e;exact(n,_,E,Ŗ,λj=>ϧ)
def X5(h:∀j,qA (j+4) x=J):qA (j+6) (TZ w a x)=true:=jD Fh (jD (jD Fh (jD (h _) CI)) CI)
def yn(P:Pn)(w:Wk):Wk:=match kZ P w with|O (a,_)=>a|ao=>w
def zV(P:Pn)(w:Wk):Ń->Wk|0=>w|n+1=>yn P (zV P w n)
inductive TR(P:Pn)(w0:Wk)(i:Ń):Ő Pv->ß|mk{x:Pv}(hw:(zV P w0 i).wo="on")(e:kZ P (zV P w0 i)=O (zV P w0 (i+1),x)):TR P w0 i (O (TZ (zV P w0 i) (zV P w0 (i+1)) x))
def RT.it(r:RT P w0 rs w):w=zV P w0 rs.length/\∀i,i<rs.length->TR P w0 i rs[i]?:=by induction r with|z=>exact(Ŗ,λi h=>nomatch h)|@s rs w b x r c e I=>
  let(a,d):=I;let E:b=zV P w0 (rs.length+1):=by show _=yn P _;rw[<-a];delta yn;rw[e]
  rw[aj];erw[(E,λi h=>?_)];rcases Br i _ with H|H;.rw[aT H];rwa[d i H]
  .obtain rfl:i=rs.length:=Nat.le_antisymm (dS h) H;rw[aK (ah _),eA];rw[E]at e;subst a;rw[E];rwa[.mk c e]
structure TM(P:Pn)(w0:Wk)(rows:ϑ):ß where
 lo:P.lo=J
 ln:rows.length<=1000r:∀i,i<rows.length->TR P w0 i rows[i]?
inductive T0:Ő Pv->Ő Pv->ß|mk{P:Pn}{w0:Wk}{rows:ϑ}(k:TM P w0 rows):T0 (O (DJ P w0)) (O (.L rows))
inductive T1:Ő Pv->Ő Pv->Ő Pv->Ő Pv->ß|mk{P:Pn}{w0:Wk}{rows:ϑ}{d:Ń}(k:TM P w0 rows)(l:d<=rows.length):T1 (O (DJ P w0)) (O (.L rows)) (O (zV P w0 d).p) (O (iP d))
def T0.on{R:ß}(t:T0 a b)(q:∀P w0 r,TM P w0 r->a=O (DJ P w0)->b=O (.L r)->R):R:=by induction t with|mk k=>rwa[q _ _ _ k rfl rfl]
def T1.on{R:ß}(t:T1 a b c e)(q:∀P w0 rows d,TM P w0 rows->d<=rows.length->a=O (DJ P w0)->b=O (.L rows)->c=O (zV P w0 d).p->e=O (iP d)->R):R:=by induction t with|mk k l=>rwa[q _ _ _ _ k l rfl rfl rfl rfl]
theorem TR.on{R:ß}(t:TR P w0 i a)(q:∀x,(zV P w0 i).wo="on"->kZ P (zV P w0 i)=O (zV P w0 (i+1),x)->a=O (TZ (zV P w0 i) (zV P w0 (i+1)) x)->R):R:=by induction t with|mk h e=>rwa[q _ h e Ŗ]
def N2{n:Ń}(h:n<xs.length):D_ xs v n=O (xs.set n v):=by show(match Ë _ _ with|J=>O _|a5=>ao)=_;rw[aA h]
def Gr(H:∀Q:KP,Q [.p v] h->A N.xc σ h Q)(a:∀Q:KP,Q [.r i] h->B N.xc σ h Q)(b:∀Q:KP,Q [.p (iP n)] h->C N.xc σ h Q)(e:h[i]?=O (.L z))(l:n<z.length)(q:N.nx σ (h.set i (.L (z.set n v)))):YC A B C N σ h:=by
 erw[H _ (a _ (b _ ?_))];show(match h[i]? with
    |O (.L z)=>match D_ z v n with|O Z=>N.nx σ _|ao=>ŧ
    |_=>ŧ);rw[e];simp only[N2 l];rwa[q]
inductive P8:Ct|mk{ms rs:ϑ}{n:Î}{Q:Dv->Hs->ß}{xc:XP}(h:gA n)(t:∀i,i<2->T0 ms[i]? rs[i]?)(q:∀n',Q (.p (.B J)) [.L [.I n']]):P8 [.p (.L ms),.p (.L rs),.r 0] [.L [.I n]] Q xc
def YP(ms rs:ϑ)(j:Ń)(v5:Ő Dv)(y:Pv)(v8:Ő Dv):Es:=[O (.p (.L ms)),O (.p (.L rs)),O (.r 0),O (.r 1),O (.r 2),v5,O (.p (iP j)),O (.p y),v8]
inductive JM(ms rs:ϑ)(v6:Ő Dv):Es->Hs->ß|mk{n:Î}{hs ds:ϑ}{v5 v7 v8:Ő Dv}(h:gA n)(l1:hs.length=2)(l2:ds.length=2)(t:∀i,i<2->T1 ms[i]? rs[i]? hs[i]? ds[i]?):JM ms rs v6 [O (.p (.L ms)),O (.p (.L rs)),O (.r 0),O (.r 1),O (.r 2),v5,v6,v7,v8] [.L [.I n],.L hs,.L ds]
theorem T1.set{ms rs hs ds:ϑ}(b:j<2)(l1:hs.length=2)(l2:ds.length=2)(k:TM P w0 rows)(h:d+1<=rows.length)(E:ms[j]?=O (DJ P w0))(a:rs[j]?=O (.L rows))(t:∀i,i<2->T1 ms[i]? rs[i]? hs[i]? ds[i]?):∀i,i<2->T1 ms[i]? rs[i]? (hs.set j (zV P w0 (d+1)).p)[i]? (ds.set j (iP (d+1)))[i]?:=λi H=>by
 by_cases e:j=i;.subst e;rw[cQ (),cQ (),E,a];rwa[.mk k h]
 .rw[cy e,cy e];rwa[t i H]
def QJ(B:LX ca Jc W)(S:SX ca W)(h:2<=k)(K:DX ca Jc W 44 2 jm)(U:DI ca Jc W 500 2)(X:DI ca Jc W 501 k)(Y:DI ca Jc W 502 k):DX ca Jc W 51 (k+2) P8:=by erw[B.e 9 J [(44,jm)] [500,501,502] (.set 3 (.F5 (.u2 (.HK 500 (.ix 0 (.i 0))) (.HK 500 (.ix 0 (.i 1)))))<|>.set 4 (.F5 (.u2 (.i 0) (.i 0)))<|>.fo (.one 5) (.r (.u (.i 40))) (.set 6 (.cl 44 [0] (.u2 2 (.i 2)))<|>.cut (.iff (.cmp Jb (.ix 4 6) (.bi eT (.u (.ix 1 6)))) (.set 7 (.ix (.ix (.ix 1 6) (.ix 4 6)) (.i 1))<|>.iff (.cmp Ĩ (.mel 501 (.ix 0 6) (.u (.ix 3 6))) 7) (.re (.c (.B a5))) .nil<|>.put (.ix 7 (.i 0)) 3 6<|>.one (.put (.b2 eB (.ix 4 6) (.i 1)) 4 6)) .nil) (.one (.iff (.cmp zU (.ix 4 6) (.i 0)) (.UM [8,7] (.ix (.ix 1 6) (.cl 44 [0] (.u2 2 (.ix 4 6))))<|>.one (.iff (.bo (Wm.oc (.cmp Ĩ (.mel 501 (.ix 0 6) (.u 8)) 7) (Wm.o1 (.cmp s0 (.mel 502 (.ix 0 6) (.u 8)) (.ix (.ix 7 (.i 1)) (.i 0)))))) (.re (.c (.B a5))) .nil)) .nil)))<|>.re (.c (.B J))) S.Bk rfl (K.le (),Ť) (U.le h,X,Y,Ť) λds h Q Z c=>?_];induction c with|@mk M R n Q Z h t q=>
  erw[(t 0 ∅).on λP0 w0 r0 k0 e0 f0=>(t 1 ∅).on λP1 w1 r1 k1 E f1=>?_];erw[(Ŗ,aZ e0 (J3.mk (aZ E (J3.mk ?_))))];erw[jF (λ_ _ σ h=>∃f,JM M R f σ h) (ao,.mk (hs:=[w0.p,w1.p]) (ds:=[iP 0,iP 0]) (v5:=ao) (v7:=ao) (v8:=ao) h rfl rfl λi g=>?_) (λpre x post l h' ex j=>?_) λl h' j=>?_];.match i,g with|0,_=>rw[e0,f0];rwa[.mk k0 (aP _)]|1,_=>rw[E,f1];rwa[.mk k1 (aP _)]
  .let(f,j):=j;induction j with|@mk N hs ds v5 v7 v8 hn l1 l2 T=>
   erw[jm.mk (m:=2) hn ∅ ∅ λn3 j s H=>?_];erw[Exists.intro (JM M R (O (.p (iP j)))) (And.intro ?_ λσ h c=>?_)];.erw[(T j H).on λP w0 rows d k y a1 b z a=>?_];erw[aZ a (aZ b ?_)];show br (sR (d:Ń) (rows.length:Ń)) _ _;rw[y6];induction hb:Ñ d rows.length with|e=>rwa[.mk s l1 l2 T]|d=>let D:=d0 hb;erw[(k.r d D).on λx w e ex=>?_];erw[aZ b (aZ a (aZ ex (aZ a1 (aZ z ?_))))];let(_,_,_,_,o):=Ej e;erw[G3.ok k.lo w e ((Ŗ,jD (n:=59) (Fh (n:=55)) (jD (o 55) CI)),?_)];erw[Gr (A:=s2 zX (sV 7) (sC (.I 0))) (B:=sV 3) (C:=sV 6) (σ:=YP M R j _ (.T [(zV P w0 (d+1)).p,x]) v8) (n:=j) (i:=1) (h:=[.L [.I n3],.L hs,.L ds]) (v:=(zV P w0 _).p) (λ_ q=>q) (λ_ q=>q) (λ_ q=>q) rfl (l1▸H) ?_];rwa[Gr (A:=s2 _ (s2 zX (sV 4) (sV 6)) _) (σ:=YP M R j _ _ v8) (h:=[.L _,.L _,.L ds]) (v:=iP (d+1)) (λ_ q=>aZ a q) (λ_ q=>q) (λ_ q=>q) rfl (l2▸H) (.mk s (by rw[cn];rwa[l1]) (by rw[cn];rwa[l2]) (T1.set H l1 l2 k D a1 b T))]
   .induction c with|@mk n4 hs ds v5 v7 v8 F l1 l2 T=>erw[(T j H).on λP w0 rows d k y a1 b z a=>?_];erw[aZ a (d8 (λc=>?_) λ_=>(_,.mk F l1 l2 T))];let kl:=k.ln;erw[aZ b (aZ a (jm.mk F (by let:=fM.mp c;lia) () λn5 i h5 g=>?_))];erw[(k.r i (bp g y)).on λx w e ex=>?_];erw[aZ ex (aZ a1 ?_)];let(G,ys,e6,rfl,o):=Ej e;rwa[G3.ok k.lo w e ((Ŗ,jD Fh (jD (o 55) CI)),aZ a1 (P6.mk w e6 (EU (by show(!mr G G)=a5;rw[pV.mpr Ŗ];rfl) (_,.mk h5 l1 l2 T))))]
  .let(f,j):=j;induction j with|@mk N hs ds v5 v7 v8 hn l1 l2 T=>rwa[q N]
end
def Vd(bs ls:ϐ)(d:Ń)(v:Vx):ß:=sD bs ls v/\v.dp<d/\v.rc<=2^d
inductive uy(D:Ń):Ct|mk{n:Î}{x:Î}{d:Ń}{bs ls:ϐ}{Q:Dv->Hs->ß}{xc:XP}(hx:x=(d:Ń))(h:gA n)(h1:1<=d)(h2:d<=D)(lb:bs.length<=1000)(ll:ls.length<=1000)(q:∀(n':Î)(v:Vx),gA n'=J->Vd bs ls d v->Q (.p v.p) [.L [.I n']]):uy D [.r 0,.p (.I x),.p (.L (bs.map .S)),.p (.L (ls.map .S))] [.L [.I n]] Q xc
def xx{l:ϐ}(h:k<l.length):∃z,z∈l/\rO (l.map Pv.S) k=O (.S z):=(_,eW h,iZ (av h))
def BI{K:Pv}(h:gA u)(D:bs.length<=1000)(E:ls.length<=1000)(q:∀(x:Î)(v:Vx),gA x=J->sD bs ls v->v.dp=0->v.rc<=1->N.rt (.p v.p) [.L [.I x]]):om (T5 (D7 (s2 zU.o (sN eT.o (bj (sV 2) dB)) (sC (Pv.I 0))) (s2 zU.o (eX [0] jm (bj (sV 0) (bj (sC (Pv.I 3)) dB))) (sC (Pv.I 0)))) (qj (sN nr (bj (sC (Pv.S "box")) (bj (s2 zX (sV 2) (eX [0] jm (bj (sV 0) (bj (sN eT.o (bj (sV 2) dB)) dB)))) dB)))) Pa) (om (T5 (D7 (s2 zU.o (sN eT.o (bj (sV 3) dB)) (sC (Pv.I 0))) (s2 ki.o (eX [0] jm (bj (sV 0) (bj (sC (Pv.I 6)) dB))) (sC (Pv.I 0)))) (qj (sN nr (bj (sC (Pv.S "size")) (bj (s2 zX (sV 3) (eX [0] jm (bj (sV 0) (bj (sN eT.o (bj (sV 3) dB)) dB)))) dB)))) Pa) (qj (sN nr (bj (sC (Pv.S "number")) (bj (s2 zX (sN wB (bj (eX [0] jm (bj (sV 0) (bj (sC (Pv.I 4)) dB))) (bj (eX [0] jm (bj (sV 0) (bj (sC (Pv.I 1000000)) dB))) dB))) (s2 Ce.o (eX [0] jm (bj (sV 0) (bj (sC (Pv.I 6)) dB))) (sC (Pv.I 5)))) dB))))) N [O (.r 0),O (.p (.I (d:Ń))),O (.p (.L (bs.map .S))),O (.p (.L (ls.map .S))),O (.p K),ao,ao,ao] [.L [.I u]]:=by
 let num:∀f,gA f=J->qj (sN nr (bj (sC (Pv.S "number")) (bj (s2 zX (sN wB (bj (eX [0] jm (bj (sV 0) (bj (sC (Pv.I 4)) dB))) (bj (eX [0] jm (bj (sV 0) (bj (sC (Pv.I 1000000)) dB))) dB))) (s2 Ce.o (eX [0] jm (bj (sV 0) (bj (sC (Pv.I 6)) dB))) (sC (Pv.I 5)))) dB))) N [O (.r 0),O (.p (.I (d:Ń))),O (.p (.L (bs.map .S))),O (.p (.L (ls.map .S))),O (.p K),ao,ao,ao] [.L [.I f]]:=λf k=>by
  erw[.mk (m:=4) k ∅ ∅ λl a H y=>.mk (m:=1000000) H ∅ ∅ λt b i g=>.mk (m:=6) i ∅ ∅ λA c B F=>?_];let C:((c:Ń):Î)/5=((c/5:Ń):Î):=Ŗ;let R:c/5=0\/c/5=1:=()
  show gG (rO [Pv.I (a:Ń),Pv.I (b:Ń)] (((c:Ń):Î)/5)) _ _;rw[C];rcases R with e|e<;>rw[e];.rwa[q A (.n (a,aq ‹_› ∅)) B Ť rfl (aP _)]
  .rwa[q A (.n (b,g)) B Ť rfl (aP _)]
 let j:∀f,gA f=J->om (T5 (D7 (s2 zU.o (sN eT.o (bj (sV 3) dB)) (sC (Pv.I 0))) (s2 ki.o (eX [0] jm (bj (sV 0) (bj (sC (Pv.I 6)) dB))) (sC (Pv.I 0)))) (qj (sN nr (bj (sC (Pv.S "size")) (bj (s2 zX (sV 3) (eX [0] jm (bj (sV 0) (bj (sN eT.o (bj (sV 3) dB)) dB)))) dB)))) Pa) (qj (sN nr (bj (sC (Pv.S "number")) (bj (s2 zX (sN wB (bj (eX [0] jm (bj (sV 0) (bj (sC (Pv.I 4)) dB))) (bj (eX [0] jm (bj (sV 0) (bj (sC (Pv.I 1000000)) dB))) dB))) (s2 Ce.o (eX [0] jm (bj (sV 0) (bj (sC (Pv.I 6)) dB))) (sC (Pv.I 5)))) dB)))) N [O (.r 0),O (.p (.I (d:Ń))),O (.p (.L (bs.map .S))),O (.p (.L (ls.map .S))),O (.p K),ao,ao,ao] [.L _]:=λf k=>by
  erw[d8 (c:=sR 0 _) (λc=>?_) λc=>num f k];let c:0<ls.length:=by let:=fM.mp c;rw[ae]at this;lia
  erw[.mk (m:=6) k ∅ ∅ λl a H y=>d8 (λ_=>?_) λ_=>num l H];erw[.mk H (by rw[ae];rwa[c]) (by rw[ae];rwa[aq ‹_› ∅]) λt b i g=>?_];rw[ae]at g;let(z,w,e):=xx g;rwa[aZ e (q t (.s z) i w rfl (ah _))]
 erw[d8 (c:=sR 0 _) (λc=>?_) λc=>j u h];let c:0<bs.length:=by let:=fM.mp c;rw[ae]at this;lia
 erw[.mk h ⋯ ⋯ λl a H y=>d8 (c:=sR 0 _) (λ_=>?_) λ_=>j l H];erw[.mk H (by rw[ae];rwa[c]) (by rw[ae];rwa[aq ‹_› ∅]) λt b i g=>?_];rw[ae]at g;let(z,w,e):=xx g;rwa[aZ e (q t (.b z) i w rfl (ah _))]
def aiL:Ń->Op|0=>.pl|1=>.mi|2=>.le|3=>.sa|4=>.ti|5=>.ov|_=>.re
def Ō{k:Ń}(h:k<7):rO [Pv.S "plus",Pv.S "minus",Pv.S "less",Pv.S "same",Pv.S "times",Pv.S "over",Pv.S "rest"] k=O (.S (aiL k).w):=by match k,h with|0,_=>rfl|1,_=>rfl|2,_=>rfl|3,_=>rfl|4,_=>rfl|5,_=>rfl|6,_=>rfl
def Ş{k b:Ń}(h:k<5)(H:b<7):∃c,c<7/\rO [Pv.I 0,Pv.I 1,Pv.I 2,Pv.I 3,Pv.I b] k=O (.I (c:Ń)):=by match k,h with|0,_=>exact(0,⋯,Ŗ)|1,_=>exact(1,⋯,Ŗ)|2,_=>exact(2,⋯,Ŗ)|3,_=>exact(3,⋯,Ŗ)|4,_=>exact(b,H,Ŗ)
def BH{K:Pv}(h:gA n)(H:e+1<=D)(l:bs.length<=1000)(d:ls.length<=1000)(q:∀(a:Î)(o:Op)(u:Vx),gA a=J->Vd bs ls (e+1) u->N.rt (.p (Vx.o o v u).p) [.L [.I a]]):om (zF 6 (s2 zX (sN wB (bj (sC (Pv.I 0)) (bj (sC (Pv.I 1)) (bj (sC (Pv.I 2)) (bj (sC (Pv.I 3)) (bj (eX [0] jm (bj (sV 0) (bj (sC (Pv.I 7)) dB))) dB)))))) (eX [0] jm (bj (sV 0) (bj (sC (Pv.I 5)) dB))))) (om (zF 7 (s2 zX (sN wB (bj (sC (Pv.S "plus")) (bj (sC (Pv.S "minus")) (bj (sC (Pv.S "less")) (bj (sC (Pv.S "same")) (bj (sC (Pv.S "times")) (bj (sC (Pv.S "over")) (bj (sC (Pv.S "rest")) dB)))))))) (sV 6))) (qj (sN nr (bj (sV 7) (bj (sV 5) (bj (eX [0] (uy D) (bj (sV 0) (bj (s2 Ap.o (sV 1) (sC (Pv.I 1))) (bj (sV 2) (bj (sV 3) dB))))) dB)))))) N [O (.r 0),O (.p (.I (e+2:Ń))),O (.p (.L (bs.map .S))),O (.p (.L (ls.map .S))),O (.p K),O (.p v.p),ao,ao] [.L [.I n]]:=by erw[jm.mk h ⋯ ⋯ λw b f g=>jm.mk f ⋯ ⋯ λx k i j=>?_];let(c,m,E):=Ş j g;rwa[aZ E (aZ (Ō m) (uy.mk () i (aH _ _) H l d λs u t hu=>q s _ u t hu))]
def KA(B:LX ca Jc W)(S:SX ca W)(h:1<=k)(C:DX ca Jc W 44 2 jm)(E:DX ca Jc W 46 (k+1) (uy D)):DX ca Jc W 46 (k+2) (uy (D+1)):=by erw[B.e 8 J [(44,jm),(46,uy D)] [] (.set 4 (.cl 44 [0] (.u2 0 (.i 10)))<|>.iff (.bo (Wm.oc (.cmp Jb 1 (.i 2)) (Wm.o1 (.cmp Jb 4 (.i 4))))) (.iff (.bo (Wm.ac (.cmp zU (.bi eT (.u 2)) (.i 0)) (Wm.a1 (.cmp zU (.cl 44 [0] (.u2 0 (.i 3))) (.i 0))))) (.re (.tup (.u2 (.s "box") (.ix 2 (.cl 44 [0] (.u2 0 (.bi eT (.u 2)))))))) .nil<|>.iff (.bo (Wm.ac (.cmp zU (.bi eT (.u 3)) (.i 0)) (Wm.a1 (.cmp ki (.cl 44 [0] (.u2 0 (.i 6))) (.i 0))))) (.re (.tup (.u2 (.s "size") (.ix 3 (.cl 44 [0] (.u2 0 (.bi eT (.u 3)))))))) .nil<|>.re (.tup (.u2 (.s "number") (.ix (.lst (.u2 (.cl 44 [0] (.u2 0 (.i 4))) (.cl 44 [0] (.u2 0 (.i 1000000))))) (.b2 Ce (.cl 44 [0] (.u2 0 (.i 6))) (.i 5)))))) .nil<|>.set 5 (.cl 46 [0] (.u4 0 (.b2 Ap 1 (.i 1)) 2 3))<|>.iff (.cmp ki 4 (.i 4)) (.re (.tup (.u2 (.s "not") 5))) .nil<|>.iff (.bo (Wm.ac (.cmp ki 4 (.i 5)) (Wm.a1 (.cmp zU (.bi eT (.u 3)) (.i 0))))) (.re (.tup (.u3 (.s "item") (.ix 3 (.cl 44 [0] (.u2 0 (.bi eT (.u 3))))) 5))) .nil<|>.set 6 (.ix (.lst (.u5 (.i 0) (.i 1) (.i 2) (.i 3) (.cl 44 [0] (.u2 0 (.i 7))))) (.cl 44 [0] (.u2 0 (.i 5))))<|>.set 7 (.ix (.lst (.cons (.s "plus") (.cons (.s "minus") (.u5 (.s "less") (.s "same") (.s "times") (.s "over") (.s "rest"))))) 6)<|>.re (.tup (.u3 7 5 (.cl 46 [0] (.u4 0 (.b2 Ap 1 (.i 1)) 2 3))))) S.se rfl (C.le (cH ‹_›),E,Ť) Ť λds h Q X c=>?_];induction c with|@mk n x d bs a Q X F h h1 h2 f g q=>
  subst F;erw[(Ŗ,.mk (m:=10) h ∅ ∅ λn1 K G hk=>?_)];let lf:∀(N:Î)(v:Vx),gA N=J->sD bs a v->v.dp=0->v.rc<=1->Q (.p v.p) [.L [.I N]]:=λN v M G j y=>q N v M (G,(),by let:1<=2^d:=Nat.one_le_two_pow;rwa[aq ‹_› ‹_›]);erw[d8 (c:=sR ((d:Ń):Î) 2) (λ_=>BI G f g lf) λc=>d8 (c:=sR ((K:Ń):Î) 4) (λ_=>BI G f g lf) λ_=>?_];obtain⟨e,rfl⟩:∃e,d=e+2:=(d-2,by let:=bF.mp c;rw[ne_eq,fM]at this;lia);erw[uy.mk (d:=e+1) () G (aH _ _) (dS ‹_›) f g λP v j R=>?_];let p2:2^(e+2)=2^(e+1)+2^(e+1):=by rw[Nat.pow_succ];lia
  let p1:1<=2^(e+1):=Nat.one_le_two_pow;let(w,v2,v3):=R;erw[d8 (c:=mr ((K:Ń):Î) 4) (λ_=>q P (.t v) j (w,by show v.dp+1<_;rwa[cH ‹_›],by show v.rc<=_;rwa[aq ‹_› (aH _ _)])) λ_=>?_];let l:∀(r:Î)(o:Op)(u:Vx),gA r=J->Vd bs a (e+1) u->Q (.p (Vx.o o v u).p) [.L [.I r]]:=λr o u y hu=>q r _ y ((w,hu.1),by let:=hu.2.1;show max v.dp u.dp+1<_;lia,by let:=hu.2.2;show v.rc+u.rc<=_;lia);let H:e+1<=D:=dS ‹_›;erw[d8 (c:=mr ((K:Ń):Î) 5) (λ_=>d8 (c:=sR 0 ((a.map Pv.S).length:Ń)) (λc=>?_) λ_=>BH j H f g l) λ_=>BH j H f g l];let c:0<a.length:=by let:=fM.mp c;rw[ae]at this;lia
  erw[jm.mk (m:=(a.map Pv.S).length) j (by rw[ae];rwa[c]) (by rw[ae];rwa[aq ‹_› ⋯]) λT b U A=>?_];rw[ae]at A;let(z,Y,Z):=xx A;rwa[aZ Z (q T (.i z v) U ((Y,w),by rwa[cH ‹_›],by show v.rc+1<=_;lia))]
theorem AD(B:LX ca Jc W)(S:SX ca W)(d:DX ca Jc W 44 2 jm):∀D:Ń,DX ca Jc W 46 (D+3) (uy D)
 |0=>(Dt.no S.se).imp λds h Q x c=>by induction c with|mk _ _ H a=>lia
 |D+1=>KA B S (aH _ _) d (AD B S d D)
def yJ(p:Ä×Ń):Pv:=.T [.S p.1,.I p.2]
def Mn(c:Sc):Pv:=.T [.L (c.bs.map .S),.L (c.ls.map .S),.L (c.fs.map yJ),.B c.inF]
def Pu(c:Sc)(r:Rw):ß:=r.lf=J/\Ah c r
structure B6(c:Sc):ß where b:c.bs.length<=900l:c.ls.length<=900f:c.fs.length<=900n:∀p∈c.fs,p.2<=3
inductive ψ:Ct|mk{n:Î}{c:Sc}{Q:Dv->Hs->ß}{xc:XP}(h:gA n)(g:B6 c)(q:∀(n':Î)(r:Rw),gA n'=J->Pu c r->Q (.p r.p) [.L [.I n']]):ψ [.r 0,.p (Mn c)] [.L [.I n]] Q xc
abbrev mF:Ss:=om (T5 (s2 ki.o (sV 6) (sC (.I 9))) (qj (sN nr (bj (sC (.S "fail")) (bj (s2 zX (sN wB (bj (sN nr (bj (sC (.S "number")) (bj (eX [0] jm (bj (sV 0) (bj (sC (.I 9)) dB))) dB))) (bj (sV 7) dB))) (eX [0] jm (bj (sV 0) (bj (sC (.I 2)) dB)))) dB)))) Pa) (qj (sN nr (bj (sC (.S "set")) (bj (sV 8) (bj (sV 7) dB)))))
abbrev mR:Ss:=om (T5 (s2 ki.o (sV 6) (sC (.I 6))) (qj (sN nr (bj (sC (.S "ask")) (bj (sV 8) (bj (s2 zX (sN wB (bj (sC (.S "door")) (bj (sC (.S "a")) (bj (sC (.S "zz")) dB)))) (eX [0] jm (bj (sV 0) (bj (sC (.I 3)) dB)))) dB))))) Pa) (om (T5 (D7 (s2 ki.o (sV 6) (sC (.I 8))) (sV 5)) (qj (sN nr (bj (sC (.S "return")) (bj (sV 7) dB)))) Pa) mF)
abbrev mC:Ss:=om (T5 (D7 (s2 Jb.o (sV 6) (sC (.I 6))) (s2 zU.o (sN eT.o (bj (sV 4) dB)) (sC (.I 0)))) (om (IR [9,11] (s2 zX (sV 4) (eX [0] jm (bj (sV 0) (bj (sN eT.o (bj (sV 4) dB)) dB))))) (qj (sN nr (bj (sC (.S "call")) (bj (sV 8) (bj (sV 9) (bj (sN sL.o (bj (xG 1 [0,2,3] (Tg.one 0) (C5 (sN Zl (bj (sV 11) dB))) (sC (.B J)) (eX [0] (uy 3) (bj (sV 1) (bj (sC (.I 2)) (bj (sV 2) (bj (sV 3) dB))))) a5) dB)) dB))))))) Pa) mR
def wv(c:Sc)(k:Ń)(v:Vx)(z:Ä):Es:=[O (.r 0),O (.p (Mn c)),O (.p (.L (c.bs.map .S))),O (.p (.L (c.ls.map .S))),O (.p (.L (c.fs.map yJ))),O (.p (.B c.inF)),O (.p (.I k)),O (.p v.p),O (.p (.S z)),ao,ao,ao]
def vL{c:Sc}(h:Vd c.bs c.ls d v)(H:d<=3):v.dp<6/\v.rc<=8:=by let(_,a,b):=h;let:2^d<=2^3:=Nat.pow_le_pow_right ∅ H;exact((),())
def Gg(h:gA n1)(j:d<=3)(H:Vd c.bs c.ls d v)(hz:z∈c.bs)(q:∀(e:Î)(r:Rw),gA e=J->Pu c r->N.rt (.p r.p) [.L [.I e]]):mF N (wv c kd v z) [.L [.I n1]]:=by
 let(f,l):=vL H j;erw[d8 (λ_=>?_) λ_=>q n1 (.st z v) h (Ŗ,((hz,H.1),aA f,by show v.rc<=40;lia))];erw[.mk h ⋯ ⋯ λm a k o=>.mk k ⋯ ⋯ λg b i s=>?_];obtain rfl|rfl:b=0\/b=1:=()
 .rwa[q g (.fa (.n (a,()))) i (Ŗ,(Ť,Ŗ,aP _))]
 .rwa[q g (.fa v) i (Ŗ,(H.1,aA f,by show v.rc<=40;lia))]
def Nn(h:gA n1)(b:d<=3)(H:Vd c.bs c.ls d v)(hz:z∈c.bs)(q:∀(f:Î)(r:Rw),gA f=J->Pu c r->N.rt (.p r.p) [.L [.I f]]):mR N (wv c kd v z) [.L [.I n1]]:=by
 let(g,j):=vL H b;erw[d8 (λ_=>?_) λ_=>?_]
 .erw[.mk h ⋯ ⋯ λn a e l=>?_];let k:∀D,D∈X6->Pu c (.ak z D):=λD Y=>(Ŗ,((hz,Y),Ŗ,aP _));obtain rfl|rfl|rfl:a=0\/a=1\/a=2:=()
  .rwa[q n _ e (k _ aF)]
  .rwa[q n _ e (k _ (aE _ aF))]
  .rwa[q n _ e (k _ (aE _ (aE _ aF)))]
 .erw[d8 (λ_=>?_) λ_=>Gg h b H hz q];show br _ _ _;induction i:c.inF with|d=>rwa[q n1 (.rt v) h (Ŗ,((i,H.1),aA g,by show v.rc<=40;lia))]|e=>rwa[Gg h b H hz q]
def Gf(g:B6 c)(h:gA n1)(B:d<=3)(D:Vd c.bs c.ls d v)(hz:z∈c.bs)(q:∀(F:Î)(r:Rw),gA F=J->Pu c r->N.rt (.p r.p) [.L [.I F]]):mC N (wv c kd v z) [.L [.I n1]]:=by
 let gb:=g.b;let gl:=g.l;let gf:=g.f;erw[d8 (c:=sR ((kd:Ń):Î) 6) (λ_=>d8 (c:=sR 0 ((c.fs.map yJ).length:Ń)) (λC=>?_) λ_=>Nn h B D hz q) λ_=>Nn h B D hz q];let C:0<c.fs.length:=by let:=fM.mp C;rw[ae]at this;lia
 erw[.mk h (by rw[ae];rwa[C]) (by rw[ae];lia) λP a Q G=>?_];rw[ae]at G;obtain⟨p,K⟩:∃p,c.fs[a]?=O p:=(_,av G);let m:=aL K;let R:=g.n p m;erw[aZ (iZ K) (bI (zE ()) ?_)];delta mQ;erw[(λi A k=>∃s j,A=s.map Vx.p/\s.length=i/\(∀u∈s,Vd c.bs c.ls 2 u)/\gA j=J/\k=[.L [.I j]],([],P,Ŗ,Ŗ,λu hu=>(nomatch hu),Q,Ŗ),λi y A k hy (s,j,o,e,E,t,x)=>?_,λA k (s,j,o,e,E,t,x)=>?_)]
 .subst o x;erw[uy.mk (d:=2) rfl t ⋯ ∅ () () λS u T hu=>(s++[u],S,by rw[aD];rfl,by rw[aj,e];rfl,λw H=>?_,T,Ŗ)];rcases bu.mp H with H|H;.rwa[E w H]
  .rw[aB.mp H];rwa[hu]
 .subst o x;rw[qi]at e;let e:s.length=p.2:=e;let U:∀l:Ł Vx,(∀u∈l,Vd c.bs _ 2 u)->NP l<=8*l.length/\oo 6 l=true:=λl=>by induction l with|f=>rwa[λ_=>(ah _,Ŗ)]|g u l W=>intro M;let(i1,X):=W λw H=>M w (aE _ H);let(Y,u2):=vL (M u aF) ∅;exact(by show u.rc+NP l<=8*(l.length+1);lia,by show(Ñ _ 6&&oo 6 l)=J;rw[X,show Ñ _ 6=J from aA Y];rfl)
  let(r1,Z):=U s E;erw[q j (.ca z p.1 s) t (Ŗ,((hz,by rw[e];rwa[m],λu hu=>(E u hu).1),?_,by show NP s<=40;lia))];show(Ë _ 100&&oo 6 s)=J;rw[Z,aA (show s.length<=100 by lia)];rfl
def QD(B:LX ca Jc W)(S:SX ca W)(Dn:DX ca Jc W 44 2 jm)(Dw:DX ca Jc W 46 6 (uy 3)):DX ca Jc W 47 7 ψ:=by erw[B.e (k:=5) 12 J [(44,jm),(46,uy 3)] [] (.UM [2,3,4,5] 1<|>.set 6 (.cl 44 [0] (.u2 0 (.i 16)))<|>.set 7 (.cl 46 [0] (.u4 0 (.b2 eB (.i 1) (.cl 44 [0] (.u2 0 (.i 3)))) 2 3))<|>.set 8 (.ix (.b2 eB 2 (.lst (.u (.s "-")))) (.cl 44 [0] (.u2 0 (.bi C4 (.u2 (.i 1) (.bi eT (.u 2)))))))<|>.iff (.bo (Wm.oc (.cmp ki 8 (.s "-")) (Wm.o1 (.cmp ki 6 (.i 7))))) (.re (.tup (.u2 (.s "tell") 7))) .nil<|>.iff (.bo (Wm.ac (.cmp Jb 6 (.i 3)) (Wm.a1 (.cmp zU (.bi eT (.u 3)) (.i 0))))) (.set 9 (.ix 3 (.cl 44 [0] (.u2 0 (.bi eT (.u 3)))))<|>.set 10 (.ix (.lst (.u2 (.tup (.u2 (.s "number") (.cl 44 [0] (.u2 0 (.i 4))))) (.cl 46 [0] (.u4 0 (.i 2) 2 3)))) (.cl 44 [0] (.u2 0 (.i 2))))<|>.set 6 (.ix (.lst (.u4 (.i 0) (.i 0) (.i 1) (.i 2))) (.cl 44 [0] (.u2 0 (.i 4))))<|>.re (.ix (.lst (.u3 (.tup (.u3 (.s "push") 9 7)) (.tup (.u3 (.s "pop") 8 9)) (.tup (.u4 (.s "put") 9 10 7)))) 6)) .nil<|>.iff (.bo (Wm.ac (.cmp Jb 6 (.i 6)) (Wm.a1 (.cmp zU (.bi eT (.u 4)) (.i 0))))) (.UM [9,11] (.ix 4 (.cl 44 [0] (.u2 0 (.bi eT (.u 4)))))<|>.re (.tup (.u4 (.s "call") 8 9 (.bi sL (.u (.comp 1 [0,2,3] (.one 0) (.r (.u 11)) .no (.cl 46 [0] (.u4 1 (.i 2) 2 3)))))))) .nil<|>.iff (.cmp ki 6 (.i 6)) (.re (.tup (.u3 (.s "ask") 8 (.ix (.lst (.u3 (.s "door") (.s "a") (.s "zz"))) (.cl 44 [0] (.u2 0 (.i 3))))))) .nil<|>.iff (.bo (Wm.ac (.cmp ki 6 (.i 8)) (Wm.a1 (.val 5)))) (.re (.tup (.u2 (.s "return") 7))) .nil<|>.iff (.cmp ki 6 (.i 9)) (.re (.tup (.u2 (.s "fail") (.ix (.lst (.u2 (.tup (.u2 (.s "number") (.cl 44 [0] (.u2 0 (.i 9))))) 7)) (.cl 44 [0] (.u2 0 (.i 2))))))) .nil<|>.re (.tup (.u3 (.s "set") 8 7))) S.Bh rfl (Dn.le (),Dw,Ť) Ť λds h Q xc c=>?_];cases c with|@mk n c Q xc h g q=>
  let gb:=g.b;let gl:=g.l;erw[(Ŗ,.mk (m:=16) h ∅ ∅ λn1 K h1 hk=>.mk (m:=3) h1 ∅ ∅ λn2 e h2 he=>.mk (d:=1+e) () h2 () () () () λn3 v h3 f=>?_)];let Y:1+e<=3:=()
  let(A,v2):=vL f Y;erw[bI (mH (n:=(c.bs.map Pv.S).length+1) (bv.mpr (by rw[ae];lia))) ?_];erw[jm.mx (m:=max 1 c.bs.length) (by rw[ae];split<;>lia) h3 () () λM b w P=>?_];let H:∃z:Ä,rO (c.bs.map Pv.S++[.S "-"]) ((b:Ń):Î)=O (.S z)/\(z∈c.bs\/z="-"):=by
   by_cases C:b<c.bs.length;.erw[(c.bs[b],?_,.inl (eW C))];show(c.bs.map Pv.S++[.S "-"])[b]?=_;rw[aT (by rw[ae];rwa[C]),aN,av C];rfl
   .let R:c.bs=[]:=lD ();obtain rfl:b=0:=by rw[R]at P;let:b<max 1 0:=P;lia
    exact("-",by rw[R];rfl,.inr Ŗ)
  let(z,ez,H):=H;erw[aZ ez ?_];let T:∀N,gA N=J->Q (.p (Rw.te v).p) [.L [.I N]]:=λN h'=>q N (.te v) h' (Ŗ,(f.1,aA A,by show v.rc<=40;lia));erw[d8 (c:=cC z "-") (λ_=>T M w) λU=>d8 (c:=mr ((K:Ń):Î) 7) (λ_=>T M w) λ_=>?_];let H:z∈c.bs:=H.resolve_right λe=>by rw[bQ.mpr e]at U;cases U
  erw[d8 (c:=sR ((K:Ń):Î) 3) (λ_=>d8 (c:=sR 0 ((c.ls.map Pv.S).length:Ń)) (λE=>?_) λ_=>Gf g w Y f H q) λ_=>Gf g w Y f H q];let E:0<c.ls.length:=by let:=fM.mp E;rw[ae]at this;lia
  erw[.mk (m:=(c.ls.map Pv.S).length) w (by rw[ae];rwa[E]) (by rw[ae];lia) λn5 a h5 X=>?_];rw[ae]at X;let(y,F,ey):=xx X;erw[aZ ey (.mk (m:=4) h5 ∅ ∅ λn6 i h6 hi=>uy.mk (d:=2) rfl h6 ∅ ∅ () () λn7 u h7 hu=>.mk (m:=2) h7 ∅ ∅ λn8 j h8 hj=>?_)];let hp:∃t:Vx,rO [(Vx.n (i,())).p,u.p] ((j:Ń):Î)=O t.p/\Vd c.bs c.ls 2 t:=by
   obtain rfl|rfl:j=0\/j=1:=()
   .exact(.n (i,()),Ŗ,Ť,by show 0<2;decide,aP _)
   .exact(u,Ŗ,hu)
  let(t,et,Z):=hp;let(t1,t2):=vL Z ∅;erw[aZ et (.mk (m:=4) h8 ∅ ∅ λx o G ho=>?_)];let push:Q (.p (Rw.pu y v).p) [.L [.I x]]:=q x (.pu y v) G (Ŗ,((F,f.1),aA A,by show v.rc+1<=40;lia));obtain rfl|rfl|rfl|rfl:o=0\/o=1\/o=2\/o=3:=()
  .rwa[push]
  .rwa[push]
  .rwa[q x (.po z y) G (Ŗ,((H,F),Ŗ,by show 1<=40;decide))]
  .rwa[q x (.pt y t v) G (Ŗ,((F,Z.1,f.1),by show(Ñ t.dp 6&&Ñ v.dp 6)=J;rw[show Ñ t.dp 6=J from aA t1,show Ñ v.dp 6=J from aA A];rfl,by show t.rc+v.rc+1<=40;lia))]
def bR:Ń->Ń|0=>1|e+1=>4+5*bR e
structure j4(c:Sc)(e b:Ń)(ts:Ł Tr):ß where
 ok:gP c ts
 d:dL ts<=e
 z:dc ts<=b
theorem xS:∀{a b:Ł Tr},gP c a->gP c b->gP c (a++b)|[],b,_,h=>h|t::a,b,H,d=>by delta gP at H;show gP c (t::(a++b));delta gP;exact(H.1,xS H.2 d)
theorem vI:∀{a b:Ł Tr},eE (a++b)=eE a++eE b|[],b=>by show eE b=eE []++eE b;delta eE;rfl|t::a,b=>by show eE (t::(a++b))=eE (t::a)++eE b;rw[show eE (t::(a++b))=t.r.p::eE (a++b)by rw[eE],show eE (t::a)=t.r.p::eE a by rw[eE],vI];rfl
def j4.app(h:j4 c e a x)(H:j4 c e b y):j4 c e (a+b) (x++y):=(xS h.ok H.ok,by rw[yu];let:=h.d;let:=H.d;lia,by rw[qq];let:=h.z;let:=H.z;lia)
def j4.up(h:j4 c e a x)(H:e<=E)(b:a<=A):j4 c E A x:=(h.ok,aq h.d H,aq h.z b)
def j4.nil:j4 c e a []:=(Ť,aP _,by delta dc;rwa[aP _])
theorem j4.lf(h:Pu c r):j4 c e 1 [.lf r]:=((h,Ť),aP _,ah _)
inductive Jd(e:Ń):Ct|mk{n l x:Î}{c:Sc}{D m:Ń}{Q:Dv->Hs->ß}{xc:XP}(hx:x=(D:Ń))(hD:D+e=4)(he:e<=3)(h:gA n)(g:B6 c)(hm:m<=5)(q:∀(n' l':Î)(ts:Ł Tr),gA n'=J->j4 c e (m*bR e) ts->Q (.p (tP ts)) [.L [.I n'],.L [.I l']]):Jd e [.r 0,.p (Mn c),.p (.I x),.p (.I (m:Ń)),.r 1] [.L [.I n],.L [.I l]] Q xc
theorem tV:∀(T:Ł Tr),T.length<=dc T|[]=>aP _|t::r=>by let:=tV r;let h:t.sz=1+Bz t.ps:=vG;show r.length+1<=t.sz+dc r;lia
def pL(H:dc a<=50000)(c:dc b<=50000)(q:Q (.p (tP (a++b))) h):Bb (.p (tP a)) (.p (tP b)) h Q:=by
 erw[bI (mH (n:=(eE a).length+(eE b).length) (bv.mpr ?_)) ?_];.rw[jB,jB];let:=tV a;let:=tV b;lia
 .delta tP at q;rw[vI]at q;rwa[q]
def ng:tP [t]=.T [t.r.p]:=by delta tP eE;rw[eE]
def lu(c:Sc)(D m:Ń)(t:Ł Tr)(v6:Ő Dv)(k:Ń)(v8 v9 v10 v11 v12 v13 i M P:Ő Dv):Es:=[O (.r 0),O (.p (Mn c)),O (.p (.I (D:Ń))),O (.p (.I (m:Ń))),O (.r 1),O (.p (tP t)),v6,O (.p (.I (k:Ń))),v8,v9,v10,v11,v12,v13,i,M,P]
abbrev mP:Ss:=om (zF 5 (s2 eB.o (sV 5) (s2 rP.o (sN nr (bj (eX [0] ψ (bj (sV 0) (bj (sV 1) dB))) dB)) (sN Yc.o (bj (s2 la.o (s2 zX (sV 4) (sC (.I 0))) (sC (.I 0))) dB))))) BS
def ef(g:B6 c)(h:gA n)(hz:dc ts<=40000)(q:∀(i:Î)(us:Ł Tr),gA i=J->j4 c 0 1 us->N.ct (lu c D m (ts++us) v6 kd v8 v9 v10 v11 v12 v13 IL IM IP) [.L [.I i],.L [.I l]]):mP N (lu c D m ts v6 kd v8 v9 v10 v11 v12 v13 IL IM IP) [.L [.I n],.L [.I l]]:=by
 erw[.mk h g λe r j k=>?_];let t:dc [Tr.lf r]=1:=by delta dc Tr.sz;rfl
 let key:∀B:Þ,F7 (.p (.T [r.p])) (.p (.I (b2 B))) [Ob.L [.I e],Ob.L [.I l]] λd H=>Bb (.p (tP ts)) d H λd H=>N.ct ((lu c D m ts v6 kd v8 v9 v10 v11 v12 v13 IL IM IP).set 5 (O d)) H:=λB=>by induction B with|d=>let:=pL (h:=[Ob.L [.I e],Ob.L [.I l]]) (Q:=λd f=>N.ct ((lu c D m ts v6 kd v8 v9 v10 v11 v12 v13 IL IM IP).set 5 (O d)) f) (a:=ts) (b:=[.lf r]) () () (q e [.lf r] j (.lf k));rw[ng]at this;delta Tr.r at this;rwa[this]|e=>let:=pL (h:=[Ob.L [.I e],Ob.L [.I l]]) (Q:=λd f=>N.ct ((lu c D m ts v6 kd v8 v9 v10 v11 v12 v13 IL IM IP).set 5 (O d)) f) (a:=ts) (b:=[]) () (by delta dc;lia) (q e [] j .nil);delta tP at this;rw[show eE []=[]by delta eE;rfl]at this;rwa[this]
 rwa[key (vT 0 l)]
def ϸ:Pv.T [.T [.S "if",v.p,tP a,tP b]]=tP [.ii v a b]:=by rw[ng];delta Tr.r Rw.p;delta tP;rfl
def ı:Pv.T [.T [.S "while",v.p,tP a]]=tP [.wh v a]:=by rw[ng];delta Tr.r Rw.p;delta tP;rfl
def Ŷ:Pv.T [.T [.S "try",tP a,.S z,tP b]]=tP [.tr a z b]:=by rw[ng];delta Tr.r Rw.p;delta tP;rfl
def GH:Pv.T [r.p]=tP [.lf r]:=by rw[ng];delta Tr.r;rfl
def qQ(ex:x=tP a)(e:y=tP b)(H:dc a<=50000)(c:dc b<=50000)(q:Q (.p (tP (a++b))) h):Bb (.p x) (.p y) h Q:=by subst ex e;rwa[pL H c q]
def PD(e:y=tP b)(H:dc a+dc u<=50000)(c:dc b<=50000)(q:Q (.p (tP (a++(u++b)))) h):Bb (.p (tP (a++u))) (.p y) h Q:=qQ Ŗ e (by rw[qq];rwa[H]) c (by rw[bA];rwa[q])
def K2(H:k<2)(q:∀us,j4 c 0 1 us->Q (.p (tP us)) h):F7 (.p (.T [(Rw.fa (.n a)).p])) (.p (.I (k:Ń))) h Q:=by
 obtain rfl|rfl:k=0\/k=1:=()
 .let:=q [] .nil;delta tP at this;rw[show eE []=[]by delta eE;rfl]at this;rwa[this]
 .let:=q [.lf (.fa (.n a))] (.lf (Ŗ,Ť,Ŗ,aP _));rw[<-GH]at this;rwa[this]
def mo(q:Q (.p (.I (i+j))) h):Bb (.p (.I i)) (.p (.I j)) h Q:=q
def iy:dc [t]=t.sz:=by delta dc;rw[show dc []=0 by delta dc;rfl];lia
theorem j4.ii(f:Vd c.bs c.ls 2 v)(h:j4 c e p a)(H:j4 c e q b):j4 c (e+1) (1+p+q) [.ii v a b]:=by
 let(g,i):=vL f ∅;let:=h.d;let:=H.d;let:=h.z;let:=H.z;erw[(((f.1,g,(),h.ok,H.ok),Ť),?_,?_)];.show max (max (dL a) (dL b)+1) 0<=e+1;lia
 .rw[iy];delta Tr.sz;lia
theorem j4.wh(h:sD c.bs c.ls v/\v.dp<6/\v.rc<=40)(H:j4 c e p a):j4 c (e+1) (1+p) [.wh v a]:=by
 let:=H.d;let:=H.z;erw[(((h.1,h.2.1,h.2.2,H.ok),Ť),?_,?_)];.show max (dL a+1) 0<=e+1;lia
 .rw[iy];delta Tr.sz;lia
theorem j4.tr{z:Ä}(hz:z∈c.bs)(h:j4 c e p a)(H:j4 c e q b):j4 c (e+1) (1+p+q) [.tr a z b]:=by
 let:=h.d;let:=H.d;let:=h.z;let:=H.z;erw[(((hz,h.ok,H.ok),Ť),?_,?_)];.show max (max (dL a) (dL b)+1) 0<=e+1;lia
 .rw[iy];delta Tr.sz;lia
inductive JR(c:Sc)(D m e:Ń)(pre:ϑ)(post:ϑ):Es->Hs->ß|mk{ts:Ł Tr}{n2 l2:Î}{v6 v7 v8 v9 v10 v11 v12 v13 IL IM IP:Ő Dv}(ht:j4 c e (pre.length*bR e) ts)(h:gA n2):JR c D m e pre post [O (.r 0),O (.p (Mn c)),O (.p (.I (D:Ń))),O (.p (.I (m:Ń))),O (.r 1),O (.p (tP ts)),v6,v7,v8,v9,v10,v11,v12,v13,IL,IM,IP] [.L [.I n2],.L [.I l2]]
def JR.st{l2:Î}(z:t=tP [])(h:gA n):JR c D m e [] post [O (.r 0),O (.p (Mn c)),O (.p (.I (D:Ń))),O (.p (.I (m:Ń))),O (.r 1),O (.p t),ao,ao,ao,ao,ao,ao,ao,ao,ao,ao,ao] [.L [.I n],.L [.I l2]]:=by subst z;rwa[.mk .nil h]
def JR.nx(H:j4 c e (pre.length*bR e) t)(hu:j4 c e (bR e) us)(h:gA n):lM 2 (JR c D m e (pre++[x]) post) [O (.r 0),O (.p (Mn c)),O (.p (.I (D:Ń))),O (.p (.I (m:Ń))),O (.r 1),O (.p (tP (t++us))),v6,v7,v8,v9,v10,v11,v12,v13,i,M,P] [.L [.I n],.L [.I l]]:=by erw[bI (by rfl) (.mk ?_ h)];erw[(H.app hu).up (ah _) ?_];rw[aj,cB,Nat.add_mul,Nat.one_mul];rwa[ah _]
def Vk(h:e<=3):bR e<=249:=by
 obtain rfl|rfl|rfl|rfl:e=0\/e=1\/e=2\/e=3:=()
 all_goals decide
def Xb:∀e:Ń,1<=bR e|0=>ah _|e+1=>by show 1<=4+5*bR e;lia
def MB{K:KP}(h:gA n)(H:1<=m)(a:m<=1000000)(q:∀(N:Î)(k:Ń),gA N=J->k<m->K [.p (.I (k:Ń))] [.L [.I N],.L [.I l]]):qz [0] jm x K [.r 0,.p (.I (m:Ń))] [.L [.I n],.L [.I l]]:=jm.mk h H a q
def q_{x:Î}{K:KP}(H:x=(D:Ń))(a:D+e=4)(b:e<=3)(h:gA n)(g:B6 c)(d:m<=5)(q:∀(N f:Î)(t:Ł Tr),gA N=J->j4 c e (m*bR e) t->K [.p (tP t)] [.L [.I N],.L [.I f]]):qz [0,1] (Jd e) X K [.r 0,.p (Mn c),.p (.I x),.p (.I (m:Ń)),.r 1] [.L [.I n],.L [.I l]]:=Jd.mk H a b h g d q
def Ĵ{x:Î}{K:KP}(H:x=(d:Ń))(h:gA n)(a:1<=d)(b:d<=D)(c:bs.length<=1000)(e:ls.length<=1000)(q:∀(N:Î)(v:Vx),gA N=J->Vd bs ls d v->K [.p v.p] [.L [.I N],.L [.I l]]):qz [0] (uy D) X K [.r 0,.p (.I x),.p (.L (bs.map .S)),.p (.L (ls.map .S))] [.L [.I n],.L [.I l]]:=uy.mk H h a b c e q
section
variable{ca:Ń->À}{Jc:Ń->Ct}{W:Wd}{k e:Ń}{CR:Ct}
seal Bb F7
def E9(B:LX ca Jc W)(S:SX ca W)(h:6<=k)(Dn:DX ca Jc W 44 2 jm)(Dw:DX ca Jc W 46 6 (uy 3))(Dp:DX ca Jc W 47 7 ψ)(Dr:DX ca Jc W 48 (k+1) CR)(hR:∀e',e=e'+1->CR=Jd e'):DX ca Jc W 48 (k+2) (Jd e):=by erw[B.e 17 J [(44,jm),(46,uy 3),(47,ψ),(48,CR)] [] (.set 5 (.tup .nil)<|>.fo (.one 6) (.r (.u (.cl 44 [0] (.u2 0 (.b2 eB 3 (.i 1)))))) (.set 7 (.cl 44 [0] (.u2 0 (.i 9)))<|>.put (.b2 Ap (.ix 4 (.i 0)) (.i 1)) 4 (.i 0)<|>.iff (.bo (Wm.oc (.cmp zU 2 (.i 3)) (Wm.oc (.cmp zU 7 (.i 2)) (Wm.oc (.cmp ki (.ix 1 (.i 0)) (.lst .nil)) (Wm.o1 (.cmp Jb (.ix 4 (.i 0)) (.i 4))))))) (.set 5 (.b2 eB 5 (.b2 rP (.tup (.u (.cl 47 [0] (.u2 0 1)))) (.bi Yc (.u (.cmp la (.ix 4 (.i 0)) (.i 0))))))<|>.one .ct) .nil<|>.put (.b2 Ap (.ix 4 (.i 0)) (.b2 Ao (.i 2) (.bi Yc (.u (.cmp zU 7 (.i 0)))))) 4 (.i 0)<|>.set 8 (.tup (.u (.tup (.u2 (.s "fail") (.tup (.u2 (.s "number") (.cl 44 [0] (.u2 0 (.i 9)))))))))<|>.set 9 (.ix (.ix 1 (.i 0)) (.cl 44 [0] (.u2 0 (.bi eT (.u (.ix 1 (.i 0)))))))<|>.set 10 (.cl 48 [0,1] (.u5 0 1 (.b2 eB 2 (.i 1)) (.i 3) 4))<|>.set 11 (.cl 48 [0,1] (.u5 0 1 (.b2 eB 2 (.i 1)) (.i 2) 4))<|>.one (.iff (.cmp ki 7 (.i 0)) (.set 12 (.cl 46 [0] (.u4 0 (.i 2) (.ix 1 (.i 0)) (.ix 1 (.i 1))))<|>.one (.set 5 (.b2 eB 5 (.tup (.u (.tup (.u4 (.s "if") 12 10 11))))))) (.one (.iff (.cmp ki 7 (.i 1)) (.set 13 (.tup (.u (.tup (.u3 (.s "set") 9 (.tup (.u3 (.s "minus") (.tup (.u2 (.s "box") 9)) (.tup (.u2 (.s "number") (.i 1)))))))))<|>.set 5 (.b2 eB 5 (.tup (.u (.tup (.u3 (.s "set") 9 (.tup (.u2 (.s "number") (.cl 44 [0] (.u2 0 (.i 5))))))))))<|>.set 14 (.ix (.lst (.u2 (.b2 eB 10 13) (.b2 eB 13 10))) (.cl 44 [0] (.u2 0 (.i 2))))<|>.set 15 (.tup (.u2 (.s "box") 9))<|>.set 16 (.cl 44 [0] (.u2 0 (.i 8)))<|>.iff (.cmp ki 16 (.i 0)) (.one (.set 15 (.tup (.u3 (.s "over") (.tup (.u2 (.s "number") (.i 3))) 15)))) (.one (.iff (.bo (Wm.ac (.cmp ki 16 (.i 1)) (Wm.a1 (.cmp s0 (.ix 1 (.i 1)) (.lst .nil))))) (.one (.set 15 (.tup (.u3 (.s "item") (.ix (.ix 1 (.i 1)) (.i 0)) 15)))) .nil))<|>.one (.set 5 (.b2 eB 5 (.tup (.u (.tup (.u3 (.s "while") 15 14))))))) (.set 10 (.b2 eB 10 (.b2 rP 8 (.cl 44 [0] (.u2 0 (.i 2)))))<|>.one (.set 5 (.b2 eB 5 (.tup (.u (.tup (.u4 (.s "try") 10 9 (.b2 eB 11 (.b2 rP 8 (.cl 44 [0] (.u2 0 (.i 2))))))))))))))))<|>.re 5) S.vz rfl (Dn.le (),Dw.le (),Dp.le (),Dr,Ť) Ť λds h Q xc c=>?_];cases c with|@mk n l x c D m Q xc hx hD he h g hm q=>
  subst hx;erw[(Ŗ,mo (.mx (m:=m+1) () h () () λn1 a h1 E=>?_))];erw[bI (zE (n:=a) ()) (jF (JR c D m e) (.st (by delta tP eE;rfl) h1) (λpre x post σ' h' ex j=>?_) λσ' h' j=>?_)];.induction j with|@mk ts n2 l2 v6 v7 v8 v9 v10 v11 v12 v13 IL IM IP H h2=>
   let(rfl,hi):=D5 ex;let hi:pre.length<a:=hi;let hb5:=Vk he;let f:dc ts<=40000:=by let:=H.z;let:pre.length*bR e<=5*249:=Ph () hb5;lia
   erw[MB (m:=9) h2 ∅ ∅ λn3 kd F hk=>?_];let Z:∀us,j4 c 0 1 us->j4 c e (bR e) us:=λus hu=>hu.up (aP _) (Xb e);erw[d8 (c:=sR 3 ((D:Ń):Î)) (λ_=>ef g F f λn4 us t hu=>JR.nx (post:=post) H (Z us hu) t) λcD=>?_];erw[d8 (c:=sR 2 ((kd:Ń):Î)) (λ_=>ef g F f λn4 us t hu=>JR.nx (post:=post) H (Z us hu) t) λck=>?_];erw[bI (c:=im (.L (c.bs.map .S)) (.L [])) (by rfl) ?_];erw[d8 (c:=Jf (.L (c.bs.map .S)) (.L [])) (λ_=>ef g F f λn4 us t hu=>JR.nx (post:=post) H (Z us hu) t) λcb=>?_];erw[d8 (c:=sR (l2-1) 4) (λ_=>ef g F f λn4 us t hu=>JR.nx (post:=post) H (Z us hu) t) λcl=>?_];obtain⟨e',rfl⟩:∃e',e=e'+1:=(e-1,by
    let:¬ 3<((D:Ń):Î):=λz=>by rw[fM.mpr z]at cD;cases cD
    lia);obtain rfl:=hR e' Ŗ;let cb':0<c.bs.length:=by cases C:c.bs with|f=>rw[C]at cb;cases cb|g a l=>rwa[yf _]
   let gb:=g.b;let gl:=g.l;let hb3:bR e'<=249:=Vk ();let hbe:bR (e'+1)=4+5*bR e':=Ŗ;erw[bI (Zi (i:=2) (by rfl)) ?_];erw[MB (m:=9) F ∅ ∅ λn4 fl t hfl=>?_];erw[MB (m:=(c.bs.map Pv.S).length) t (by rw[ae];rwa[cb']) (by rw[ae];lia) λn5 i h5 G=>?_];rw[ae]at G;let(z,f,ez):=xx G;erw[aZ ez ?_];erw[mo ?_];erw[q_ (D:=D+1) (m:=3) () () () h5 g ∅ λn6 l6 R h6 E=>?_];erw[mo ?_];erw[q_ (D:=D+1) (m:=2) () () () h6 g ∅ λn7 l7 rb h7 C=>?_];let za:=E.z;let zb:=C.z;erw[d8 (c:=mr ((kd:Ń):Î) 0) (λ_=>?_) λ_=>d8 (c:=mr ((kd:Ń):Î) 1) (λ_=>?_) λ_=>?_];.erw[Ĵ (d:=2) rfl h7 ∅ ∅ () () λn8 v I K=>?_];let M:=j4.ii K E C;erw[qQ (a:=ts) (b:=[.ii v R rb]) rfl ϸ () (by let:=M.z;lia) ?_];rwa[JR.nx (post:=post) H (M.up (ah _) ()) I]
   .let P:Pu c (.st z (.o .mi (.b z) (.n (1,∅)))):=(Ŗ,(f,f,Ť),Ŗ,by show 1<=40;decide);let zle:dc [Tr.lf (.st z (.o .mi (.b z) (.n (1,∅))))]=1:=by rw[iy];delta Tr.sz;rfl
    erw[MB (m:=5) h7 ∅ ∅ λn8 w I hw=>?_];let pst:Pu c (.st z (.n (w,()))):=(Ŗ,(f,Ť),Ŗ,aP _);let zst:dc [Tr.lf (.st z (.n (w,())))]=1:=by rw[iy];delta Tr.sz;rfl
    erw[qQ (a:=ts) (b:=[.lf (.st z (.n (w,())))]) rfl (GH (r:=.st z (.n (w,())))) () () ?_];erw[qQ (a:=R) (b:=[.lf (.st z (.o .mi (.b z) (.n (1,∅))))]) rfl (GH (r:=.st z (.o .mi (.b z) (.n (1,∅))))) () () ?_];erw[qQ (a:=[.lf (.st z (.o .mi (.b z) (.n (1,∅))))]) (b:=R) (GH (r:=.st z (.o .mi (.b z) (.n (1,∅))))) rfl () () ?_];erw[MB (m:=2) I ∅ ∅ λn9 k2 h9 N=>?_];let A:∃ri,rO [tP (R++[.lf (.st z (.o .mi (.b z) (.n (1,∅))))]),tP ([.lf (.st z (.o .mi (.b z) (.n (1,∅))))]++R)] ((k2:Ń):Î)=O (tP ri)/\j4 c e' (3*bR e'+1) ri:=by
     obtain rfl|rfl:k2=0\/k2=1:=()
     .exact(_,Ŗ,E.app (.lf P))
     .exact(_,Ŗ,(j4.app (.lf P) E).up (ah _) ())
    let(ri,eri,A):=A;let zri:=A.z;erw[aZ eri ?_];erw[MB (m:=8) h9 ∅ ∅ λn10 wy Hw hwy=>?_];let fin:∀v,sD c.bs c.ls v/\v.dp<6/\v.rc<=40->j4 c (e'+1) (bR (e'+1)) ([.lf (.st z (.n (w,())))]++[.wh v ri]):=λv K=>(j4.app (.lf pst) (j4.wh K A)).up (ah _) ();let zwh:∀v,dc [Tr.wh v ri]<=50000:=λv=>by rw[iy];delta Tr.sz;lia
    let vb:sD c.bs c.ls (.b z)/\(Vx.b z).dp<6/\(Vx.b z).rc<=40:=(f,by show 0<6;decide,by show 1<=40;decide);let plain:∀(Q:Dv->Hs->ß)(h:Hs)v,sD c.bs c.ls v/\v.dp<6/\v.rc<=40->(∀us,j4 c (e'+1) (bR (e'+1)) us->Q (.p (tP (ts++us))) h)->Bb (.p (tP (ts++[.lf (.st z (.n (w,())))]))) (.p (.T [.T [.S "while",v.p,tP ri]])) h Q:=λQ h v K q=>PD ı () (zwh v) (q _ (fin v K));erw[d8 (c:=mr ((wy:Ń):Î) 0) (λ_=>plain _ _ (.o .ov (.n (3,∅)) (.b z)) ((Ť,f),by show max 0 0+1<6;decide,by show 0+1<=40;decide) λus hu=>JR.nx (post:=post) H hu Hw) λ_=>?_];erw[d8 (c:=mr ((wy:Ń):Î) 1) (λ_=>?_) λ_=>plain _ _ (.b z) vb λus hu=>JR.nx (post:=post) H hu Hw];erw[bI (c:=im (.L (c.ls.map .S)) (.L [])) (by rfl) ?_];erw[d8 (c:=!Jf (.L (c.ls.map .S)) (.L [])) (λU=>?_) λ_=>plain _ _ (.b z) vb λus hu=>JR.nx (post:=post) H hu Hw];let cl3:0<c.ls.length:=by cases C:c.ls with|f=>rw[C]at U;cases U|g a l=>rwa[yf _]
    let(y,hy,ey):=xx cl3;erw[aZ ey ?_];rwa[plain _ _ (.i y (.b z)) ((hy,f),by show 0+1<6;decide,by show 1+1<=40;decide) λus hu=>JR.nx (post:=post) H hu Hw]
   .erw[MB (m:=2) h7 ∅ ∅ λn8 k1 I hk1=>K2 (c:=c) (a:=(fl,())) hk1 λua X=>?_];let zua:=X.z;erw[pL () () ?_];erw[MB (m:=2) I ∅ ∅ λn9 k2 h9 N=>K2 (c:=c) (a:=(fl,())) N λub Y=>?_];let zub:=Y.z;erw[pL () () ?_];let M:=j4.tr f (E.app (X.up (aP _) (ah _))) (C.app (Y.up (aP _) (ah _)));erw[qQ (a:=ts) (b:=[.tr (R++ua) z (rb++ub)]) rfl Ŷ () (by let:=M.z;lia) ?_];rwa[JR.nx (post:=post) H (M.up (ah _) ()) h9]
  .induction j with|@mk ts n2 l2 v6 v7 v8 v9 v10 v11 v12 v13 IL IM IP H h2=>rw[qi]at H;let H:j4 c e (a*bR e) ts:=H;rwa[q n2 l2 ts h2 (H.up (ah _) (Nat.mul_le_mul_right _ ()))]
theorem Fb(B:LX ca Jc W)(S:SX ca W)(D:DX ca Jc W 44 2 jm)(d:DX ca Jc W 46 6 (uy 3))(p:DX ca Jc W 47 7 ψ):∀e:Ń,DX ca Jc W 48 (e+8) (Jd e)|0=>E9 (k:=6) B S (ah _) D d p (CR:=tp) (Dt.no S.vz) λ_ h=>nomatch h|e+1=>E9 (k:=e+7) B S () D d p (Fb B S D d p e) λE h=>by cases h;rfl
end
inductive P9:Ct|mk{n:Î}{Q:Dv->Hs->ß}{xc:XP}(h:gA n)(q:∀(n':Î)(wd:Ł (Ä×Ł Nm)),gA n'=J->Ve (O wd)->(∀p∈wd,p.2.length<=100)->Q (.p (Pd (O wd))) [.L [.I n']]):P9 [.r 0] [.L [.I n]] Q xc
def VG(p:Ä×Ł Nm):Pv:=.T [.S p.1,MA p.2]
inductive JW(pre:ϑ)(post:ϑ):Es->Hs->ß|mk{wd:Ł (Ä×Ł Nm)}{n2:Î}{v2:Ő Dv}{raw:ϑ}(er:raw=wd.map VG)(hp:pre=wd.map λp=>.S p.1)(h:gA n2)(hb:∀p∈wd,p.2.length<=100):JW pre post [O (.r 0),O (.r 1),v2] [.L [.I n2],.L raw]
inductive JV(r:ϑ)(i:Ń):ϑ->Hs->ß|mk{vs:Ł Nm}{n:Î}{acc:ϑ}(ea:acc=vs.map nP)(h:gA n)(hi:vs.length=i):JV r i acc [.L [.I n],.L r]
section
variable{ca:Ń->À}{Jc:Ń->Ct}{W:Wd}
def QK(B:LX ca Jc W)(S:SX ca W)(F:DX ca Jc W 44 2 jm):DX ca Jc W 50 4 P9:=by erw[B.e (k:=2) 3 J [(44,jm)] [] (.set 1 (.F5 .nil)<|>.fo (.one 2) (.s (.lst (.u3 (.s "a") (.s "door") (.s "zz")))) (.one (.ex (.mt oh 1 (.u (.tup (.u2 2 (.bi sL (.u (.comp 1 [0] (.one 0) (.r (.u (.cl 44 [0] (.u2 0 (.i 6))))) .no (.cl 44 [0] (.u2 1 (.i 6))))))))))))<|>.re (.bi Vv (.u (.sl 1 (.of (.b2 Ce (.cl 44 [0] (.u2 0 (.i 4))) (.i 3))) .no)))) S.Bl rfl (F.le (),Ť) Ť λds h Q X c=>?_];induction c with|@mk n Q X h q=>
  erw[(Ŗ,jF JW (.mk (wd:=[]) (v2:=ao) rfl rfl h λp H=>nomatch H) (λpre x post o t ex j=>?_) λo t j=>?_)];.induction j with|@mk wd I v2 R v H w d=>
   subst v;let K:∃z,x=.S z:=by
    let:x ∈[Pv.S "a",Pv.S "door",Pv.S "zz"]:=by rw[ex];rwa[aW _ aF]
    rcases aw.mp this with rfl|this;.exact(_,Ŗ)
    rcases aw.mp this with rfl|this;.exact(_,Ŗ)
    rw[aB.mp this];exact(_,Ŗ)
   let(z,rfl):=K;let Y:wd.length<=3:=by let:=bL Á ex;rw[H,aj,ae]at this;let:3=wd.length+(post.length+1):=this;lia
   erw[.mk (m:=6) w ∅ ∅ λN a l D=>bI (zE (n:=a) ()) ?_];delta mQ;erw[(JV (wd.map VG),.mk (vs:=[]) Ŗ l Ŗ,λi y A t hy j=>?_,λA t j=>?_)];.induction j with|@mk vs L A E f g=>rwa[jm.mk (m:=6) f ∅ ∅ λn5 b M d=>.mk (vs:=vs++[(b,())]) (by rw[E,aD];rfl) M (by rw[aj,g];rfl)]
   .induction j with|@mk vs L A E f g=>subst E;rwa[bI (mH (bv.mpr (by rw[ae];lia))) (.mk (wd:=wd++[(z,vs)]) (by rw[aD];rfl) (by rw[H,aD];rfl) f λp C=>(bu.mp C).elim (d p) λC=>by rw[aB.mp C];rw[qi]at g;show vs.length<=100;lia)]
  .induction j with|@mk wd I v2 R v H w d=>subst v;erw[.mk w ⋯ ⋯ λN a l D=>?_];match wd,H with
   |[(Z,l1),(P,l2),(T,U)],H=>
    obtain⟨rfl,rfl,rfl⟩:Z="a"/\P="door"/\T="zz":=by injection H with E H;injection H with f H;injection H with g H;injection E with E;injection f with f;injection g with g;exact(E.symm,f.symm,g.symm)
    let G:Ve (O [("a",l1),("door",l2),("zz",U)]):=(by show(["a","door","zz"]:ϐ).Nodup;decide,by show 3<=100;decide);match a,D with|0,_=>rwa[bI (by rfl) (q N _ l G d)]|1,_=>rwa[bI (by rfl) (q N _ l G d)]|2,_=>rwa[bI (by rfl) (q N _ l G d)]|3,_=>rwa[bI (by rfl) (q N _ l (by show(["door","zz"]:ϐ).Nodup;decide,by show 2<=100;decide) λp H=>d p (aE _ H))]
def Wu(bs ls:ϐ)(am:Ł (Ä×Ń))(o:ϐ)(i:Þ):Sc:=(o++bs,ls,am,i)
structure ö(bs ls:ϐ)(am:Ł (Ä×Ń))(x:Fn):ß where
 rs:j4 (Wu bs ls am (x.ps++x.os) J) 3 1000 x.rs
 nd:(x.ps++x.os).Nodup
 ln:(x.ps++x.os).length<=4
theorem KO:∀{l:Ł _},(∀p∈l,∀z d,p.1=.ak z d->d∈X6)->∀d∈BP l,d∈X6|[],_,d,hd=>by cases hd|(r,o)::l,h,d,hd=>by let i:=KO λp H=>h p (aE _ H);induction r with
  |ak z D=>
   rcases aw.mp hd with rfl|hd;.rwa[h _ aF z d Ŗ]
   .rwa[i d hd]|_=>rwa[i d hd]
theorem Od:∀{fs:Ł Fn},(∀x∈fs,dc x.rs<=1000)->eY fs<=1001*fs.length|[],_=>aP _|x::fs,h=>by let h1:=h x aF;let h2:=Od λy H=>h y (aE _ H);show 1+dc _+eY fs<=1001*(fs.length+1);lia
theorem K4{P:Rw->ß}:∀{fs:Ł Fn}{n:Ń},(∀z,P (.df z))->(∀x∈fs,∀n o,∀p∈hZ x.rs n o,P p.1)->∀p∈qB fs n,P p.1
 |[],n,a,h,p,H=>by done|x::fs,n,a,h,p,H=>by
  rcases aw.mp H with rfl|H;.rwa[a _]
  .rcases bu.mp H with H|H;.rwa[h x aF _ _ p H]
   .rwa[K4 a (λy b=>h y (aE _ b)) p H]
def Ym{g:Pg}(E:g.bs.map (·.1)=bs)(l:g.ls.map (·.1)=ls)(k:g.fns=am)(N:bs.Nodup)(m:ls.Nodup)(q:(am.map (·.1)).Nodup)(s:∀p∈am,p.1≠"")(L:bs.length<=9)(t:ls.length<=9)(B:am.length<=4)(b:∀x∈g.fs,ö bs ls am x)(i:j4 (Wu bs ls am [] a5) 3 2000 g.rs)(u:∀p∈g.ls,p.2.length<=12):JK g:=by
 subst E l k;let v:g.fs.map Fn.f=g.fns.map (·.1):=by delta Pg.fns;rw[bB];rfl
 let l1:g.fns.length=g.fs.length:=ae ..;let fok:=λx H=>(b x H).rs.ok;let O9:=i.ok;let A:∀{c:Sc}{r:Rw},Ah c r->∀z d,r=.ak z d->d∈X6:=λh z d e=>by subst e;rwa[h.1.2]
 let j:∀d∈BP g.fl,d∈X6:=KO λp a=>by
  rcases bu.mp a with a|a;.rwa[K4 (P:=λr=>∀z d,r=.ak z d->d∈X6) (λz Z d e=>by cases e) (λx H n o p a=>A (jc _ n o (fok x H) p a)) p a]
  .rwa[A (jc _ _ _ O9 p a)]
 let w:(dO _).length<=3:=List.Nodup.length_le_of_subset (iS _).1 λd y=>j d (((iS _).2 d).mp y);let hz:=Od λx H=>(b x H).rs.z;let C:=i.z;let dr:=i.d;erw[((?_,v▸q,λx H=>?_,N,m,by rw[ae]at L;rwa[aq ‹_› ∅],by rw[ae]at t;rwa[aq ‹_› ∅],(),λx H=>((b x H).nd,by let:=(b x H).ln;rwa[aq ‹_› ⋯]),aq ‹_› ⋯),fok,O9,u)];.delta Pg.ok;rw[bJ.mpr λx H=>by rw[eZ _ (fok x H),show Ñ _ 8=J from aA (by let:=(b x H).rs.d;rwa[bM ‹_› ∅])];rfl,eZ _ O9,show Ñ _ 8=J from aA (bM ‹_› ∅),aA (show eY _+dc _<=100000 by lia)];rfl
 .let:=s _ (cx.mpr (x,H,Ŗ));rwa[this]
def uD{l:ϐ}{k:Ń}:d5 (l.map Pv.S) ao (O k)=(l.take k).map .S:=by show((l.map _).take k).drop 0=_;rw[fj,iV]
def gt{l:ϐ}(h:l.Nodup)(H:a<=2)(c:b<=2):((l.take (5+a)).drop 5++(l.take (7+b)).drop 7).Nodup/\((l.take (5+a)).drop 5++(l.take (7+b)).drop 7).length<=4:=by
 let s1:((l.take _).drop 5).Sublist _:=(List.drop_sublist ..).trans (by rw[show l.take _=(l.take 7).take (5+a)by rw[List.take_take,Nat.min_eq_left ()]];rwa[fF ..]);let s2:((l.take (7+b)).drop 7).Sublist (l.drop 7):=by rw[List.drop_take];rwa[fF ..]
 let s:=s1.append s2;rw[uk]at s;erw[(h.sublist s,?_)];rw[aj,eh,eh,bK,bK];lia
inductive P7:Ct|mk{n:Î}{m:Ń}{Q:Dv->Hs->ß}{xc:XP}(h:gA n)(hm:m<=5)(q:∀(n':Î)(g:Pg),gA n'=J->JK g->Q (.p g.p) [.L [.I n']]):P7 [.r 0,.p (.I (m:Ń))] [.L [.I n]] Q xc
def Jd.mx{P:Pv}{n l x:Î}{c:Sc}{D m:Ń}{Q:Dv->Hs->ß}{xc:XP}(H:P=Mn c)(a:x=(D:Ń))(b:D+e=4)(d:e<=3)(h:gA n)(g:B6 c)(f:m<=5)(q:∀(N i:Î)(t:Ł Tr),gA N=J->j4 c e (m*bR e) t->Q (.p (tP t)) [.L [.I N],.L [.I i]]):Jd e [.r 0,.p P,.p (.I x),.p (.I (m:Ń)),.r 1] [.L [.I n],.L [.I l]] Q xc:=by subst H;rwa[.mk a b d h g f q]
def uy.mx{n:Î}{x:Î}{d:Ń}{pb P:ϑ}{bs ls:ϐ}{Q:Dv->Hs->ß}{xc:XP}(e:pb=bs.map .S)(E:P=ls.map .S)(H:x=(d:Ń))(h:gA n)(a:1<=d)(b:d<=D)(l:bs.length<=1000)(c:ls.length<=1000)(q:∀(N:Î)(v:Vx),gA N=J->Vd bs ls d v->Q (.p v.p) [.L [.I N]]):uy D [.r 0,.p (.I x),.p (.L pb),.p (.L P)] [.L [.I n]] Q xc:=by subst e E;rwa[.mk H h a b l c q]
def Xx{l:ϐ}:d5 (l.map Pv.S) (O 5) (O (5+((a:Ń):Î)))=((l.take (5+a)).drop 5).map .S:=by show((l.map Pv.S).take (5+a)).drop 5=_;rw[WL,iV]
def Xy{l:ϐ}:d5 (l.map Pv.S) (O 7) (O (7+((a:Ń):Î)))=((l.take (7+a)).drop 7).map .S:=by show((l.map Pv.S).take (7+a)).drop 7=_;rw[WL,iV]
def Kk{l:ϐ}:d5 (l.map Pv.S) (O 3) (O (3+((a:Ń):Î)))=((l.take (3+a)).drop 3).map .S:=by show((l.map Pv.S).take (3+a)).drop 3=_;rw[WL,iV]
inductive JF(l:ϐ)(pb pl:ϑ)(bs ls:ϐ)(am:Ł (Ä×Ń))(m:Ń)(pre:ϑ)(post:ϑ):Es->Hs->ß|mk{fs:Ł Fn}{n2 l2:Î}{v5 v9 v10 v11 v12 v13:Ő Dv}(hp:pre=fs.map λx=>yJ (x.f,x.ps.length))(hf:∀x∈fs,ö bs ls am x)(h:gA n2):JF l pb pl bs ls am m pre post [O (.r 0),O (.p (.I (m:Ń))),O (.p (.L (l.map .S))),O (.p (.L pb)),O (.p (.L pl)),v5,O (.p (.L (am.map yJ))),O (.r 1),O (.p (.T (fs.map Fn.p))),v9,v10,v11,v12,v13,ao,ao,ao] [.L [.I n2],.L [.I l2]]
def JF.of{pb:ϑ}{fs:Ł Fn}{l2:Î}(F:R=fs.map Fn.p)(a:pre=fs.map λx=>yJ (x.f,x.ps.length))(b:∀x∈fs,ö bs ls am x)(h:gA n):JF l pb P bs ls am m pre post [O (.r 0),O (.p (.I (m:Ń))),O (.p (.L (l.map .S))),O (.p (.L pb)),O (.p (.L P)),v5,O (.p (.L (am.map yJ))),O (.r 1),O (.p (.T R)),v9,v10,v11,v12,v13,ao,ao,ao] [.L [.I n],.L [.I l2]]:=by subst F;rwa[.mk a b h]
theorem K3:∀{a b:Ł (Ä×Ń)},a.map yJ=b.map yJ->a=b
 |[],[],_=>Ŗ|[],_::_,h=>nomatch h|_::_,[],h=>nomatch h|(p,P)::a,(q1,q2)::b,h=>by
  injection h with e c;injection e with e;injection e with e E;injection e with e;injection E with E;injection E with E;let E:P=q2:=by rwa[Int.ofNat.inj E]
  let e:p=q1:=e;rw[e,E,K3 c]
inductive WA(z:ϐ)(k i:Ń):ϑ->Hs->ß|mk{am:Ł (Ä×Ń)}{n:Î}(e2:am.map (·.1)=z.take i)(e3:∀p∈am,p.2<=k)(h:gA n):WA z k i (am.map yJ) [.L [.I n]]
def WA.nx{am:Ł (Ä×Ń)}(e:am.map (·.1)=z.take i)(E:∀p∈am,p.2<=k)(a:z[i]?=O w)(c:b<=k)(h:gA n):WA z k (i+1) (am.map yJ++[.T [.S w,.I (b:Ń)]]) [.L [.I n]]:=by
 rw[show am.map yJ++[_]=(am++[Ý w b]).map yJ by rw[aD];rfl];erw[.mk ?_ (λp H=>?_) h];.rw[aD,e,pj,a];rfl
 .rcases bu.mp H with H|H;.rwa[E p H]
  .rw[aB.mp H];rwa[c]
inductive WB(z:ϐ)(l:Î)(i:Ń):ϑ->Hs->ß|mk{bx:Ł (Ä×Nm)}{n:Î}(e2:bx.map (·.1)=z.take i)(h:gA n):WB z l i (bx.map Xj) [.L [.I n],.L [.I l]]
def WB.nx{bx:Ł (Ä×Nm)}(e:bx.map (·.1)=z.take i)(H:z[i]?=O w)(a:b<1000000)(h:gA n):WB z l (i+1) (bx.map Xj++[.T [.S w,.I (b:Ń)]]) [.L [.I n],.L [.I l]]:=by rw[show bx.map Xj++[_]=(bx++[Ý w ((b,a):Nm)]).map Xj by rw[aD];rfl];erw[.mk ?_ h];rw[aD,e,pj,H];rfl
inductive WC(l:Î)(i:Ń):ϑ->Hs->ß|mk{sz:Ϙ}{n:Î}(e2:sz.length=i)(e3:∀s∈sz,s<=12)(h:gA n):WC l i (sz.map λs=>.I (s:Ń)) [.L [.I n],.L [.I l]]
def WC.nx{sz:Ϙ}(e:sz.length=i)(E:∀s∈sz,s<=12)(a:b<=12)(h:gA n):WC l (i+1) (sz.map (λs=>Pv.I (s:Ń))++[.I (b:Ń)]) [.L [.I n],.L [.I l]]:=by
 rw[show sz.map (λs=>Pv.I (s:Ń))++[_]=(sz++[b]).map λs=>.I (s:Ń)by rw[aD];rfl];erw[.mk (by rw[aj,e];rfl) (λp H=>?_) h];rcases bu.mp H with H|H;.rwa[E p H]
 .rw[aB.mp H];rwa[a]
def Mo:Ł Nm:=[7,0,3,7,0,3,7,0,3,7,0,3]
inductive WD(z:ϐ)(n l:Î)(i:Ń):ϑ->Hs->ß|mk{lx:Ł (Ä×Ł Nm)}(e2:lx.map (·.1)=z.take i)(e3:∀p∈lx,p.2.length<=12):WD z n l i (lx.map Za) [.L [.I n],.L [.I l]]
def WD.nx{lx:Ł (Ä×Ł Nm)}(e:r=(Mo.take s).map nP)(E:lx.map (·.1)=z.take i)(a:∀p∈lx,p.2.length<=12)(H:z[i]?=O w):WD z n l (i+1) (lx.map Za++[.T [.S w,.T r]]) [.L [.I n],.L [.I l]]:=by
 subst e;rw[show lx.map Za++[_]=(lx++[Ý w (Mo.take s)]).map Za by rw[aD];rfl];erw[.mk ?_ λp h=>?_];.rw[aD,E,pj,H];rfl
 .rcases bu.mp h with h|h;.rwa[a p h]
  .rw[aB.mp h];show(Mo.take s).length<=12;rw[bK];rwa[GO ..]
def ł:d5 (Ð 4 [Pv.I 7,Pv.I 0,Pv.I 3]).flatten ao (O ((s:Ń):Î))=(Mo.take s).map nP:=by show((Mo.map nP).take s).drop 0=_;rw[fj,iV]
def Hj(B:LX ca Jc W)(S:SX ca W)(Dn:DX ca Jc W 44 2 jm)(Ds:DX ca Jc W 45 4 P4)(Dw:DX ca Jc W 46 6 (uy 3))(Dr:DX ca Jc W 48 11 (Jd 3)):DX ca Jc W 49 12 P7:=by erw[B.e (k:=10) 17 J [(44,jm),(45,P4),(46,uy 3),(48,Jd 3)] [] (.set 2 (.cl 45 [0] (.u2 0 (.i 9)))<|>.set 3 (.sl 2 .no (.of (.ix (.lst (.u4 (.i 1) (.i 2) (.i 3) (.i 3))) (.cl 44 [0] (.u2 0 (.i 4))))))<|>.set 4 (.sl 2 (.of (.i 3)) (.of (.b2 eB (.i 3) (.cl 44 [0] (.u2 0 (.i 3))))))<|>.setC 6 1 [0] (.one 0) (.s (.sl (.cl 45 [0] (.u2 0 (.i 4))) .no (.of (.cl 44 [0] (.u2 0 (.i 3)))))) .no (.tup (.u2 0 (.cl 44 [0] (.u2 1 (.i 3)))))<|>.set 7 (.F5 (.u (.i 52)))<|>.set 8 (.tup .nil)<|>.fo (.many [5,9]) (.s 6) (.set 10 (.sl 2 (.of (.i 5)) (.of (.b2 eB (.i 5) 9)))<|>.set 11 (.sl 2 (.of (.i 7)) (.of (.b2 eB (.i 7) (.cl 44 [0] (.u2 0 (.i 3))))))<|>.set 12 (.b2 eB (.b2 eB 10 11) 3)<|>.set 13 (.cl 48 [0,1] (.u5 0 (.tup (.u4 12 4 6 (.c (.B J)))) (.i 1) (.i 4) 7))<|>.iff (.cmp zU (.cl 44 [0] (.u2 0 (.i 3))) (.i 0)) (.one (.set 13 (.b2 eB 13 (.tup (.u (.tup (.u2 (.s "return") (.cl 46 [0] (.u4 0 (.i 2) 12 4))))))))) .nil<|>.one (.set 8 (.b2 eB 8 (.tup (.u (.tup (.u4 5 (.bi sL (.u 10)) (.bi sL (.u 11)) 13)))))))<|>.set 13 (.cl 48 [0,1] (.u5 0 (.tup (.u4 3 4 6 (.c (.B a5)))) (.i 1) 1 7))<|>.set 14 (.bi sL (.u (.comp 1 [0] (.one 0) (.s 3) .no (.tup (.u2 0 (.cl 44 [0] (.u2 1 (.i 6))))))))<|>.setC 15 1 [0] (.one 0) (.s 4) .no (.cl 44 [0] (.u2 1 (.ix (.lst (.u2 (.i 3) (.i 13))) (.cl 44 [0] (.u2 1 (.i 2))))))<|>.setC 16 2 [] (.many [0,1]) (.zl (.u2 4 15)) .no (.tup (.u2 0 (.sl (.b2 rP (.tup (.u3 (.i 7) (.i 0) (.i 3))) (.i 4)) .no (.of 1))))<|>.re (.tup (.u4 14 (.bi sL (.u 16)) 8 13))) S.wD rfl (Dn.le (aH _ _),Ds.le (aH _ _),Dw.le (aH _ _),Dr,Ť) Ť λds h Q xc c=>?_];induction c with|@mk n m Q xc h hm q=>
  erw[(Ŗ,.mk (m:=9) h ∅ λn1 l h1 ll nd ne=>?_)];erw[.mk (m:=4) h1 ∅ ∅ λn2 a h2 ha=>?_];let F:∃b:Ń,rO [Pv.I 1,Pv.I 2,Pv.I 3,Pv.I 3] ((a:Ń):Î)=O (.I (b:Ń))/\b<=3:=by match a,ha with|0,_=>exact(1,Ŗ,∅)|1,_=>exact(2,Ŗ,∅)|2,_=>exact(3,Ŗ,∅)|3,_=>exact(3,Ŗ,∅)
  let(b,eb,F):=F;erw[aZ eb ?_];erw[.mk (m:=3) h2 ∅ ∅ λn3 c h3 hc=>?_];erw[.mk (m:=4) h3 ∅ λn4 l4 h4 ll4 nd4 ne4=>?_];erw[.mk (m:=3) h4 ∅ ∅ λn5 e h5 he=>?_];show mQ _ (d5 (l4.map Pv.S) ao (O ((e:Ń):Î))) _ _ _ _;rw[uD];delta mQ;erw[(WA (l4.take e) 2,.mk (am:=[]) Ŗ (λp H=>nomatch H) h5,λi y A g C j=>?_,λA g j=>?_)];.induction j with|@mk am n6 G X e4=>rw[aN]at C;let(w,M,rfl):=mp C;erw[.mk (m:=3) e4 ∅ ∅ λn7 b P F=>?_];erw[bI (by rfl) ?_];rwa[WA.nx (b:=b) G X M (dS ‹_›) P]
  induction j with|@mk am n6 G X e4=>
  rw[ae,fU]at G;let lam:am.length<=4:=by let:=bL Á G;rw[ae,bK]at this;lia
  let lb:(l.take b).length<=3:=by rw[bK];lia
  let lls:((l.take (3+c)).drop 3).length<=2:=by rw[eh,bK];lia
  let so:∀o i,o.length<=4->B6 (Wu (l.take b) ((l.take (3+c)).drop 3) am o i):=λo i ho=>(by show(o++_).length<=900;rw[aj];lia,by show((l.take (3+c)).drop 3).length<=900;rwa[aq ‹_› ∅],by show am.length<=900;rwa[aq ‹_› ∅],λp H=>by let:=X p H;rwa[aS ‹_›]);erw[jF (JF l (d5 (l.map Pv.S) ao (O ((b:Ń):Î))) (d5 (l.map Pv.S) (O 3) (O (3+((c:Ń):Î)))) (l.take b) ((l.take (3+c)).drop 3) am m) (.mk (fs:=[]) (v5:=ao) (v9:=ao) (v10:=ao) (v11:=ao) (v12:=ao) (v13:=ao) rfl (λx t=>nomatch t) e4) (λpre x post σ' g ex j=>?_) λσ' g j=>?_];.induction j with|@mk fs n7 l7 v5 v9 v10 v11 v12 v13 H hf P=>
   let t:∃p,p∈am/\yJ p=x:=cx.mp (by rw[ex];rwa[aW _ aF]);let(p,hpm,rfl):=t;let O4:=X p hpm;erw[.mk (m:=3) P ∅ ∅ λn8 o h8 ho=>?_];let Y:=gt (l:=l) (a:=p.2) (b:=o) nd O4 (dS ‹_›);let l5:(d5 (l.map Pv.S) (O 5) (O (5+((p.2:Ń):Î)))).length<=9:=by rw[Xx,ae,eh,bK];lia
   let l7':(d5 (l.map Pv.S) (O 7) (O (7+((o:Ń):Î)))).length<=9:=by rw[Xy,ae,eh,bK];lia
   let lb':(d5 (l.map Pv.S) ao (O ((b:Ń):Î))).length<=9:=by rw[uD,ae];rwa[aq ‹_› ∅]
   let hB:d5 (l.map Pv.S) (O 5) (O (5+((p.2:Ń):Î)))++d5 (l.map Pv.S) (O 7) (O (7+((o:Ń):Î)))++d5 (l.map Pv.S) ao (O ((b:Ń):Î))=((l.take (5+p.2)).drop 5++(l.take (7+o)).drop 7++l.take b).map .S:=by rw[Xx,Xy,uD,<-aD,<-aD]
   erw[bI (mH (n:=(d5 (l.map Pv.S) (O 5) (O (5+((p.2:Ń):Î)))).length+(d5 (l.map Pv.S) (O 7) (O (7+((o:Ń):Î)))).length) (bv.mpr ())) ?_];erw[bI (mH (n:=(d5 (l.map Pv.S) (O 5) (O (5+((p.2:Ń):Î)))++d5 (l.map Pv.S) (O 7) (O (7+((o:Ń):Î)))).length+(d5 (l.map Pv.S) ao (O ((b:Ń):Î))).length) (bv.mpr (by rw[aj];lia))) ?_];let hP:Pv.T [.L (d5 (l.map Pv.S) (O 5) (O (5+((p.2:Ń):Î)))++d5 (l.map Pv.S) (O 7) (O (7+((o:Ń):Î)))++d5 (l.map Pv.S) ao (O ((b:Ń):Î))),.L (d5 (l.map Pv.S) (O 3) (O (3+((c:Ń):Î)))),.L (am.map yJ),.B J]=Mn (Wu (l.take b) ((l.take (3+c)).drop 3) am ((l.take (5+p.2)).drop 5++(l.take (7+o)).drop 7) J):=by rw[hB,Kk];rfl
   erw[Jd.mx (D:=1) (m:=4) hP rfl ∅ ∅ h8 (so _ _ Y.2) ∅ λn9 l9 E h9 K=>?_];let zt:=K.z;let b3:bR 3=249:=Ŗ;let lfs:fs.length<=4:=by let:=bL Á ex;rw[H,aj,ae,ae]at this;lia
   let lps:((l.take (5+p.2)).drop 5).length=p.2:=by rw[eh,bK];lia
   let fx:∀(R:Ł Tr),j4 (Wu (l.take b) ((l.take (3+c)).drop 3) am ((l.take (5+p.2)).drop 5++(l.take (7+o)).drop 7) J) 3 1000 R->∃U:Ł Fn,fs.map Fn.p++[.T [.S p.1,.T (d5 (l.map Pv.S) (O 5) (O (5+((p.2:Ń):Î)))),.T (d5 (l.map Pv.S) (O 7) (O (7+((o:Ń):Î)))),tP R]]=U.map Fn.p/\pre++[yJ p]=U.map (λx=>yJ (x.f,x.ps.length))/\∀x∈U,ö (l.take b) ((l.take (3+c)).drop 3) am x:=λR hr=>by
    erw[(fs++[(p.1,(l.take (5+p.2)).drop 5,(l.take (7+o)).drop 7,R)],by rw[aD,Xx,Xy];rfl,?_,λx t=>?_)];.rw[aD,H];show _=_++[yJ (p.1,((l.take (5+p.2)).drop 5).length)];rw[lps]
    .rcases bu.mp t with t|t;.rwa[hf x t]
     .rw[aB.mp t];exact(hr,Y.1,Y.2)
   let kf:qE ((fs.map Fn.p).length+1)=true:=mH (bv.mpr (by rw[ae];rwa[bM ‹_› ∅]));erw[.mk (m:=3) h9 ∅ ∅ λN r Z hr=>d8 (c:=sR 0 ((r:Ń):Î)) (λ_=>?_) λ_=>?_]
   .erw[uy.mx (d:=2) hB Kk rfl Z ∅ ∅ (by rw[aj];let:=Y.2;lia) (aq ‹_› ∅) λn11 v Ψ hv=>?_];let(v1,v2):=vL (c:=Wu (l.take b) ((l.take (3+c)).drop 3) am ((l.take (5+p.2)).drop 5++(l.take (7+o)).drop 7) J) hv ∅;let pr:Pu (Wu (l.take b) ((l.take (3+c)).drop 3) am ((l.take (5+p.2)).drop 5++(l.take (7+o)).drop 7) J) (.rt v):=(Ŗ,((Ŗ,hv.1),aA v1,by show v.rc<=40;rwa[aq ‹_› ∅]));let(U,f1,f2,f3):=fx (E++[.lf (.rt v)]) ((K.app (.lf pr)).up (ah _) (aH _ _));let er:tP (E++[.lf (.rt v)])=.T (eE E++[.T [.S "return",v.p]]):=by delta tP;rw[vI];rfl
    rw[er]at f1;erw[bI (mH (n:=(eE E).length+1) (bv.mpr (by rw[jB];let:=tV E;lia))) ?_];erw[bI kf ?_];erw[bI (by rfl) ?_];rwa[JF.of (post:=post) f1 f2 f3 Ψ]
   .let(U,f1,f2,f3):=fx E (K.up (ah _) (aH _ _));erw[bI kf ?_];erw[bI (by rfl) ?_];rwa[JF.of (post:=post) f1 f2 f3 Z]
  .induction j with|@mk fs n7 l7 v5 v9 v10 v11 v12 v13 H hf P=>
   let hP:Pv.T [.L (d5 (l.map Pv.S) ao (O ((b:Ń):Î))),.L (d5 (l.map Pv.S) (O 3) (O (3+((c:Ń):Î)))),.L (am.map yJ),.B a5]=Mn (Wu (l.take b) ((l.take (3+c)).drop 3) am [] a5):=by rw[uD,Kk];rfl
   erw[Jd.mx (D:=1) (m:=m) hP rfl ∅ ∅ P (so _ _ (aP _)) hm λn8 l8 E h8 K=>?_];show mQ _ (d5 (l.map Pv.S) ao (O ((b:Ń):Î))) _ _ _ _;rw[uD];delta mQ;erw[(WB (l.take b) l8,.mk (bx:=[]) Ŗ h8,λi y A g C j=>?_,λA g j=>?_)];.induction j with|@mk bx n9 k2 k4=>rw[aN]at C;let(w,M,rfl):=mp C;erw[.mk (m:=6) k4 ∅ ∅ λN b Z F=>?_];erw[bI (by rfl) ?_];rwa[WB.nx (b:=b) k2 M (aq ‹_› ∅) Z]
   induction j with|@mk bx n9 k2 k4=>
   rw[ae,fU]at k2;show mQ _ (d5 (l.map Pv.S) (O 3) (O (3+((c:Ń):Î)))) _ _ _ _;delta mQ;erw[(WC l8,.mk (sz:=[]) Ŗ (λp H=>nomatch H) k4,λi y A g C j=>?_,λA g j=>?_)];.induction j with|@mk sz N m2 m3 m4=>
    erw[.mk (m:=2) m4 ∅ ∅ λn11 r Ψ hr=>?_];obtain rfl|rfl:r=0\/r=1:=()
    .erw[.mk (m:=3) Ψ ∅ ∅ λn12 b Hx F=>?_];erw[bI (by rfl) ?_];rwa[WC.nx (b:=b) m2 m3 () Hx]
    .erw[.mk (m:=13) Ψ ∅ ∅ λn12 b Hx F=>?_];erw[bI (by rfl) ?_];rwa[WC.nx (b:=b) m2 m3 (dS ‹_›) Hx]
   induction j with|@mk sz N m2 m3 m4=>
   let l3:(d5 (l.map Pv.S) (O 3) (O (3+((c:Ń):Î)))).length=((l.take (3+c)).drop 3).length:=by rw[Kk,ae]
   show mQ _ (EH (d5 (l.map Pv.S) (O 3) (O (3+((c:Ń):Î)))) (sz.map λs=>Pv.I (s:Ń))) _ _ _ _;delta mQ;erw[(WD ((l.take (3+c)).drop 3) N l8,.mk (lx:=[]) Ŗ (λp H=>nomatch H),λi y A g C j=>?_,λA g j=>?_)];.induction j with|@mk lx j2 j3=>let(x1,x2,CZ,VF,rfl):=vO C;rw[Kk,aN]at CZ;rw[aN]at VF;let(w,M,rfl):=mp CZ;let(s,hs,rfl):=mp VF;erw[bI (by rfl) ?_];erw[bI (by rfl) ?_];rwa[WD.nx (s:=s) ł j2 j3 M]
   induction j with|@mk lx j2 j3=>
   rw[qx,l3,ae,m2,l3,Nat.min_self,fU]at j2;let na:(am.map (·.1)).Nodup:=by rw[G];rwa[nd4.sublist (fF ..)]
   let hfn:fs.map (λx=>(x.f,x.ps.length))=am:=(K3 (by rw[bB];rwa[H])).symm;let zt:=K.z;let b3:bR 3=249:=Ŗ;let mb:m*bR 3<=5*249:=Ph hm ∅;erw[q N (bx,lx,fs,E) m4 (Ym (bs:=l.take b) (ls:=(l.take (3+c)).drop 3) (am:=am) k2 j2 hfn (nd.sublist (fF ..)) (nd.sublist ((List.drop_sublist ..).trans (fF ..))) na (λp H=>?_) (aq ‹_› ∅) (aq ‹_› ∅) lam hf (K.up (ah _) (aq ‹_› ∅)) j3)];let:p.1∈am.map (·.1):=cx.mpr (p,H,Ŗ);rw[G]at this;rwa[ne4 _ (fE this)]
end
end W2
namespace F
open L2
def Ms.agW{K:Æ}{a:Ä->Ő _}{st:É}{ps:ϐ}(B:Ms Γ t)(z:Þ)(p:BM K x l st f e)(F:c7 N ps (aG st))(g:Gk J Γ t k S P w K a b)(I:B.ck (S.at N (aG st) J) (bX st)=J)(j:∀ds h Q X,C ds h Q X->ds.length=ps.length/\B.m (iR z h.length Q λ_ _=>ŧ) (rF N.length ds) h)(u:∀ds h Q X,C ds h Q X->C ds h Q λ_ _=>ŧ):il P w K a b BL (k+2) f e ps (dI (K,a,t) C):=by
 let(oc,Y,kV,doc,pm,an,eO,ct,sd,rfl,lk,D):=p.ex;let ln:∀v H Q E,dI (K,a,t) C v H Q E->Á v=Á ps:=λv H Q E t=>t.ln λ_ _ _ _ c=>(j _ _ _ _ c).1;let z:il P w K a _ _ (k+2) f _ ps λv H Q E=>dI _ C v H Q λ_ _ _=>ŧ:=AJ lk D F (λv H Q E t=>ln v H Q _ t) λA o s H v Q E d Z=>by let(G,M,h,ds,n,X,r,i,c,out,L):=Z;exact(_,B.ps (Gk.Sf g rfl rfl rfl (gN.pass qW rD) d λ_=>(qW,rD),F.nd,λy _=>.inl Ŗ,BY,F.kind,g.exc) I,(G,M,_,h,_,oS r (o9 N i) out λ_ _ _ _ _ _ q=>q.elim,(j _ _ _ _ c).2))
 erw[(ln,λA o s H args U v Q E d R T W q=>?_)];let(G,M,h,ds,n,X,r,i,c,out,_):=q;erw[dU (z.run A _ s H _ U v Q (λ_ _ _=>ŧ) d R T W (G,M,h,ds,n,_,r,i,u _ _ _ _ c,out,λ_ _ _ _ _ _ q=>q.elim)) λr s' q=>?_];delta CR at q⊢;split at q;.rwa[q]
 .left
 .let(_,_,_,_,_,_,q):=q;rwa[q.elim]
end F
namespace W2
open L2 F
inductive Xl:Ct|mk{xs:ϑ}{Q:Dv->Hs->ß}{xc:XP}(h:xs.all isInt)(q:Q (.p (.B J)) []):Xl [.p (.scr xs)] [] Q xc
def VQ(G:JK g):(g.pn ss wd).lo=true:=by show(g.fl.map _).all _=J;rw[List.all_map,bJ];exact(λp h=>by
  rcases bu.mp h with h|h
  .let key:∀(fs:Ł Fn)(n:Ń),(∀x∈fs,gP (g.sc (x.ps++x.os) J) x.rs)->∀p∈qB fs n,p.1.lo 6=true:=λfs=>by induction fs with|f=>intro n _ p h;cases h|g x r i=>
     intro n H p h;rcases aw.mp h with rfl|h;.rfl
     .rcases bu.mp h with h|h;.exact(jc _ _ _ (H x aF) p h).2.1
      .rwa[i _ (λy a=>H y (aE _ a)) p h]
   rwa[key _ _ G.fok p h]
  .exact(jc _ _ _ G.O9 p h).2.1)
theorem RT.wd{w0:Wk}(K:Px g P)(A:Jw P d n)(hn:n<=90000)(I:w0.wo="on"->Inv g P 0 w0)(r:RT P w0 rs w):rs.length<=n->RT {P with wd:=d} w0 rs w/\(w.wo="on"->Inv g P rs.length w):=by induction r with|z=>rwa[λ_=>(.z,I)]|@s rs w W x r h e c=>intro H;rw[aj,cB]at H⊢;let(R,f):=c ();let b:=f h;let(l,X,E,j):=zK K b h ();rw[e]at E;cases E;erw[(.s R h ?_,j)];rw[GC λz i a _ k=>A z a (bM (b.ak.2 a (aL k)) ())];rwa[e]
def RT.uniq{q_:ϑ}(a:RT P w0 rs w)(b:RT P w0 q_ W)(h:rs.length=q_.length):rs=q_:=by
 erw[List.ext_getElem? λi=>?_];rcases Br i _ with H|H;.erw[(a.it.2 i H).on λx _ e ex=>(b.it.2 i (h▸H)).on λy _ E c=>?_];rw[e]at E;cases E;rw[ex,c]
 .rw[cW H,cW (h▸H)]
def Ŕ(G:JK g)(hs:ss.Perm (dO (BP g.fl))):∃m w' xs,Rn (g.pn ss (BU w)) (g.w0 ss w) m w' xs/\m<=30/\(m=30\/w'.wo≠"on"):=NS (Nt G hs) 30 0 _ (λ_=>YL G hs) ∅
def lwN:ϐ:=["_law_script","_law_state_here","_law_machines","_law_rows_here","_law_others","_law_k","_law_program_here","_law_world_here"]
inductive LP(xs:ϑ)(i:Ń):Es->Hs->ß|mk{n:Î}{ms rs:ϑ}{v5 v6 v7:Ő Pv}(hn:gA n)(lm:ms.length=i)(lr:rs.length=i)(t:∀j,j<i->T0 ms[j]? rs[j]?)(dp:rs.all (qA 59)):LP xs i [O (.p (.scr xs)),O (.r 0),O (.r 1),O (.r 2),O (.r 3),v5.map .p,v6.map .p,v7.map .p] [.L [.I n],.L ms,.L rs,.L rs]
inductive LQ(xs:ϑ)(i:Ń)(n:Î)(ms rs:ϑ)(v6 v7:Ő Dv):Es->Hs->ß|mk:LQ xs i n ms rs v6 v7 [O (.p (.scr xs)),O (.r 0),O (.r 1),O (.r 2),O (.r 3),O (.p (iP i)),v6,v7] [.L [.I n],.L ms,.L rs,.L rs]
def T0.snoc(l:ms.length=i)(lr:rs.length=i)(t:∀j,j<i->T0 ms[j]? rs[j]?)(k:TM P w0 r):∀j,j<i+1->T0 (ms++[DJ P w0])[j]? (rs++[.L r])[j]?:=λj H=>by
 rcases Br j i with h|h;.rw[aT (l▸h),aT (lr▸h)];rwa[t j h]
 .obtain rfl:j=i:=Nat.le_antisymm (dS H) h;rw[aK (l▸h),aK (lr▸h),l,lr,eA];rwa[.mk k]
def RT.tm(lo:P.lo)(h:rs.length<=1000)(r:RT P w0 rs w):TM P w0 rs/\qA 59 (.L rs)=true:=by erw[((lo,h,r.it.2),?_)];erw[bJ.mpr λx a=>?_];let(i,H):=List.mem_iff_getElem?.mp a;erw[(r.it.2 i (ar.mp H).1).on λy _ e E=>?_];rw[H]at E;cases E;let(_,_,_,_,p):=Ej e;rwa[X5 p]
section
variable{ca:Ń->À}{W:Wd}{k:Ń}
def ahX{f:À}{F:d4}{st:É}{l:Ł _}{iok:Ϙ}{Jc:Ń->Ct}{M:Ss}{C:Ct}(B:LX ca Jc W)(N:ϐ)(a:BM W.K "law" "law" st f F)(b:Ms ((Lx ca Jc).G l iok) (Lx ca Jc).t)(i:(Jh N ["_law_script"] (aG st)&&b.ck ((Lx ca Jc).S.at N (aG st) J) (bX st))=J)(H:All (Lx ca Jc) W (k+1) l)(hi:wN (Lx ca Jc) W k iok)(c:∀ds h Q x,C ds h Q x->ds.length=1/\M (iR J h.length Q λ_ _=>ŧ) (rF N.length ds) h)(X:∀ds h Q x,C ds h Q x->C ds h Q λ_ _=>ŧ)(d:autoParam (b.m=M) î):il W.P W.w W.K W.mg W.base BL (k+2) f F ["_law_script"] (dI ((Lx ca Jc).y W) C):=by subst d;rwa[b.agW _ a (lQ (ag i).1) (B.gk (zT.of H.at) hi) (ag i).2 c X]
abbrev YA:Ł (Ń×Ct):=[(42,wX),(43,qS),(49,P7),(50,P9),(51,P8),(52,PY),(53,Ka)]
def abl(B:LX ca Jm W)(F0:BM W.K "law" "law" (ff 82) f T)(hf:All (Lx ca Jm) W (k+1) YA)(hi:wN (Lx ca Jm) W k [4]):il W.P W.w W.K W.mg W.base BL (k+2) f T ["_law_script"] (dI ((Lx ca Jm).y W) Xl):=by
  erw[ahX B lwN F0 (l:=YA) (iok:=[4]) (k:=k) (.z (.set 1 (.cl 43 [] (.u2 (.cl 42 [] (.u2 0 (.i 2))) (.i 3)))<|>.set 2 (.F5 .nil)<|>.set 3 (.F5 .nil)<|>.set 4 (.F5 .nil)<|>.fo (.one 5) (.r (.u (.i 2))) (.cut (.set 6 (.mX (.cl 49 [4] (.u2 (.cl 43 [] (.u2 (.cl 42 [] (.u2 0 5)) 5)) (.i 5))))) (.cut (.set 7 (.mX (.cl 50 [4] (.u (.cl 43 [] (.u2 (.cl 42 [] (.u2 0 (.b2 eB 5 (.i 3)))) (.i 7))))))) (.ex (.mt oh 2 (.u (.mX (.nwl 4 (.u2 6 7)))))<|>.ex (.mt oh 3 (.u (.cl 53 [] (.u2 (.ix 2 5) (.i 30)))))<|>.one (.ex (.mt oh 4 (.u (.cl 53 [] (.u2 (.mX (.nwl 4 (.u2 6 (.cl 52 [] (.u2 7 (.i 30)))))) (.i 30)))))))))<|>.fz 1 (.re (.bo (Bm.ac (.cmp Ŧ 3 4) (Bm.a1 (.cl 51 [0] (.u3 2 3 1)))))))) rfl hf hi (λds h Q xc c=>?_) λ_ _ _ _ c=>by induction c with|mk h q=>rwa[.mk h q]]
  induction c with|@mk X Q xc b q=>
  erw[(Ŗ,?_)];erw[wX.mk b λi0=>qS.mk λn0 e=>?_];erw[jF (λpre _=>LP X pre.length) (.mk (ms:=[]) (rs:=[]) (v5:=ao) (v6:=ao) (v7:=ao) e rfl rfl (λj o=>nomatch o) rfl) (λpre x post v h' ex j=>?_) λv h' j=>?_]
  . let(rfl,hi):=D5 ex;generalize hp:pre.length=i at j ex hi⊢;let lp:(pre++[Pv.I (i:Ń)]).length=i+1:=by rw[aj,hp];rfl
    induction j with|@mk n ms rs v5 v6 v7 hn a lr t dp=>erw[Exists.intro (λσ h=>∃g,JK g/\LQ X i n ms rs (O (.p g.p)) (v7.map .p) σ h) (And.intro (wX.mk b λi1=>qS.mk λn1 C=>P7.mk (m:=5) C ∅ λn2 g VD G=>(g,G,.mk)) λσ h c=>?_)];let(g,G,c):=c;induction c;erw[Exists.intro (λσ h=>∃wd,Ve (O wd)/\(∀p∈wd,p.2.length<=100)/\LQ X i n ms rs (O (.p g.p)) (O (.p (Pd (O wd)))) σ h) (And.intro (wX.mk (k:=i+3) b λi1=>qS.mk λn1 C=>P9.mk C λn2 wd VD H D=>(wd,H,D,.mk)) λσ h c=>?_)];let(wd,H,D,c):=c;induction c;erw[J8.mk (w:=O wd) G.toGdM H λss s so=>bI (mH (n:=ms.length+1) (bv.mpr ())) ?_];let(m,w',ys,U,Y,Z):=Ŕ (w:=O wd) G s;let lo:=VQ (ss:=ss) (wd:=BU (O wd)) G;erw[aZ (x:=DJ (g.pn ss (BU (O wd))) (g.w0 ss (O wd))) (show(ms++[_])[i]?=_ by rw[aK (a▸ah _),a,eA];rfl) ?_];erw[Ka.mk (n:=30) lo U Y Z ∅ λrs1 R Lh=>bI (mH (n:=rs.length+1) (bv.mpr ())) ?_];erw[PY.mk (n:=30) H.2 D ∅ (J8.mk (w:=O (F1 30 wd)) G.toGdM (Zc H) λS O5 E=>?_)];obtain rfl:=Ed O5 s E so;let K:=Nt (wd:=BU (O wd)) G s;let A:=Ź (P:=g.pn S (BU (O wd))) (n:=30) ∅;let F:=s_ K A ∅ U (λ_=>YL G s) ();erw[Ka.mk (n:=30) (VQ (wd:=F1 30 wd) G) F Y Z ∅ λq_ M Yz=>bI (mH (n:=rs.length+1) (bv.mpr ())) ?_];obtain rfl:=RT.uniq (RT.wd K A ∅ (λ_=>YL G s) R ()).1 M (Lh.trans Yz.symm);let(k,d):=R.tm lo ();rwa[.mk (v5:=O (iP i)) (v6:=O g.p) (v7:=O (Pd (O wd))) hn (by rw[lp,aj,a];rfl) (by rw[lp,aj,lr];rfl) (λj o=>T0.snoc a lr t k j (lp▸o)) (by rw[List.all_append,dp,cw,d];rfl)]
  . induction j with|@mk n ms rs v5 v6 v7 hn a lr t dp=>
    rw[qi]at a t;let N:∀v5 v6 v7:Ő Pv,CQ [.L [.I n],.L ms,.L rs,.L rs] 1 [O (.p (.scr X)),O (.r 0),O (.r 1),O (.r 2),O (.r 3),v5.map .p,v6.map .p,v7.map .p]=O [O _,O _,O _,O _,O _,v5.map .p,v6.map .p,v7.map .p]:=λv5 v6 v7=>by cases v5<;>cases v6<;>cases v7<;>rfl
    simp only[N];rwa[bI Ŗ ((Ŗ,dp),P8.mk hn t λ_=>q)]
end
def yc{α:Type}(P:α->ß):Ł α->ß|[]=>æ|x::r=>P x/\yc P r
def jx(a:yc P l):∀x∈l,P x:=by induction l with|f=>rwa[λ_ h=>nomatch h]|g y r i=>rwa[λx h=>(aw.mp h).elim (λz=>z▸a.1) λz=>i a.2 x z]
abbrev Q2:Ń->Ä:=λi=>ê (sB SF "" i)
abbrev S_(l:Ł (Ä×Ń)):Ä->Ő ϐ:=λx=>(iU x l).map λn=>Ð n ""
structure ÿ(w:cc)(K:Æ)(mg:c3)(a0 a1 a2 a3 a4:À):ß where
 z:yc (λx=>mg x=ao) Xe
 is:yc (λp:Ä×Î=>∃t,mg p.1=O (.int p.2 t)) [("NO_ROW",-1),("MOST_THINGS",12),("BEYOND",1000000),("BY_NOTHING",1),("NO_PLACE",2),("FULL_LIST",3),("EMPTY_LIST",4),("TOO_DEEP",5),("MOST_FRAMES",8),("WORD",5)]st:∃t,mg "NO_FUNCTION"=O (.str "" t)ms:yc (λp:Ä×À=>mg p.1=O (.ref p.2)) [("ROW_FORMS",a0),("KINDS",a1),("PLAIN_DEEDS",a2),("DEEDS",a3),("OF_TWO",a4)]t0:B8 w K a0 λx=>iU x r_
 t1:GZ w K a1 λx=>iU x Y6
 t2:sA w K mg Q2 a2 (S_ b_)t3:sA w K mg Q2 a3 (S_ X7)t4:sA w K mg Q2 a4 (S_ ZE)
structure Pl(K:Æ)(mg:c3)(x:Ä)(C:À)(fs:ϐ):ß where
 m:mg x=O (.ref C)cl:L2.Jy K C
 na:yc (λf=>mM K C f) fs
nonrec def Kb(C c a b d F:À):Ń->À|0=>C|1=>c|2=>a|3=>b|4=>d|_=>F
def sv(h:∃t,W.mg x=O (.int i t)):∃u v,W.mg x=O u/\RelV v u/\∀G M H,eg (((Lx ca Jc).y W).z G) M H (.I i) v:=let (t,h):=h;(_,.I i,h,(t,Ŗ),λ_ _ _=>by rfl)
def Yn(h:∃t,W.mg x=O (.str i t)):∃u v,W.mg x=O u/\RelV v u/\∀G M H,eg (((Lx ca Jc).y W).z G) M H (.S i) v:=let (t,h):=h;(_,.S i,h,(t,Ŗ),λ_ _ _=>by rfl)
nonrec abbrev Ev:ϐ:=["plan","boxes","lists","frames","asked","told","broken","reads","wrote"]
nonrec abbrev R':ϐ:=["box_places","list_places","own_places","door_places","door_numbers","paths"]
nonrec abbrev Ĉ:ϐ:=["rows","within","behind","firsts","seconds","catchers","defs","starts"]
nonrec abbrev Vw:ϐ:=["plan","beginning"]
def Ϣ{K:Æ}(T:ÿ w K m A a1 g h i)(v:Pl K m "Work" a Ev)(j:Pl K m "Plan" d R')(k:Pl K m "Paths" e Ĉ)(n:Pl K m "Machine" f Vw)(mC:m "NoStep"=O (.ref C))(E:JJ K C)(mF:m "Fault"=O (.ref c))(F:GX K c):Lk (Lx (Kb C a d e f c) Jm) (P,w,K,m,b) where
 bl:=jx (P:=λx=>m x=ao) (l:=Xe) T.z;gl:=by let(I,o,p,q,r,s,t,u,y,B,_):=T.is;rwa[jx (l:=[0,1,2,3,4,5,6,7,8,9,10]) (sv I,sv o,sv p,sv q,sv r,sv s,sv t,sv u,sv y,Yn T.st,sv B,Ť)]
 tab:=by let(M,m1,D,G,H,_):=T.ms;rwa[jx (l:=[0,50,100,101,102]) ((A,M,T.t0),(a1,m1,T.t1),(g,D,T.t2),(h,G,T.t3),(i,H,T.t4),Ť)]
 cls:=jx (l:=[1,2,3,4]) ((v.cl,jx v.na,nj Ŗ),(j.cl,jx j.na,nj Ŗ),(k.cl,jx k.na,nj Ŗ),(n.cl,jx n.na,nj Ŗ),Ť);exc:=jx (l:=[0,999]) ((mC,E),(mF,F),Ť)
def GA(K:Æ):Sp:=λv H Q _=>∃(a:À)(n:Ł Î),v=[.A a]/\gh K H a (n.map V.I)/\∀h,Q (.B J) h
def YK(ns:Ł Î):aY Z M H (ns.map .I) (ns.map V.I):=by induction ns with|f=>done|g n ns i=>exact(by rfl,i)
def Y8{L:Lw}(h:GA W.K vs H Q E):dI (L.y W) Xl vs H Q E:=by
 let(a,n,rfl,S,q):=h;erw[([],[],[],[.p (.scr (n.map .I))],λd b=>d=.p (.B J),λ_ _=>ŧ,(hU,(λ_ h=>nomatch h),Ŗ,(λ_ h=>nomatch h),λi a o h=>by simp at h),(?_,Ť),.mk ?_ Ŗ,?_,λ_ _ _ _ _ _ h=>h.elim)]
 .show eg _ _ _ _ _;erw[(a,_,Ŗ,?_,YK n)];rcases S with r|c;.rwa[.inl (((λh=>nomatch h),λh=>nomatch h),r)]
  .rwa[.inr (.inr c)]
 .show(n.map Pv.I).all isInt=J;rw[List.all_map];rwa[bJ.mpr λ_ _=>Ŗ]
 .rintro d b M e v _ _ i rfl;rw[Wp i];rwa[q e]
section
variable{w:cc}{K:Æ}{mg:c3}{h:È}
def ş{α:Type}{f g:Ł Â->α}(hn:n<=5)(h:∀a b c d e,f ([a,b,c,d,e].take n)=g ([a,b,c,d,e].take n))(us:Ł Â)(q:us.length=n):f us=g us:=by
 subst q;let o:Â:=.none;rcases us with _|⟨a,_|⟨b,_|⟨c,_|⟨d,_|⟨e,_|⟨x,r⟩⟩⟩⟩⟩⟩;.rwa[h o o o o o]
 .rwa[h a o o o o]
 .rwa[h a b o o o]
 .rwa[h a b c o o]
 .rwa[h a b c d o]
 .rwa[h a b c d e]
 .rwa[Ă hn (Nat.not_le_of_lt (aH 6 _))]
structure At(K:Æ)(x cN:Ä)(st:É)(ps:ϐ)(f:À):ß where ex:∃fd,BM K x cN st f fd/\Binds K fd ps []
def Al{st:É}{kV:Â}(hn:ps.length<=5)(H:∀(kV doc p:Â)(A:Ő À)(E ct a b c d e:Â),bindArgs (fnOf x q (g7 st) (bX st) (aG st) .none kV doc p A E ct) ([a,b,c,d,e].take ps.length,[])=pure (ps.zip ([a,b,c,d,e].take ps.length)))(l:K.lookup f=O (oc,o,.func (fnOf x q (g7 st) (bX st) (aG st) .none kV doc p A E ct),s))(c:codeIn K E q)(k:keepIn K (.ref f)):At K x q st ps f:=have F:=Yk (st:=st) l c k;(_,F,F.binds λkV doc p A E ct=>ş hn (H kV doc p A E ct))
def F_{st:É}(X:K.In h)(G:h.Ns c' mg)(a:nsIn K c' x=O (O (.ref f)))(A:At K x x st ps f):Src K mg x st ps:=let (_,F,B):=A.ex;(f,_,F,b6 X G a,B)
def Uh{st:É}(a:findIn K (.ref C) "__init__"=O (O (.ref f)))(i:isFn K (.ref f))(mk:makesIn K C)(k:keepIn K (.ref C))(A:At K "__init__" q st ps f):pK K C q st ps:=let (_,F,B):=A.ex;(f,_,F,(mk,a,i,k),B)
def Uj{st:É}(a:findIn K (.ref C) x=O (O (.ref f)))(i:isFn K (.ref f))(k:keepIn K (.ref f))(A:At K x q st ps f):gK K C x q st ps:=let (_,F,B):=A.ex;(f,_,F,(a,i,k),B)
structure ē(K:Æ)(x cN:Ä)(st:É)(ps:ϐ)(dv:Â)(f:À):ß where ex:∃fd,ę K x cN st f fd/\Binds K fd ps []/\Binds K fd ps [dv]
def Vl{ps qs:ϐ}(X:K.In s.heap)(H:fd.defaults=.ref T)(l:K.lookup T=O (oc,o,.seq #[dv] n,S))(h:∃k,bindArgs fd (us,[])=seqItems? fd.defaults>>=k/\k (O #[dv])=pure (ps.zip es)):BindsTo s fd (us,[]) (ps.zip es):=let (_,a,b):=h;.of_defaults H (X _ _ l) Ŗ a b
def W9{st:É}{kV:Â}(hn:ps.length=2\/ps.length=3)(g:∀a b c,∃k,bindArgs (fnOf x q (g7 st) (bX st) (aG st) (.ref T) kV doc p A E ct) ([a,b,c].take ps.length,[])=seqItems? (.ref T)>>=k/\k (O #[dv])=pure (ps.zip ([a,b,c].take ps.length)))(i:∀a b,∃k,bindArgs (fnOf x q (g7 st) (bX st) (aG st) (.ref T) kV doc p A E ct) ([a,b].take (ps.length-1),[])=seqItems? (.ref T)>>=k/\k (O #[dv])=pure (ps.zip ([a,b].take (ps.length-1)++[dv])))(L:K.lookup T=O (o,j,.seq #[dv] n,M))(l:K.lookup f=O (oc,m,.func (fnOf x q (g7 st) (bX st) (aG st) (.ref T) kV doc p A E ct),S))(c:codeIn K E q)(k:keepIn K (.ref f)):ē K x q st ps dv f:=by
 erw[(_,((oc,m,.ref T,kV,doc,p,A,E,ct,S,Ŗ,l,c),k),λs u X H=>?_,λs u X H=>?_)]
 .rw[aV]at H⊢;erw[Vl (qs:=ps) X Ŗ L ?_];rcases hn with e|e;.rw[e]at H g;rcases u with _|⟨a,_|⟨b,_|⟨c,r⟩⟩⟩<;>first|rwa[g a b .none]|cases H
  .rw[e]at H g;rcases u with _|⟨a,_|⟨b,_|⟨c,_|⟨d,r⟩⟩⟩⟩<;>first|rwa[g a b c]|cases H
 .erw[Vl (qs:=ps) X Ŗ L ?_];rw[aj]at H;rcases hn with e|e;.rw[e]at H i;rcases u with _|⟨a,_|⟨b,r⟩⟩<;>first|rwa[i a .none]|(simp at H;all_goals fail)
  .rw[e]at H i;rcases u with _|⟨a,_|⟨b,_|⟨c,r⟩⟩⟩<;>first|rwa[i a b]|(simp at H;all_goals fail)
def Ui{st:É}(a:findIn K (.ref C) "__init__"=O (O (.ref f)))(i:isFn K (.ref f))(mk:makesIn K C)(k:keepIn K (.ref C))(A:ē K "__init__" q st ps dv f):B7 K C q st ps [dv]:=let (_,F,B):=A.ex;(f,_,F,(mk,a,i,k),B)
def rN(w:cc){α:Type}(V:α->Â->ß):Ł (Ä×α)->Ł gn->ß|[],[]=>æ|p::r,e::E=>(∃t v,e=(PyData.keyHash w.params p.1,.str p.1 t,v)/\V p.2 v)/\rN w V r E|_,_=>ŧ
def rgc{V:α->Â->ß}(e:h'=PyData.keyHash w.params x)(Q:V a v)(q:rN w V r es):rN w V ((x,a)::r) ((h',.str x t,v)::es):=by subst e;exact((t,v,Ŗ,Q),q)
def Gu{α:Type}{V:α->Â->ß}{x:Ä}{r:Ł (Ä×α)}:∀{es:Ł gn},rN w V r es->KeysLit w.params es/\match iU x r with|O a=>∃v,((es.find? λe=>â x e.key).map (·.val))=O v/\V a v|ao=>((es.find? λe=>â x e.key).map (·.val))=none:=by induction r with
 |f=>intro es q;cases es with|f=>exact(Ť,Ŗ)|g _ _=>rwa[q.elim]
 |g p r i=>intro es q;cases es with|f=>rwa[q.elim]|g _ es=>obtain⟨⟨t,v,e,Q⟩,q⟩:=q;subst e;let(I,b):=i q;erw[(((_,_,Ŗ,Ŗ),I),?_)];delta iU;cases e:cC p.1 x with|d=>let e:=bQ.mp e;exact(v,by rw[List.find?_cons_of_pos (by show(p.1==x)=J;rw[e];simp)];rfl,Q)|e=>rw[List.find?_cons_of_neg λz=>by rw[bQ.mpr (GQ (show(p.1==x)=J from z))]at e;cases e];rwa[b]
def zD{α:Type}{V:α->Â->ß}{r:Ł (Ä×α)}{es:Array gn}(q:rN w V r es.toList)(x:Ä):match iU x r with|O a=>∃v,findBy â es x=O v/\V a v|ao=>findBy â es x=none:=by let h:=(Gu (x:=x) q).2;delta findBy;rw[<-zY];rwa[h]
def vK(K:Æ)(k:ϐ)(v:Â):ß:=∃b,v=.ref b/\∃(o:Ø)(B:Array Â)(m:Ń),K.lookup b=O o/\o.cls=.type "tuple"/\o.data=.seq B m/\B.size<=Ã/\Vals (k.map V.S) B.toList
def vS(k:ϐ)(v:Â):ß:=∃y t,k=[y]/\v=.str y t
def vF(mg:c3)(n:Ń)(v:Â):ß:=∃f,v=.ref f/\mg (Q2 n)=O (.ref f)
def aeB(l:K.lookup b=O o)(c:o.cls=.type "tuple")(d:o.data=.seq B m)(z:B.size<=Ã)(v:Vals (k.map V.S) B.toList):vK K k (.ref b):=(b,Ŗ,o,B,m,l,c,d,z,v)
def aeA(X:K.In h)(G:h.Ns c' mg)(a:nsIn K c' (Q2 n)=O (O (.ref f))):vF mg n (.ref f):=(f,Ŗ,b6 X G a)
section
variable{a:À}{es:Array gn}{n:Ń}(l:K.lookup a=O (.type "dict",ao,.dict es n,#[]))(lo:(a==fb)=a5)
include l lo
def Uy(q:rN w (vK K) r es.toList):B8 w K a λx=>iU x r:=((es,n,l,(Gu (x:="") q).1,λx=>by let h:=zD q x;cases e:iU x r with|a=>rw[e]at h;rwa[h]|c k=>rw[e]at h;let(v,H,b,rfl,c):=h;exact(b,H,c)),lo)
def Uz(q:rN w vS r es.toList):GZ w K a λx=>iU x r:=((es,n,l,(Gu (x:="") q).1,λx=>by let h:=zD q x;cases e:iU x r with|a=>rw[e]at h;rwa[h]|c k=>rw[e]at h;let(v,H,y,t,b,rfl):=h;exact(y,t,b,H)),lo)
def Ux(q:rN w (vF mg) r es.toList):sA w K mg Q2 a (S_ r):=((es,n,l,(Gu (x:="") q).1,λx=>by let h:=zD q x;show match(iU x r).map λn=>Ð n ("":Ä)with|O k=>_|ao=>_;cases e:iU x r with|a=>rw[e]at h;rwa[h]|c m=>rw[e]at h;let(v,H,f,rfl,b):=h;exact(f,H,by rw[bP];rwa[b])),lo)
end
def Xs(X:K.In h)(G:h.Ns c' mg)(m:nsIn K c' x=O (O (.ref C)))(p:plainGet K C Str.empty)(H:hasDictIn K C)(P:plainOver K C)(s:findIn K (.ref C) "__setattr__"=O (O (.builtin "object.__setattr__")))(n:yc (λf=>findIn K (.ref C) f=O ao) fs):Pl K mg x C fs:=(b6 X G m,(p,H,P,s),n)
def nac(h:findIn K (.ref C) f=O ao)(t:yc (λf=>findIn K (.ref C) f=O ao) r):yc (λf=>findIn K (.ref C) f=O ao) (f::r):=(h,t)
def x_:c7 ["self","number"] ["self","number"] (aG (c6 (ff 19) 0)):=lQ ∅
def Yf{C N f:À}{nm q:Ä}{bs sub:Ł Â}{sn:ϐ}{ab:Þ}{col:Ő Þ}{dd:Ő À}{k0 k1 k2 k3 k5:Ő Â}{c:ClassData}{o:Ø}{a:Â}{d:Ő À}{es:Array gn}{ep:Ń}{sN:Array (Ő Â)}(l:K.lookup C=O (hY nm q C N bs vl J sn sub ab col dd k0 k1 k2 k3 k5 "Exception.__new__"))(L:K.lookup N=O (a,d,.dict es ep,sN))(k:(es.toList.all λe=>match e.key with|.str _ _=>J|_=>a5)=J)(n:nsIn K N "__init__"=O (O (.ref f)))(b:nsIn K N "__setattr__"=O ao)(g:nsIn K N "__getattribute__"=O ao)(i:nsIn K N "__getattr__"=O ao)(j:nsIn K N "number"=O ao)(H:typeIn K (.ref C)=O (.type "type"))(m:clsIn K C=O c)(p:subIn K (.ref C) (.type "BaseException")=O J)(r:subIn K (.ref C) (.ref C)=O J)(lf:K.lookup f=O o)(s:o.cls=.type "function")(A:At K "__init__" "Fault.__init__" (c6 (ff 19) 0) ["self","number"] f):GX K C:=by let(t,F,B):=A.ex;exact((f,t,_,_,_,_,_,_,o,(_,_,N,_,_,_,_,_,_,_,_,_,_,_,l,by delta nsOkIn;rw[L];rwa[Array.all_toList.symm.trans k],n,b,g,i,j),F,x_,Ŗ,B,lf,s),(H,by rw[m];rfl,p),r)
end
def Y7{l:OpenLaw}{K:Æ}{M:c3}(X:K.In h)(G:h.Ns c' M)(g:M "law"=O (.ref o))(T:ÿ w K M L a1 N P R)(q:Pl K M "Work" c Ev)(r:Pl K M "Plan" b R')(t:Pl K M "Paths" d Ĉ)(u:Pl K M "Machine" f Vw)(mC:nsIn K c' "NoStep"=O (O (.ref C)))(U:excIn K C Mi "ValueError.__new__"=J)(Y:nsIn K c' "Fault"=O (O (.ref F)))(Z:GX K F)(M1:pK K c "Work.__init__" (c6 (ff 20) 0) ["self","plan","state"])(M2:pK K b "Plan.__init__" (c6 (ff 59) 0) ["self","program","world"])(M3:pK K d "Paths.__init__" (c6 (ff 60) 0) ["self","triples"])(M4:B7 K f "Machine.__init__" (c6 (ff 64) 0) ["self","program","world"] [.none])(S:Sg (Kb C c b d f F) K M)(a:nsIn K c' "law"=O (O (.ref p)))(A:At K "law" "law" (ff 82) ["_law_script"] p):∃i:d4,(∀(s:be)(v:Â),BindsTo s i ([v],[]) [("_law_script",v)])/\∀base:È,K.In base->base.Ns c' M->il l.prog w K M base BL 44 o i ["_law_script"] (GA K):=by let e:=g.symm.trans (b6 X G a);cases e;let(i,x,B3):=A.ex;let F4:=x;let(oc,od,kV,doc,pm,an,eO,ct,sd,rfl,lk,pC):=x.ex;erw[(fnOf "law" "law" (g7 (ff 82)) (bX (ff 82)) (aG (ff 82)) .none kV doc pm an eO ct,λs v=>.of_eq Ŗ,λbase _ _=>?_)];let B:Lk (Lx (Kb C c b d f F) Jm) (l.prog,w,K,M,base):=Ϣ T q r t u (b6 X G mC) U (b6 X G Y) Z;let Wm:=XZ B S M1 q.m;let y:=Qx B S;let z:DI (Kb C c b d f F) Jm (l.prog,w,K,M,base) 501 21:=XY B S Wm ∅ (Kv (k:=18) B S Wm ∅ (Qt B S Wm 6)) (Qq B S Wm);let I:DI (Kb C c b d f F) Jm (l.prog,w,K,M,base) 400 36:=XH (Jc:=Jm) B S 8;let I:DI (Kb C c b d f F) (Ja Jm) (l.prog,w,K,M,base) 400 36:=I;let j:DI (Kb C c b d f F) (Ja Jm) (l.prog,w,K,M,base) 3 38:=XM (LX.to B) S M3 t.m I;let j:DI (Kb C c b d f F) (Jp Jm) (l.prog,w,K,M,base) 3 38:=j;let n:DI (Kb C c b d f F) (Jp Jm) (l.prog,w,K,M,base) 2 40:=XO (LX.to B) S M2 r.m ∅ j;let n:DI (Kb C c b d f F) Jm (l.prog,w,K,M,base) 2 40:=n;let(I6,I7):=XN B S M4 u.m ∅ n;let W:=XR B S;let D:=AD B S W 3;let J1:DI (Kb C c b d f F) Jm (l.prog,w,K,M,base) 502 21:=(uJ B S).le ∅;exact(abl (k:=42) B F4 ((G9 B S).le ∅,(Ky B S).le ∅,(Hj B S W (QA B S W) D (Fb B S W D (QD B S W D) 3)).le ∅,(QK B S W).le ∅,(QJ (k:=21) B S ∅ W y z J1).le ∅,(Kx B S).le ∅,(Hm (k:=21) B S ∅ y z).le ∅,Ť) (I6,Ť)).imp λvs H Q E h=>Y8 h
def Z_{K:Æ}{m:c3}(X:K.In h)(G:h.Ns c' m)(p:nsIn K c' "len"=O ao)(q:nsIn K c' "isinstance"=O ao)(r:nsIn K c' "zip"=O ao)(u:nsIn K c' "range"=O ao)(v:nsIn K c' "list"=O ao)(y:nsIn K c' "tuple"=O ao)(B:nsIn K c' "int"=O ao)(C:nsIn K c' "bool"=O ao)(D:nsIn K c' "set"=O ao)(E:nsIn K c' "dict"=O ao)(z:nsIn K c' "max"=O ao)(Z:nsIn K c' "min"=O ao)(c:nsIn K c' "sorted"=O ao)(d:nsIn K c' "reversed"=O ao)(e:nsIn K c' "enumerate"=O ao)(M:nsIn K c' "NO_ROW"=O (O (.int (-1) t)))(m1:nsIn K c' "MOST_THINGS"=O (O (.int 12 T)))(F:nsIn K c' "BEYOND"=O (O (.int 1000000 f)))(H:nsIn K c' "BY_NOTHING"=O (O (.int 1 g)))(I:nsIn K c' "NO_PLACE"=O (O (.int 2 i)))(L:nsIn K c' "FULL_LIST"=O (O (.int 3 j)))(N:nsIn K c' "EMPTY_LIST"=O (O (.int 4 k)))(P:nsIn K c' "TOO_DEEP"=O (O (.int 5 l)))(Q:nsIn K c' "MOST_FRAMES"=O (O (.int 8 n)))(R:nsIn K c' "WORD"=O (O (.int 5 o)))(ms:nsIn K c' "NO_FUNCTION"=O (O (.str "" s)))(Y:nsIn K c' "ROW_FORMS"=O (O (.ref a)))(S:nsIn K c' "KINDS"=O (O (.ref a1)))(U:nsIn K c' "PLAIN_DEEDS"=O (O (.ref A)))(W:nsIn K c' "DEEDS"=O (O (.ref b)))(y4:nsIn K c' "OF_TWO"=O (O (.ref a4)))(b0:B8 w K a λx=>iU x r_)(b1:GZ w K a1 λx=>iU x Y6)(b2:sA w K m Q2 A (S_ b_))(b3:sA w K m Q2 b (S_ X7))(b4:sA w K m Q2 a4 (S_ ZE)):ÿ w K m a a1 A b a4:=((cg X G p,cg X G q,cg X G r,cg X G u,cg X G v,cg X G y,cg X G B,cg X G C,cg X G D,cg X G E,cg X G z,cg X G Z,cg X G c,cg X G d,cg X G e,Ť),((_,b6 X G M),(_,b6 X G m1),(_,b6 X G F),(_,b6 X G H),(_,b6 X G I),(_,b6 X G L),(_,b6 X G N),(_,b6 X G P),(_,b6 X G Q),(_,b6 X G R),Ť),(_,b6 X G ms),(b6 X G Y,b6 X G S,b6 X G U,b6 X G W,b6 X G y4,Ť),b0,b1,b2,b3,b4)
def walk{l:OpenLaw}{XP:c3->È->ß}{K:Params->Æ}(hn:l.most=O 63)(y:d.params.defaults=[])(H:∀(w:cc)(h:È),Y w h->(K w.params).In h)(F:∀(w:cc)(m:c3)(b:À)(h:È),(K w.params).In h->h.Ns c' m->m d.name=O (.ref b)->∃c:d4,(∀(s:be)(u:Â),BindsTo s c ([u],[]) [("_law_script",u)])/\∀base:È,(K w.params).In base->base.Ns c' m->il l.prog w (K w.params) m base BL 44 b c ["_law_script"] (GA (K w.params))):WalkO q L XP Y l.row.toRowW d [] λf vs=>PySem.call f vs:=L2.UZ (n:=63) (k:=44) (x:="_law_script") (CX:=λ_=>BL) (sp:=λw=>GA (K w.params)) hn ∅ y (Ŗ,∅,∅) H F (λ_ _ a N e _ S=>(a,N,Ŗ,S,λ_=>Ŗ)) λ_ _ _ _ _ z=>z
end W2
open PySem.W
namespace PySem.W.Fast
local macro_rules(kind:=Lean.Parser.Command.print)|s=>let l:=(s[1].isStrLit?.getD "").toList;return Lean.mkNullNode ((List.range (l.length/10)).map fun i=>Ö s ("0 0 0 0 0 0 0 7Command.declModifiers 'theorem `tw"++toString (((l.drop (10*i)).take 10).foldl (fun n x=>n*90+x.toNat-if x.toNat>92 then 37 else if x.toNat>64 then 36 else 35) 0)++" 0 2Command.declId 0 ': `True 2Term.typeSpec 2Command.declSig ':= `True.intro 0 0 2Termination.suffix 0 4Command.declValSimple 4Command.theorem 2Command.declaration")).toArray
#print"H70B6o/Y$_D?V;J2,z3uD%Pem.SXUeRD599(WWl77>jSbRSyE_0EdK)7GVzkF0W}`vRwRQ9Ax{U*1)M?;n0{V%vV1b#4L?sL)'o/9I|0j_GhO:M}63C~OJxX.<:''&l2T~HFDYyxMGR6OCQxWY<1B%(ICU>CbmHU$cj}u^jWA&R9eC~hiEJiDbY1zPx*S^QF_Yh&P]8X0'FAfB~?1E%[e|aS~X#>;twcbd?dThOY/p.{7DH)<}V>>M}oP?>ZyOu-0b}j$HY`FV^x(ZE9KgTl.Z]Q*>t|%+F[VlJ.ttP/$Zz:OK1OZZBv7c?X|2gp,ef=.X|&ZJp+i77_T||tU5l#'4+Tt_'bEI$/a~dDJ'wn)b6EL)VSBV$}eS1MK<Si-H|Vei:d8s+&5Mdg2%~{=_}gAo~awg8SMut2LBi/7-Bg]D#,KQN#^=X4LPL55pt`Jb)=>)4x[Z~/=Jcx'q,~jKtTQKARz'jWxL?oSI+M$IFvad2p,H7e2E#i$3<.AN~1c+Q.mjAX+|HFGXfO0$[XY(SM`(`sjc]OO>[=lG0W*i9nD,?Oi.m9J{'2vT'0CaL%qcc~]mld?0HhL2^qNa5jGyvse)e/+cz<3)<J:LNp<Lqdy)n%MhZBGC+b`XIv^ww51cMXOF*S-=G6RQG%,Zd7h0RE+vsd`*Y1X3H55//RxHe'$zl/?hdYsTN[$cMPbWXt$`.ZxRwd}I0b15/+`AkKA~`2i}U%Dw%j$Qg;I_+,QntVE%X_Lg8z,upl'?.|'ibOiXsqZ95Ek5pfcMof.ke-:Gf)>sCEudlZn[MXB2<p%}aL_(2kJOxXIl;,)0$isKL(c|+m8g3r-AiG,[6'34CS1'<PJ*KHqO~k0/:L%Wto/XMM;s[#?:e'&q+O^ZNfW;;J>ylL[Ck:%#,1#2ITM6Bh##%BL3SW/<Uzbt7Ngy,U{HV1(OYDI{+gS#m*Gm$pRE4aj/:=8fR`7y'fESCu2mKdN~<L)/wE~Xslv*,=>#prdD6f#ueD~KKC%oJcV+J*DR,|&3UP:QvRdoAnq`J-|OHwI/oXan~Z]P5i&?KZuURx6m/y6Qa&gm/?hWcy(/h6:{A.?mL2s(I5,}59y-UfE[;8ae5C]MJ1*-F$v[d9M_P)H9]Y%nJ)qiEh8?pf>cq]`J-:x4OEHPQy+zHI(i'jUaFL%'#ZUW}Fv9Su&-Hrz0vc#(7L%{'h>>7S18;~2>U3^ZJAI19JSohRPTUzz,*}4mR_#spAnODN'KT%4PVW|d($VdW14&ppSCI8g%1++,6#*4Jb{wH-5fq[GU^UXrDz+~<f>VoQ([*:`MM8$URl'X.OC$JU-EoMkW}ncg$pHcb2b(xJGnv`'bR4xFBG=%Ck~$]gJ7Tw}C'YjR?QlwQD1Q1|D;X&6S>)b-SBmVF2fDO#4_/$3q9hyy=1C4-,9RS>-b1J?2%<'RSDooj4$RDa%430sV~%$g(lJTrR72%mJ.M`t`*CXwRx4mhQqMWc6^0Bq:pFRwEQd:X+OuF.L1W&:<UZLJ$c'S|_nr-E&LwQS7q&q6?$B`7sgZb9&FUNzw.G[O6F[de`5y*IPSas'2/|lY4AVF|^uF[A=&mfWxC2&MA|#aBQa~Z.R2Ew=xa_^o-MMy$p'u'rMihk>,cmtnG7GE}qI+Na:^S[sJs3,d-e5V7f$]IZ)_rJ,y8uTwP3'6glY3?J7(w-;ST>-2El$[HxVc3o2f_Wf|}RnkD5h;9VpEz?3ln)RD#S6X2HKjulEsoRMEyI)eTBGC7o(Bf,XaBO;gVJ<zYa)M.i`UZ.V_[k?(_>s&/UPQR[J2F(R2*:<,AWH<Lu,4*i#GW5u7#Q&/eGSpcR:=2yf#?gJCTa#0]ppBNYG=1svNCWdPdAA1q1_oSn%}Dk+drXiv5r,vaZ-x8L^CF,bFo~Js,9B|xhb2x|z.3idhF}?8(.5I-&5MQ1QE3UH1&<As9(&f>7KR8Z=JA;jL)jQPp|;u12]ZU0hm(K+1St4Cs3Hz1huMf9P0Q7f=.~Cq$E(x%mD0}0-+GWYZ89vz2*PEs'|b`4V].tLE1X0}#yMz7Xa82.In)Tl1i=Gc`'4a^k[dHjF}IAmInTDU*D*Jz{?Te1z45zY'mWri2$;wf'Rf]A}->)Fafp$=tY-Av.57:0j`=/R0bx)k%{&m`<zZx$ip%=qm}Ykc$V()q.wg<c$h1K+XXm8F3>AXi>$?4/=r+0*3C}e8*x+VyV0'}tfC"
end PySem.W.Fast
end
set_option maxRecDepth 100000 in
set_option maxHeartbeats 0 in
theorem PySem.Challenge.cw_retrace_k24_whole_by_turns_holds : PySem.Challenge.rw_retrace_k24_whole_by_turns.Holds := by
 w_on;o_law;k_head;(case hw=>w_witness2);k_fill;refine W2.walk (l:=PySem.Challenge.rw_retrace_k24_whole_by_turns) rfl rfl (λw h Y=>PySem.W.kIn_of Y) ?F;case F=>intro w mg fa h KX G O0;refine' W2.Y7 KX G O0 ?T ?V1 ?V2 ?V3 ?V4 ?mC ?eC ?nF ?eF ?M1 ?M2 ?M3 ?M4 ⟨?S0,?S1,?S2,?S3,?S4,?S5,?S6,?S7,?S8,?S9,?S10,?S11,?S12,?S13,?S14,?S15,?S16,?S17,?S18,?S19,?S20,?S21,?S22,?S23,?S24,?S25,?S26,?S27,?S28,?S29,?S30,?S31,?S32,?S33,?S34,?S35,?S36,?S37,?S38,?S39,?S40,?S41,?S42,?S43,?S44,?S45,?S46,?S47,?S48,?S49,?S50,?S51,?S52,?S53,?S54,?S55,?S56,?S57,?S58,?S59,?S60,?S61,?S62,?S63,?S64,?S65⟩ ?a ?A;(case a|mC|nF=>k_is);(case A=>(refine' W2.Al (by decide) (λ_ _ _ _ _ _ _ _ _ _ _=>rfl) ?l ?c ?k;(case l|c|k=>k_is)));(case V1|V2|V3|V4=>refine' W2.Xs KX G ?m ?pg ?hd ?po ?sa ?na;(case m|pg|hd|po|sa=>k_is);(case na=>(repeat(refine' W2.nac ?q1 ?_;(case q1=>k_is)));exact trivial));(case eC=>k_exc);(case M1|M2|M3=>refine' W2.Uh ?a ?i ?mk ?kc ?A;(case a|i|mk|kc=>k_is);(case A=>(refine' W2.Al (by decide) (λ_ _ _ _ _ _ _ _ _ _ _=>rfl) ?l ?c ?k;(case l|c|k=>k_is))));(case M4=>refine' W2.Ui ?a ?i ?mk ?kc ?A;(case a|i|mk|kc=>k_is);(case A=>(refine' W2.W9 (by decide) (λ_ _ _=>⟨_,rfl,rfl⟩) (λ_ _=>⟨_,rfl,rfl⟩) ?lT ?l ?c ?k;(case l|lT|c|k=>k_is))));(case S0|S1|S2|S3|S4|S5|S6|S7|S8|S9|S10|S11|S12|S13|S14|S15|S16|S17|S18|S19|S20|S21|S22|S23|S24|S25|S26|S27|S28|S29|S30|S31|S32|S33|S34|S35|S36|S37|S38|S39|S40|S41|S42|S43|S44|S45|S46|S47|S48=>refine' W2.F_ KX G ?a ?A;(case a=>k_is);(case A=>(refine' W2.Al (by decide) (λ_ _ _ _ _ _ _ _ _ _ _=>rfl) ?l ?c ?k;(case l|c|k=>k_is))));(case S49|S50|S51|S52|S53|S54|S55|S56|S57|S58|S59|S60|S61|S62|S63|S64|S65=>refine' W2.Uj ?a ?i ?k ?A;(case a|i|k=>k_is);(case A=>(refine' W2.Al (by decide) (λ_ _ _ _ _ _ _ _ _ _ _=>rfl) ?l ?c ?k;(case l|c|k=>k_is))));(case T=>refine' W2.Z_ KX G ?z0 ?z1 ?z2 ?z3 ?z4 ?z5 ?z6 ?z7 ?z8 ?z9 ?z10 ?z11 ?z12 ?z13 ?z14 ?m0 ?m1 ?m2 ?m3 ?m4 ?m5 ?m6 ?m7 ?m8 ?m9 ?ms ?y0 ?y1 ?y2 ?y3 ?y4 ?b0 ?b1 ?b2 ?b3 ?b4;(case z0|z1|z2|z3|z4|z5|z6|z7|z8|z9|z10|z11|z12|z13|z14|m0|m1|m2|m3|m4|m5|m6|m7|m8|m9|ms|y0|y1|y2|y3|y4=>k_is);(case b0=>(refine' W2.Uy ?tla ?to ?tq;(case tla=>k_is);(case to=>decide);(case tq=>(repeat(refine' W2.rgc ?ke ?kv ?_;(case ke=>rfl);(case kv=>(refine' W2.aeB ?kl ?kc ?kd ?kz ?kw;(case kl=>k_is);(case kc|kd=>rfl);(case kz=>decide);(case kw=>repeat(first|exact .nil|refine .cons ⟨_,rfl⟩ ?_))))));exact trivial)));(case b1=>(refine' W2.Uz ?tla ?to ?tq;(case tla=>k_is);(case to=>decide);(case tq=>(repeat(refine' W2.rgc ?ke ?kv ?_;(case ke=>rfl);(case kv=>exact⟨_,_,rfl,rfl⟩)));exact trivial)));(case b2|b3|b4=>(refine' W2.Ux ?tla ?to ?tq;(case tla=>k_is);(case to=>decide);(case tq=>(repeat(refine' W2.rgc ?ke ?kv ?_;(case ke=>rfl);(case kv=>refine' W2.aeA KX G ?ka;(case ka=>k_is))));exact trivial))));(case eF=>refine' W2.Yf ?l ?lN ?ke ?n1 ?n2 ?n3 ?n4 ?n5 ?h1 ?h2 ?h3 ?h4 ?lf ?cf ?A;(case l|lN|n1|n2|n3|n4|n5|h1|h2|h3|h4|lf=>k_is);(case cf|ke=>rfl);(case A=>(refine' W2.Al (by decide) (λ_ _ _ _ _ _ _ _ _ _ _=>rfl) ?l ?c ?k;(case l|c|k=>k_is))))
