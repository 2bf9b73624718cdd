import PyProof.Rows.All
import Wide.All
import OpenK.AllK
import Wide.FinOn
import Lean
import PyProof.EqAt
import PyProof.EqKinds
import PyProof.TupleCall
import PySem.Challenge.RW_retrace_k25_whole_reckoned
set_option genSizeOf false
set_option compiler.extract_closed false
set_option bootstrap.genMatcherCode false
set_option Elab.async false
set_option linter.all false
set_option autoImplicit true
set_option maxHeartbeats 4000000
set_option maxRecDepth 100000
open PySem renaming Shared→am,wpAny→bv,mainGlobals→c3,Program→ci,model→b',World→ce,Around→cp,bootBuiltins→dN,starEach→c7,FuncData→c',rawInt→c5,attributeBase→ft,foldedSetIterable→hB,sysModules→e9,behindInMarks→gn,assignEach→f6,SetTable→eT,pyNext→d4,DictEntry→gc,codeAny→eq,keywordEach→hA,backTo→em,noteFrame→ge,swapsWith→g7,Keyword→fm,IsPair→ff,swappedStores→jp,typeLookup→hG,getattributeRaised→wE,excClassObj→hY
open PySem renaming wpAny_bind→aa,wpAny_pure→ah,wpAny_field→bg,wpAny_callSpecial?_slot→bC,wpAny_newObj_type→bE,wpAny_holding→bJ,wpAny_call_entry→bK,wpAny_seqItems→cD,wpAny_setField→cE,codeAny_builtin→cJ,wpAny_mono→cX,wpAny_setField_rec→dm,plainId_quiet→d8,codeAny_mono→eg,wpAny_loadPart_at→eh,wpAny_attempt→eJ,wpAny_ite_split→eS,wpAny_Call_Name_kw→fB,wpAny_setState_of→fP,wpAny_truthy_bool→fQ,wpAny_typeOf→fR,wpAny_rule→f7,wpAny_setEntries_of→gj,wpAny_isInstance→gr,wpAny_typeNameOfWhole_keyiter→gE,call_meets→gI,wpAny_pyIter_tuple→gK,wpAny_execs_nil→gT,wpAny_passesOwn→gU,wpAny_standAt→gY,wpAny_typeLookup_exc→iz,wpAny_updateSeq_pair→iA,mem_of_lookup→iV,tupleKind_room_in1→jl,sizeLine_eq→jx,isSubtype_stop→jU,wpAny_fieldsOf→jW,wpAny_pyIter_list→jX,strKind_is→kP,wpAny_askSetting→kQ,wpAny_onRaise→lJ,wpAny_newFunctionEnv_cells→n6,wpAny_newTuple→n8,wpAny_of_eq→pF,wpAny_pyIter_slot→pG,wpAny_throw→pH,wpAny_handled→pQ,wpAny_typeNameOf_keyiter→pR,entryFor_of_tree→qV,wpAny_execs_cons→qW,call_meetsIn→sG,wpAny_Call_method_late→sH,wpAny_call→sI,codeAny_call_function→ur,wpAny_notOrdered_dict→uu,codeAny_call_builtin→vX,wpAny_letGo→vZ,wpAny_runValue→v8,typeIs_int→Ap,wpAny_load→Aq,fits_of_scanBound→B5,wpAny_dictEntries→B9,wpAny_sequenceKey→Ca,plainObj_wpAny_Assign_Attribute→EZ,noFill_tuple_add→He,wpAny_getItem_of→Hf,wpAny_dictEpoch→Kl,wpAny_specialOf→Km,entryFor_alias→Qj,wpAny_binaryOp_repeat_ref→Wi,seq_tuple_add→XM,wpAny_newList→XO,codeAny_func→Dp,concat_meets→AT,meets_dict_get_default→RX,seqIndex_neg→FM,wpAny_nextOf_list_item→O',builtinLookup_eq_fast→ņ,wpAny_isOneOf_keyiter→WK,wpAny_isTrue_Compare1→F5,seqIndex_of→C0,wpAny_loadName_local→X',wpAny_pyIter_keyiter→G3,wpAny_pyIter_revIter→Ğ,wpAny_Tuple_spliced→Ĺ,wpAny_dictSet_pairs→YP,wpAny_isSubtype_exc→L5,wpAny_loadName_cell→Ņ
open PySem.Heap renaming get?_push_of_some→ae,get?_push_size→ar,lt_size→ax,get?_update_self→bF,get?_update_other→bI,size_push→dI,get?_push_ne→pB,size_update→qP,get?_update_ne→x3,get?_none_of_le→Ħ
open List renaming length_map→af,length_append→ai,getElem?_eq_getElem→av,getElem?_eq_some_iff→aw,mem_cons→aB,mem_singleton→aG,mem_cons_of_mem→aH,getElem?_append_right→aI,length_cons→aJ,append_nil→aK,mem_cons_self→aL,size_toArray→aM,map_append→aN,mem_of_getElem?→aP,getElem?_map→aR,all_eq_true→aS,map_map→aV,getElem?_append_left→bt,mem_append_right→bG,append_assoc→bL,length_singleton→bM,all_cons→bZ,map_cons→cq,mem_map→cB,length_replicate→cF,getElem?_set_ne→cK,nodup_cons→cR,getElem?_set_self→dy,nodup_append→dF,length_set→dJ,length_take→dY,not_mem_nil→dZ,length_reverse→el,getElem?_eq_none→er,getElem?_toArray→et,length_range→eN,forIn_cons→eQ,mem_append→eR,filterMap_cons→eW,getD_eq_getElem?_getD→fz,getElem?_replicate→gm,mem_append_left→il,mem_of_mem_take→iq,mem_range→ir,getElem_inj→iG,lookup_cons→iH,getElem?_take_of_lt→iX,find?_cons→ji,drop_zero→jL,getElem_cons_drop→jM,nodup_nil→jN,take_of_length_le→jO,getElem_mem→kL,take_length→kM,eq_nil_of_length_eq_zero→lM,getElem?_of_mem→lO,of_mem_zip→my,map_congr_left→mH,forIn_nil→nX,mem_filterMap→nY,take_left→nZ,drop_eq_getElem_cons→oU,reverse_cons→pC,any_cons→pM,length_eq_zero_iff→qS,getElem?_reverse→um,mem_iff_getElem→vW,replicate_succ→x4,getElem_range→Ah,any_eq_false→B1,any_eq_true→G5,length_drop→G6,map_reverse→G7,zipIdx_cons→G8,zipIdx_nil→Kj,getElem?_cons_succ→ĺ,drop_eq_nil_of_le→Ĭ,concat_eq_append→ŏ,eq_nil_or_concat→ώ,take_append_drop→OC,dropLast_concat→T1,length_eraseIdx→ϊ,reverse_append→Ŵ
open Nat renaming le_of_ble_eq_true→aj,le_refl→aq,le_trans→aA,ne_of_lt→aF,le_add_left→aQ,eq_of_beq_eq_true→aT,le_succ_of_le→aU,lt_of_lt_of_le→aY,ble_eq_true_of_le→aZ,le_add_right→bp,lt_irrefl→bU,zero_le→cw,zero_add→cP,lt_of_succ_le→da,ne_of_gt→dA,le_succ→dG,lt_of_le_of_lt→dQ,not_lt→dR,add_assoc→d7,le_of_eq→eI,lt_succ_of_lt→eO,sub_self→eZ,lt_succ_of_le→fO,lt_succ_self→gq,le_of_lt→gH,ble_eq→jj,add_sub_cancel_left→jv,beq_refl→jP,lt_of_succ_lt_succ→jQ,gcd_comm→mM,gcd_zero_right→n0,add_right_comm→Ai,mod_lt→Aj,mod_eq_of_lt→G9,gcd_rec→Fk
open Bool renaming false_ne_true→aD,and_eq_true→aE,eq_false_iff→bq,false_eq_true→dP,beq_eq_decide_eq→kG,or_eq_true→mr,false_bne→nU,true_bne→pL,eq_iff_iff→tD,and_false→vU,or_true→B0
open PySem.W renaming mg_of→aX,mg_none_of→bQ,kia_one→dq,callWith_K→fA,nsMap_none_of_in→fZ,mapOf_K→gR,cellsFrom_some→jT,plainGet_of→x6,codeRec_of→Ak,isNs_of_in→Al,methodCall_KW→ļ,looks_subIn→Pa
open PySem.Obj renaming data_mapFields→bP,isFreed_of_fields→cO,cls_mapFields→jR
open Array renaming length_toList→bS,getElem?_toList→cM,getElem?_eq_getElem→cY,getElem?_eq_some_iff→d9,getElem?_eq_none→eY,getD_eq_getD_getElem?→mJ,find?_toList→Ag,size_eq_one_iff→agl,mem_toList_iff→ZB
open PyProof.Rows renaming slot_tuple_getitem→bY,callWith_type1→dc,gl_int→gJ,size_push'→jk,subscriptTail_builtinR→jV,slicePart_none→vY,take_snoc→wX,entry_tuple_getitem→x9,args_tuple_getitem→An,assignInOrder_cons→Ao,listItems_at→B6,strs_map→B7,vals1→B8,foldl_rep→Hc,Subscript_→Qi,Constant_none→XI,listUpdate_at→XJ,tupleItemsOf_→XN,entry_proto_collect'→ZH,seqEpoch_at→C3
open PySem.Heap.SameBut renaming update→cj
open Ne renaming symm→cI
open Option renaming map_eq_some_iff→cZ,isSome_iff_exists→fY,isSome_map→B4
open PySem.Calls renaming spliced_cons→dh,evalArgs_plain→eM,spliced_nil→fN,callWith_builtin→gG,Name_function_global→Qh,call_function_entry→Wf
open Int renaming toNat_natCast→dE,ofNat_eq_natCast→lL,emod_lt_of_pos→nW,emod_nonneg→tH,toNat_of_nonneg→Ŷ
open Option.some renaming inj→dM
open PySem.F renaming slot_dict_keyiterator_next→dU,slot_tuple_iterator_next→ef,slot_dict_get→eA,slot_tuple_mul→iF,plainAttrs_dict→jw,entry_dict_get→jS,slot_zip_next→kH,slot_zip_getattribute→lP,args_tuple_iterator_next_1→mw,entry_tuple_iterator_next→mK,args_tuple_mul_2→nV,slot_dict_getitem→oV,entry_tuple_mul→pA,args_tuple_add_2→pN,args_dict_get_3→qT,entry_tuple_add→qU,slot_tuple_add→sD,slot_int_rmul→tE,slot_set_iter→tF,slot_zip_next→tG,type_dict_get→uq,args_dict_keyiterator_next_1→x5,entry_dict_keyiterator_next→Ae,slot_dict_setdefault→Kk,excBase_Exception→Wg,plain_extend_loop→Wh,args_zip_next_1→R0,plainAttrs_list→ő,plain_list_iadd→Ix,slot_list_index→F6,entry_zip_next→ų,slot_dict_iter→WN,kt_typeCall_dict_1→ZF
open PySem.Around renaming under_plainId→dX
open PySem.PassesOwn renaming leaving→pD,never→tI
open PyProof.Rows.F renaming plain_set_update_loop→qO,entry_set_update_loop→ź
open PyProof.Rows.IsTup renaming new→qQ
open List.Perm renaming eq_nil→qR,refl→vV
open LawfulBEq renaming eq_of_beq→wW
open PySem.Value renaming isStrOf_shape→x8
open PySem.Paired renaming length→Ad
open Nat.succ renaming inj→B2
open PySem.Heap.DictOf renaming new→Ki
open Fin renaming ext→PR
nonrec def Ø(s:Lean.Syntax)(p:String):Lean.Syntax:=((p.splitOn " ").foldl (fun t w=>let r:=(w.drop 1).toString
 match w.front with
 |'\''=>.atom .none r::t
 |'`'=>Lean.mkIdent r.toName::t
 |'@'=>r.toList.foldl (fun s c=>s[c.toNat-48]) s::t
 |'/'=>.node .none (Lean.Name.mkStr4 "Lean" "Parser" "Tactic" "tacticSeq") #[.node .none (Lean.Name.mkStr4 "Lean" "Parser" "Tactic" "tacticSeq1Indented") #[.node .none (.mkSimple "null") #[t.headD s]]]::t.drop 1
 |c=>let n:=c.toNat-48
  .node .none (if r==""then .mkSimple "null"else if r.front=='T'||r.front=='C'then ("Lean.Parser."++r).toName else r.toName) (t.take n).reverse.toArray::t.drop n) []).headD s
def o0:Lean.Syntax:=Ø .missing "'rfl 1Tactic.tacticRfl /"
def x0:Lean.Syntax:=Ø .missing "'decide 0 1Tactic.optConfig 2Tactic.decide /"
def W1:Lean.Syntax:=Ø .missing "'first '| 'exact '. `inl 2Term.dotIdent `rfl 1 2Term.app 2Tactic.exact / 2group '| 'exact '. `inr 2Term.dotIdent `rfl 1 2Term.app 2Tactic.exact / 2group '| 'assumption 1Tactic.assumption / 2group 3 2Tactic.first /"
def kT:Lean.Syntax:=Ø .missing "'decide '+ `kernel 2Tactic.posConfigItem 1Tactic.configItem 1 1Tactic.optConfig 2Tactic.decide /"
def hH:Lean.Syntax:=Ø .missing "'intro '_ 1Term.hole 1 2Tactic.intro '; 'rfl 1Tactic.tacticRfl 3 1Tactic.tacticSeq1Indented 1Tactic.tacticSeq"
open Option renaming some→O,none→ao
open Bool renaming true→J,false→bb
open List renaming length→Á,replicate→Ð,range→Ù,foldl→ô
open Nat renaming ble→Ë,beq→Ì,blt→Ñ,gcd→ë
open PySem.Value renaming ref→Ò,none→Ô,isStrOf→ã,type→â,builtin→í,str→ć
open PySem renaming strKind→Ü,Const→Ĵ,stored→Ĉ,Within→Ĕ
open PySem.Builtin.Slice renaming slicePlaces→ï,sliceAdjust→Ą,sliceApplied→ŵ
open PySem.Heap renaming SameBut→Ý,IsTupleIter→ð,ExtBut→è
open PySem.Obj renaming mapFields→ä,mapSeq→î,putSet→č
open PySem.NameKind renaming free→ç
open PySem.Data renaming noConfusion→õ
open True renaming intro→å
open ForInStep renaming yield→ü
open PySem.Str renaming ofString→ì
open False renaming elim→é
open PySem.Builtin.Tuple renaming tupleItemsOf→Ē,tupleExact→ē
open PySem.SetTable renaming grown→û,below→Ā
open Option renaming map→ê
open Sum renaming inr→à
open PySem.Builtin.List renaming listItems→Ě,listExtendWith→İ,listSameRef→ũ
open Prod renaming mk→á
open Bool renaming noConfusion→ą
open PySem.Builtin.Dict renaming addKeywords→Ŏ,updateFrom→Ļ,pairItems→ş,showsAll→ū
open PySem PySem.Spec PyProof.Rows
open PySem renaming Addr→À,Value→Â,sizeLine→Ã,Expr→Ä,Str→Æ,Heap→Ç,Stmt→É,eval→Ê,Scope→Í,cLine→Ï,Pos→Ó,Obj→Ú,Env→Û
open PySem.W renaming Frag→Å
noncomputable section
def Ľ:Lean.Syntax:=Ø .missing "'exact 'fun '_ 1Term.hole '_ 1Term.hole 2 0 '=> `rfl 4Term.basicFun 2Term.fun 2Tactic.exact /"
def ō:Lean.Syntax:=Ø .missing "'exact `Or.inl `rfl 1 2Term.app 2Tactic.exact /"
def ñ:Lean.Syntax:=Ø .missing "'exact `i_ '_ 1Term.hole 1 2Term.app 2Tactic.exact /"
def Ķ6:Lean.Syntax:=Ø .missing "'exact `nfC '_ 1Term.hole 1 2Term.app 2Tactic.exact /"
nonrec def Ķ1(D L K T:List (String×String))(s:Lean.Syntax):Lean.Syntax:=match s with
 |.atom _ v=>.atom .none v
 |.ident _ r v p=>
  let o:=.ident .none r v p
  match v with
  |.str .anonymous x=>match D.lookup x with
   |.some y=>if y=="Prop"then Ø s "'Prop 1Term.prop"else Lean.mkIdent y.toName
   |_=>match L.lookup x with
    |.some y=>Ø s ("`List `"++y++" 1 2Term.app")
    |_=>o
  |_=>o
 |.node _ k a=>
  let s:Lean.Syntax:=.node .none k a
  match k with
  |.str _ x=>match T.lookup x with
   |.some y=>Ø s y
   |_=>
   if x=="tuple"&&!s[0].isAtom then if s[1].getNumArgs==0 then Ø s "'by 'lia 0 1Tactic.optConfig 2Tactic.lia / 2Term.byTactic"else Ø (Lean.mkNullNode (#[s[1][0],.atom .none ","]++s[1][2].getArgs)) "'⟨ @ '⟩ 3Term.anonymousCtor"
   else if x=="delta"&&s[1].getNumArgs<3 then Ø s "'unfold @1 @2 3Tactic.unfold"
   else if x=="ext"then if s[1].getNumArgs==0 then Ø s "'decide '+ `kernel 2Tactic.posConfigItem 1Tactic.configItem 1 1Tactic.optConfig 2Tactic.decide"else Ø (Lean.mkNullNode (s[1].getArgs.map fun p=>Ø p (if p[0][0].isIdent then "@00 1Lean.binderIdent"else "'_ 1Term.hole 1Lean.binderIdent"))) "'rename_i @ 2Tactic.renameI"
   else if x=="inductionAltLHS"then match K.lookup s[1][1].getId.toString with
    |.some y=>s.setArg 1 (s[1].setArg 1 (Lean.mkIdent (.mkSimple y)))
    |_=>s
   else if x=="tacticLet__"then
    let q:=s[2][0]
    if q[0][1].getNumArgs>0&&q[0].getNumArgs==3 then Ø (Lean.mkNullNode #[Lean.mkNullNode (q[0][1].getArgs.map fun y=>if y.isAtom then y else Ø y ((if y.isIdent then "@ 1Tactic.rcasesPat.one"else "'_ 1Tactic.rcasesPat.ignore")++" 1 1Tactic.rcasesPatMed 0 2Tactic.rcasesPatLo")),q[4]]) "'obtain '⟨ @0 '⟩ 3Tactic.rcasesPat.tuple 1 1Tactic.rcasesPatMed 1 0 ':= @1 1 2 4Tactic.obtain"
    else if q[2][0][1].getId==.mkSimple "Tx"then s else Ø s "'have @1 @2 3Tactic.tacticHave__"
   else s
  |_=>s
 |s=>s
nonrec def Ķ(s:Lean.Syntax):Lean.Syntax:=
 let z(a b c:String):=(a.splitOn " ").zip (b.splitOn c)
 let D:=z "Ł Ő Ń Î Þ ß ŧ æ ø Ŗ Ť Ă Đ" "List Option Nat Int Bool Prop False True autoParam rfl trivial absurd decide" " "
 let L:=z "ϑ ϐ Ϙ ϕ" "Pv Str Nat V" " "
 let K:=z "a c d e f g h j" "none some true false nil cons zero succ" " "
 let T:=z "tacticRwa__ tacticErw___ done left omission term∅ nofun term_<|>_ char" "'exact @1101 2Tactic.exact;'refine @2101 2Tactic.refine;'trivial 1Tactic.tacticTrivial;'simp_all 0 1Tactic.optConfig 0 0 0 5Tactic.simpAll;'by 'simp 0 1Tactic.optConfig 0 0 0 0 6Tactic.simp / 2Term.byTactic;'by 'decide '+ `kernel 2Tactic.posConfigItem 1Tactic.configItem 1 1Tactic.optConfig 2Tactic.decide / 2Term.byTactic;'by 'simp_all 0 1Tactic.optConfig 0 0 0 5Tactic.simpAll / 2Term.byTactic;'. `seq 2Term.dotIdent @0 @2 2 2Term.app;`yx `t `X 2 2Term.app" ";"
 s.rewriteBottomUp (Ķ1 D L K T)
local macro_rules(kind:=Lean.Parser.Command.declaration)|s=>do
 if s.getPos?.isNone then Lean.Macro.throwUnsupported
 let s:=Ķ s
 return if s[1].getKind==`Lean.Parser.Command.structure then Ø s "'set_option `genInjectivity 0 'false 4Command.set_option 'in @ 3Command.in"else if s[0][4].getNumArgs+s[0][6].getNumArgs==0&&(s[1].getKind==`Lean.Parser.Command.definition||s[1].getKind==`Lean.Parser.Command.abbrev)then s.setArg 0 (s[0].setArg 4 (Ø s "'noncomputable 1Command.noncomputable 1"))else s
local macro_rules(kind:=Lean.Parser.Command.mutual)|s=>if s.getPos?.isNone then Lean.Macro.throwUnsupported else return Ķ s
local macro_rules(kind:=Lean.Parser.Command.variable)|s=>if s.getPos?.isNone then Lean.Macro.throwUnsupported else return Ķ s
abbrev c9:=PySem.Value->PySem.Shared->ß
open PySem.Builtin.SmallTypes renaming nextOf→q0',ownedTupleHandOut→q1',ownedTupleIsFree→q2'
abbrev c6:=Ł (PySem.Addr×PySem.Obj)
abbrev c4:=PySem.Str->Ő PySem.Value
section
def bB:=@of_decide_eq_true
def bN:=@if_neg
def bV:=@if_pos
def cb:=@congrArg
def cn:=@decide_eq_false
def cA:=@decide_eq_true
def cG:=@beq_eq_false_iff_ne
def gS:=@if_false
def g8:=@decide_eq_true_eq
def iJ:=@beq_self_eq_true
def mO:=@if_true
def sE:=@beq_iff_eq
end
open PySem.W(instObj Frag lookIn plainGet hasDictIn findIn handedIn isFn plainOver takerIn Looks makesIn typeIn emptyDict keepIn mroIn kitOne fnOf codeIn OpenLaw WalkO KeysLit excIn nsOkIn clsIn subIn nsIn KdlSrc kIn_of)
namespace L2
abbrev cs:=Sum Î Æ
def xx:cs->Â->Þ|.inl k,v=>Value.isInt k v|.inr x,v=>ã x v
def ajX(w:ce):cs->Î|.inl k=>hashInt k|.inr x=>hashStr w x
def eU:∀{k:cs}{v:Â},xx k v=J->(∃i t,k=Sum.inl i/\v=Value.int i t)\/∃x t,k=à x/\v=ć x t|.inl i,v,h=>by let(t,e):=Value.isInt_shape h;rwa[.inl (i,t,Ŗ,e)]|.inr x,v,h=>by let(t,e):=x8 h;rwa[.inr (x,t,Ŗ,e)]
def Iq(i:Î)(t:Tok):xx (.inl i) (.int i t)=true:=by simp[xx,Value.isInt]
def Ir(x:Æ)(t:Tok):xx (.inr x) (.str x t)=true:=by simp[xx,ã]
def Z6(a b:Î):Đ ((Sum.inl a:cs)=Sum.inl b)=(a==b):=by
 by_cases e:a=b;.subst e;simp
 .left
def Z7(a b:Æ):Đ ((à a:cs)=à b)=Đ (a=b):=⋯
def dO(prog:ci)(w:ce):PySem.KeyKind prog w cs where
 is:=xx;hash:=ajX w;inj:=λv a b d c=>by
  rcases eU d with ⟨i,t,rfl,rfl⟩|⟨x,t,rfl,rfl⟩
  .rcases eU c with ⟨j,u,rfl,e⟩|⟨y,u,rfl,e⟩;.injection e with E _;rw[E]
   .rwa[nomatch e]
  .rcases eU c with ⟨j,u,rfl,e⟩|⟨y,u,rfl,e⟩;.rwa[nomatch e]
   .injection e with E _;rw[E]
 byValue:=λk v h=>by rcases eU h with ⟨i,t,rfl,rfl⟩|⟨x,t,rfl,rfl⟩<;>rfl
 pyHash:=λH h=>by
  rcases eU H with ⟨i,t,rfl,rfl⟩|⟨x,t,rfl,rfl⟩;.rwa[wpAny_pyHash_int h]
  .rwa[wpAny_pyHash_str h]
 eqBool:=λhu H h=>by
  rcases eU hu with ⟨i,t,rfl,rfl⟩|⟨x,t,rfl,rfl⟩
  .rcases eU H with ⟨j,u,rfl,rfl⟩|⟨y,u,rfl,rfl⟩;.rw[Z6]at h;rwa[wpAny_eqBool_int h]
   .rwa[SeqAt.EqAt.int_str i t y u _ _ _ _ h]
  .rcases eU H with ⟨j,u,rfl,rfl⟩|⟨y,u,rfl,rfl⟩;.rwa[SeqAt.EqAt.str_int x t j u _ _ _ _ h]
   .rw[Z7]at h;rwa[wpAny_eqBool_str h]
 «strs»:=λk x t v h=>by
  rcases eU h with ⟨i,u,rfl,e⟩|⟨y,u,rfl,e⟩;.lia
  .injection e with E _;subst E;cases v<;>rfl
def sv(prog:ci)(w:ce)(i:Î)(t:Tok):(dO prog w).is (.inl i) (.int i t)=true:=Iq i t
def nA(prog:ci)(w:ce)(x:Æ)(t:Tok):(dO prog w).is (.inr x) (.str x t)=true:=Ir x t
inductive V where|g9|B(b:Þ)|I(i:Î)|S(x:Æ)|byt(b:Array UInt8)|RE(b:UInt64)|A(a:À)|ty(n:String)deriving DecidableEq
def RelV:V->Â->ß|.g9,u=>u=Ô|.B b,u=>u=Value.bool b|.I i,u=>∃t,u=Value.int i t|.S x,u=>∃t,u=ć x t|.byt b,u=>∃t,u=Value.bytes b t|.RE b,u=>∃t,u=Value.float b t|.A a,u=>u=Ò a|.ty n,u=>u=â n
abbrev Vals:ϕ->Ł Â->ß:=Paired RelV
theorem Vals.length(r:Vals xs us):Á xs=Á us:=Ad r
theorem Vals.get:∀{xs:ϕ}{us:Ł _}{i:Ń}{x:V},Vals xs us->xs[i]?=O x->∃u,us[i]?=O u/\RelV x u|_,_,_,_,.nil,e=>by grind|_,_,0,_,.cons r _,e=>by grind|_,_,i+1,x,.cons _ t,e=>by let(u,H,h):=Vals.get t (by done);exact(u,by done,h)
theorem Vals.set(r:RelV x u):∀{xs:ϕ}{us:Ł _}(i:Ń),Vals xs us->Vals (xs.set i x) (us.set i u)|_,_,_,.nil=>.nil|_,_,0,.cons _ t=>.cons r t|_,_,i+1,.cons q t=>.cons q (Vals.set r i t)
def Vals.append:∀{xs ys:ϕ}{us ws:Ł _},Vals xs us->Vals ys ws->Vals (xs++ys) (us++ws):=by intro xs ys us ws a b;induction a with|f=>rwa[b]|g r t i=>rwa[.cons r i]
theorem Vals.take:∀{xs:ϕ}{us:Ł _}(n:Ń),Vals xs us->Vals (xs.take n) (us.take n)|_,_,0,_=>.nil|_,_,_+1,.nil=>.nil|_,_,n+1,.cons r t=>.cons r (Vals.take n t)
theorem Vals.drop:∀{xs:ϕ}{us:Ł _}(n:Ń),Vals xs us->Vals (xs.drop n) (us.drop n)|_,_,0,r=>r|_,_,_+1,.nil=>.nil|_,_,n+1,.cons _ t=>Vals.drop n t
def mz:Ő V->Ő Â->ß|O v,O u=>RelV v u|ao,ao=>æ|_,_=>ŧ
def KV{κ:Type}:Ł (κ×V)->Ł (κ×Â)->ß:=Paired λp q=>p.1=q.1/\RelV p.2 q.2
def kV:cs->V|.inl i=>.I i|.inr x=>.S x
inductive HO where|L(xs:ϕ)|T(xs:ϕ)|dK(aO:Ł (cs×V))|dT(aO:Ł (Ł cs×V))|set(S:Î->Þ)(n:Ń)|ins(C dx:À)(fs:Ł (Æ×V))|own(x:À)|xd(fs:Ł (Æ×V))|met(f x:À)|rng(lo hi:Î)|mE(o:Ú)(u:HO)|Vz(ps:Array Â)|ext(φ:Ç->ß)
abbrev Hp:=À->Ő HO
def de(H:Hp)(a:À)(o:HO):Hp:=λb=>if b=a then O o else H b
def bA:de H a o a=O o:=by delta de;rw[bV Ŗ]
def bw(h:b≠a):de H a o b=H b:=by delta de;rw[bN h]
def ad8{H:Hp}(h:H a=O o)(h':H b=O u)(d:o≠u):a≠b:=by intro e;subst e;rw[h]at h';rwa[d (dM h')]
def b7{H:Hp}(h:H a=O o)(h':H b=ao):a≠b:=()
section
variable(P:ci)(w:ce)
def fK(H:Hp)(h:Ç)(a:À):HO->ß|.L X=>Á X<=Ã/\∃(i:Ł _)(n:Ń),Vals X i/\h.get? a=O {cls:=.type "list",data:=.seq i.toArray n}|.T X=>Á X<=Ã/\∃i:Ł _,Vals X i/\IsTup h a i.toArray|.dK A=>Á A<=Ã/\(a==e9)=bb/\∃s,KV A s/\h.DictOf (dO P w) a s|.dT A=>Á A<=Ã/\(a==e9)=bb/\∃X:Ł _,Paired (λp q=>p.1=q.1/\H q.2.1=O (.T (p.1.map kV))/\RelV p.2 q.2.2) A X/\∃o e E,h.get? a=O o/\o.ExactDict/\o.data=.dict e E/\e.toList=X.map (entryOfKey (tupleKind (dO P w)))/\(X.map (·.1)).Nodup|.set S n=>h.SetOf (intKind P w) a S n|.ins C d fs=>H d=O (.own a)/\Á fs<=1000/\d≠a/\h.get? a=O (instObj C d)/\∃m,h.Ns1 d m/\(∀f,mz (fs.lookup f) (m f))/\Ĕ m (fs.map (·.1))|.own _=>∃o,h.get? a=O o|.xd fs=>∃m,h.Ns1 a m/\∀f,mz (fs.lookup f) (m f)|.rng lo g=>∃t u v,h.get? a=O {cls:=.type "range",data:=.fields #[.int lo t,.int g u,.int 1 v]}|.mE o u=>h.get? a=O o/\fK H h a u|.Vz ps=>h.get? a=O {cls:=.none,data:=.fields ps}|.met f x=>h.get? a=O (PySem.W.methodObj (.ref f) (.ref x))|.ext φ=>φ h/\(∃o,h.get? a=O o)/\∀b c:Ç,φ b->(∀o,b.get? a=O o->c.get? a=O o)->φ c
def jY(H:Hp)(h:Ç):ß:=∀a o,H a=O o->fK P w H h a o
end
theorem fK.lt(x:fK P w H h a o):a<h.objs.size:=by cases o with|L X=>let(_,_,_,_,e):=x;rwa[ax e]|T X=>let(_,_,_,p):=x;rwa[p.lt]|dK A=>let(_,_,_,_,o,_,_,e,_):=x;rwa[ax e]|dT A=>let(_,_,_,_,o,_,_,e,_):=x;rwa[ax e]|set S n=>let(o,_,_,_,e,_):=x;rwa[ax e]|ins C d fs=>let(_,_,_,e,_):=x;rwa[ax e]|own y=>let(_,e):=x;rwa[ax e]|xd fs=>obtain⟨_,⟨_,_,_,e,_⟩,_⟩:=x;rwa[ax e]|rng lo i=>let(_,_,_,e):=x;rwa[ax e]|mE b u=>let(e,_):=x;rwa[ax e]|Vz ps=>rwa[ax x]|met f y=>rwa[ax x]|ext φ=>obtain⟨_,⟨_,e⟩,_⟩:=x;rwa[ax e]
def Paired.ad2:∀{l₁:Ł α}{l₂:Ł β},Paired F l₁ l₂->(∀a b,F a b->G a b)->Paired G l₁ l₂:=by intro l₁ l₂ h f;induction h with|f=>rwa[.nil]|g r t i=>rwa[.cons (f _ _ r) i]
def fK.tm(x:fK P w H h a o)(k:∀b u,b=a\/H b=O (.own a)->h.get? b=O u->h'.get? b=O u)(l:∀b,H b=O (.own a)->H' b=O (.own a))(s:∀b xs,H b=O (.T xs)->H' b=O (.T xs)):fK P w H' h' a o:=by induction o with|L xs=>let(z,I,n,r,e):=x;exact(z,I,n,r,k _ _ (.inl Ŗ) e)|T xs=>let(z,I,r,g,e,c):=x;exact(z,I,r,g,k _ _ (.inl Ŗ) e,c)|dK A=>let(z,y,B,r,g,E,i,e,c):=x;exact(z,y,B,r,g,E,i,k _ _ (.inl Ŗ) e,c)|dT A=>let(z,y,xs,r,g,E,i,e,c):=x;exact(z,y,xs,Paired.ad2 r λp q z=>(z.1,s _ _ z.2.1,z.2.2),g,E,i,k _ _ (.inl Ŗ) e,c)|set S n=>let(g,E,i,t,e,c):=x;exact(g,E,i,t,k _ _ (.inl Ŗ) e,c)|ins C G fs=>obtain⟨d,z,N,e,m,⟨j,E,i,D,c⟩,r⟩:=x;exact(l _ d,z,N,k _ _ (.inl Ŗ) e,m,(j,E,i,k _ _ (.inr d) D,c),r)|own y=>let(g,e):=x;exact(g,k _ _ (.inl Ŗ) e)|xd fs=>obtain⟨m,⟨j,E,i,e,c⟩,r⟩:=x;exact(m,(j,E,i,k _ _ (.inl Ŗ) e,c),r)|rng lo K=>let(t,u,v,e):=x;exact(t,u,v,k _ _ (.inl Ŗ) e)|mE g u F=>let(e,q):=x;exact(k _ _ (.inl Ŗ) e,F q)|Vz ps=>let e:=x;rwa[k a _ (.inl Ŗ) e]|met f y=>rwa[k a _ (.inl Ŗ) x]|ext φ=>obtain⟨p,⟨o,e⟩,st⟩:=x;exact(st _ _ p λo q=>k _ _ (.inl Ŗ) q,(o,k _ _ (.inl Ŗ) e),st)
theorem jY.lt(x:jY P w H h)(e:H a=O o):a<h.objs.size:=(x a o e).lt
def jY.fresh{a:À}(x:jY P w H h)(e:h.objs.size<=a):H a=none:=by cases q:H a with|a=>rfl|c u=>rwa[Ă (aY (x.lt q) e) (bU _)]
def jY.kept(x:jY P w H h)(k:∀b u,h.get? b=O u->h'.get? b=O u):jY P w H h':=λa o e=>(x a o e).tm (λb u _ q=>k b u q) (λ_ q=>q) λ_ _ q=>q
def jY.laid{a:À}(x:jY P w H h)(k:∀b u,h.get? b=O u->h'.get? b=O u)(p:h.objs.size<=a)(new:fK P w (de H a o) h' a o):jY P w (de H a o) h':=λb u e=>by
 let hn:=x.fresh p;by_cases d:b=a;.subst d;rw[bA]at e;cases e;rwa[new]
 .rw[bw d]at e;exact(x b u e).tm (λc v _ q=>k c v q) (λc q=>by rw[bw (b7 q hn)];rwa[q]) λc X q=>by rw[bw (b7 q hn)];rwa[q]
def Rd(H:Hp)(a:À)(u:HO):ß:=H a=O u\/∃o,H a=O (.mE o u)
def Rd.ok{H:Hp}{h:Ç}{a:À}{u:HO}(r:Rd H a u)(x:jY P w H h):fK P w H h a u:=by
 rcases r with r|⟨o,r⟩;.rwa[x a u r]
 .let(_,q):=x a _ r;rwa[q]
def mo:Ő HO->ß|O (.L _)=>æ|O (.dK _)=>æ|O (.dT _)=>æ|O (.set _ _)=>æ|O (.ins _ _ _)=>æ|O (.ext _)=>æ|_=>ŧ
def jY.write(ok:jY P w H h)(m:mo (H x))(g:e=x\/H e=O (.own x))(k:∀b u,b≠e->h.get? b=O u->h'.get? b=O u)(o:∃u,h'.get? e=O u)(new:fK P w (de H x o') h' x o'):jY P w (de H x o') h':=λb u q=>by
 let A:∀c y,H c=O (.own y)->c≠x:=λc y r z=>by subst z;rw[r]at m;rwa[m]
 by_cases d:b=x;.subst d;rw[bA]at q;cases q;rwa[new]
 .rw[bw d]at q;by_cases a:b=e
  .let Q:H b=O (.own x):=by
    rcases g with z|z;.rwa[Ă (a.trans z) d]
    .rw[a];rwa[z]
   rw[q]at Q;cases Q;let(v,i):=o;exact(v,by rw[a];rwa[i])
  .erw[(ok b u q).tm (λc v f r=>k c v ?_ r) (λc r=>by rw[bw (A c b r)];rwa[r]) λc X r=>by rw[bw ((λc X r z=>by subst z;rw[r]at m;rwa[m]) c X r)];rwa[r]]
   rcases f with rfl|f;.done
   .rintro rfl;rcases g with z|z;.rwa[A c b f z]
    .lia
structure Un(fs ex:Ł À)(H H':Hp)(h h':Ç):ß where
 keep:∀b o,h.get? b=O o->H b=ao->b∉fs->b∉ex->h'.get? b=O o
 slot:∀b o,h.get? b=O o->H b=ao->b∈fs->b∉ex->∃sl,h'.get? b=O {o with slots:=sl}free:∀b o,h.get? b=O o->H b=ao->b∉ex->H' b=ao
 there:∀b o,h.get? b=O o->b∉ex->∃o',h'.get? b=O o'
 oE:∀b xs,H b=O (.T xs)->H' b=O (.T xs)mG:∀b o u,H b=O (.mE o u)->H' b=O (.mE o u)oA:∀b ps,H b=O (.Vz ps)->∃more,H' b=O (.Vz (ps++more))
def Un.any(u:Un fs ex H H1 h h1)(q:h.get? b=O c)(n:H b=ao)(d:b∉ex):∃sl,h1.get? b=O {c with slots:=sl}:=by
 by_cases f:b∈fs;.rwa[u.slot b c q n f d]
 .exact(_,u.keep b c q n f d)
def Un.kept(k:∀b u,h.get? b=O u->h'.get? b=O u):Un fs ex H H h h':=(λb c q _ _ _=>k b c q,λb c q _ _ _=>(_,k b c q),λ_ _ _ n _=>n,λb c q _=>(c,k b c q),λ_ _ q=>q,λ_ _ _ q=>q,λ_ ps q=>(#[],by done))
def Un.refl:Un fs ex H H h h:=Un.kept λ_ _ q=>q
def Un.laid{h:Ç}{a:À}(k:∀b u,h.get? b=O u->h'.get? b=O u)(p:h.objs.size<=a)(hn:H a=ao):Un fs ex H (de H a o) h h' where
 keep:=λb u q _ _ _=>k b u q;slot:=λb u q _ _ _=>(_,k b u q);free:=λb u q n _=>by rw[bw (aF (aY (ax q) p))];rwa[n]
 there:=λb u q _=>(u,k b u q);oE:=λb X q=>by rw[bw (b7 q hn)];rwa[q]
 mG:=λb u X q=>by rw[bw (b7 q hn)];rwa[q]
 oA:=λb ps q=>(#[],by rw[bw (b7 q hn),q];simp)
def Un.write(M:mo (H x))(i:e=x\/H e=O (.own x))(k:∀b u,b≠e->h.get? b=O u->h'.get? b=O u)(f:∃u,h'.get? e=O u):Un fs ex H (de H x o) h h':=by
 let g:∀b,H b=ao->b≠x:=λb n z=>by subst z;rw[n]at M;rwa[M]
 let d:∀b,H b=ao->b≠e:=λb n z=>nofun
 let m:∀b u,H b=O u->¬mo (O u)->b≠x:=λb u q N z=>nofun
 erw[(λb u q n _ _=>k b u (d b n) q,λb u q n _ _=>(_,k b u (d b n) q),λb u q n _=>by rw[bw (g b n)];rwa[n],λb u q _=>?_,λb X q=>by rw[bw (m b _ q λz=>z)];rwa[q],λb u X q=>by rw[bw (m b _ q λz=>z)];rwa[q],λb ps q=>(#[],by rw[bw (m b _ q λz=>z),q];simp))];by_cases c:b=e;.left
 .exact(u,k b u c q)
def trk(h:Ç)(H:Hp):Ł À:=(Ù h.objs.size).filter λa=>(H a).isSome
def yW(h:Ç)(H:Hp):Ç:=PySem.W.hideAll h (trk h H)
def Ij(h:Ç)(H:Hp):(yW h H).objs.size=h.objs.size:=PySem.W.hideAll_size _ _
def LO(e:h.get? b=O o)(n:H b=ao):(yW h H).get? b=O o:=PySem.W.hideAll_get _ e λm=>by let q:=(List.mem_filter.mp m).2;rw[n]at q;simp at q
def Tc(e:(yW h H).get? b=O o):h.get? b=O o/\H b=none:=by let E:=PySem.W.of_hideAll _ e;erw[(E,?_)];cases q:H b with|a=>rfl|c x=>let z:(yW h H).get? b=none:=PySem.W.hideAll_none _ (List.mem_filter.mpr (ir.mpr (ax E),by simp[q]));rw[z]at e;cases e
structure Mod(K:Å)(mg:c4)(base:Ç):ß where
 DL:K.In base
 glob:base.Ns c3 mg
 blt:∃mb,base.Ns builtinsNs mb/\∀x:Æ,x≠"__name__"->mb x=dN x
 nolimit:base.NoLimit
structure Cx where
 prog:ci
 w:ce
 K:Å
 mg:c4
 base:Ç
 A:cp
 N:ϐ
 s₀:am
 H₀:Hp
 env:Û
 outer:Ł Û
 stack:Ł Û
 ex:Ł À
 fn:Æ->Þ
 calm:Þ
 pn:c6
 xe:c9
def o7(l:Ł Û):Ł À:=l.filterMap (·.frame)
abbrev Cx.fs(X:Cx):Ł À:=o7 X.outer
def XZ(s:Í)(x:Æ):ß:=s.names.lookup x=O .local\/s.names.lookup x=O .cell\/s.names.lookup x=O .free
def Loc(s:Í)(x:Æ):ß:=s.names.lookup x=O .local\/s.names.lookup x=O .cell
def ah9(env:Û)(h:Ç)(m:c4)(x:Æ)(u:Â):ß:=env.kindOf x=O .local/\m x=O u\/(env.kindOf x=O .cell\/env.kindOf x=O .free)/\∃c,env.cells.lookup x=O c/\h.IsCell c (O u)
structure Cx.Ok(X:Cx):ß where
 mod:Mod X.K X.mg X.base
 kind:X.env.scope.kind=.function
 glob:X.env.globals=c3
 blt:X.env.builtins=builtinsNs
 above:X.s₀.heap.objs.size<=X.env.locals
 inj:∀x y c,X.env.cells.lookup x=O c->X.env.cells.lookup y=O c->x=y
 has:∀x,X.env.kindOf x=O .cell\/X.env.kindOf x=O .free->∃c,X.env.cells.lookup x=O c
 P1:∀x c,X.fn x=J->X.env.cells.lookup x=O c->X.s₀.heap.objs.size<=c
 hd:X.calm=J->X.A.handled=ao
 frames:X.A.frames=O X.stack
 Ve:X.stack=X.outer\/(X.stack=X.env::X.outer/\X.env.frame=O X.env.locals)RB:∀b∈X.ex,b≠X.env.locals/\∀x c,X.env.cells.lookup x=O c->c≠b
 bs:∀b o,X.base.get? b=O o->X.s₀.heap.get? b=O o/\X.H₀ b=ao
 Az:X.base.objs.size<=X.s₀.heap.objs.size
 tj:∀b o,X.base.get? b=O o->b∉X.ex
 wx:∀b∈X.ex,b∉X.fs
 kq:X.s₀.heap.FunFrames X.base X.outer
 Ic:∀b∈X.fs,X.H₀ b=ao
structure Inv(X:Cx)(be:c6)(σ:Ł (Ő V))(H:Hp)(s:am):ß where
 ok:X.Ok
 os:s.os=X.s₀.os
 bare:AllBare s.gens
 base:Un X.fs X.ex X.H₀ H X.s₀.heap s.heap
 loc:∃m,s.heap.Ns X.env.locals m/\∀(i:Ń)(x:Æ)(v:V),X.N[i]?=O x->σ[i]?=O (O v)->XZ X.env.scope x->∃u,RelV v u/\ah9 X.env s.heap m x u
 cell:∀x c,X.env.cells.lookup x=O c->∃v,s.heap.IsCell c v
 free:H X.env.locals=ao
 gN:∀x c,X.env.cells.lookup x=O c->H c=ao
 pin:∀p∈X.pn++be,s.heap.get? p.1=O p.2/\H p.1=ao/\p.1≠X.env.locals/\p.1∉X.fs/\∀v,p.2.data≠.cell v
 cV:jY X.prog X.w H s.heap
 len:Á σ=Á X.N
def Cx.Ok.akr{X:Cx}(ok:X.Ok)(e:X.base.get? b=O o):b∉X.fs:=λh=>by let:=(ok.kq.mem h).1;rw[e]at this;cases this
theorem Inv.bs(I:Inv X be σ H s):∀b o,X.base.get? b=O o->s.heap.get? b=O o/\H b=none:=λb o e=>(I.base.keep b o (I.ok.bs b o e).1 (I.ok.bs b o e).2 (I.ok.akr e) (I.ok.tj b o e),I.base.free b o (I.ok.bs b o e).1 (I.ok.bs b o e).2 (I.ok.tj b o e))
def Inv.bk(I:Inv X be σ H s):∀b o,X.base.get? b=O o->s.heap.get? b=O o:=λb o e=>(I.bs b o e).1
theorem Inv.mod(I:Inv X be σ H s):Mod X.K X.mg X.base:=I.ok.mod
def Inv.kr(I:Inv X be σ H s):X.K.In s.heap:=I.ok.mod.DL.keeps I.bk
theorem Inv.lt(I:Inv X be σ H s):X.env.locals<s.heap.objs.size:=let (_,hn,_):=I.loc;hn.lt
def Inv.sz(I:Inv X be σ H s):X.s₀.heap.objs.size<=s.heap.objs.size:=aA I.ok.above (gH I.lt)
def Inv.aks(I:Inv X be σ H s){a:À}(h:s.heap.objs.size<=a):a∉X.fs:=λb=>by let(_,o,c,_):=I.ok.kq.mem b;rwa[Ă (aY (ax c) (aA I.sz h)) (bU _)]
def Inv.QQ(I:Inv X be σ H s):∀x c,X.env.cells.lookup x=O c->c≠X.env.locals:=λx c e z=>by let(v,o,h,d):=I.cell x c e;obtain⟨m,⟨a,E,p,B,b,_⟩,_⟩:=I.loc;rw[z,B]at h;cases h;rw[b]at d;cases d
theorem Inv.kq(I:Inv X be σ H s):s.heap.FunFrames X.base X.outer:=by
 let all:∀(l:Ł Û),(∀b∈o7 l,b∈X.fs)->X.s₀.heap.FunFrames X.base l->s.heap.FunFrames X.base l:=by intro l;induction l with|f=>intro _ _;done|g E r i=>intro d f;obtain⟨k,⟨L,o,h,hn,g,j⟩,m⟩:=f;let a:=d L (by delta o7;rw[eW,h];rwa[aL]);let(sl,e):=I.base.slot L o g (I.ok.Ic L a) a λz=>I.ok.wx L z a;exact(k,(L,_,h,hn,e,j),i (λb c=>d b (by delta o7;rw[eW,h];rwa[aH _ c])) m)
 rwa[all _ (λ_ c=>c) I.ok.kq]
theorem Inv.stack(I:Inv X be σ H s):s.heap.FunFrames X.base X.stack:=by
 rcases I.ok.Ve with e|⟨e,h⟩;.rw[e];rwa[I.kq]
 .rw[e];let(m,hn,_):=I.loc;rwa[.cons (by rw[I.ok.kind];decide) h hn (Ħ (aA I.ok.Az I.ok.above)) I.kq]
def Inv.zV(I:Inv X be σ H s):∀b∈o7 X.stack,b∈X.env.locals::X.fs:=λb h=>by
 rcases I.ok.Ve with e|⟨e,f⟩;.rw[e]at h;rwa[aH _ h]
 .rw[e]at h;delta o7 at h;rw[eW,f]at h;rwa[h]
def Inv.qA(I:Inv X be σ H s):∀b∈o7 X.stack,H b=none:=λb h=>by
 rcases aB.mp (I.zV b h)with e|h;.rw[e];rwa[I.free]
 .let(_,o,a,_):=I.ok.kq.mem h;rwa[I.base.free b o a (I.ok.Ic b h) λz=>I.ok.wx b z h]
def Inv.step{ch:Ł _}(I:Inv X be σ H s)(P:∀b∈ch,(b∈X.ex\/X.s₀.heap.objs.size<=b)/\b≠X.env.locals/\(∀x c,X.env.cells.lookup x=O c->c≠b)/\∀p∈X.pn++be,p.1≠b)(keep:∀b o,b≠X.env.locals->b∉X.fs->b∉ch->s.heap.get? b=O o->H b=ao->h'.get? b=O o)(slot:∀b o,b≠X.env.locals->b∈X.fs->b∉ch->s.heap.get? b=O o->H b=ao->∃sl,h'.get? b=O {o with slots:=sl})(f:∀b o,b∉ch->s.heap.get? b=O o->H b=ao->H' b=ao)(there:∀b o,b∉ch->s.heap.get? b=O o->∃j,h'.get? b=O j)(G:∀b xs,H b=O (.T xs)->H' b=O (.T xs))(K:∀b o u,H b=O (.mE o u)->H' b=O (.mE o u))(Q:∀b ps,H b=O (.Vz ps)->∃M,H' b=O (.Vz (ps++M)))(ns:∀m,s.heap.Ns X.env.locals m->h'.Ns X.env.locals m)(R:jY X.prog X.w H' h')(U:AllBare g'):Inv X be σ H' {s with heap:=h',gens:=g',drawn:=d',toks:=t'}:=by
 let L:∀b o,X.s₀.heap.get? b=O o->b≠X.env.locals:=λb o e=>aF (aY (ax e) I.ok.above);let W:∀b o,X.s₀.heap.get? b=O o->b∉X.ex->b∉ch:=λb o e h a=>by
  rcases(P b a).1 with z|z;.rwa[h z]
  .rwa[Ă (aY (ax e) z) (bU _)]
 let C:∀x c,X.env.cells.lookup x=O c->∀v,s.heap.IsCell c v->h'.IsCell c v:=λx c e v Z=>by
  let(o,g,y):=Z;let N:=λz=>(P c z).2.2.1 x c e Ŗ;by_cases A:c∈X.fs;.let(sl,q):=slot c o (I.QQ x c e) A N g (I.gN x c e);exact(_,q,y)
  .exact(o,keep c o (I.QQ x c e) A N g (I.gN x c e),y)
 erw[(I.ok,I.os,U,(λb o e n a h=>keep b o (L b o e) a (W b o e h) (I.base.keep b o e n a h) (I.base.free b o e n h),λb o e n a h=>?_,λb o e n h=>?_,λb o e h=>?_,λb xs e=>G b xs (I.base.oE b xs e),λb o xs e=>K b o xs (I.base.mG b o xs e),λb ps e=>?_),?_,λx c e=>?_,?_,λx c e=>?_,λp B=>?_,R,I.len)];.let(sl,E):=I.base.slot b o e n a h;let(S,t):=slot b _ (L b o e) a (W b o e h) E (I.base.free b o e n h);exact(S,t)
 .let(j,E):=I.base.there b o e h;rwa[f b j (W b o e h) E (I.base.free b o e n h)]
 .let(j,E):=I.base.there b o e h;rwa[there b j (W b o e h) E]
 .let(m1,E):=I.base.oA b ps e;let(m2,t):=Q b _ E;exact(_,by rw[t,Array.append_assoc])
 .let(m,hn,Y):=I.loc;erw[(m,ns m hn,λi x v E t e3=>?_)];let(u,r,l):=Y i x v E t e3;erw[(u,r,?_)];rcases l with l|⟨k,c,e,z⟩;.rwa[.inl l]
  .rwa[.inr (k,c,e,C x c e _ z)]
 .let(v,z):=I.cell x c e;exact(v,C x c e v z)
 .obtain⟨m,⟨o,_,_,g,_⟩,_⟩:=I.loc;rwa[f _ o (λz=>(P _ z).2.1 Ŗ) g I.free]
 .let(v,o,g,y):=I.cell x c e;rwa[f c o (λz=>(P c z).2.2.1 x c e Ŗ) g (I.gN x c e)]
 .let(e,n,D,F,d):=I.pin p B;let N:=λz=>(P p.1 z).2.2.2 p B Ŗ;exact(keep p.1 p.2 D F N e n,f p.1 p.2 N e n,D,F,d)
def Inv.un(I:Inv X be σ H s)(u:Un X.fs [] H H' s.heap h')(c:jY X.prog X.w H' h'):Inv X be σ H' {s with heap:=h',toks:=t'}:=by obtain⟨m,⟨o,f,p,a,r⟩,_⟩:=id I.loc;let(sl,L):=u.any a I.free ⋯;rwa[I.step (ch:=[]) (λ_ z=>nomatch z) (λb o _ h _ e n=>u.keep b o e n h ⋯) (λb o _ h _ e n=>u.slot b o e n h ⋯) (λb o _ e n=>u.free b o e n ⋯) (λb o _ e=>u.there b o e ⋯) u.oE u.mG u.oA (λM d=>by let(g,l,E,B,R):=d;rw[a]at B;cases B;exact(_,l,E,L,R)) c I.bare]
def Inv.call(I:Inv X be σ H s)(u:Un (o7 X.stack) ch H H' s.heap h')(C:jY X.prog X.w H' h')(g:AllBare g')(P:∀b∈ch,(b∈X.ex\/X.s₀.heap.objs.size<=b)/\b≠X.env.locals/\(∀x c,X.env.cells.lookup x=O c->c≠b)/\∀p∈X.pn++be,p.1≠b):Inv X be σ H' {s with heap:=h',gens:=g',drawn:=d',toks:=t'}:=by obtain⟨m,⟨o,i,j,a,r⟩,_⟩:=id I.loc;let(sl,L):=u.any a I.free λz=>(P _ z).2.1 Ŗ;rwa[I.step P (λb o L d h e n=>u.keep b o e n (λz=>(aB.mp (I.zV b z)).elim L d) h) (λb o _ _ h e n=>u.any e n h) (λb o h e n=>u.free b o e n h) (λb o h e=>u.there b o e h) u.oE u.mG u.oA (λM f=>by let(k,l,E,B,R):=f;rw[a]at B;cases B;exact(_,l,E,L,R)) C g]
def Inv.turned(I:Inv X be σ H s)(k:∀b o,b≠it->s.heap.get? b=O o->h'.get? b=O o)(hn:H it=ao)(L:it≠X.env.locals)(a:it∈X.ex\/X.s₀.heap.objs.size<=it)(d:∀x c,X.env.cells.lookup x=O c->c≠it)(f:∀p∈X.pn++be,p.1≠it):Inv X be σ H {s with heap:=h',toks:=t'}:=by
 let N:∀b u,H b=O u->b≠it:=λb u e z=>()
 erw[I.step (ch:=[it]) (λb g=>?_) (λb o _ _ h e _=>k b o (λz=>h (by simp[z])) e) (λb o _ _ h e _=>(_,k b o (λz=>h (by simp[z])) e)) (λ_ _ _ _ n=>n) (λb o h e=>(o,k b o (λz=>h (by simp[z])) e)) (λ_ _ e=>e) (λ_ _ _ e=>e) (λb ps e=>(#[],by done)) (λm i=>?_) (λb u e=>?_) I.bare]
 .let e:=by simpa using g
  subst e;exact(a,L,d,f)
 .let(o,E,j,l,r):=i;exact(o,E,j,k _ o (cI L) l,r)
 .erw[(I.cV b u e).tm (λc v h q=>k c v ?_ q) (λ_ q=>q) λ_ _ q=>q];rcases h with z|z;.rw[z];rwa[N b u e]
  .rwa[N c _ z]
def Inv.tok(I:Inv X be σ H s)(t:Ń):Inv X be σ H {s with toks:=t}:=I.un Un.refl I.cV
theorem Inv.kept(I:Inv X be σ H s)(k:∀b u,s.heap.get? b=O u->h'.get? b=O u):Inv X be σ H {s with heap:=h',toks:=t'}:=I.un (Un.kept k) (I.cV.kept k)
theorem Inv.laid{a:À}(I:Inv X be σ H s)(k:∀b u,s.heap.get? b=O u->h'.get? b=O u)(h:s.heap.objs.size<=a)(new:fK X.prog X.w (de H a o) h' a o):Inv X be σ (de H a o) {s with heap:=h',toks:=t'}:=I.un (Un.laid k h (I.cV.fresh h)) (I.cV.laid k h new)
theorem Inv.write(I:Inv X be σ H s)(m:mo (H x))(a:e=x\/H e=O (.own x))(k:∀b u,b≠e->s.heap.get? b=O u->h'.get? b=O u)(h:∃u,h'.get? e=O u)(new:fK X.prog X.w (de H x o) h' x o):Inv X be σ (de H x o) {s with heap:=h',toks:=t'}:=I.un (Un.write m a k h) (I.cV.write m a k h new)
def Inv.Gw{N:Ł _}(I:Inv X be σ H s)(h:∀p∈N,s.heap.get? p.1=O p.2/\H p.1=ao/\p.1≠X.env.locals/\p.1∉X.fs/\∀v,p.2.data≠.cell v):Inv X N σ H s:=(I.ok,I.os,I.bare,I.base,I.loc,I.cell,I.free,I.gN,λp a=>(eR.mp a).elim (λz=>I.pin p (il _ z)) (h p),I.cV,I.len)
def vn{N:ϐ}(h:N.Nodup){j:Ń}(a:N[i]?=O x)(b:N[j]?=O x):i=j:=by let(c,e):=aw.mp a;let(d,E):=aw.mp b;exact(iG h).mp (e.trans E.symm)
def JK{E:c9}(I:Inv X be σ H s)(hN:X.N.Nodup)(L:X.N[i]?=O x)(B:Loc X.env.scope x)(r:RelV v u)(h:∀s',Inv X be (σ.set i (O v)) H s'->(∃a,Ý a s.heap s'.heap/\(a=X.env.locals\/X.env.cells.lookup x=O a))->Q ⟨⟩ s')(hf:ø (X.fn x=J\/X.env.scope.names.lookup x=O .local) W1):bv M A (storeName X.env x u) Q E s:=by
 let(m,hn,hl):=id I.loc;let U:(X.env.scope.kind==.class||X.env.scope.kind==.module&&X.env.locals !=X.env.globals)=false:=by rw[I.ok.kind];rfl
 let P:i<Á σ:=by rw[I.len];exact(aw.mp L).1
 let QQ:=I.QQ;let t:∀{a:À}{h':Ç},(∃o,s.heap.get? a=O o/\H a=ao)->Ý a s.heap h'->jY X.prog X.w H h':=λ{a h'}ha f b ob e=>by
  let(_,_,A2):=ha;erw[(I.cV b ob e).tm (λc W l q=>(f.2 c ?_).trans q) (λ_ q=>q) λ_ _ q=>q];rintro rfl;rcases l with rfl|l;.rw[A2]at e;cases e
  .rw[A2]at l;cases l
 rcases B with K|K
 .erw[wpAny_storeName_local K hn (λh' WJ f=>?_) U];let(oL,_,_,RZ,_):=id hn;erw[h _ (I.ok,I.os,I.bare,(λb o e n D B=>?_,λb o e n D B=>?_,I.base.free,λb o e B=>?_,I.base.oE,I.base.mG,I.base.oA),(_,WJ,λj y Y g C Z=>?_),λy c e=>?_,I.free,I.gN,λp hp=>?_,t (oL,RZ,I.free) f,by simpa using I.len) (_,f,.inl Ŗ)];.exact(f.2 b (aF (aY (ax e) I.ok.above))).trans (I.base.keep b o e n D B)
  .let(sl,g):=I.base.slot b o e n D B;exact(sl,(f.2 b (aF (aY (ax e) I.ok.above))).trans g)
  .let(o',g):=I.base.there b o e B;exact(o',(f.2 b (aF (aY (ax e) I.ok.above))).trans g)
  .by_cases F:j=i;.subst F;rw[L]at g;cases g;rw[dy P]at C;cases C;exact(u,r,.inl (K,⋯))
   .rw[cK (cI F)]at C;let(u',r',q):=hl j y Y g C Z;erw[(u',r',?_)];rcases q with ⟨k,e⟩|⟨k,c,e,z⟩;.erw[.inl (k,?_)];let:y≠x:=λe=>F (vn hN g (e▸L));simp[this,e]
    .rwa[.inr (k,c,e,z.sameBut f (QQ y c e))]
  .let(W,z):=I.cell y c e;exact(W,z.sameBut f (QQ y c e))
  .let(e,n,S,nf,d):=I.pin p hp;exact((f.2 p.1 S).trans e,n,S,nf,d)
 .let G:X.fn x=true:=nofun
  let(c,l):=I.ok.has x (.inl K);let(W,z):=I.cell x c l;erw[wpAny_storeName_cell I.ok.kind K l z λh' RW f=>?_];let(oc,ZA,ajy):=id z;erw[h _ (I.ok,I.os,I.bare,(λb o e n D B=>(f.2 b (aF (aY (ax e) (I.ok.P1 x c G l)))).trans (I.base.keep b o e n D B),λb o e n D B=>?_,I.base.free,λb o e B=>?_,I.base.oE,I.base.mG,I.base.oA),(m,hn.sameBut f (cI (QQ x c l)),λj y Y g C Z=>?_),λy T e=>?_,I.free,I.gN,λp hp=>?_,t (oc,ZA,I.gN x c l) f,by simpa using I.len) (c,f,.inr l)];.let(sl,g):=I.base.slot b o e n D B;exact(sl,(f.2 b (aF (aY (ax e) (I.ok.P1 x c G l)))).trans g)
  .let(o',g):=I.base.there b o e B;exact(o',(f.2 b (aF (aY (ax e) (I.ok.P1 x c G l)))).trans g)
  .by_cases F:j=i;.subst F;rw[L]at g;cases g;rw[dy P]at C;cases C;exact(u,r,.inr (.inl K,c,l,RW))
   .rw[cK (cI F)]at C;let(u',r',q):=hl j y Y g C Z;erw[(u',r',?_)];rcases q with q|⟨k,T,e,z'⟩;.rwa[.inl q]
    .erw[.inr (k,T,e,z'.sameBut f ?_)];rintro rfl;rwa[F (vn hN g (I.ok.inj _ _ _ e l▸L))]
  .by_cases R:T=c;.subst R;exact(_,RW)
   .let(w2,z2):=I.cell y T e;exact(w2,z2.sameBut f R)
  .let(e,n,S,nf,d):=I.pin p hp;erw[((f.2 p.1 ?_).trans e,n,S,nf,d)];intro q;rw[q,ZA]at e;rwa[d W (by rw[<-dM e];rwa[ajy])]
def iW{E:c9}(I:Inv X be σ H s)(a:X.N.Nodup)(b:X.N[i]?=O x)(c:Loc X.env.scope x)(r:RelV v u)(h:∀s',Inv X be (σ.set i (O v)) H s'->Q ⟨⟩ s')(f:ø (X.fn x=J\/X.env.scope.names.lookup x=O .local) W1):bv M A (storeName X.env x u) Q E s:=JK I a b c r (λs' d _=>h s' d) f
def Inv.AE(I:Inv X be σ H s)(h:s'.os=s.os)(u:Un (o7 X.stack) ch H H' s.heap s'.heap)(C:jY X.prog X.w H' s'.heap)(g:AllBare s'.gens)(P:∀b∈ch,(b∈X.ex\/X.s₀.heap.objs.size<=b)/\b≠X.env.locals/\(∀x c,X.env.cells.lookup x=O c->c≠b)/\∀p∈X.pn++be,p.1≠b):Inv X be σ H' s':=by let(h',G,d,t,o):=s';subst h;rwa[I.call u C g P]
abbrev XK:=Â->Ő À->Hp->ß
abbrev È:=Ł (Ő V)
abbrev VK:=V->Hp->ß
abbrev TE:=È->Hp->VK->ß
abbrev TT:=È->Hp->(Þ->Hp->ß)->ß
abbrev TA:=È->Hp->(ϕ->Hp->ß)->ß
structure Ö where
 nx:È->Hp->ß
 rt:VK
 bk:È->Hp->ß:=λ_ _=>ŧ
 ct:È->Hp->ß:=λ_ _=>ŧ
abbrev TS:=Ö->È->Hp->ß
def EP(X:Cx)(p:c6)(σ:È)(Q:VK)(u:Â)(s':am):ß:=∃v H,Inv X p σ H s'/\RelV v u/\Q v H
def TP(X:Cx)(p:c6)(σ:È)(Q:Þ->Hp->ß)(b:Þ)(s':am):ß:=∃H,Inv X p σ H s'/\Q b H
def AP(X:Cx)(p:c6)(σ:È)(Q:ϕ->Hp->ß)(us:Ł Â)(s':am):ß:=∃v H,Inv X p σ H s'/\Vals v us/\Q v H
def SP(X:Cx)(p:c6)(D:Ö)(f:Flow)(s':am):ß:=match f with|.next=>∃a H,Inv X p a H s'/\D.nx a H|.brk=>∃a H,Inv X p a H s'/\D.bk a H|.cont=>∃a H,Inv X p a H s'/\D.ct a H|.ret u=>∃v a H,Inv X p a H s'/\RelV v u/\D.rt v H
def PE(X:Cx)(e:Ä)(t:TE):ß:=∀(p:Ł _)(s:am)(σ:È)(H:Hp)(Q:VK),Inv X p σ H s->t σ H Q->bv (b' X.prog X.w) X.A (Ê e X.env) (EP X p σ Q) X.xe s
def PT(X:Cx)(e:Ä)(t:TT):ß:=∀(p:Ł _)(s:am)(σ:È)(H:Hp)(Q:Þ->Hp->ß),Inv X p σ H s->t σ H Q->bv (b' X.prog X.w) X.A (isTrue e X.env (Ê e X.env)) (TP X p σ Q) X.xe s
def PW(X:Cx)(e:Ä)(t:TT):ß:=∀(whole:Sem _)(p:Ł _)(s:am)(σ:È)(H:Hp)(Q:Þ->Hp->ß),Inv X p σ H s->t σ H Q->bv (b' X.prog X.w) X.A (isTrue e X.env whole) (TP X p σ Q) X.xe s
def PW.pt(h:PW X e t):PT X e t:=h _
def PA(X:Cx)(es:Ł Ä)(t:TA):ß:=∀(pos:Ó)(p:Ł _)(s:am)(σ:È)(H:Hp)(Q:ϕ->Hp->ß),Inv X p σ H s->t σ H Q->bv (b' X.prog X.w) X.A (spliced (em pos (c7 es X.env))) (AP X p σ Q) X.xe s
def PS(X:Cx)(st:É)(t:TS):ß:=∀(p:Ł _)(s:am)(σ:È)(H:Hp)(D:Ö),Inv X p σ H s->t D σ H->bv (b' X.prog X.w) X.A (exec st X.env) (SP X p D) X.xe s
def jZ(X:Cx)(st:Ł É)(t:TS):ß:=∀(p:Ł _)(s:am)(σ:È)(H:Hp)(D:Ö),Inv X p σ H s->t D σ H->bv (b' X.prog X.w) X.A (execs st X.env) (SP X p D) X.xe s
def iD{M:Model}{A:cp}{E:c9}{s:am}(h:bv M A t Q E s)(H:∀a s,Q a s->q a s):bv M A t q E s:=cX h H λ_ _ x=>x
def jf{a:c9}{E:c9}(h:bv M A t (EP X p σ Q) E s)(k:∀u s v H,Inv X p σ H s->RelV v u->Q v H->a u s):bv M A t a E s:=iD h λu s (v,H,I,r,q)=>k u s v H I r q
def Qf{E:c9}(h:bv M A t (AP X p σ Q) E s)(k:∀u s v H,Inv X p σ H s->Vals v u->Q v H->a u s):bv M A t a E s:=iD h λu s (v,H,I,r,q)=>k u s v H I r q
def cps{A:ß}(h:∀G:ß,(A->G)->G):A:=h A id
def BG(i:Ń):TE:=λσ H Q=>∃v,σ[i]?=O (O v)/\Q v H
def tC(v:V):TE:=λ_ H Q=>Q v H
def zA(b:X.N[i]?=O x)(g:XZ X.env.scope x)(d:ø ((x==("__debug__":Æ))=bb) x0)(o:ø ((x==("__classdict__":Æ))=bb) x0):PE X (.Name x pos) (BG i):=by
 intro p s σ H Q I h;let(v,e,h):=h;let(m,hn,j):=I.loc;let(u,r,l):=j i x v b e g;let f:EP X _ σ Q u s:=(v,H,I,r,h);rcases l with ⟨k,n⟩|⟨k,c,a,F⟩;.rwa[wpAny_Name (X' I.ok.kind k hn n f) d]
 .rcases k with k|k;.rwa[wpAny_Name (Ņ I.ok.kind k a F f) d]
  .rwa[wpAny_Name (wpAny_loadName_free I.ok.kind k a F f o) d]
def zy{i j pos}:PE X (.Constant (.int i) j pos) (tC (.I i)):=λ_ _ _ H _ I h=>wpAny_Constant_int (.I i,H,I.tok _,(_,Ŗ),h)
def aeI{b j pos}:PE X (.Constant (.bool b) j pos) (tC (.B b)):=λ_ _ _ H _ I h=>Constant_bool (.B b,H,I,Ŗ,h)
def J_{j pos}:PE X (.Constant .none j pos) (tC .g9):=λ_ _ _ H _ I h=>XI (.g9,H,I,Ŗ,h)
def ND{x j pos}:PE X (.Constant (.str x) j pos) (tC (.S x)):=λ_ _ _ H _ I h=>Calls.Constant_str (.S x,H,I.tok _,(_,Ŗ),h)
def Gl(X:Cx)(x:Æ):ß:=X.env.kindOf x=O .globalImplicit
def iT{E:c9}{σ:È}{Q:c9}(I:Inv X p σ H s)(g:Gl X x)(m:X.mg x=O u)(h:Q u s)(d:ø ((x==("__debug__":Æ))=bb) x0):bv (b' X.prog X.w) X.A (Ê (.Name x pos) X.env) Q E s:=Qh I.ok.kind g (Calls.loadGlobal_global (by rw[I.ok.glob];rwa[I.mod.glob.keeps I.bk]) m h) d
def l8{E:c9}{σ:È}{Q:c9}(I:Inv X p σ H s)(g:Gl X x)(m:X.mg x=ao)(v:dN x=O u)(h:Q u s)(hn:ø (x≠"__name__") x0)(d:ø ((x==("__debug__":Æ))=bb) x0):bv (b' X.prog X.w) X.A (Ê (.Name x pos) X.env) Q E s:=by let(M,a,b):=I.mod.blt;rwa[Qh I.ok.kind g (Calls.loadGlobal_builtin (by rw[I.ok.glob];rwa[I.mod.glob.keeps I.bk]) m (by rw[I.ok.blt];rwa[a.keeps I.bk]) ((b x hn).trans v) h) d]
def qm(g:Gl X x)(m:X.mg x=O u)(r:RelV v u)(d:ø ((x==("__debug__":Æ))=bb) x0):PE X (.Name x pos) (tC v):=λ_ _ _ H _ I h=>iT I g m (v,H,I,r,h) d
def Ts(g:Gl X x)(m:X.mg x=ao)(a:dN x=O u)(r:RelV v u)(hn:ø (x≠"__name__") x0)(d:ø ((x==("__debug__":Æ))=bb) x0):PE X (.Name x pos) (tC v):=λ_ _ _ H _ I h=>l8 I g m a (v,H,I,r,h) hn d
def PC(X:Cx)(o:CmpOp)(a b:Ä)(t:TE):ß:=∀(p:Ł _)(s:am)(σ:È)(H:Hp)(Q:VK),Inv X p σ H s->t σ H Q->bv (b' X.prog X.w) X.A (Ê a X.env) (λv S=>bv (b' X.prog X.w) X.A (Ê b X.env) (λu c=>bv (b' X.prog X.w) X.A (compareOp o v u) (EP X p σ Q) X.xe c) X.xe S) X.xe s
def alk(ta:TE):TE:=λσ H Q=>ta σ H λx h=>Q (.B (Đ (x=.g9))) h
def afL(ta:TE):TE:=λσ H Q=>ta σ H λx h=>Q (.B ! Đ (x=.g9)) h
def RelV.Bd(r:RelV x v):(v==Ô)=Đ (x=.g9):=by cases x with|g9=>cases r;rfl|B _=>cases r;rfl|I _=>let(t,rfl):=r;rfl|S _=>let(t,rfl):=r;rfl|byt _=>let(t,rfl):=r;rfl|RE _=>let(t,rfl):=r;rfl|A _=>cases r;rfl|ty _=>cases r;rfl
def F_{j pos'}(c:PE X a ta):PC X .Is a (.Constant .none j pos') (alk ta):=by intro p s σ H Q I h;rwa[iD (c _ s σ H _ I h) λv s1 z=>by let(x,d,i,r,q):=z;exact(XI (is_none_gen (_,d,i,by rw[r.Bd];rfl,q)))]
def Tq{j pos'}(c:PE X a ta):PC X .IsNot a (.Constant .none j pos') (afL ta):=by intro p s σ H Q I h;rwa[iD (c _ s σ H _ I h) λv s1 z=>by let(x,d,i,r,q):=z;exact(XI (isnot_none_gen (_,d,i,by rw[r.Bd];rfl,q)))]
def tB(t:TE):TT:=λσ H Q=>t σ H λx h=>∃c,x=.B c/\Q c h
def H_{X:Cx}{a b:Ä}{pos:Ó}{o:CmpOp}{t:TE}(h:PC X o a b t)(c:gn o b=false:=by first|rwa[M _ ∅ ∅]|rfl):PE X (.Compare a [o] [b] pos) t:=λp s σ H Q I w=>wpAny_Compare1 (h _ s σ H Q I w) c
def η{X:Cx}{a b:Ä}{pos:Ó}{o:CmpOp}{t:TE}(h:PC X o a b t)(e:gn o b=false:=by first|rwa[M _ ∅ ∅]|rfl):PT X (.Compare a [o] [b] pos) (tB t):=by intro p s σ H Q I w;erw[F5 (iD (h _ s σ H _ I w) λv s1 e=>iD e λu s2 f=>iD f λc S x=>?_) e];let(x,g,i,r,j):=x;let(d,rfl,q):=j;cases r;rwa[fQ (g,i,q)]
def ι(h:PE X e t)(c:ø (∀whole,isTrue e X.env whole=do let v<-whole;standAt e.pos;holding [v] (truthy v)) hH):PT X e (tB t):=by intro p s σ H Q I w;erw[isTrue_plain (jf (h _ s σ H _ I w) λv s1 x f i r g=>?_) (c _)];let(d,rfl,q):=g;cases r;rwa[fQ (f,i,q)]
def Gc(t u:TT):TT:=λσ H Q=>t σ H λc h=>if c=J then u σ h Q else Q bb h
def NE(t u:TT):TT:=λσ H Q=>t σ H λc h=>if c=J then Q J h else u σ h Q
def M9(t:TT):TT:=λσ H Q=>t σ H λc h=>Q (!c) h
def UB(d:PT X a tA):PW X (.BoolOp .And [a] pos) tA:=by intro wh p s σ H Q I h;erw[isTrue_and (iD (d _ s σ H Q I h) λc s1 e=>?_)];cases c with|d=>rwa[isTrue_and_nil e]|e=>rwa[e]
def ο(d:PT X a tA):PW X (.BoolOp .Or [a] pos) tA:=by intro wh p s σ H Q I h;erw[isTrue_or (iD (d _ s σ H Q I h) λc s1 e=>?_)];cases c with|e=>rwa[isTrue_or_nil e]|d=>rwa[e]
def ξ(d:PT X a tA)(e:PW X (.BoolOp .And (b::rest) pos) tB'):PW X (.BoolOp .And (a::b::rest) pos) (Gc tA tB'):=by intro wh p s σ H Q I h;erw[isTrue_and (iD (d _ s σ H _ I h) λc s1 (f,i,q)=>?_)];cases c with|d=>rwa[e wh _ s1 σ f Q i q]|e=>done
def aeY(d:PT X a tA)(e:PW X (.BoolOp .Or (b::rest) pos) tB'):PW X (.BoolOp .Or (a::b::rest) pos) (NE tA tB'):=by intro wh p s σ H Q I h;erw[isTrue_or (iD (d _ s σ H _ I h) λc s1 (f,i,q)=>?_)];cases c with|d=>done|e=>rwa[e wh _ s1 σ f Q i q]
def θ(c:PT X a tA):PT X (.UnaryOp .Not a pos) (M9 tA):=by intro p s σ H Q I h;rwa[isTrue_not (c _ s σ H _ I h)]
def XC(ta tb:TE):TE:=λσ H Q=>ta σ H λx h=>∃c,x=.B c/\if c=J then tb σ h Q else Q (.B bb) h
def ŗ(ta tb:TE):TE:=λσ H Q=>ta σ H λx h=>∃c,x=.B c/\if c=J then Q (.B J) h else tb σ h Q
def NB{o}(h:PE X a t):PE X (.BoolOp o [a] pos) t:=λp s σ H Q I w=>BoolOp_one (h _ s σ H Q I w)
def G_(e:PE X a ta)(f:PE X (.BoolOp .And (b::rest) pos) tb):PE X (.BoolOp .And (a::b::rest) pos) (XC ta tb):=by intro p s σ H Q I h;erw[BoolOp_and (jf (e _ s σ H _ I h) λv s1 x d i r q=>?_)];let(c,rfl,q):=q;cases r;erw[fQ ?_];cases c with|d=>rwa[f _ s1 σ d Q i q]|e=>exact(.B _,d,i,Ŗ,q)
def Ϡ(e:PE X a ta)(f:PE X (.BoolOp .Or (b::rest) pos) tb):PE X (.BoolOp .Or (a::b::rest) pos) (ŗ ta tb):=by intro p s σ H Q I h;erw[BoolOp_or (jf (e _ s σ H _ I h) λv s1 x d i r q=>?_)];let(c,rfl,q):=q;cases r;erw[fQ ?_];cases c with|e=>rwa[f _ s1 σ d Q i q]|d=>exact(.B _,d,i,Ŗ,q)
def F3(t:TT)(ta tb:TE):TE:=λσ H Q=>t σ H λc h=>if c=J then ta σ h Q else tb σ h Q
def Ny(f:PT X c tA)(g:PE X a ta)(j:PE X b tb):PE X (.IfExp c a b pos) (F3 tA ta tb):=by intro p s σ H Q I h;erw[wpAny_IfExp (iD (f _ s σ H _ I h) λd s1 (e,i,q)=>?_)];cases d with|d=>rwa[g _ s1 σ e Q i q]|e=>rwa[j _ s1 σ e Q i q]
def gB(K:Å)(H:Hp)(a:À)(xs:ϕ):ß:=Rd H a (.L xs)\/∃(o:Ú)(i:Array _)(n:Ń),K.lookup a=O o/\o.cls=.type "list"/\o.dict=ao/\o.data=.seq i n/\i.size<=Ã/\Vals xs i.toList
def gF(K:Å)(H:Hp)(a:À)(xs:ϕ):ß:=Rd H a (.T xs)\/∃(o:Ú)(i:Array _)(n:Ń),K.lookup a=O o/\o.cls=.type "tuple"/\o.data=.seq i n/\i.size<=Ã/\Vals xs i.toList
def aid:Â->Ő V|.none=>O .g9|.bool b=>O (.B b)|.int i _=>O (.I i)|.str x _=>O (.S x)|.bytes b _=>O (.byt b)|.float b _=>O (.RE b)|.ref a=>O (.A a)|.type n=>O (.ty n)|_=>ao
def RelV.abs(r:RelV x u):aid u=O x:=by cases x with|g9=>cases r;rfl|B _=>cases r;rfl|I _=>let(t,rfl):=r;rfl|S _=>let(t,rfl):=r;rfl|byt _=>let(t,rfl):=r;rfl|RE _=>let(t,rfl):=r;rfl|A _=>cases r;rfl|ty _=>cases r;rfl
def RelV.inj(r:RelV x u)(q:RelV y u):x=y:=dM (r.abs.symm.trans q.abs)
theorem Vals.inj:∀{xs ys:ϕ}{us:Ł _},Vals xs us->Vals ys us->xs=ys:=by intro xs ys us a;induction a generalizing ys with|f=>intro b;cases b;rfl|g r t i=>intro b;cases b with|g R T=>rw[r.inj R,i T]
def gB.of{K:Å}(h:H a=O (.L xs)):gB K H a xs:=.inl (.inl h)
def gF.of{K:Å}(h:H a=O (.T xs)):gF K H a xs:=.inl (.inl h)
def Inv.list{σ:È}(I:Inv X be σ H s)(h:gB X.K H a xs):∃its:Ł _,Vals xs its/\PlainL s.heap a its.toArray/\Á xs<=Ã:=by
 rcases h with h|⟨o,its,n,k,c,d,b,f,r⟩;.let(z,its,n,r,e):=h.ok I.cV;exact(its,r,(_,n,e,Ŗ,Ŗ,Ŗ),z)
 .erw[(_,r,(o,n,I.kr a o k,c,d,by done),?_)];let e:=r.length;simp only[bS]at e;lia
def Inv.tuple{σ:È}(I:Inv X be σ H s)(h:gF X.K H a xs):∃its:Ł _,Vals xs its/\IsTup s.heap a its.toArray/\Á xs<=Ã:=by
 rcases h with h|⟨o,its,n,k,c,b,d,r⟩;.let(z,its,r,p):=h.ok I.cV;exact(its,r,p,z)
 .erw[(_,r,(o,I.kr a o k,c,n,by done),?_)];let e:=r.length;simp only[bS]at e;lia
def Inv.vf{σ:È}(I:Inv X be σ H s)(h:gB X.K H a xs)(h':gB X.K H a ys):xs=ys:=by
 obtain⟨i,r,⟨o,n,e,_,_,d⟩,_⟩:=I.list h;obtain⟨A,R,⟨b,N,E,_,_,D⟩,_⟩:=I.list h';rw[e]at E;cases E;rw[d]at D;injection D with d1 _;let:=by simpa using cb Array.toList d1
 subst this;rwa[r.inj R]
def Inv.xU{σ:È}(I:Inv X be σ H s)(h:gF X.K H a xs)(h':gF X.K H a ys):xs=ys:=by
 obtain⟨i,r,⟨o,e,_,n,d⟩,_⟩:=I.tuple h;obtain⟨A,R,⟨b,E,_,N,D⟩,_⟩:=I.tuple h';rw[e]at E;cases E;rw[d]at D;injection D with d1 _;let:=by simpa using cb Array.toList d1
 subst this;rwa[r.inj R]
abbrev Cx.tw(X:Cx)(E:c9):Cx:={X with xe:=E}
abbrev Cx.BX(X:Cx):Cx:=X.tw λ_ _=>ŧ
theorem Cx.Ok.tw{X:Cx}(ok:X.Ok)(E:c9):(X.tw E).Ok:=(ok.mod,ok.kind,ok.glob,ok.blt,ok.above,ok.inj,ok.has,ok.P1,ok.hd,ok.frames,ok.Ve,ok.RB,ok.bs,ok.Az,ok.tj,ok.wx,ok.kq,ok.Ic)
def Cx.Ok.mh{X:Cx}(ok:(X.tw E).Ok):X.Ok:=(ok.mod,ok.kind,ok.glob,ok.blt,ok.above,ok.inj,ok.has,ok.P1,ok.hd,ok.frames,ok.Ve,ok.RB,ok.bs,ok.Az,ok.tj,ok.wx,ok.kq,ok.Ic)
theorem Inv.tw{σ:È}(I:Inv X be σ H s)(E:c9):Inv (X.tw E) be σ H s:=(I.ok.tw E,I.os,I.bare,I.base,I.loc,I.cell,I.free,I.gN,I.pin,I.cV,I.len)
theorem Inv.mh{σ:È}(I:Inv (X.tw E) be σ H s):Inv X be σ H s:=(I.ok.mh,I.os,I.bare,I.base,I.loc,I.cell,I.free,I.gN,I.pin,I.cV,I.len)
theorem SP.mh(h:SP (X.tw E) be D f s'):SP X be D f s':=by cases f with|next=>let(a,b,I,q):=h;exact(a,b,I.mh,q)|brk=>let(a,b,I,q):=h;exact(a,b,I.mh,q)|cont=>let(a,b,I,q):=h;exact(a,b,I.mh,q)|ret u=>let(v,a,b,I,r,q):=h;exact(v,a,b,I.mh,r,q)
theorem jZ.BX{st:Ł _}(h:jZ X.BX st t):jZ X st t:=λbe s σ H D I w=>cX (h _ s σ H D (I.tw _) w) (λ_ _ q=>q.mh) λ_ _ z=>é z
def afJ:TS:=λD σ H=>D.nx σ H
def Bn(t u:TS):TS:=λD σ H=>t {D with nx:=u D} σ H
def Uz:jZ X [] afJ:=λ_ _ σ H _ I h=>gT (σ,H,I,h)
def vq{st:É}(b:PS X st t)(c:jZ X rest u):jZ X (st::rest) (Bn t u):=by intro p s σ H D I h;erw[qW (iD (b _ s σ H _ I h) λf s1 q=>?_)];cases f with|next=>let(a,d,i,q):=q;rwa[c _ s1 a d D i q]|ret v=>rwa[q]|brk=>rwa[q]|cont=>rwa[q]
def GB{st:É}(a:PS X st t):jZ X [st] t:=by intro p s σ H D I h;erw[qW (iD (a _ s σ H D I h) λf s1 q=>?_)];cases f with|next=>rwa[gT q]|ret v=>rwa[q]|brk=>rwa[q]|cont=>rwa[q]
def Inv.quiet{p:Ł _}{σ:È}(I:Inv X p σ H s):interactive X.env=false:=by simp[interactive,I.ok.kind]
def Ϧ(te:TE):TS:=λD σ H=>te σ H λ_ h=>D.nx σ h
def Ux(a:PE X e te)(b:ø (g7 e ao pos.line X.env=pure bb) o0):PS X (.Expr e pos) (Ϧ te):=by intro p s σ H D I h;rwa[wpAny_Expr_any (iD (a _ s σ H _ I h) λv s1 z=>by let(x,c,i,r,q):=z;exact(σ,c,i,q)) I.quiet b]
def alm(te:TE):TS:=λD σ H=>te σ H D.rt
def ζ(a:PE X e te):PS X (.Return (O e) pos) (alm te):=by intro p s σ H D I h;rwa[wpAny_Return_some (iD (a _ s σ H _ I h) λv s1 z=>by let(x,b,i,r,q):=z;exact(x,σ,b,i,r,q))]
def Ϗ(c:TT)(t u:TS):TS:=λD σ H=>c σ H λb h=>if b=J then t D σ h else u D σ h
def ϟ(g:PT X c T)(j:jZ X a t)(k:jZ X b u):PS X (.If c a b pos) (Ϗ T t u):=by intro p s σ H D I h;erw[wpAny_If (iD (g _ s σ H _ I h) λd s1 (f,i,q)=>?_)];cases d with|d=>rwa[j _ s1 σ f D i q]|e=>rwa[k _ s1 σ f D i q]
abbrev TG:=V->È->Hp->(È->Hp->ß)->ß
abbrev Wn:=ϕ->È->Hp->(È->Hp->ß)->ß
def PG(X:Cx)(T:Ä)(t:TG):ß:=∀(p:Ł _)(s:am)(σ:È)(H:Hp)(v:V)(u:Â)(Q:È->Hp->ß),Inv X p σ H s->RelV v u->t v σ H Q->bv (b' X.prog X.w) X.A (assign T X.env u) (λ_ S=>∃a h,Inv X p a h S/\Q a h) X.xe s
def ml(X:Cx)(ts:Ł Ä)(t:Wn):ß:=∀(p:Ł _)(s:am)(σ:È)(H:Hp)(v:ϕ)(u:Ł _)(Q:È->Hp->ß),Inv X p σ H s->Vals v u->t v σ H Q->bv (b' X.prog X.w) X.A (assignInOrder ((f6 ts X.env).map (·.2)) u) (λ_ S=>∃a h,Inv X p a h S/\Q a h) X.xe s
abbrev XX:=V->V->V->Hp->(Hp->ß)->ß
def Ps(X:Cx)(t:XX):ß:=∀(p:Ł _)(s:am)(σ:È)(H:Hp)(o i v:V)(a I u:Â)(Q:Hp->ß),Inv X p σ H s->RelV o a->RelV i I->RelV v u->t o i v H Q->bv (b' X.prog X.w) X.A (setItem a I u) (λ_ S=>∃h,Inv X p σ h S/\Q h) X.xe s
abbrev sK:=V->V->Hp->VK->ß
def Š(X:Cx)(o:Operator)(t:sK):ß:=∀(p:c6)(s:am)(σ:È)(H:Hp)(x y:V)(v u:Â)(Q:VK),Inv X p σ H s->RelV x v->RelV y u->t x y H Q->bv (b' X.prog X.w) X.A (inplaceOp o v u) (EP X p σ Q) X.xe s
def mm(i:Ń):TG:=λv σ H Q=>Q (σ.set i (O v)) H
def Uh{X:Cx}{pos:Ó}{i:Ń}{x:Æ}(a:X.N.Nodup)(b:ø (X.N[i]?=O x) o0)(c:autoParam (Loc X.env.scope x) ō)(f:ø (X.fn x=J\/X.env.scope.names.lookup x=O .local) W1):PG X (.Name x pos) (mm i):=by intro p s σ H v u Q I r h;rwa[wpAny_assign_Name (iW I a b c r (λS d=>(_,H,d,h)) f)]
def Ĩ:Wn:=λv σ H Q=>v=[]/\Q σ H
def WI(t:TG)(u:Wn):Wn:=λs σ H Q=>∃v r,s=v::r/\t v σ H λa h=>u r a h Q
def Uj:ml X [] Ĩ:=by intro p s σ H v u Q I r h;let(e,h):=h;rwa[assignInOrder_nil (σ,H,I,h)]
def NS(b:PG X e t)(c:ml X es u)(d:ø ((f6 (e::es) X.env).map (·.2)=assign e X.env::(f6 es X.env).map (·.2)) o0):ml X (e::es) (WI t u):=by intro p s σ H g U Q I r h;let(v,j,E,h):=h;subst E;cases r with|g r R=>rw[d];rwa[Ao (iD (b _ s σ H _ _ _ I r h) λ_ s1 z=>by let(a,f,i,q):=z;exact(c _ s1 a f _ _ Q i R q))]
def Zi(K:Å)(n:Ń)(t:Wn):TG:=λv σ H Q=>∃a x,v=.A a/\gF K H a x/\Á x=n/\t x σ H Q
def WG(to ti:TE)(t:XX):TG:=λv σ H Q=>to σ H λo h=>ti σ h λi a=>t o i v a λb=>Q σ b
def D'(c:PE X o to)(d:PE X i ti)(e:Ps X t)(f:ø (∀v,assign (.Subscript o i pos) X.env v=do
   let a<-holding [v] (Ê o X.env)let b<-holding [v,a] (Ê i X.env)standAt pos
   holding [v,a,b] (setItem a b v)release [v,a,b] []) hH):PG X (.Subscript o i pos) (WG to ti t):=by intro p s σ H v u Q I r h;rw[f];rwa[aa (bJ (iD (c _ s σ H _ I h) λa s1 z=>by let(x,g,j,R,q):=z;exact(aa (bJ (iD (d _ s1 σ g _ j q) λb s2 z=>by let(y,k,l,m,n):=z;exact(aa (gY (aa (bJ (iD (e _ s2 σ k x y v a b u _ l R m r n) λ_ S (w,A,B)=>wpAny_release (σ,w,A,B)))))))))))]
def vH(t:TE)(g:TG):TS:=λD σ H=>t σ H λx h=>g x σ h D.nx
def N1(a:PE X e t)(b:PG X tg g)(c:ø (swapsWithSole [tg] e pos.line X.env=pure bb) o0)(w:ø (jp [tg] e X.env=pure ao) o0)(d:ø ((f6 [tg] X.env).map (·.2)=[assign tg X.env]) o0):PS X (.Assign [tg] e pos) (vH t g):=by intro p s σ H D I h;erw[wpAny_Assign_stores (jf (a _ s σ H _ I h) λv s1 x f i r Q=>?_) c w];rw[d];rwa[iD (b _ s1 σ f x v _ i r Q) λ_ s2 q=>q]
def zD(a:X.N.Nodup)(b:X.N[i]?=O x)(c:Loc X.env.scope x)(d:PE X e t)(f:ø (g7 e (O (.Name x pos')) pos.line X.env=pure bb) o0)(g:ø (X.fn x=J\/X.env.scope.names.lookup x=O .local) W1):PS X (.Assign [.Name x pos'] e pos) (vH t (mm i)):=by intro p s σ H D I h;rwa[wpAny_Assign_Name (iD (d _ s σ H _ I h) λv s1 z=>by let(y,j,k,r,q):=z;exact(iW k a b c r (λs2 l=>(_,j,l,q)) g)) f]
def Qa(i j:Ń)(t:TA):TS:=λD σ H=>t σ H λs h=>∃v w,s=[v,w]/\D.nx ((σ.set i (O v)).set j (O w)) h
def ε{k k2 c}(B:X.calm)(l:X.N.Nodup)(C:X.N[i]?=O x)(E:X.N[j]?=O y)(g:i≠j)(m:X.env.scope.names.lookup x=O .local)(n:X.env.scope.names.lookup y=O .local)(F:PA X [a,b] t)(G:jp [.Tuple [.Name x d,.Name y f] k pt] (.Tuple [a,b] k2 c) X.env=pure (O [x,y]))(K:ø (swapsWithSole [.Tuple [.Name x d,.Name y f] k pt] (.Tuple [a,b] k2 c) pos.line X.env=pure bb) o0):PS X (.Assign [.Tuple [.Name x d,.Name y f] k pt] (.Tuple [a,b] k2 c) pos) (Qa i j t):=by
 intro P s σ H D I h;rw[exec_Assign_arm];erw[aa (gY ?_)];rw[K];erw[aa (ah ?_)];rw[bN ∅];erw[aa (Tuple_ (Qf (F _ P s σ H _ I h) λU s1 vs r L R Q=>?_))];let(v,w,M,Q):=Q;subst M;obtain⟨u,u2,rfl,S,Z⟩:∃u u2,U=[u,u2]/\RelV v u/\RelV w u2:=by cases R with|g p q=>cases q with|g T W=>cases W;exact(_,_,Ŗ,p,T)
 erw[bE ?_ (by show 2<=Ã;decide)];let Y:Inv X P σ r {s1 with heap:=s1.heap.push {cls:=.type "tuple",data:=.seq [u,u2].toArray}}:=L.kept (t':=s1.toks) λb o e=>ae _ e;rw[G];erw[aa (ah ?_)];show bv (b' X.prog X.w) X.A (do rule "assign.swapped-stores";let items<-unpackItems (.ref s1.heap.objs.size) 2 ao;assignInOrder [λv=>bindName X.env y v,λv=>bindName X.env x v] items.reverse;pure Flow.next) _ _ _;erw[aa (f7 (aa (unpackItems_tuple (items:=#[u,u2]) (I.ok.hd B) (qQ s1.heap _) λh' ZG=>?_)))];let I3:=Y.kept (h':=h') (t':=s1.toks) λb o e=>ZG b o (aF (ax e)) e;show bv _ _ (assignInOrder [λv=>bindName X.env y v,λv=>bindName X.env x v] [u2,u]>>=λ_=>pure Flow.next) _ _ _;erw[aa (Ao (wpAny_bindName (iW I3 l E (.inl n) Z (λs2 I4=>?_) (.inr n))))];erw[Ao (wpAny_bindName (iW I4 l C (.inl m) S (λs3 z=>assignInOrder_nil (ah ?_)) (.inr m)))];rw[List.set_comm _ _ (cI g)]at z;exact(_,r,z,Q)
def Uf(i:Ń)(t:TE)(ti:sK):TS:=λD σ H=>∃x,σ[i]?=O (O x)/\t σ H λy h=>ti x y h λz a=>D.nx (σ.set i (O z)) a
def γ(j:X.N.Nodup)(g:X.N[i]?=O x)(d:Loc X.env.scope x)(n:PE X e t)(q:Š X o ti)(B:ø (X.fn x=J\/X.env.scope.names.lookup x=O .local) W1):PS X (.AugAssign (.Name x pos') o e pos) (Uf i t ti):=by
 intro p s σ H D I h;let(v,E,h):=h;let(m,hn,C):=I.loc;let f:XZ X.env.scope x:=by rcases d with k|k;rwa[.inl k];rwa[.inr (.inl k)]
 let(u,r,l):=C i x v g E f;erw[wpAny_AugAssign_Name ?_];let go:bv (b' X.prog X.w) X.A (Ê e X.env) (λw S=>bv (b' X.prog X.w) X.A (inplaceOp o u w) (λr b=>bv (b' X.prog X.w) X.A (storeName X.env x r) (λ_=>SP X p D .next) X.xe b) X.xe S) X.xe s:=by erw[jf (n p s σ H _ I h) λw s1 y F G R Q=>?_];erw[jf (q p s1 σ F v y u w _ G r R Q) λz s2 Z K L M P=>?_];rwa[iW L j g d M (λs3 T=>(_,K,T,P)) B]
 rcases l with ⟨a,U⟩|⟨a,c,W,Y⟩;.rwa[X' I.ok.kind a hn U go]
 .rcases a with a|a;.rwa[Ņ I.ok.kind a W Y go]
  .rcases d with k|k;.let:X.env.scope.names.lookup x=O .free:=a;rw[k]at this;cases this
   .let:X.env.scope.names.lookup x=O .free:=a;rw[k]at this;cases this
def ś(f:Î->Î->Î):sK:=λx y H Q=>∃i j,x=.I i/\y=.I j/\Q (.I (f i j)) H
def ZN:Š X .Add (ś λi j=>i+j):=by intro p s σ H x y v u Q I r R h;let(i,j,e,E,q):=h;subst e;subst E;let(t,rfl):=r;let(T,rfl):=R;rwa[iadd_int (.I _,H,I.tok _,(_,Ŗ),q)]
def ahv{X:Cx}{pos:Ó}(i:Ń){x:Æ}{e:Ä}{t:TE}{pos':Ó}(h:X.N.Nodup)(H:PE X e t)(a:ø (X.N[i]?=O x) o0)(b:autoParam (Loc X.env.scope x) ō)(s:ø (g7 e (O (.Name x pos')) pos.line X.env=pure bb) o0)(f:ø (X.fn x=J\/X.env.scope.names.lookup x=O .local) W1):PS X (.Assign [.Name x pos'] e pos) (vH t (mm i)):=zD h a b H s f
def O6(c:TT)(t:TS):TS:=λD σ H=>∃W:Ń->È->Hp->ß,(∃m,W m σ H)/\∀m σ H,W m σ H->c σ H λb h=>if b=J then ∃N:È->Hp->ß,(∀a d,N a d->∃M,M<m/\W M a d)/\t {D with nx:=N,ct:=N,bk:=D.nx} σ h else D.nx σ h
def N5(p:PassesOwn (b' X.prog X.w) X.A X.env X.xe)(C:PT X c T)(E:jZ X B o):PS X (.While c B [] pos) (O6 T o):=by intro P s σ H D I h;obtain⟨W,⟨M,w0⟩,t⟩:=h;erw[wpAny_While (codeAny_whileLoop (λn S=>∃e r,Inv X _ e r S/\W n e r) ?_ M (σ,H,I,w0))];rintro n s1 ⟨d,u,F,G⟩;erw[gU p (iD (C _ s1 d u _ F (t n d u G)) λb s2 (x,y,q)=>?_)];cases b with
 |d=>let(N,z,q):=q;erw[gU p (iD (E _ s2 d x _ y q) λf K Q=>?_)];cases f with|next=>let(a,g,i,j):=Q;let(m,k,l):=z a g j;exact(m,k,a,g,i,l)|cont=>let(a,g,i,j):=Q;let(m,k,l):=z a g j;exact(m,k,a,g,i,l)|brk=>done|ret v=>done
 |e=>rwa[gT (d,x,y,q)]
structure It where
 go:Ń->Hp->ß
 yld:Ń->Hp->V->Hp->ß
 stop:Ń->Hp->ß
def kY(X:Cx)(P:c6)(H:Hp)(b:À):ß:=H b=ao/\b≠X.env.locals/\b∉X.fs/\(b∈X.ex\/X.s₀.heap.objs.size<=b)/\(∀x c,X.env.cells.lookup x=O c->c≠b)/\∀p∈X.pn++P,p.1≠b
def Inv.AX{P:Ł _}{σ:È}{b:À}(I:Inv X P σ H s)(h:s.heap.objs.size<=b)(hn:H' b=ao):kY X P H' b:=by erw[(hn,dA (aY I.lt h),I.aks h,.inr (aA I.sz h),λx c e z=>?_,λp a z=>Ă (aY (ax (I.pin p a).1) nofun) (bU _))];.let(v,q):=I.cell x c e;rwa[Ă (aY q.lt nofun) (bU _)]
structure uz(P:ci)(w:ce)(K:Å)(tg:Ä)(a:It)(fp:Ł À)(it:À)(tn:Ń->Ç->ß):ß where
 mem:it∈fp
 obj:∀i h,tn i h->∀b∈fp,∃o,h.get? b=O o/\∀v,o.data≠.cell v
 keep:∀i h h',tn i h->(∀b∈fp,∀o,h.get? b=O o->h'.get? b=O o)->tn i h'
 item:∀(X:Cx),X.prog=P->X.w=w->X.K=K->X.calm->∀(i:Ń)(be:c6)(s:am)(σ:È)(H:Hp)(E:c9),Inv X be σ H s->(∀b∈fp,kY X be H b)->tn i s.heap->a.go i H->bv (b' P w) X.A (d4 (.ref it)) (λr s1=>∃u,r=O u/\bv (b' P w) X.A (letOwnedTupleGo tg (.ref it) u) (λ_ s2=>∃x H',Inv X be σ H' s2/\RelV x u/\a.yld i H x H'/\tn (i+1) s2.heap/\∀b∈fp,H' b=ao) E s1) E s
 done:∀(X:Cx),X.prog=P->X.w=w->X.K=K->X.calm->∀(i:Ń)(be:c6)(s:am)(σ:È)(H:Hp)(E:c9),Inv X be σ H s->(∀b∈fp,kY X be H b)->tn i s.heap->a.stop i H->bv (b' P w) X.A (d4 (.ref it)) (λr s1=>r=ao/\Inv X be σ H s1) E s
 self:∀(A:cp)(i:Ń)(s:am)(Q:c9)(E:c9),tn i s.heap->Q (.ref it) s->bv (b' P w) A (pyIter (.ref it)) Q E s
abbrev TI:=È->Hp->(It->Hp->ß)->ß
def Fc(X:Cx)(p:c6)(σ:È)(tg:Ä)(R:It->Hp->ß)(i:Â)(s2:am):ß:=∃(I:À)(f:Ł _)(t:Ń->Ç->ß)(j:It)(H:Hp),i=.ref I/\Inv X p σ H s2/\uz X.prog X.w X.K tg j f I t/\t 0 s2.heap/\(∀b∈f,kY X p H b)/\R j H
def PI(X:Cx)(tg iter:Ä)(wi:TI):ß:=∀(p:Ł _)(s:am)(σ:È)(H:Hp)(R:It->Hp->ß),Inv X p σ H s->wi σ H R->bv (b' X.prog X.w) X.A (Ê iter X.env) (λv s1=>bv (b' X.prog X.w) X.A (pyIter v) (Fc X p σ tg R) X.xe s1) X.xe s
def ac3{E:c9}(a:s.heap.get? i=O o)(c:o.cls=.type n)(d:o.data=.fields vs)(hn:["enumerate","zip","dict_itemiterator","dict_reverseitemiterator","odict_iterator","itertools.zip_longest","itertools.pairwise"].contains n=bb)(H:Q ⟨⟩ s):bv M A (letOwnedTupleGo tg (.ref i) u) Q E s:=by cases tg<;>first|rwa[ah H]|(cases u<;>first|rwa[ah H]|(erw[aa (Aq a ?_)];rw[c,d];show bv M A (if(["enumerate","zip","dict_itemiterator","dict_reverseitemiterator","odict_iterator","itertools.zip_longest","itertools.pairwise"].contains n&&vs[0]?==O _)=J then _ else _) Q E s;rw[bN (by intro h;rw[hn]at h;cases h)];rwa[ah H]))
def Dy(K:Å)(a:À):It:=(λi H=>∃X x,gB K H a X/\X[i]?=O x,λi H x h=>h=H/\∀X,gB K H a X->X[i]?=O x,λi H=>∃X,gB K H a X/\Á X<=i)
def EQ(K:Å)(a:À):It:=(λi H=>∃X x,gF K H a X/\X[i]?=O x,λi H x h=>h=H/\∀X,gF K H a X->X[i]?=O x,λi H=>∃X,gF K H a X/\Á X<=i)
def sY(lo:Î)(n:Ń):It:=(λi _=>i<n,λi H x h=>h=H/\x=.I (lo+i),λi _=>n<=i)
def nE{K:Å}(hn:["enumerate","zip","dict_itemiterator","dict_reverseitemiterator","odict_iterator","itertools.zip_longest","itertools.pairwise"].contains n=bb)(M:∀{i h},T i h->∃(o:Ú)(vs:Array _),h.get? t=O o/\o.cls=.type n/\o.data=.fields vs)(keep:∀{i h h'},T i h->(∀o,h.get? t=O o->h'.get? t=O o)->T i h')(nx:∀{X:Cx}{i p s σ H E}{Q:Ő Â->am->ß},X.prog=P->X.w=w->X.K=K->X.calm->Inv X p σ H s->T i s.heap->j.go i H->(∀u x h' N,RelV x u->j.yld i H x H->T (i+1) h'->è t s.heap h'->Q (O u) {s with heap:=h',toks:=N})->bv (b' P w) X.A (d4 (.ref t)) Q E s)(no:∀{X:Cx}{i p s σ H E}{Q:Ő Â->am->ß},X.prog=P->X.w=w->X.K=K->X.calm->Inv X p σ H s->T i s.heap->j.stop i H->(∀h',è t s.heap h'->Q ao {s with heap:=h'})->bv (b' P w) X.A (d4 (.ref t)) Q E s)(self:∀{A s i E}{Q:c9},T i s.heap->Q (.ref t) s->bv (b' P w) A (pyIter (.ref t)) Q E s):uz P w K tg j [t] t T where
 mem:=.head _;obj:=λi h st b a=>by rw[aG.mp a];let(o,vs,e,c,d):=M st;exact(o,e,λv z=>by rw[d]at z;cases z)
 keep:=λi h h' st k=>keep st λo e=>k t (.head _) o e;item:=λX g l m q i p s σ H E I f st r=>by let(F,B,U,C,D,G):=f t (.head _);erw[nx g l m q I st r λu x h' N S y R L=>(u,Ŗ,?_)];let(o,vs,e,c,d):=M R;rwa[ac3 e c d hn (x,H,I.turned L F B C D G,S,y,R,λb a=>(f b a).1)]
 done:=λX g l m q i p s σ H E I f st r=>let (F,B,_,C,D,G):=f t (.head _);no g l m q I st r λh' L=>(Ŗ,I.turned L F B C D G);self:=λ_ _ _ _ _ st h=>self st h
def JW{K:Å}(a t:À):uz P w K tg (Dy K a) [t] t λi h=>h.IsListIter t a i:=nE (n:="list_iterator") rfl (λ(o,e,c,d)=>(o,_,e,c,d)) (λst k=>st.at k) (λ{X i b s σ H E Q}g j l y I st m q=>by subst g j l;let(z,x,f,r):=m;let(v,R,p,A):=I.list f;let(u,hu,B):=R.get r;rwa[wpAny_pyNext_list_item st p.isList (by simpa using hu) λC D S=>q u x C _ B (Ŗ,λY F=>by rw[I.vf F f];rwa[r]) D S.extBut]) (λ{X i b s σ H E Q}g j l y I st m q=>by subst g j l;let(z,f,r):=m;let(v,R,p,A):=I.list f;let hl:=R.length;rwa[wpAny_pyNext_list_end (I.ok.hd y) st p.isList nofun q]) λst h=>wpAny_pyIter_listiter st h
def EN{K:Å}(a t:À):uz P w K tg (EQ K a) [t] t λi h=>h.IsTupleIter t a i:=nE (n:="tuple_iterator") rfl (λ(o,e,c,d)=>(o,_,e,c,d)) (λst k=>st.at k) (λ{X i b s σ H E Q}g j l y I st m q=>by subst g j l;let(z,x,f,r):=m;let(v,R,p,A):=I.tuple f;let(u,hu,B):=R.get r;rwa[wpAny_pyNext_tuple_item st p (by simpa using hu) λC D S=>q u x C _ B (Ŗ,λY F=>by rw[I.xU F f];rwa[r]) D S.extBut]) (λ{X i b s σ H E Q}g j l y I st m q=>by subst g j l;let(z,f,r):=m;let(v,R,p,A):=I.tuple f;let hl:=R.length;rwa[wpAny_pyNext_tuple_end (I.ok.hd y) st p (by simp;lia) q]) λst h=>wpAny_pyIter_tupleiter st h
def EM{K:Å}(a:À)(lo:Î)(n:Ń):uz P w K tg (sY lo n) [a] a λi h=>IsRangeIter h a (lo+i*1) (n-i) 1:=nE (n:="range_iterator") rfl (λst=>(_,_,st,Ŗ,Ŗ)) (λst k=>k _ st) (λ{X i p s σ H E Q}c d f g I st j q=>by subst c d f;erw[(Walks.range (prog:=X.prog) (w:=X.w) (I.ok.hd g) a lo 1 n).item i s _ _ j st λv l T m r u=>?_];let(t,rfl):=m;rwa[q _ (.I (lo+i)) l T (t,by rw[Int.mul_one]) (Ŗ,Ŗ) r λb o x e=>u b o (by simpa using x) e]) (λc d f g I st j q=>by subst c d f;rwa[wpAny_pyNext_range_end (I.ok.hd g) st (by let:=j;rwa[Int.sub_nonpos_of_le (Int.ofNat_le.mpr this)]) q]) λst h=>wpAny_pyIter_rangeiter st h
def Ol{p:Ł _}{σ:È}{E:c9}{lo:Î}(I:Inv X p σ H s)(a:-2^62<=lo)(c:lo<2^62)(d:-2^62<=h)(f:h<2^62)(q:R (sY lo (h-lo).toNat) H):bv (b' X.prog X.w) X.A (pyIter (.ref s.heap.objs.size)) (Fc X p σ tg R) E {s with heap:=s.heap.push {cls:=.type "range",data:=.fields #[.int lo t,.int h u,.int 1 v]},toks:=T}:=by
 erw[wpAny_pyIter_range (IsRange.new ..) (small_one a c d f) ?_];let i:Inv X _ σ H {s with heap:=s.heap.push {cls:=.type "range",data:=.fields #[.int lo t,.int h u,.int 1 v]},toks:=T}:=I.kept λb o e=>ae _ e;erw[(_,_,_,_,H,Ŗ,i.kept λb o e=>ae _ e,EM _ lo _,?_,λb g=>?_,q)]
 .let j:lo+(0:Ń)*1=lo:=⋯
  let k:(h-lo).toNat-(0:Ń)=Builtin.Range.rangeSize lo h 1:=by rw[rangeSize_one];split<;>lia
  rw[j,k];rwa[ar _ Ŗ]
 .let e:b=(s.heap.push {cls:=.type "range",data:=.fields #[.int lo t,.int h u,.int 1 v]}).objs.size:=by simpa using g
  subst e;rwa[i.AX (aq _) (i.cV.fresh (aq _))]
def adD(t:TA):TI:=λσ H R=>t σ H λv h=>∃j:Î,v=[.I j]/\-2^62<=j/\j<2^62/\R (sY 0 j.toNat) h
def IS(g:Gl X "range")(m:X.mg "range"=ao)(b:PA X [a] T)(c:ø (c7 [a] X.env=[(bb,Ê a X.env)]) o0):PI X tg (.Call (.Name "range" p) [a] [] pos) (adD T):=by intro P s σ H R I h;erw[Call_ (l8 I g m boot_range (dc (Qf (b pos _ s σ H _ I h) λu s1 v l i d Q=>?_) c Ŗ))];let(j,e,Q,f,q):=Q;subst e;cases d with|g r k=>cases k;let(t,rfl):=r;rwa[call_range_1 (Ol i () () Q f (by simpa using q))]
def JP(wi:TI)(g:TG)(t:TS):TS:=λD σ H=>wi σ H λj c=>∃W:Ń->Ń->È->Hp->ß,(∃m,W 0 m σ c)/\∀i m σ H,W i m σ H->j.stop i H/\D.nx σ H\/j.go i H/\∃N:È->Hp->ß,(∀a h,N a h->∃M,M<m/\W (i+1) M a h)/\∀x h,j.yld i H x h->g x σ h λb d=>t {D with nx:=N,ct:=N,bk:=D.nx} b d
def vp(f:Ł À)(h:Ç):c6:=f.filterMap λb=>(h.get? b).map λo=>(b,o)
def jJ(H:b∈f)(e:h.get? b=O o):(b,o)∈vp f h:=nY.mpr (b,H,by rw[e];rfl)
def ID(H:p∈vp f h):p.1∈f/\h.get? p.1=O p.2:=by let(b,a,e):=nY.mp H;cases q:h.get? b with|a=>left|c o=>rw[q]at e;let E:=dM e;subst E;exact(a,q)
def Inv.pinned{P:Ł _}{σ:È}(I:Inv X P σ H s)(a:∀b∈f,kY X P H b)(c:∀b∈f,∃o,s.heap.get? b=O o/\∀v,o.data≠.cell v):Inv X (P++vp f s.heap) σ H s:=I.Gw λp g=>(eR.mp g).elim (λz=>I.pin p (bG _ z)) λz=>by let(h,e):=ID z;let(F,i,j,_):=a p.1 h;let(o,E,d):=c p.1 h;rw[e]at E;cases E;exact(e,F,i,j,d)
def Inv.lF{P:Ł _}{σ:È}(I:Inv X (P++l) σ H s):Inv X P σ H s:=I.Gw λp h=>I.pin p (bG _ (il _ h))
def Ea(t:PassesOwn (b' X.prog X.w) X.A X.env X.xe)(hc:X.calm)(hi:PI X tg iter wi)(hg:PG X tg g)(c:jZ X B Z)(hs:ø (∀x,hB iter X.env x=pure x) hH):PS X (.For tg iter B [] pos) (JP wi g Z):=by
 intro P s σ H D I h;erw[wpAny_For (iD (hi _ s σ H _ I h) λv s1 h1=>iD h1 λitv s2 h2=>cps λR k0=>?_) hs];obtain⟨it,F,tn,j,H2,e,I2,T,Qe,f2,W,⟨m0,w0⟩,y⟩:=h2;subst e;let L:∀{H':Hp},(∀b∈F,H' b=ao)->∀b∈F,kY X _ H' b:=λhn b c=>(hn b c,(f2 b c).2);erw[k0 (codeAny_forLoop_any (λn s'=>∃i k H',Inv X _ k H' s'/\tn i s'.heap/\(∀b∈F,H' b=ao)/\W i n k H') ?_ m0 (0,σ,H2,I2,Qe,λb c=>(f2 b c).1,w0))];erw[λn s3 z=>cps λR k1=>?_];let(i,l,K,I3,C,E,w3):=z;rcases y i n l K w3 with ⟨stop,qn⟩|⟨go,N,hN,step⟩;.erw[k1 (gU t (iD (T.done X rfl rfl rfl hc i _ s3 l K _ I3 (L E) C stop) λr s4 (M,I4)=>?_))];subst M;rwa[gT (l,K,I4,qn)]
 .erw[k1 (gU t (iD (T.item X rfl rfl rfl hc i _ s3 l K _ I3 (L E) C go) λr s4 (u,M,h4)=>?_))];subst M;erw[gU t (iD h4 λ_ s5 x=>?_)];let(x,H5,I5,r5,y5,S,U):=x;erw[gU t (iD (hg _ s5 l H5 x u _ (I5.pinned (L U) (T.obj _ _ S)) r5 (step x H5 y5)) λ_ s6 Y=>?_)];let(Y,H6,I6,q6):=Y;erw[gU t (iD (c _ s6 Y H6 _ I6 q6) λf s7 Q=>?_)];let again:∀{a:È}{p:Hp},Inv X (P++vp F _) a p s7->N a p->∃m,m<n/\∃i k H',Inv X _ k H' s7/\tn i _/\(∀b∈F,H' b=ao)/\W i m k H':=λ{a p}q G=>by let(m',hm,w7):=hN a p G;erw[(m',hm,_,a,p,q.lF,T.keep _ _ _ S λb c o e=>(q.pin _ (bG _ (bG _ (jJ c e)))).1,λb c=>?_,w7)];let(o,e,d):=T.obj _ _ S b c;exact(q.pin _ (bG _ (bG _ (jJ c e)))).2.1
  cases f with|next=>let(a,p,q,G):=Q;rwa[again q G]|cont=>let(a,p,q,G):=Q;rwa[again q G]|brk=>let(a,p,q,Q):=Q;exact(a,p,q.lF,Q)|ret v=>let(x7,a,p,q,r7,Q):=Q;exact(x7,a,p,q.lF,r7,Q)
abbrev R2:=V->V->Hp->VK->ß
def kZ(X:Cx)(f:Â->Â->Sem Â)(r:R2):ß:=∀(p:Ł _)(s:am)(σ:È)(H:Hp)(x y:V)(v u:Â)(Q:VK),Inv X p σ H s->RelV x v->RelV y u->r x y H Q->bv (b' X.prog X.w) X.A (f v u) (EP X p σ Q) X.xe s
def vx(X:Cx)(f:Â->Sem Â)(r:V->Hp->VK->ß):ß:=∀(p:Ł _)(s:am)(σ:È)(H:Hp)(x:V)(v:Â)(Q:VK),Inv X p σ H s->RelV x v->r x H Q->bv (b' X.prog X.w) X.A (f v) (EP X p σ Q) X.xe s
def fi(X:Cx)(f:Â)(r:ϕ->Hp->VK->ß):ß:=∀(p:Ł _)(s:am)(σ:È)(H:Hp)(x:ϕ)(u:Ł _)(Q:VK),Inv X p σ H s->Vals x u->r x H Q->bv (b' X.prog X.w) X.A (call f u) (EP X p σ Q) X.xe s
def oa(r:R2)(t T:TE):TE:=λσ H Q=>t σ H λx h=>T σ h λy a=>r x y a Q
def ŭ(r:V->Hp->VK->ß)(t:TE):TE:=λσ H Q=>t σ H λx h=>r x h Q
def rI(C:Î->Î->ß)(g:Î->Î->V):R2:=λx y H Q=>∃i j,x=.I i/\y=.I j/\C i j/\Q (g i j) H
def Ek(g:Î->Î->V):R2:=λx y H Q=>∃i j,x=.I i/\y=.I j/\Q (g i j) H
def rU(g:Î->V):V->Hp->VK->ß:=λx H Q=>∃i,x=.I i/\Q (g i) H
def X8(i:PE X a ta)(j:PE X b tb){p:Ł _}{σ:È}{R:V->V->Hp->ß}(I:Inv X p σ H s)(h:ta σ H λx g=>tb σ g λy d=>R x y d){Q:c9}{f:Â->Â->Sem _}(k:∀v u s2 x y d,Inv X p σ d s2->RelV x v->RelV y u->R x y d->bv (b' X.prog X.w) X.A (f v u) Q X.xe s2):bv (b' X.prog X.w) X.A (Ê a X.env) (λv S=>bv (b' X.prog X.w) X.A (Ê b X.env) (λu e=>bv (b' X.prog X.w) X.A (f v u) Q X.xe e) X.xe S) X.xe s:=by rwa[jf (i _ s σ H _ I h) λv s1 x g l r q=>jf (j _ s1 σ g _ l q) λu s2 y d m n o=>k v u s2 x y d m r n o]
def ϴ(d:kZ X (binaryOp o) r)(e:PE X a ta)(f:PE X b tb):PE X (.BinOp a o b pos) (oa r ta tb):=by intro p s σ H Q I h;rwa[wpAny_BinOp (X8 e f I h λv u s2 x y g i R j q=>d _ s2 σ g x y v u Q i R j q)]
def Xg(d:vx X (unaryOp o) r)(e:PE X a ta):PE X (.UnaryOp o a pos) (ŭ r ta):=by intro p s σ H Q I h;rwa[UnaryOp_ (iD (e _ s σ H _ I h) λv s1 z=>by let(x,f,i,R,q):=z;rwa[d _ s1 σ f x v Q i R q])]
def BC{g:Î->Î->Î}(rule:∀(i j:Î)(t u:Tok)(s:am)(Q:c9)(E:c9),C i j->Q (.int (g i j) s.toks) {s with toks:=s.toks+1}->bv (b' X.prog X.w) X.A (f (.int i t) (.int j u)) Q E s):kZ X f (rI C λi j=>.I (g i j)):=by intro p s σ H x y v u Q I r R h;let(i,j,rfl,rfl,d,q):=h;let(t,rfl):=r;let(T,rfl):=R;rwa[rule i j t T s _ _ d (.I _,H,I.tok _,(_,Ŗ),q)]
def ż{g:Î->Î->Î}(rule:∀(i j:Î)(t u:Tok)(s:am)(Q:c9)(E:c9),Q (.int (g i j) s.toks) {s with toks:=s.toks+1}->bv (b' X.prog X.w) X.A (f (.int i t) (.int j u)) Q E s):kZ X f (Ek λi j=>.I (g i j)):=by intro p s σ H x y v u Q I r R h;let(i,j,rfl,rfl,q):=h;let(t,rfl):=r;let(T,rfl):=R;rwa[rule i j t T s _ _ (.I _,H,I.tok _,(_,Ŗ),q)]
def Td{g:Î->Î->Þ}(rule:∀(i j:Î)(t u:Tok)(s:am)(Q:c9)(E:c9),Q (.bool (g i j)) s->bv (b' X.prog X.w) X.A (f (.int i t) (.int j u)) Q E s):kZ X f (Ek λi j=>.B (g i j)):=by intro p s σ H x y v u Q I r R h;let(i,j,rfl,rfl,q):=h;let(t,rfl):=r;let(T,rfl):=R;rwa[rule i j t T s _ _ (.B _,H,I,Ŗ,q)]
def ĵ(i j:Î):ß:=0<j/\j<1073741824
def Ko(i j:Î):ß:=-2^64<i/\i<2^64\/-2^64<j/\j<2^64
def Ko.ok(h:Ko i j):IntMulOk i j:=by
 rcases h with ⟨H,d⟩|⟨H,d⟩;.rwa[.of_left (intBits_le_64 H d)]
 .rwa[.of_right (intBits_le_64 H d)]
def t_:kZ X (binaryOp .Add) (Ek λi j=>.I (i+j)):=ż λ_ _ _ _ _ _ _ q=>add_int q
def D_:kZ X (binaryOp .Sub) (Ek λi j=>.I (i-j)):=ż λ_ _ _ _ _ _ _ q=>sub_int q
def z_:kZ X (binaryOp .Mult) (rI Ko λi j=>.I (i*j)):=BC λ_ _ _ _ _ _ _ h q=>mul_int q h.ok
def Ti:kZ X (binaryOp .FloorDiv) (rI ĵ λi j=>.I (i/j)):=BC λi j _ _ _ _ _ h q=>by let h1:=h.1;let h2:=h.2;rwa[floordiv_int () (by rw[Int.fdiv_eq_ediv_of_nonneg i ()];rwa[q]) (.inl (PyProof.noPylong_small ()))]
def y_:kZ X (binaryOp .Mod) (rI (λ_ j=>0<j) λi j=>.I (i%j)):=BC λi j _ _ _ _ _ h q=>by rwa[mod_int' () (by rw[Int.fmod_eq_emod_of_nonneg i ()];rwa[q])]
def unI{g:Î->Î}(rule:∀(i:Î)(t:Tok)(s:am)(Q:c9)(E:c9),Q (.int (g i) s.toks) {s with toks:=s.toks+1}->bv (b' X.prog X.w) X.A (f (.int i t)) Q E s):vx X f (rU λi=>.I (g i)):=by intro p s σ H x v Q I r h;let(i,rfl,q):=h;let(t,rfl):=r;rwa[rule i t s _ _ (.I _,H,I.tok _,(_,Ŗ),q)]
def Po:vx X (unaryOp .USub) (rU λi=>.I (-i)):=unI λ_ _ _ _ _ q=>neg_int q
def Ϛ:kZ X (compareOp .Lt) (Ek λi j=>.B (Đ (i<j))):=Td λ_ _ _ _ _ _ _ q=>lt_int q
def aeE:kZ X (compareOp .LtE) (Ek λi j=>.B (Đ (i<=j))):=Td λ_ _ _ _ _ _ _ q=>le_int q
def aeD:kZ X (compareOp .Gt) (Ek λi j=>.B (Đ (j<i))):=Td λ_ _ _ _ _ _ _ q=>gt_int q
def aeC:kZ X (compareOp .GtE) (Ek λi j=>.B (Đ (j<=i))):=Td λ_ _ _ _ _ _ _ q=>ge_int q
def kZ.or(h:kZ X f r)(h':kZ X f R):kZ X f λx y H Q=>r x y H Q\/R x y H Q:=by
 intro p s σ H x y v u Q I d e q;rcases q with q|q;.rwa[h _ s σ H x y v u Q I d e q]
 .rwa[h' _ s σ H x y v u Q I d e q]
def Tu(d:kZ X (compareOp o) r)(e:PE X a ta)(f:PE X b tb)(m:gn o b=bb):PE X (.Compare a [o] [b] pos) (oa r ta tb):=by intro p s σ H Q I h;rwa[wpAny_Compare1 (X8 e f I h λv u s2 x y g i R j q=>d _ s2 σ g x y v u Q i R j q) m]
def afT(t:TE):TT:=λσ H Q=>t σ H λx h=>∃k,x=.B k/\Q k h
def GC(d:kZ X (compareOp o) r)(f:PE X a ta)(g:PE X b tb)(m:gn o b=bb):PT X (.Compare a [o] [b] pos) (afT (oa r ta tb)):=by intro p s σ H Q I h;erw[F5 (jf (f _ s σ H _ I h) λv s1 x i j R q=>jf (g _ s1 σ i _ j q) λu s2 y l n t w=>jf (d _ s2 σ l x y v u _ n R t w) λc S z A B C (k,e,D)=>?_) m];subst e;cases C;rwa[fQ (A,B,D)]
def OX(r R:R2)(ta tb tc:TE):TE:=λσ H Q=>ta σ H λx d=>tb σ d λy e=>r x y e λz h=>∃k,z=.B k/\if k=J then tc σ h λw f=>R y w f Q else Q (.B bb) h
def Nt{X:Cx}{a b c:Ä}{ta tb tc:TE}{pos:Ó}{p o:CmpOp}{r R:R2}(j:kZ X (compareOp p) r)(l:kZ X (compareOp o) R)(m:PE X a ta)(n:PE X b tb)(t:PE X c tc)(w:lastMarks [p,o] [b,c]=false:=by with_unfolding_all rfl):PE X (.Compare a [p,o] [b,c] pos) (OX r R ta tb tc):=by intro P s σ H Q I h;erw[Compare_chain (jf (m _ s σ H _ I h) λv s1 x A C D E=>chain_link (jf (n _ s1 σ A _ C E) λu s2 y F G f K=>jf (j _ s2 σ F x y v u _ G D f K) λd S z g i L (k,e,q)=>?_)) w];subst e;cases L;erw[fQ ?_];cases k with|e=>rwa[ite_ff (.B _,g,i,Ŗ,q)]|d=>rwa[ite_tt (chain_last (iD (t _ S σ g _ i q) λW M Z=>by let(N,T,U,Y,q4):=Z;rwa[l _ M σ T y N u W Q U f Y q4]))]
def rH:Ã<2^63:=∅
def D3:kZ X (binaryOp .Add) λx y H Q=>∃i j,x=.S i/\y=.S j/\i.length+j.length<=Ã/\Q (.S (i++j)) H:=by intro p s σ H x y v u Q I r R h;let(i,j,rfl,rfl,z,q):=h;let(t,rfl):=r;let(T,rfl):=R;rwa[add_str (λT k=>(.S _,H,I.tok _,(_,Ŗ),q)) z]
def B8(r:Vals [x] us):∃u,us=[u]/\RelV x u:=by cases r with|g R d=>cases d;exact(_,Ŗ,R)
def Hu:fi X (.type "int") λxs H Q=>(∃i,xs=[.I i]/\Q (.I i) H)\/∃k,xs=[.B k]/\Q (.I (if k then 1 else 0)) H:=by
 intro p s σ H xs U Q I r h;rcases h with ⟨i,rfl,q⟩|⟨k,rfl,q⟩;.let(u,rfl,t,rfl):=B8 r;rwa[call_int_int (.I i,H,I,(_,Ŗ),q)]
 .let(u,rfl,R):=B8 r;cases R;rwa[call_int_bool (.I _,H,I.tok _,(_,Ŗ),q)]
structure Ce(h:Ç)(x dx C:À)(mA:c4):ß where
 obj:h.get? x=O (instObj C dx)ns:h.Ns1 dx mA
 ne:dx≠x
def IA{h:Ç}(n:h.Ns1 d m):∃b,h.get? d=O b/\∀name,lookIn name b=O (m name):=by
 let(o,E,p,H,c,k,_,f):=n;erw[(o,H,λname=>?_)];let e:=f name;delta nsFind findBy at e;rw[<-Ag]at e;delta lookIn;rw[c];dsimp only;split;.ext y q;rw[q]at e;rwa[cb _ e]
 .ext q;rw[q]at e;let a:E.toList.any (·.refKey)=false:=by rw[B1];intro y g;let(z,t,w):=k y (ZB.mp g);simp[DictEntry.refKey,w]
  rw[bN (by rw[a];rwa[aD])];rwa[cb _ e]
def Ce.look{m:Æ->Ő _}(I:Ce h x d C m):∃o,PySem.W.InstAt h x (instObj C d) C (O o)/\∀name,lookIn name o=O (m name):=let (o,H,l):=IA I.ns;(o,(I.obj,Ŗ,Ŗ,H),l)
def RS{E:c9}{K:Å}{Q:c9}(X:K.In s.heap)(I:Ce s.heap x dx C mA)(g:plainGet K C name)(a:hasDictIn K C)(b:findIn K (.ref C) name=O ao)(c:mA name=O v)(H:handedIn v)(h:Q v {s with toks:=s.toks+1}):bv (b' prog w) A (getAttr (.ref x) name e) Q E s:=by let(o,j,l):=I.look;rwa[PySem.W.get_value X j (x6 g).1 (PySem.W.findObj_own a b Ŗ nofun) H h]
def LK{E:c9}{K:Å}(X:K.In s.heap)(I:Ce s.heap x dx C mA)(H:plainGet K C name)(a:findIn K (.ref C) name=O (O (.ref f)))(t:isFn K (.ref f))(b:mA name=ao)(h:Q (.ref f,[.ref x]) s):bv (b' prog w) A (getMethod (.ref x) name p) Q E s:=by let(o,j,l):=I.look;rwa[PySem.W.method_fn X j (x6 H).1 (x6 H).2 a (sE.mp t) (by show(lookIn _ o).map _=O _;rw[l,b];rfl) h]
def U4{E:c9}{K:Å}(X:K.In s.heap)(I:Ce s.heap x dx C mA)(d:findIn K (.ref C) "__setattr__"=O (O (.builtin "object.__setattr__")))(p:plainOver K C)(t:takerIn K C name=O ao)(e:hasDictIn K C)(g:Ĕ mA ns)(m:Á ns<=Ã)(h:∀h',Ce h' x dx C (λy=>if y=name then O v else mA y)->Ý dx s.heap h'->Q ⟨⟩ {s with heap:=h',toks:=s.toks+2}):bv (b' prog w) A (setAttr (.ref x) name v) Q E s:=by let(o,j,n):=I.look;erw[PySem.W.set_plain X j d (PySem.W.osa_open X j p t λb=>?_)];let(q,i,B):=PySem.W.any_some e;erw[aa (ah (aa (aa (wpAny_loadPart I.obj (aa (Looks.here (PySem.W.looks_clsIn X i) ?_))))))];rw[B];erw[ah (aa (ah (aa ?_)))];erw[wpAny_nsSet1 I.ns λh' Z H=>?_];let(r,k,l,D,a,c):=Z.count (PySem.Within.cons _ v g);rwa[aa (wpAny_lookBehind D (by rw[a];rwa[pastItsLine_dict (aA c nofun)]) (ah (h _ ((H.2 _ (cI I.ne)).trans I.obj,Z,I.ne) H)))]
def MT{s:am}{K:Å}(X:K.In s.heap)(H:makesIn K C)(i:findIn K (.ref C) "__init__"=O (O (.ref f)))(a:typeIn K (.ref f)=O (.type "function"))(h:eq (b' prog w) (A.under (.builtin "type.__call__" (.ref C::vs,k))) (.call (.ref f) (.ref (s.heap.objs.size+1)::vs,k)) (PySem.W.InitBack (s.heap.objs.size+1) R) {s with heap:=(s.heap.push emptyDict).push (instObj C s.heap.objs.size)}):eq (b' prog w) A (.call (.ref C) (vs,k)) R s:=by rwa[PySem.W.make_core (PySem.W.makes_of X H) (PySem.W.looks_findIn X i) (λself=>PySem.W.bind_fn X _ a) (.inl Ŗ) h]
def jr(f:Æ)(v:V):Ł (Æ×V)->Ł (Æ×V)|[]=>[(f,v)]|(g,x)::r=>if g=f then(g,v)::r else(g,x)::jr f v r
theorem su(f g:Æ)(v:V):∀fs:Ł _,(jr f v fs).lookup g=if g=f then O v else fs.lookup g
 |[]=>by
  show List.lookup g [(f,v)]=_;by_cases h:g=f;.grind
  .grind|(k,x)::r=>by
  let i:=su f g v r;rw[show jr f v _=if k=f then(k,v)::r else(k,x)::jr f v r from Ŗ];by_cases H:k=f;.grind
  .grind
theorem rF(f:Æ)(v:V):∀fs:Ł _,f∈(jr f v fs).map (·.1)/\∀g,g∈fs.map (·.1)->g∈(jr f v fs).map (·.1)
 |[]=>(by simp[jr],λg h=>by grind)|(k,x)::r=>by
  let(i,I):=rF f v r;rw[show jr f v _=if k=f then(k,v)::r else(k,x)::jr f v r from Ŗ];by_cases H:k=f;.grind
  .grind
theorem so(f:Æ)(v:V):∀fs:Ł _,Á (jr f v fs)<=Á fs+1
 |[]=>by simp[jr]|(k,x)::r=>by
  let i:=so f v r;rw[show jr f v _=if k=f then(k,v)::r else(k,x)::jr f v r from Ŗ];by_cases h:k=f;.grind
  .grind
def mz.some_of(r:mz (O v) o):∃u,o=O u/\RelV v u:=by cases o with|a=>exact(r).elim|c u=>exact(u,Ŗ,r)
def mz.none_of(r:mz ao o):o=none:=by cases o with|a=>rfl|c u=>exact(r).elim
def Ih(r:RelV v u):handedIn u=true:=by cases v with|g9=>cases r;rfl|B b=>cases r;rfl|I i=>let(t,e):=r;cases e;rfl|S x=>let(t,e):=r;cases e;rfl|byt b=>let(t,e):=r;cases e;rfl|RE b=>let(t,e):=r;cases e;rfl|A a=>cases r;rfl|ty n=>cases r;rfl
def tY(c:jY P w H h)(e:H a=O (.ins C dx fs)):∃m,Ce h a dx C m/\(∀f,mz (fs.lookup f) (m f))/\Ĕ m (fs.map (·.1))/\Á fs<=1000/\H dx=O (.own a):=by let(d,z,N,o,m,n,r,q):=c a _ e;exact(m,(o,n,N),r,q,z,d)
structure J7(K:Å)(C:À):ß where
 pg:plainGet K C Str.empty=J
 hd:hasDictIn K C=J
 po:plainOver K C=J
 sa:findIn K (.ref C) "__setattr__"=O (O (.builtin "object.__setattr__"))
def J7.get{K:Å}(c:J7 K C)(f:Æ):plainGet K C f=true:=c.pg
def mQ(K:Å)(C:À)(f:Æ):ß:=findIn K (.ref C) f=O ao
def mQ.afW{K:Å}(n:mQ K C f):takerIn K C f=O none:=by delta takerIn;rw[n];rfl
structure yc(K:Å)(C:À)(m:Æ)(f:À):ß where
 at_:findIn K (.ref C) m=O (O (.ref f))fn:isFn K (.ref f)=J
 kp:keepIn K (.ref f)=J
def Dm{σ:È}{E:c9}{Q:c9}(I:Inv X be σ H s)(e:H a=O (.ins C dx fs))(c:J7 X.K C)(n:mQ X.K C f)(l:fs.lookup f=O v)(h:∀u s',Inv X be σ H s'->RelV v u->Q u s'):bv (b' X.prog X.w) A (getAttr (.ref a) f b) Q E s:=by let(m,o,r,_,_,_):=tY I.cV e;let(u,hu,R):=mz.some_of (by rw[<-l];rwa[r f]);rwa[RS I.kr o (c.get f) c.hd n hu (Ih R) (h u _ (I.tok _) R)]
def uW{σ:È}{E:c9}(I:Inv X be σ H s)(e:H a=O (.ins C dx fs))(c:J7 X.K C)(k:yc X.K C m g)(l:fs.lookup m=ao)(h:Q (.ref g,[.ref a]) s):bv (b' X.prog X.w) A (getMethod (.ref a) m p) Q E s:=by let(M,o,r,_,_,_):=tY I.cV e;rwa[LK I.kr o (c.get m) k.at_ k.fn (mz.none_of (by rw[<-l];rwa[r m])) h]
def Et{σ:È}{E:c9}(I:Inv X be σ H s)(e:H a=O (.ins C dx fs))(c:J7 X.K C)(n:mQ X.K C f)(t:Á fs<1000)(R:RelV y u)(h:∀s',Inv X be σ (de H a (.ins C dx (jr f y fs))) s'->Q ⟨⟩ s'):bv (b' X.prog X.w) A (setAttr (.ref a) f u) Q E s:=by
 let(m,d,r,wi,_,j):=tY I.cV e;erw[U4 I.kr d c.sa c.po n.afW c.hd wi (by rw[af,jx];rwa[aA ‹_› ∅]) λx i S=>h _ ?_];erw[I.write (by rw[e];rwa[å]) (.inr j) (λb q k z=>(S.2 b k).trans z) (let (o,_,_,l,_):=i.ns;(o,l)) ?_];erw[(by rw[bw d.ne];rwa[j],?_,d.ne,i.obj,_,i.ns,λg=>?_,λg p=>?_)];.let:=so f y fs;rwa[aA ‹_› ‹_›]
 .rw[su];by_cases q:g=f;.rw[bV q,bV q];rwa[R]
  .rw[bN q,bN q];rwa[r g]
 .by_cases q:g=f;.rw[q];exact(rF f y fs).1
  .erw[(rF f y fs).2 g (wi g λz=>p ?_)];show(if g=f then O u else m g)=ao;rw[bN q];rwa[z]
def Inv.made{σ:È}(I:Inv X be σ H s):Inv X be σ (de (de H s.heap.objs.size (.own (s.heap.objs.size+1))) (s.heap.objs.size+1) (.ins C s.heap.objs.size [])) {s with heap:=(s.heap.push emptyDict).push (instObj C s.heap.objs.size)}:=by let c:(s.heap.push emptyDict).get? _=O _:=ar _ Ŗ;erw[(I.laid (o:=.own (s.heap.objs.size+1)) (t':=s.toks) (λb u q=>ae _ q) (aq _) (_,c)).laid (λb u q=>ae _ q) (eI (dI _ _)) ?_];let n:s.heap.objs.size≠s.heap.objs.size+1:=aF (gq _);exact(by rw[bw n,bA],cw _,n,by let:=ar (s.heap.push emptyDict) (o:=instObj C s.heap.objs.size) Ŗ;rw[dI]at this;assumption,_,(Heap.Ns1.of_empty (_,#[],_,c,Ŗ,λe h=>Ă h ⋯,λ_=>Ŗ)).at λo q=>ae _ q,λ_=>å,λy d=>Ă Ŗ d)
def Fb{E:c9}{Q:c9}(b:ft e f env (Ê e env)=Ê e env)(h:bv (b' prog w) A (Ê e env) (λo S=>bv (b' prog w) A (getAttr o f J) Q E S) E s):bv (b' prog w) A (Ê (.Attribute e f pos) env) Q E s:=Attribute_any_ h (by rw[arm_eval_Attribute,b])
def ali(K:Å)(t:TE)(f:Æ):TE:=λσ H Q=>t σ H λx h=>∃a C d fs v,x=.A a/\h a=O (.ins C d fs)/\J7 K C/\mQ K C f/\fs.lookup f=O v/\Q v h
def ţ(K:Å)(t T:TE)(f:Æ):TS:=λD σ H=>T σ H λy b=>t σ b λx h=>∃a C d fs,x=.A a/\h a=O (.ins C d fs)/\J7 K C/\mQ K C f/\Á fs<1000/\D.nx σ (de h a (.ins C d (jr f y fs)))
def I_(b:PE X e ta)(d:ft e f X.env (Ê e X.env)=Ê e X.env):PE X (.Attribute e f pos) (ali X.K ta f):=by intro p s σ H Q I h;erw[Fb d (jf (b _ s σ H _ I h) λu s1 x g i r a=>?_)];let(a,C,D,fs,v,ex,E,c,n,l,q):=a;subst ex;obtain rfl:u=Ò a:=r;rwa[Dm i E c n l λU s2 j R=>(v,g,j,R,q)]
def δ(b:PE X o ta)(v:PE X ed tv)(d:g7 ed (O (.Attribute o f pos')) pos.line X.env=pure bb):PS X (.Assign [.Attribute o f pos'] ed pos) (ţ X.K ta tv f):=by intro p s σ H D I h;erw[EZ (jf (v _ s σ H _ I h) λu s1 y g i r q=>jf (b _ s1 σ g _ i q) λj s2 x t k R a=>?_) d];let(a,C,w,fs,ex,E,c,n,l,Q):=a;subst ex;obtain rfl:j=Ò a:=R;rwa[Et k E c n l r λS m=>(σ,_,m,Q)]
section
variable{X:Cx}{be:c6}{σ:È}{H:Hp}{s:am}{A:cp}{E:c9}{Q:c9}{c:Â}{b:Þ}
inductive rf(K:Å)(H:Hp):V->Â->ß where|g9:rf K H .g9 (.type "NoneType")|bl(x:Þ):rf K H (.B x) (.type "bool")|int(i:Î):rf K H (.I i) (.type "int")|str(x:Æ):rf K H (.S x) (.type "str")|RE(x:UInt64):rf K H (.RE x) (.type "float")|lst{a:À}{xs:ϕ}(e:H a=O (.L xs)):rf K H (.A a) (.type "list")|mE{a:À}{o:Ú}{xs:ϕ}(e:H a=O (.mE o (.L xs))):rf K H (.A a) (.type "list")|tup{a:À}{xs:ϕ}(e:H a=O (.T xs)):rf K H (.A a) (.type "tuple")|dK{a:À}{aO:Ł (cs×V)}(e:H a=O (.dK aO)):rf K H (.A a) (.type "dict")|dT{a:À}{aO:Ł (Ł cs×V)}(e:H a=O (.dT aO)):rf K H (.A a) (.type "dict")|ins{a C dx:À}{fs:Ł (Æ×V)}(e:H a=O (.ins C dx fs))(cl:J7 K C)(ha:findIn K (.ref C) "__class__"=O (O (.builtin "object.__class__")))(hn:PySem.W.specialIn K (.builtin "object.__class__") "__get__"=O (O (.builtin "getset_descriptor.__get__")))(htk:PySem.W.takesIn K (.builtin "object.__class__")=O J)(hm:mroIn K C (.type "object")=O J):rf K H (.A a) (.ref C)
def Ip(I:Inv X be σ H s)(r:RelV x u)(ty:rf X.K H x t)(e:kitOne X.K t c=O b)(h:∀T,Q (.bool b) {s with toks:=T}):bv (b' X.prog X.w) A (call (.builtin "isinstance") [u,c]) Q E s:=by cases ty with|g9=>cases r;rwa[dq PySem.W.kitx_none I.kr å e (λz=>nomatch z) h]|bl y=>cases r;rwa[dq PySem.W.kitx_bool I.kr å e (λz=>nomatch z) h]|int i=>let(t,q):=r;cases q;rwa[dq PySem.W.kitx_int I.kr å e (λz=>nomatch z) h]|str y=>let(t,q):=r;cases q;rwa[dq PySem.W.kitx_str I.kr å e (λz=>nomatch z) h]|RE y=>let(t,q):=r;cases q;rwa[dq PySem.W.kitx_float I.kr å e (λz=>nomatch z) h]|@lst a l f=>cases show u=Ò a from r;let(_,_,n,_,g):=I.cV a _ f;rwa[dq PySem.W.kitx_list I.kr (_,g,Ŗ) e (λz=>nomatch z) h]|@mE a L l f=>cases r;let(_,_,_,n,_,g):=I.cV a _ f;rwa[dq PySem.W.kitx_list I.kr (_,g,Ŗ) e (λz=>nomatch z) h]|@tup a l f=>cases show u=Ò a from r;let(_,_,_,p):=I.cV a _ f;let(o,g,k,_):=p;rwa[dq PySem.W.kitx_tuple I.kr (o,g,k) e (λz=>nomatch z) h]|@dK a v f=>cases show u=Ò a from r;let(_,_,M,_,p):=I.cV a _ f;let(o,B,D,g,k,_):=p;rwa[dq PySem.W.kitx_dict I.kr (o,g,k.1) e (λz=>nomatch z) h]|@dT a v f=>cases show u=Ò a from r;let(_,_,l,_,o,B,D,g,k,_):=I.cV a _ f;rwa[dq PySem.W.kitx_dict I.kr (o,g,k.1) e (λz=>nomatch z) h]|@ins a C N fs f cl F hn m G=>cases r;let(P,d,_):=tY I.cV f;let(R,j,_):=d.look;rwa[dq (PySem.W.kitx_own (cl.get _) cl.hd F hn m G) I.kr j e (λz=>nomatch z) h]
end
structure fe(k:Ń)(A:cp):ß where
 hd:A.handled=ao
 dp:A.depth+3*k+5<recursionLimit
 un:A.units+16*k+200<Ï
def fe.mono(r:fe k A)(h:j<=k):fe j A:=(r.hd,by let:=r.dp;lia,by let:=r.un;lia)
theorem fe.deeper(r:fe (k+1) A)(env:Û):fe k (A.deeper env):=(r.hd,by let:=r.dp;show A.depth+1+3*k+5<_;lia,by let:=r.un;show A.units+3+16*k+200<_;lia)
def DT{A:cp}:(A.under (.builtin "type.__call__" (.ref C::us,k))).depth=A.depth+1:=rfl
def DU{A:cp}:(A.under (.builtin "type.__call__" (.ref C::us,k))).units=A.units+1:=rfl
def fe.make(r:fe (k+1) A)(C:À)(us:Ł _)(K:Ł _):fe k (A.under (.builtin "type.__call__" (.ref C::us,K))):=(r.hd,by let:=r.dp;rw[DT];lia,by let:=r.un;rw[DU];lia)
theorem fe.depth(r:fe k A):A.depth<recursionLimit:=by let:=r.dp;lia
def Fa:TA:=λ_ H Q=>Q [] H
def OY(t:TE)(T:TA):TA:=λσ H Q=>t σ H λx h=>T σ h λX a=>Q (x::X) a
def kD:PA X [] Fa:=λ_ _ _ _ H Q I h=>fN ([],H,I,.nil,h)
def Gs(a:PE X e te)(r:PA X es t)(b:ø (c7 (e::es) X.env=(bb,Ê e X.env)::c7 es X.env) o0):PA X (e::es) (OY te t):=by intro pos p s σ H Q I h;rw[b];show bv _ _ (spliced ((bb,Ê e _)::em pos _)) _ _ s;rwa[dh (iD (a _ s σ H _ I h) λu s1 z=>by let(x,c,i,R,q):=z;exact(iD (r pos _ s1 σ c _ i q) λU s2 z=>by let(k,d,f,g,j):=z;exact(_,d,f,.cons R g,j)))]
def Ţ(t:TA):TE:=λσ H Q=>t σ H λx h=>Á x<=Ã/\∀p,h p=ao->Q (.A p) (de h p (.T x))
def CF(t:TA):TE:=λσ H Q=>t σ H λx h=>Á x<=Ã/\∀p,h p=ao->Q (.A p) (de h p (.L x))
def NG{x}(h:PA X es t):PE X (.Tuple es x pos) (Ţ t):=by intro p s σ H Q I a;erw[Ĺ (Qf (h pos _ s σ H _ I a) λU s1 c d i r (z,q)=>(by rw[<-r.length];rwa[z],?_))];erw[(.A _,_,i.laid (λb u e=>ae _ e) (aq _) ?_,Ŗ,q _ (i.cV.fresh (aq _)))];exact(z,U,r,(_,ar _ Ŗ,Ŗ,_,Ŗ))
def D6(h:PA X es t):PE X (.List es pos) (CF t):=by intro p s σ H Q I a;erw[wpAny_List_spliced (Qf (h pos _ s σ H _ I a) λU s1 x c i r (z,q)=>(by rw[<-r.length];rwa[z],?_))];erw[(.A _,_,i.laid (λb u e=>ae _ e) (aq _) ?_,Ŗ,q _ (i.cV.fresh (aq _)))];exact(z,U,0,r,ar _ Ŗ)
abbrev Sp:=ϕ->Hp->VK->XK->ß
abbrev uv:=Ł Û->Hp->am->XK->Â->am->ß
structure yb(P:ci)(w:ce)(K:Å)(mg:c4)(base:Ç)(A:cp)(outer:Ł Û)(s:am)(H:Hp):ß where
 frames:A.frames=O outer
 mod:Mod K mg base
 bs:∀b o,base.get? b=O o->s.heap.get? b=O o/\H b=ao
 Az:base.objs.size<=s.heap.objs.size
 kq:s.heap.FunFrames base outer
 Ic:∀b∈o7 outer,H b=ao
 cV:jY P w H s.heap
 bare:AllBare s.gens
def CE(o:Ł Û)(P:ci)(w:ce)(H:Hp)(s:am)(Q:VK)(u:Â)(s':am):ß:=∃v h,s'.os=s.os/\AllBare s'.gens/\Un (o7 o) [] H h s.heap s'.heap/\jY P w h s'.heap/\RelV v u/\Q v h
def CR(CX:uv)(o:Ł Û)(P:ci)(w:ce)(H:Hp)(s:am)(Q:VK)(E:XK)(r:Result)(s':am):ß:=match r with|.ok (.ret u)=>CE o P w H s Q u s'|.ok _=>ŧ|.error e=>CX o H s E e s'
structure iB(P:ci)(w:ce)(K:Å)(mg:c4)(base:Ç)(CX:uv)(k:Ń)(f:À)(fd:c')(ps:ϐ)(sp:Sp):ß where len:∀vs H Q E,sp vs H Q E->Á vs=(Á ps)run:∀(A:cp)(outer:Ł Û)(s:am)(H:Hp)(args:Args)(us:Ł Â)(vs:ϕ)(Q:VK)(E:XK),fe k A->yb P w K mg base A outer s H->BindsTo s fd args (ps.zip us)->Vals vs us->sp vs H Q E->eq (b' P w) A (.call (.ref f) args) (CR CX outer P w H s Q E) s
theorem iB.mono{K:Å}{m:Æ->Ő _}(F:iB P w K m b CX j f d ps sp)(h:j<=k):iB P w K m b CX k f d ps sp:=(F.len,λA o s H args u v Q E r=>F.run A _ s H _ u v Q E (r.mono h))
def iB.imp{K:Å}{m:Æ->Ő _}(F:iB P w K m b CX k f d ps sp)(h:∀vs H Q E,wQ vs H Q E->sp vs H Q E):iB P w K m b CX k f d ps wQ:=(λvs H Q E q=>F.len vs H Q E (h _ _ _ _ q),λA o s H args u vs Q E r e a v c=>F.run A _ s H _ u vs Q E r e a v (h _ _ _ _ c))
def yb.make{K:Å}{m:Æ->Ő _}(e:yb P w K m b A o s H)(C:À)(us:Ł _)(k:Ł _):yb P w K m b (A.under (.builtin "type.__call__" (.ref C::us,k))) o s H:=(by first|rwa[e.frames]|lia,e.mod,e.bs,e.Az,e.kq,e.Ic,e.cV,e.bare)
def Inv.Ls{σ:È}(I:Inv X be σ H s):yb X.prog X.w X.K X.mg X.base X.A X.stack s H:=(I.ok.frames,I.ok.mod,I.bs,aA I.ok.Az I.sz,I.stack,I.qA,I.cV,I.bare)
def Inv.after{σ:È}(I:Inv X be σ H s)(h:CE X.stack X.prog X.w H s Q u s'):EP X be σ Q u s':=by let(v,a,os,B,un,c,r,q):=h;let(e,g,d,t,o):=s';obtain rfl:o=s.os:=os;exact(v,a,I.call un c B λb z=>Ă z ⋯,r,q)
def xS(sp:Sp)(dvs:ϕ)(E:XK)(t:TA):TE:=λσ H Q=>t σ H λv h=>sp (v++dvs) h Q E
def XD(C:À)(m:Æ)(sp:Sp)(dvs:ϕ)(E:XK)(T:TE)(t:TA):TE:=λσ H Q=>T σ H λx h=>∃a d fs,x=.A a/\h a=O (.ins C d fs)/\fs.lookup m=ao/\t σ h λv b=>sp (x::(v++dvs)) b Q E
def afI(C:À)(sp:Sp)(dvs:ϕ)(E:XK)(t:TA):TE:=λσ H Q=>t σ H λs h=>∀x d,h x=ao->h d=ao->d≠x->sp (.A x::(s++dvs)) (de (de h d (.own x)) x (.ins C d [])) (λv a=>v=.g9/\Q (.A x) a) E
def Binds(K:Å)(f:c')(ps:ϐ)(ds:Ł Â):ß:=∀(s:am)(u:Ł _),K.In s.heap->Á (u++ds)=Á ps->BindsTo s f (u,[]) (ps.zip (u++ds))
def Binds.all{K:Å}(h:∀us:Ł _,Á us=Á ps->bindArgs f (us,[])=pure (ps.zip us)):Binds K f ps []:=λs us _ H=>by rw[aK]at H⊢;rwa[.of_eq (h us H)]
def f9(CX:uv)(X:Cx)(E:XK):ß:=∀(p:Ł _)(σ:È)(H:Hp)(s:am)(e:Â)(S:am),Inv X p σ H s->CX X.stack H s E e S->X.xe e S
section
variable{X:Cx}{CX:uv}{k:Ń}{f C:À}{fd:c'}{ps:ϐ}{sp:Sp}{dvs:ϕ}{ds:Ł Â}{E:XK}{x m:Æ}{p pos cr:Ó}{e o:Ä}{es:Ł Ä}{ta:TE}{t:TA}
def zO{P:Ł _}{σ:È}(F:iB X.prog X.w X.K X.mg X.base CX k f fd ps sp)(a:fe k X.A)(b:Binds X.K fd ps ds)(d:Vals dvs ds)(c:f9 CX X E)(I:Inv X P σ H s)(r:Vals vs us)(h:sp (vs++dvs) H Q E):bv (b' X.prog X.w) X.A (call (.ref f) us) (EP X P σ Q) X.xe s:=by let r2:=r.append d;erw[sI (eg (F.run X.A _ s H _ _ _ Q E a I.Ls (b s us I.kr (by rw[<-r2.length];rwa[F.len _ _ _ _ h])) r2 h) λr S q=>?_)];cases r with|error e=>rwa[c _ σ H s e S I q]|ok fl=>cases fl with|ret u=>rwa[I.after q]|next=>assumption|brk=>assumption|cont=>assumption
def Tt(F:iB X.prog X.w X.K X.mg X.base CX k f fd ps sp)(a:fe k X.A)(g:Gl X x)(b:X.mg x=O (.ref f))(c:keepIn X.K (.ref f))(d:Binds X.K fd ps ds)(j:Vals dvs ds)(l:f9 CX X E)(n:PA X (e::es) t)(G:ø ((x==("__debug__":Æ))=bb) x0)(u:ø (c7 (e::es) X.env=(bb,Ê e X.env)::c7 es X.env) o0)(D:ø ((em pos (c7 es X.env)).any (·.1)=bb) o0):PE X (.Call (.Name x p) (e::es) [] pos) (xS sp dvs E t):=by intro P s σ H Q I h;rwa[fB (iT I g b (fA I.ok.mod.DL c (iD (n pos _ s σ H _ I h) λU s1 z=>by let(v,y,i,r,q):=z;exact(i.kr,zO F a d j l i r q)) u D) G)]
structure Mk(K:Å)(C f:À):ß where
 makes:makesIn K C=J
 init:findIn K (.ref C) "__init__"=O (O (.ref f))fn:isFn K (.ref f)=J
 kp:keepIn K (.ref C)=J
def Ox{P:Ł _}{σ:È}(M:Mk X.K C f)(F:iB X.prog X.w X.K X.mg X.base CX k f fd ps sp)(b:fe (k+1) X.A)(c:Binds X.K fd ps ds)(g:Vals dvs ds)(j:f9 CX X E)(I:Inv X P σ H s)(r:Vals vs us)(h:∀x d,H x=ao->H d=ao->d≠x->sp (.A x::(vs++dvs)) (de (de H d (.own x)) x (.ins C d [])) (λv l=>v=.g9/\Q (.A x) l) E):bv (b' X.prog X.w) X.A (call (.ref C) us) (EP X P σ Q) X.xe s:=by
 let hq:=h (s.heap.objs.size+1) _ (I.cV.fresh (dG _)) (I.cV.fresh (aq _)) (aF (gq _));let i:=Inv.made (C:=C) I;let R:Vals (V.A (s.heap.objs.size+1)::(vs++dvs)) _:=.cons Ŗ (r.append g);let hl:=by let e:=R.length;rw[F.len _ _ _ _ hq]at e;rwa[e.symm]
 erw[sI (MT I.kr M.makes M.init (sE.mp M.fn) (eg (F.run _ _ _ _ _ _ _ _ E (b.make C us []) (i.Ls.make C us []) (c _ _ i.kr hl) R hq) λr S a=>?_))];cases r with|error e=>rwa[j _ σ _ _ e S i a]|ok fl=>cases fl with|ret u=>let(v,n,q,y,ev,z):=i.after a;subst ev;exact(y,(V.A _,n,q,Ŗ,z))|next=>assumption|brk=>assumption|cont=>assumption
end
structure cU(N P:ϐ)(sc:Í):ß where
 kind:sc.kind=.function
 co:sc.isCoroutine=bb
 gen:sc.isGenerator=bb
 nd:N.Nodup
 pre:N.take (Á P)=P
 par:∀x∈P,sc.names.lookup x=O .local\/sc.names.lookup x=O .cell
 k_:∀y∈sc.names,y.2≠.free
theorem xa{kindOf:Æ->Ő _}:∀{binds:Ł _}{m:Æ->Ő _},(∀v,(x,v)∉binds)->bindL kindOf binds m x=m x
 |[],_,_=>Ŗ|(n,v)::r,m,h=>by
  delta bindL;rw[xa λw H=>h w (aH _ H)];split;.grind
  .rfl
theorem w8{kindOf:Æ->Ő _}:∀{binds:Ł _}{m:Æ->Ő _},(∀v,(x,v)∉binds)->bindC kindOf binds m x=m x
 |[],_,_=>Ŗ|(n,v)::r,m,h=>by
  delta bindC;rw[w8 λw H=>h w (aH _ H)];split;.rfl
  .grind
theorem w9{kindOf:Æ->Ő _}{x:Æ}{v:Â}:∀{P:ϐ}{vs:Ł _}{i:Ń}{m:Æ->Ő _},P.Nodup->P[i]?=O x->vs[i]?=O v->kindOf x=O .local->bindL kindOf (P.zip vs) m x=O v|[],_,_,_,_,h,_,_=>by grind|_::_,[],_,_,_,_,h,_=>by grind|p::P,w::vs,0,m,n,H,a,k=>by simp at H a;subst H;subst a;show bindL _ ((p,w)::P.zip vs) m p=_;delta bindL;rw[xa λv b=>(cR.mp n).1 (my b).1,bV k];simp|p::P,w::vs,i+1,m,n,H,a,k=>by show bindL _ ((p,w)::P.zip vs) m x=_;rwa[w9 (cR.mp n).2 (by done) (by done) k]
theorem w6{kindOf:Æ->Ő _}{x:Æ}{v:Â}:∀{P:ϐ}{vs:Ł _}{i:Ń}{m:Æ->Ő _},P.Nodup->P[i]?=O x->vs[i]?=O v->kindOf x≠O .local->bindC kindOf (P.zip vs) m x=O v|[],_,_,_,_,h,_,_=>by grind|_::_,[],_,_,_,_,h,_=>by grind|p::P,w::vs,0,m,n,H,a,k=>by simp at H a;subst H;subst a;show bindC _ ((p,w)::P.zip vs) m p=_;delta bindC;rw[w8 λv b=>(cR.mp n).1 (my b).1,bN k];simp|p::P,w::vs,i+1,m,n,H,a,k=>by show bindC _ ((p,w)::P.zip vs) m x=_;rwa[w6 (cR.mp n).2 (by done) (by done) k]
def start(N:ϐ)(vs:ϕ):È:=vs.map O++Ð (Á N-Á vs) ao
def oh(CX:uv)(P:ci)(w:ce)(K:Å)(mg:c4)(base:Ç)(N:ϐ)(q:Æ)(S:Í)(f:À)(c:Â)(A:cp)(outer:Ł Û)(s:am)(H:Hp)(E:XK):Cx where prog:=P;w:=w;K:=K;mg:=mg;base:=base;A:=A.deeper (envOfC q S s.heap.objs.size f c);N:=N;s₀:=s;H₀:=H;env:=envOfC q S s.heap.objs.size f c;outer:=outer;stack:=envOfC q S s.heap.objs.size f c::outer;ex:=[];calm:=J;fn:=λ_=>J;pn:=[];xe:=λe a=>bv (b' P w) (A.deeper (envOfC q S s.heap.objs.size f c)) (leaving (envOfC q S s.heap.objs.size f c) e) (λ_ j=>CX outer H s E e j) (λb j=>CX outer H s E b j) a
def AH{s:Í}(h:s.names.lookup x=O .cell):∃c,(cellsFrom n s.names []).lookup x=O c:=by rwa[fY.mp (jT _ n [] (.inl h))]
def rE{K:Å}{M:Æ->Ő _}(S:cU N ps d)(G:A.handled=ao)(e0:yb P w K M B A o s H)(L:Á vs=Á ps)(r:Vals vs us)(x:InCallC s s.heap.objs.size (bindL (envOfC Q d s.heap.objs.size f C).kindOf (ps.zip us) λ_=>ao) (cellsFrom (s.heap.objs.size+1) d.names []) (bindC (envOfC Q d s.heap.objs.size f C).kindOf (ps.zip us) λ_=>ao) s1):Inv (oh CX P w K M B N Q d f C A o s H E) [] (start N vs) H s1:=by
 let T:Á ps<=Á N:=by let:=cb Á S.pre;rw[dY]at this;lia
 let(t,U,rfl,F):=x.done;let n:∀b:À,b∉(oh CX P w K M B N Q d f C A o s H E).ex:=λb z=>Ă (show b∈[]from z) ⋯;erw[((e0.mod,S.kind,Ŗ,Ŗ,aq _,λy z c t g=>name_of_addr x.apart (iV t) (iV g),λy j=>?_,λy c _ h=>gH (x.above y c (iV h)),λ_=>G,Around.frames_deeper e0.frames,.inr (Ŗ,Ŗ),λb z=>Ă z (n b),e0.bs,e0.Az,λb _ _=>n b,λb z=>Ă z (n b),e0.kq,e0.Ic),Ŗ,e0.bare,Un.kept F,(_,x.toInCall.ns,λi y v t g W=>?_),λy c h=>(_,x.cell y c h),e0.cV.fresh (aq _),λy c h=>e0.cV.fresh (gH (x.above y c (iV h))),λp l=>Ă (show p∈[]from l) ⋯,e0.cV.kept F,?_)]
 .rcases j with j|j;.rwa[AH j]
  .rwa[Ă Ŗ (S.k_ _ (iV j))]
 .let D:i<Á vs:=by
   delta start at g;by_cases D:i<Á vs;.done
   .rw[aI (by simpa using D),gm]at g;split at g<;>cases g
  let I:vs[i]?=O v:=by delta start at g;rw[bt (by simpa using D),aR]at g;cases e:vs[i]? with|a=>left|c a=>grind
  let(u,hu,R):=r.get I;let l:ps[i]?=O y:=by rw[<-S.pre,iX ()];rwa[t]
  let m:ps.Nodup:=by rw[<-S.pre];rwa[S.nd.sublist (List.take_sublist _ _)]
  erw[(u,R,?_)];rcases S.par y (aP l)with k|k;.rwa[.inl (k,w9 m l hu k)]
  .let(c,e):=AH k;erw[.inr (.inl k,c,e,?_)];let q:=x.cell y c e;rw[w6 m l hu (by show d.names.lookup y≠_;rw[k];decide)]at q;rwa[q]
 .delta start;show _=Á N;rw[ai,af,cF];lia
def xq{K:Å}{m:Æ->Ő _}{kV:Â}(lk:K.lookup f=O (oc,L,.func (fnOf name l p y a D kV doc z G g C),M))(T:codeIn K g l)(S:cU N ps a)(len:∀vs H Q E,sp vs H Q E->Á vs=Á ps)(U:∀(A:cp)(c:Ł Û)(s:am)(H:Hp)(vs:ϕ)(Q:VK)(E:XK),fe k (A.deeper (envOfC l a s.heap.objs.size f g))->sp vs H Q E->∃t,jZ (oh CX P w K m B N l a f g A c s H E) y t/\t {nx:=λ_ H'=>Q .g9 H',rt:=Q} (start N vs) H):iB P w K m B CX (k+1) f (fnOf name l p y a D kV doc z G g C) ps sp:=by
 erw[(len,λA c s H args us vs Q E i e0 W r Y=>?_)];let X:=e0.mod.DL.keeps λb o e=>(e0.bs b o e).1;erw[ur i.depth (X _ _ lk) rfl S.co S.gen rfl (Ak X T) (W _ _ _ _ ?_)];erw[n6 S.kind (λ(n,v) Z=>by
  rcases S.par n (my Z).1 with q|q;.rwa[.inl q]
  .rwa[.inr (q,jT _ _ _ (.inl q))]) λenv he s1 x=>?_];subst he;erw[((e0.mod.nolimit.keeps λb o e=>(e0.bs b o e).1).keeps x.toInCall.keep,Dp ?_)];let(t,ht,hq):=U A _ s H vs Q E (i.deeper _) Y;let I:Inv (oh CX P w K m _ N l _ f g A _ s H E) [] _ H s1:=rE S i.hd e0 (len _ _ _ _ Y) r x;erw[cX (ht [] s1 _ H _ I hq) (λfl s' h=>?_) λe s' h=>h];let F:∀{d:È}{H':Hp}{v:V}{u:Â},Inv (oh CX P w K m B N l a f g A _ s H E) [] d H' s'->RelV v u->Q v H'->CE c P w H s Q u s':=λ{d H' v u}j R q=>(v,H',j.os,j.bare,j.base,j.cV,R,q);cases fl with|ret u=>let(v,d,H',j,R,q):=h;rwa[F j R q]|next=>let(d,H',j,q):=h;rwa[F (v:=V.g9) j Ŗ q]|brk=>let(_,_,_,q):=h;rwa[é q]|cont=>let(_,_,_,q):=h;rwa[é q]
def vr(r:ϕ->Hp->VK->ß)(t:TA):TE:=λσ H Q=>t σ H λv h=>r v h Q
def Nr{id:String}(c:fi X (.builtin id) r)(g:Gl X x)(m:X.mg x=ao)(v:dN x=O (.builtin id))(a:PA X (e::es) t)(hn:ø (x≠"__name__") x0)(j:ø ((x==("__debug__":Æ))=bb) x0)(b:ø (c7 (e::es) X.env=(bb,Ê e X.env)::c7 es X.env) o0)(d:ø ((em pos (c7 es X.env)).any (·.1)=bb) o0):PE X (.Call (.Name x p) (e::es) [] pos) (vr r t):=by intro P s σ H Q I h;rwa[fB (l8 I g m v (PyProof.Rows.callWith_builtin1 (iD (a pos _ s σ H _ I h) λu s1 z=>by let(f,i,k,R,q):=z;rwa[c _ s1 σ i f u Q k R q]) b d) hn j)]
def IK(c:fi X (.type T) r)(g:Gl X x)(m:X.mg x=ao)(v:dN x=O (.type T))(a:PA X (e::es) t)(hn:ø (x≠"__name__") x0)(j:ø ((x==("__debug__":Æ))=bb) x0)(b:ø (c7 (e::es) X.env=(bb,Ê e X.env)::c7 es X.env) o0)(d:ø ((em pos (c7 es X.env)).any (·.1)=bb) o0):PE X (.Call (.Name x p) (e::es) [] pos) (vr r t):=by intro P s σ H Q I h;rwa[fB (l8 I g m v (dc (Qf (a pos _ s σ H _ I h) λu s1 f i k R q=>c _ s1 σ i f u Q k R q) b d) hn j)]
end L2
namespace HT
section
open PySem.SeqAt
open PySem.AutoSeq1(wpAny_loadPart')
open PySem.MeetsSeq PySem.MeetsSeq2 PySem.MeetsSeq3
end
def QL{E:c9}{Q:c9}(g:IsTup s.heap t vs.toArray)(i:IsTup s.heap b ws.toArray)(v:vs ≠[])(j:ws=[]->Q (.ref t) s)(k:ws ≠[]->Q (.ref s.heap.objs.size) {s with heap:=s.heap.push {cls:=.type "tuple",data:=.seq (vs++ws).toArray}})(D:Á vs+Á ws<=Ã):bv (b' prog w) A (binaryOp .Add (.ref t) (.ref b)) Q E s:=by
 obtain⟨⟨cls,dd,data,sl⟩,o,c,n,f⟩:=id g;obtain⟨⟨y,d,data2,S⟩,Z,h,N,H⟩:=id i;simp only at c f h H;subst c f h H;let e:vs.toArray++ws.toArray=(vs++ws).toArray:=⋯
 by_cases a:ws=[];.rwa[AT (_,o,Ŗ) (_,Z,Ŗ) He XM sD qU (pN _ _) (tuple_addW1 t b _ _ n N dd d sl S (by simpa using v) nofun) (o,Z,j a)]
 .erw[AT (_,o,Ŗ) (_,Z,Ŗ) He XM sD qU (pN _ _) (tuple_addW2 t b _ _ n N dd d sl S (by simpa using v) (by simpa using a) (by done)) (o,Z,?_)];rw[e];rwa[k a]
def lC(n d:Ń):Ő Î->Ń|ao=>d|O v=>if v<0 then(v+n).toNat else min v.toNat n
def OB(n d:Ń):lC n d ao=d:=rfl
def UY(n d k:Ń):lC n d (O k)=min k n:=rfl
def yu(v:Î)(n d:Ń):(if v<0 then max (v+n) 0 else min v n)=lC n d (O v):=by
 show(if v<0 then max _ 0 else min v _)=(if v<0 then(v+n).toNat else min _ n:Ń);by_cases h:v<0;.left
 .grind
def Cm(lo h:Ő Î)(n:Ń):Ą lo h 1 n=((lC n 0 lo:Î),(lC n n h:Î)):=by
 erw[Prod.ext ?_ ?_];.cases lo with|a=>rfl|c v=>rwa[yu v n 0]
 .cases h with|a=>rfl|c v=>rwa[yu v n n]
def D8(i j:Ń):ï i j 1=j-i:=by
 delta ï;let h:(1:Î)>0:=()
 simp only[h,mO,Int.ediv_one];split<;>lia
def vD{E:c9}(p:IsPart v o)(h:Q o s):bv (b' prog w) A (Builtin.Slice.slicePartIndex v) Q E s:=by cases p with|a=>rwa[vY h]|int i t=>rwa[slicePart_int h]
def lD{E:c9}{lo:Ő Î}{Q:Î×Î×Ń->am->ß}(a:s.heap.IsSliceOf sl v u .none)(p:IsPart v lo)(P:IsPart u H)(h:Q (lC n 0 lo,1,lC n n H-lC n 0 lo) s):bv (b' prog w) A (ŵ (.ref sl) (pure n)) Q E s:=by let(os,F,b,R):=id a;erw[aa (aa (bg F R (x:=v) Ŗ (aa (bg F R (x:=u) Ŗ (aa (bg F R (x:=.none) Ŗ (ah ?_)))))))];erw[aa (vY ?_)];erw[aa (vD p (aa (vD P (aa (ah ?_)))))];show bv _ _ (match Ą lo H 1 _ with|(lo,H)=>pure (Prod.mk lo (Prod.mk (1:Î) (ï lo H 1)))) _ _ s;rw[Cm lo H n];show bv _ _ (pure _) _ _ s;rw[D8];rwa[ah h]
def NT(xs:Array Â)(i k:Ń):((Ù k).filterMap λ(m:Ń)=>xs[((i:Î)+m*1).toNat]?).toArray=((xs.toList.drop i).take k).toArray:=by
 let e:(λ(m:Ń)=>xs[((i:Î)+m*1).toNat]?)=λm=>xs[i+m]?:=by funext m;let:((i:Î)+m*1).toNat=i+m:=(d7 _ _ _).symm;rw[this]
 rw[e];let:=pick_run xs i k;rw[List.filterMap_map]at this;let a:((λx=>xs[x]?)∘ λx=>i+x)=λm=>xs[i+m]?:=Ŗ;rw[a]at this;rw[this]
def qe{E:c9}{lo:Ő Î}{Q:c9}(a:IsTup s.heap t items)(c:s.heap.IsSliceOf sl v u .none)(p:IsPart v lo)(P:IsPart u H)(d:¬(lC items.size 0 lo=0/\lC items.size items.size H=items.size))(h:Q (.ref s.heap.objs.size) {s with heap:=s.heap.push {cls:=.type "tuple",data:=.seq ((items.toList.drop (lC items.size 0 lo)).take (lC items.size items.size H-lC items.size 0 lo)).toArray}})(D:items.size<=Ã):bv (b' prog w) A (getItem (.ref t) (.ref sl)) Q E s:=by
 let(os,F,b,R):=id c;delta getItem;try with_reducible erw[bJ ?_]
 erw[aa (Ca a.typeIs Ŗ ?_)];erw[aa (bC a.typeIs bY (bK bY a.typeIs x9 ?_ (An _ _)))];show bv _ _ (Ē _>>=_) _ _ s;erw[aa (XN a ?_)];erw[aa (fR (os,F,b) ?_)];erw[aa (lD c p P ?_)];show bv _ _ (if((lC _ 0 lo:Î)==0&&1==1&&lC _ _ H-lC _ 0 lo==items.size)=J then _ else _) _ _ s;rw[bN (),NT];first|rwa[aa (bE (ah (_,Ŗ,ah h)) (by show((items.toList.drop _).take _).toArray.size<=Ã;rw[aM,dY,G6,bS];lia))]|rfl|lia|lia
end HT
namespace L2
abbrev TO:=È->Hp->(Ő Î->Hp->ß)->ß
def PO(X:Cx)(e:Ő Ä)(t:TO):ß:=∀(p:Ł _)(s:am)(σ:È)(H:Hp)(Q:Ő Î->Hp->ß),Inv X p σ H s->t σ H Q->bv (b' X.prog X.w) X.A (evalPart e X.env) (λu S=>∃o h,Inv X p σ h S/\IsPart u o/\Q o h) X.xe s
def Vq:TO:=λ_ H Q=>Q ao H
def afQ(t:TE):TO:=λσ H Q=>t σ H λx h=>∃i,x=.I i/\Q (O i) h
def Ur:PO X ao Vq:=by intro p s σ H Q I h;rwa[ah (_,H,I,.none,h)]
def Us(h:PE X e te):PO X (O e) (afQ te):=by intro p s σ H Q I w;erw[jf (h _ s σ H _ I w) λu s1 x a b r c=>?_];let(i,rfl,q):=c;let(t,rfl):=r;exact(_,a,b,.int i t,q)
def Qp(X:Cx)(r:V->Ő Î->Ő Î->Hp->VK->ß):ß:=∀(p:Ł _)(s:am)(σ:È)(H:Hp)(x:V)(v l u:Â)(lo hi:Ő Î)(sl:À)(Q:VK),Inv X p σ H s->RelV x v->s.heap.IsSliceOf sl l u .none->IsPart l lo->IsPart u hi->r x lo hi H Q->∃T id,hG (.type T) "__getitem__"=pure (O (.builtin id))/\s.TypeIs v T/\bv (b' X.prog X.w) X.A (getItem v (.ref sl)) (EP X p σ Q) X.xe s
def Qp.or(h:Qp X r)(h':Qp X R):Qp X λx lo hi H Q=>r x lo hi H Q\/R x lo hi H Q:=by
 intro p s σ H x v l u lo hi sl Q I a b P c q;rcases q with q|q;.rwa[h _ s σ H x v l u lo hi sl Q I a b P c q]
 .rwa[h' _ s σ H x v l u lo hi sl Q I a b P c q]
def tSl(r:V->Ő Î->Ő Î->Hp->VK->ß)(te:TE)(tl th:TO):TE:=λσ H Q=>te σ H λx h=>tl σ h λl a=>th σ a λu b=>r x l u b Q
def NC{lo:Ő Ä}(a:Qp X r)(c:PE X e te)(d:PO X lo tl)(hu:PO X hi th):PE X (.Subscript e (.Slice lo hi ao p2) pos) (tSl r te tl th):=by intro p s σ H Q I h;erw[Qi (jf (c _ s σ H _ I h) λv s1 x f i R g=>?_)];erw[wpAny_Slice (iD (d _ s1 σ f _ i g) λj s2 (l,k,m,P,n)=>iD (hu _ s2 σ k _ m n) λo S u=>?_)];let(u,t,w,y,z):=u;erw[ah ?_];let(T,id,A,B,C):=a _ _ σ t x v j o l u S.heap.objs.size Q (w.kept λb D q=>ae _ q) R (Heap.IsSliceOf.new ..) P y z;rwa[tail_any B A C Ŗ]
def rk(xs:ϕ)(lo hi:Ő Î):ϕ:=(xs.drop (HT.lC (Á xs) 0 lo)).take (HT.lC (Á xs) (Á xs) hi-HT.lC (Á xs) 0 lo)
def sh(xs:ϕ)(lo hi:Ő Î):Á (rk xs lo hi)<=Á xs:=by delta rk;rw[dY,G6];lia
def akU(K:Å):V->Ő Î->Ő Î->Hp->VK->ß:=λx lo hi H Q=>∃a s,x=.A a/\gF K H a s/\¬(HT.lC (Á s) 0 lo=0/\HT.lC (Á s) (Á s) hi=Á s)/\∀p,H p=ao->Q (.A p) (de H p (.T (rk s lo hi)))
def Ϻ:Qp X (akU X.K):=by
 intro p s σ H x v l g lo hi sl Q I R d P u h;let(a,c,rfl,f,w,q):=h;cases R;let(i,r,t,z):=I.tuple f;let n:i.toArray.size=Á c:=by rwa[r.length.symm]
 erw[(_,_,bY.lookup,t.typeIs,?_)];erw[HT.qe t d P u (by rw[n];rwa[w]) ?_ (by rw[n];rwa[z])];rw[n];erw[(.A _,_,I.laid (λb o q=>ae _ q) (aq _) ?_,Ŗ,q _ (I.cV.fresh (aq _)))];exact(aA (sh c lo hi) z,_,(r.drop _).take _,qQ _ _)
def ϖ(K:Å):R2:=λx y H Q=>∃a b s Y,x=.A a/\y=.A b/\gF K H a s/\gF K H b Y/\s ≠[]/\Á s+Á Y<=Ã/\(Y=[]->Q (.A a) H)/\(Y ≠[]->∀p,H p=ao->Q (.A p) (de H p (.T (s++Y))))
def Vals.zp(r:Vals xs us):us=[]↔xs=[]:=by cases r with|f=>simp|g _ _=>simp
def Th:kZ X (binaryOp .Add) (ϖ X.K):=by intro p s σ H x y v u Q I d f h;let(a,b,n,Y,rfl,rfl,g,i,j,c,k,l):=h;cases d;cases f;let(m,R,P,_):=I.tuple g;let(o,r,p2,_):=I.tuple i;erw[HT.QL P p2 (λz=>j (R.zp.mp z)) (λz=>(.A a,H,I,Ŗ,k (r.zp.mp z))) (λz=>?_) (by rw[<-R.length,<-r.length];rwa[c])];erw[(.A _,_,I.laid (λb t q=>ae _ q) (aq _) ?_,Ŗ,l (λw=>z (r.zp.mpr w)) _ (I.cV.fresh (aq _)))];exact(by rw[ai];rwa[c],_,R.append r,qQ _ _)
def SA(n:Ń)(i:Î):Ő Ń:=if 0<=i then(if i<n then O i.toNat else ao)else if-n<=i then O (i+n).toNat else ao
def BR{α:Type}(xs:Ł α)(i:Î):Ő α:=(SA (Á xs) i).bind λj=>xs[j]?
def Gb(h:SA n i=O j):seqIndex? i n=O j/\j<n/\-n<=i/\i<n:=by
 delta SA at h;by_cases a:0<=i
 .rw[bV a]at h;by_cases H:i<n;.rw[bV H]at h;exact(by rw[C0 a H,dM h],(),(),H)
  .left
 .rw[bN a]at h;by_cases H:-n<=i;.rw[bV H]at h;exact(by rw[FM () H,dM h],(),H,())
  .left
def yg(h:BR xs i=O v):∃j,seqIndex? i (Á xs)=O j/\xs[j]?=O v/\j<Á xs/\-Á xs<=i/\i<Á xs:=by delta BR at h;cases e:SA (Á xs) i with|a=>left|c j=>rw[e]at h;let(H,a,b,c):=Gb e;exact(j,H,h,a,b,c)
def Qy{j:Ń}{v:α}(h:xs[j]?=O v):BR xs j=O v:=by
 let H:=(aw.mp h).1;let e:SA (Á xs) j=O j:=by delta SA;rw[bV (),bV ()];simp
 delta BR;rw[e];rwa[h]
def lS(b:Ä):ß:=∀o i,subscripted b bb o i=operate [o,i] (getItem o i)
def Kt(X:Cx)(r:R2):ß:=∀(e S:Ä)(p:Ł _)(s:am)(σ:È)(H:Hp)(x y:V)(v u:Â)(Q:VK),Inv X p σ H s->RelV x v->RelV y u->r x y H Q->subscripted S bb v u=operate [v,u] (getItem v u)->bv (b' X.prog X.w) X.A (subscriptTail e S v u) (EP X p σ Q) X.xe s
def y8(X:Cx)(id:String)(r:V->ϕ->Hp->VK->ß):ß:=∀(p:Ł _)(s:am)(σ:È)(H:Hp)(x:V)(a:ϕ)(v:Â)(u:Ł _)(Q:VK),Inv X p σ H s->RelV x v->Vals a u->r x a H Q->bv (b' X.prog X.w) X.A (call (.builtin id) (v::u)) (EP X p σ Q) X.xe s
def Kt.or(h:Kt X r)(h':Kt X R):Kt X λx y H Q=>r x y H Q\/R x y H Q:=by
 intro e S p s σ H x y v u Q I c d q f;rcases q with q|q;.rwa[h _ _ _ s σ H x y v u Q I c d q f]
 .rwa[h' _ _ _ s σ H x y v u Q I c d q f]
def Gu{X:Cx}{a b:Ä}{ta tb:TE}{pos:Ó}{r:R2}(c:Kt X r)(d:PE X a ta)(e:PE X b tb)(f:autoParam (lS b) Ľ):PE X (.Subscript a b pos) (oa r ta tb):=by intro p s σ H Q I h;rwa[Qi (X8 d e I h λv u s2 x y g i R j q=>c a b _ s2 σ g x y v u Q i R j q (f _ _))]
def Ŝ(K:Å):R2:=λx y H Q=>∃p s i v,x=.A p/\y=.I i/\gB K H p s/\BR s i=O v/\Q v H
def Δ(K:Å):R2:=λx y H Q=>∃p s i v,x=.A p/\y=.I i/\gF K H p s/\BR s i=O v/\Q v H
def I0:R2:=λx y H Q=>∃z i c,x=.S z/\y=.I i/\z.length<=Ã/\BR z.cps.toList i=O c/\Q (.S ⟨#[c]⟩) H
def SE:Kt X (Ŝ X.K):=by
 intro e S k s σ H x y v u Q I R n h l;let(p,F,i,z,rfl,rfl,o,A,q):=h;cases R;let(t,rfl):=n;let(d,r,P,G):=I.list o;let(j,c,B,L,C,D):=yg A;let(w,E,Z):=r.get B;let hl:=r.length;let hn:=rH;let f:EP X _ σ Q w s:=(z,H,I,Z,q);by_cases m:0<=i
 .let g:=by rw[C0 m D]at c;rwa[dM c]
  rwa[item_listR P.isList m () (by rw[g];simpa using E) f l]
 .let g:(i+d.toArray.size).toNat=j:=by rw[FM () C]at c;rw[aM,<-hl];rwa[dM c]
  rwa[jV P.isList.typeIs slot_list_getitem.lookup (wpAny_getItem_list_neg P.isList () nofun () (by rw[g];simpa using E) (Ŗ,f)) l]
def Mw:Kt X (Δ X.K):=by intro e S P s σ H x y v u Q I R c h d;let(p,o,i,z,rfl,rfl,f,g,q):=h;cases R;let(t,rfl):=c;let(k,r,l,A):=I.tuple f;let(j,m,n,B,C,D):=yg g;let(w,E,Z):=r.get n;let hn:=rH;rwa[jV l.typeIs slot_tuple_getitem.lookup (getItem_tuple l () () (by rw[aM,<-r.length];rwa[m]) (by simpa using E) (Ŗ,(z,H,I,Z,q))) d]
def Z0:Kt X I0:=by intro e d p s σ H x y v u Q I r R h g;let(z,i,c,rfl,rfl,w,k,q):=h;let(t,rfl):=r;let(T,rfl):=R;let(j,f,l,A,m,n):=yg k;let o:Á z.cps.toList=z.length:=Ŗ;rw[o]at f m n;let hn:=rH;rwa[tail_any (typeIs_str s z t) slot_str_getitem.lookup (getItem_str () (by rw[f];simpa using l) (.S _,H,I.tok _,(_,Ŗ),q)) g]
def W3(K:Å):R2:=λx y H Q=>Ŝ K x y H Q\/Δ K x y H Q\/I0 x y H Q
def ZZ:Kt X (W3 X.K):=SE.or (Mw.or Z0)
def DV(its:Ł _)(n j:Ń)(u:Â):î (·.setIfInBounds j u) {cls:=.type "list",data:=.seq its.toArray n}={cls:=.type "list",data:=.seq (its.set j u).toArray n}:=by simp[î]
def Inv.lst{P:Ł _}{σ:È}{H:Hp}{s:am}{p:À}{xs:ϕ}(I:Inv X P σ H s)(h:H p=O (.L xs)):∃(its:Ł _)(n:Ń),Vals xs its/\s.heap.get? p=O {cls:=.type "list",data:=.seq its.toArray n}/\Á xs<=Ã:=by let(z,its,n,r,e):=I.cV p _ h;exact(its,n,r,e,z)
def Inv.f_{P:Ł _}{σ:È}{its:Ł _}(I:Inv X P σ H s)(h:H p=O (.L xs))(o:s.heap.get? p=O {cls:=.type "list",data:=.seq its.toArray n})(c:f {cls:=.type "list",data:=.seq its.toArray n}={cls:=.type "list",data:=.seq A.toArray N})(r:Vals ys A)(hz:Á ys<=Ã)(t:Ń):Inv X P σ (de H p (.L ys)) {s with heap:=s.heap.update p f,toks:=t}:=by
 let e:(s.heap.update p f).get? p=O {cls:=.type "list",data:=.seq A.toArray N}:=by rw[bF f o (by rw[c]<;>rfl),c]
 rwa[I.write (by rw[h];done) (.inl Ŗ) (λb u d q=>(bI _ _ (cI d)).trans q) (_,e) (hz,_,N,r,e)]
def Xr:V->V->V->Hp->(Hp->ß)->ß:=λo i v H Q=>∃p x k j,o=.A p/\i=.I k/\H p=O (.L x)/\SA (Á x) k=O j/\Q (de H p (.L (x.set j v)))
def OJ:Ps X Xr:=by
 intro P s σ H o i v C D u Q I R y z h;let(p,E,k,j,rfl,rfl,g,A,q):=h;cases R;let(t,rfl):=y;let(c,n,r,e,B):=I.lst g;let(d,F,l,m):=Gb A;let hl:=r.length;let hn:=rH;let w:Inv X _ σ _ {s with heap:=s.heap.update p _}:=I.f_ g e (DV c n j u) (r.set z j) (by rw[dJ];rwa[B]) _;by_cases x:0<=k
 .let f:=by rw[C0 x m]at d;rwa[dM d]
  rwa[PySem.W.ki_setAt e x () (by rw[aM,<-hl];rwa[m]) (by rw[f];exact(_,w,q))]
 .let f:(k+c.toArray.size).toNat=j:=by rw[FM () l]at d;rw[aM,<-hl];rwa[dM d]
  rwa[PySem.W.ki_setBack e () (by rw[aM,<-hl];rwa[l]) () (by rw[f];exact(_,w,q))]
def zU(lo H:Ő Î)(n:Ń):(sliceBounds lo H ao n).1=HT.lC n 0 lo/\(sliceBounds lo H ao n).2.1=HT.lC n n H/\(sliceBounds lo H ao n).2.2=1:=by
 erw[(?_,?_,Ŗ)];.cases lo with|a=>rfl|c i=>
   simp only[sliceBounds,HT.lC,Option.getD_none,show(1:Î)>0 by ext,mO];by_cases h:i<0;.simp only[h,mO]<;>lia
   .simp only[h,gS]<;>lia
 .cases H with|a=>rfl|c i=>
   simp only[sliceBounds,HT.lC,Option.getD_none,show(1:Î)>0 by ext,mO];by_cases h:i<0;.simp only[h,mO]<;>lia
   .simp only[h,gS]<;>lia
def wO(its:Ł _)(lo h:Ő Î):slicePick its.toArray lo h ao=((its.drop (HT.lC (Á its) 0 lo)).take (HT.lC (Á its) (Á its) h-HT.lC (Á its) 0 lo)).toArray:=by let(H,c,d):=zU lo h _;delta slicePick;rw[H,c,d];simp only[sliceRange_one,pick_run,aM]<;>rfl
def Ġ(K:Å):V->Ő Î->Ő Î->Hp->VK->ß:=λx lo h H Q=>∃a s,x=.A a/\gB K H a s/\∀p,H p=ao->Q (.A p) (de H p (.L (rk s lo h)))
def U6:Qp X (Ġ X.K):=by intro p s σ H x v l g lo i sl Q I R c P u h;let(a,d,rfl,e,q):=h;cases R;let(f,r,t,z):=I.list e;let n:=r.length;erw[(_,_,slot_list_getitem.lookup,t.isList.typeIs,?_)];erw[wpAny_getItem_list_slice t.isList c P u .none ⋯ ?_ nofun];rw[wO,<-n];erw[(.A _,_,I.laid (λb o q=>ae _ q) (aq _) ?_,Ŗ,q _ (I.cV.fresh (aq _)))];exact(aA (sh d lo i) z,_,0,(r.drop _).take _,ar _ Ŗ)
def oM:V->Þ|.g9=>J|.B _=>J|.I _=>J|.S _=>J|_=>bb
def Ru:V->V->Þ|.g9,.g9=>J|.B a,.B b=>a==b|.B a,.I b=>(if a then 1 else 0)==b|.I a,.B b=>a==if b then 1 else 0|.I a,.I b=>a==b|.S a,.S b=>a==b|_,_=>bb
def Y4(R:RelV y u)(r:RelV x v)(F:oM y)(f:oM x):SeqAt.EqAt A s u v (Ru y x):=by cases y with
 |g9=>cases R;cases x with|g9=>cases r;rwa[SeqAt.EqAt.same _]|B b=>cases r;rwa[SeqAt.EqAt.none_bool b]|I b=>let(t,rfl):=r;rwa[SeqAt.EqAt.none_int b t]|S b=>let(t,rfl):=r;rwa[SeqAt.EqAt.none_str b t]|_=>rwa[Ă (show bb=J from f) aD]
 |B a=>cases R;cases x with|g9=>cases r;rwa[SeqAt.EqAt.bool_none a]|B b=>cases r;rwa[SeqAt.EqAt.bool_bool a b]|I b=>let(t,rfl):=r;rwa[SeqAt.EqAt.bool_int a b t]|S b=>let(t,rfl):=r;rwa[SeqAt.EqAt.bool_str a b t]|_=>rwa[Ă (show bb=J from f) aD]
 |I a=>let(T,rfl):=R;cases x with|g9=>cases r;rwa[SeqAt.EqAt.int_none a T]|B b=>cases r;rwa[SeqAt.EqAt.int_bool a T b]|I b=>let(t,rfl):=r;rwa[SeqAt.EqAt.int_int a T b t]|S b=>let(t,rfl):=r;rwa[SeqAt.EqAt.int_str a T b t]|_=>rwa[Ă (show bb=J from f) aD]
 |S a=>let(T,rfl):=R;cases x with|g9=>cases r;rwa[SeqAt.EqAt.str_none a T]|B b=>cases r;rwa[SeqAt.EqAt.str_bool a T b]|I b=>let(t,rfl):=r;rwa[SeqAt.EqAt.str_int a T b t]|S b=>let(t,rfl):=r;rwa[SeqAt.EqAt.str_str a T b t]|_=>rwa[Ă (show bb=J from f) aD]
 |_=>rwa[Ă (show bb=J from F) aD]
def nM(x:V)(u:Â):Þ:=match u with|.none=>Ru .g9 x|.bool b=>Ru (.B b) x|.int i _=>Ru (.I i) x|.str z _=>Ru (.S z) x|_=>bb
def Lv(r:RelV y u)(f:oM y):nM x u=Ru y x:=by cases y with|g9=>cases r;rfl|B b=>cases r;rfl|I i=>let(t,rfl):=r;rfl|S z=>let(t,rfl):=r;rfl|_=>rwa[Ă (show bb=J from f) aD]
def E9:∀{xs:ϕ}{us:Ł _},Vals xs us->xs.all oM->us.any (nM x)=xs.any λy=>Ru y x:=by intro xs us h f;induction h with|f=>rfl|g r t i=>rw[bZ,aE]at f;rw[pM,pM,Lv r f.1,i f.2]
theorem vi{x:V}{v:Â}(R:RelV x v)(F:oM x):∀{xs:ϕ}{us:Ł _},Vals xs us->xs.all oM->∀u∈us,SeqAt.EqAt A s u v (nM x u)
 |_,_,.nil,_=>λu hu=>by grind|y::xs,u::us,.cons r t,f=>λU hu=>by
  rw[bZ,aE]at f;rcases aB.mp hu with rfl|hu;.rw[Lv r f.1];rwa[Y4 r R f.1 F]
  .rwa[vi R F t f.2 U hu]
def ox(x:V)(xs:ϕ):Þ:=xs.any λy=>Ru y x
def Ř(K:Å)(neg:Þ):R2:=λx y H Q=>∃p s,y=.A p/\(gB K H p s\/gF K H p s)/\oM x=J/\s.all oM=J/\Q (.B (if neg then !ox x s else ox x s)) H
def IF:kZ X (compareOp .In) (Ř X.K bb):=by
 intro e s σ H x y v u Q I R g h;let(p,j,rfl,c,f,fs,q):=h;cases g;rcases c with c|c;.let(i,r,P,z):=I.list c;erw[SeqAt.in_listAt _ P.isList (λw d=>vi R f r fs w (by simpa using d)) (.B _,H,I,Ŗ,?_)];rw[show i.toArray.any _=i.any (nM x)by simp,E9 r fs];rwa[q]
 .let(i,r,P,z):=I.tuple c;erw[SeqAt.in_tupleAt _ P (λw d=>vi R f r fs w (by simpa using d)) (.B _,H,I,Ŗ,?_)];rw[show i.toArray.any _=i.any (nM x)by simp,E9 r fs];rwa[q]
def yo:fi X (.builtin "len") λxs H Q=>∃p ys,xs=[.A p]/\(gB X.K H p ys\/gF X.K H p ys)/\Q (.I (Á ys)) H:=by
 intro d s σ H xs U Q I r h;let(p,ys,rfl,c,q):=h;let(u,rfl,x):=B8 r;cases x;let hn:=rH;rcases c with c|c;.let(i,R,P,z):=I.list c;let n:=R.length;rwa[Calls.call_len_list P.isList (by simp only[aM]<;>lia) (.I _,H,I.tok _,(_,by rw[aM,n]),q)]
 .let(i,R,P,z):=I.tuple c;let n:=R.length;rwa[len_tuple P (by simp only[aM]<;>lia) (.I _,H,I.tok _,(_,by rw[aM,n]),q)]
def yq:fi X (.builtin "len") λxs H Q=>∃z,xs=[.S z]/\z.length<=Ã/\Q (.I z.length) H:=by intro p s σ H xs U Q I r h;let(z,rfl,c,q):=h;let(u,rfl,t,rfl):=B8 r;let hn:=rH;rwa[len_str () (.I _,H,I.tok _,(_,Ŗ),q)]
def fi.or(h:fi X f r)(h':fi X f R):fi X f λxs H Q=>r xs H Q\/R xs H Q:=by
 intro p s σ H xs u Q I c q;rcases q with q|q;.rwa[h _ s σ H xs u Q I c q]
 .rwa[h' _ s σ H xs u Q I c q]
def yr:fi X (.type "list") λxs H Q=>∃p ys,xs=[.A p]/\(gB X.K H p ys\/gF X.K H p ys)/\∀l,H l=ao->Q (.A l) (de H l (.L ys)):=by
 intro v s σ H xs U Q I r h;let(p,ys,rfl,d,q):=h;let(u,rfl,y):=B8 r;cases y;let f:∀(i:Ł _),Vals ys i->Á ys<=Ã->∀(c:Ç)(C:Ń),(∀b x,s.heap.get? b=O x->c.get? b=O x)->c.get? _=O _->EP X _ σ Q _ {s with heap:=c}:=λi R z c C k e=>(.A _,_,I.laid k (aq _) (show fK _ X.w _ c _ (.L ys)from(z,i,C,R,e)),Ŗ,q _ (I.cV.fresh (aq _)));rcases d with d|d;.let(i,R,P,z):=I.list d;let g:=R.length;let(o,j,m,n,t):=P.isList;rwa[call_list_seq p (.inl Ŗ) j m t (λc C k e=>f i R z c C k e) (by simp only[aM]<;>lia)]
 .let(i,R,P,z):=I.tuple d;let g:=R.length;let(o,j,m,n,t):=P;rwa[call_list_seq p (.inr Ŗ) j m t (λc C k e=>f i R z c C k e) (by simp only[aM]<;>lia)]
def wj:fi X (.type "tuple") λxs H Q=>∃p ys,xs=[.A p]/\((gB X.K H p ys/\∀l,H l=ao->Q (.A l) (de H l (.T ys)))\/gF X.K H p ys/\Q (.A p) H):=by
 intro d s σ H xs U Q I r h;let(p,ys,rfl,h):=h;let(u,rfl,x):=B8 r;cases x;rcases h with ⟨c,q⟩|⟨c,q⟩;.let(i,R,P,z):=I.list c;let n:=R.length;erw[call_tuple_list P.isList (λf k=>?_) (by simp only[aM]<;>lia)];let g:Inv X _ σ H {s with heap:=f}:=I.kept k;let j:Inv X _ σ (de H _ (.T ys)) {s with heap:=f.push _}:=g.laid (λb o e=>ae _ e) (aq _) (z,i,R,qQ _ _);exact(.A _,_,j,Ŗ,q _ (g.cV.fresh (aq _)))
 .let(i,R,P,z):=I.tuple c;rwa[call_tuple_same P (.A p,H,I,Ŗ,q)]
def Dz(K:Å)(T:String)(x:V)(H:Hp):ß:=match x with|.S _=>T="str"|.I _=>T="int"|.A p=>(T="list"/\∃s,gB K H p s)\/(T="tuple"/\∃o,K.lookup p=O o/\o.cls=.type "tuple"/\o.dict=ao)\/T="dict"/\((∃c,H p=O (.dK c))\/∃c,H p=O (.dT c))\/T="set"/\∃S n,H p=O (.set S n)|_=>ŧ
def ϰ{P:Ł _}{σ:È}(I:Inv X P σ H s)(r:RelV x v)(ty:Dz X.K T x H):
  s.TypeIs v T/\∀a,v=.ref a->∃f,s.heap.get? a=O f/\f.dict=none:=by cases x with|S z=>let(t,rfl):=r;cases show T="str"from ty;exact(typeIs_str s z t,λ_ e=>nomatch e)|I i=>let(t,rfl):=r;cases show T="int"from ty;exact(Ap s i t,λ_ e=>nomatch e)|A p=>
  cases r;rcases ty with ⟨rfl,m,q⟩|⟨rfl,o,h,g,d⟩|⟨rfl,h⟩|⟨rfl,S,n,h⟩;.let(j,_,l,_):=I.list q;erw[(l.isList.typeIs,λa e=>?_)];cases e;let(o,n,e,c,d,_):=l;exact(o,e,d)
  .erw[((o,I.kr p o h,g),λa e=>?_)];cases e;exact(o,I.kr _ o h,d)
  .let z:∃o,s.heap.get? p=O o/\o.ExactDict:=by
    rcases h with ⟨k,h⟩|⟨k,h⟩;.let(_,_,_,_,o,_,_,e,ex,_):=I.cV p _ h;exact(o,e,ex)
    .let(_,_,_,_,o,_,_,e,ex,_):=I.cV p _ h;exact(o,e,ex)
   let(o,e,ex):=z;erw[((o,e,ex.1),λa E=>?_)];cases E;exact(o,e,ex.2.1)
  .let(o,_,_,_,e,ex,_):=I.cV p _ h;erw[((o,e,ex.1),λa E=>?_)];cases E;exact(o,e,ex.2.1)|_=>rwa[é ty]
def SH(K:Å)(T:String)(r:V->ϕ->Hp->VK->ß)(to:TE)(t:TA):TE:=λσ H Q=>to σ H λx h=>Dz K T x h/\t σ h λs c=>r x s c Q
def aeJ{id:String}(pa:PlainAttrs T)(slot:Slot T name id)(y:typeOf (.builtin id)=pure (.type "method_descriptor"))(m:y8 X id r)(c:PE X o to)(d:PA X (e::es) t)(n:ø (ft o name X.env (Ê o X.env)=Ê o X.env) o0)(L:ø (((em dg (c7 (e::es) X.env)).all (λx=>!x.1)&&(backToKw dg (hA [] X.env)).all (λx=>x.1.isSome)&&Đ (Á (e::es)+Á ([]:Ł fm)+(if([]:Ł fm).isEmpty then 0 else 1)<30))=J) o0)(q:ø ((cr.endLine==dg.line)=J) o0)(f:ø (c7 (e::es) X.env=(bb,Ê e X.env)::c7 es X.env) o0)(E:ø ((em dg (c7 es X.env)).any (·.1)=bb) o0):PE X (.Call (.Attribute o name cr) (e::es) [] dg) (SH X.K T r to t):=by intro p s σ H Q I h;erw[sH n L q Ŗ (jf (c _ s σ H _ I h) λv s1 x g i R (ty,j)=>?_)];let(k,l):=ϰ i R ty;erw[(T,id,pa,slot,y,k,l,?_)];let A:=d dg _ s1 σ g _ i j;rw[f]at A⊢;rwa[gG (by done) (eM (iD A λu s2 z=>by let(w,B,C,D,F):=z;rwa[m _ s2 σ B x w v u Q C R D F]))]
def MtM(X:Cx)(id:String)(r:V->ϕ->Hp->VK->ß):ß:=∀(p:Ł _)(s:am)(σ:È)(H:Hp)(x:V)(a:ϕ)(v:Â)(u:Ł _)(Q:VK),Inv X p σ H s->RelV x v->Vals a u->r x a H Q->bv (b' X.prog X.w) X.A (call (.builtin id) (v::u)) (EP X p σ Q) X.xe s
def Vals.one:∀{x:V}{us:Ł _},Vals [x] us->∃u,us=[u]/\RelV x u:=by intro _ _ h;cases h with|g r t=>cases t;exact(_,Ŗ,r)
def Vals.two:∀{x y:V}{us:Ł _},Vals [x,y] us->∃u v,us=[u,v]/\RelV x u/\RelV y v:=by intro _ _ _ h;cases h with|g r t=>cases t with|g q t=>cases t;exact(_,_,Ŗ,r,q)
def Vals.zero:∀{us:Ł _},Vals [] us->us=[]|_,.nil=>Ŗ
theorem Vals.reverse(h:Vals xs us):Vals xs.reverse us.reverse:=by induction h with|f=>rwa[.nil]|g r t i=>rw[pC,pC];rwa[Vals.append i (.cons r .nil)]
theorem Vals.rep(h:Vals xs us):∀k:Ń,Vals (Ð k xs).flatten (Ð k us).flatten|0=>.nil|k+1=>by rwa[Vals.append h (Vals.rep h k)]
theorem Hc(its:Ł Â):∀(k:Ń)(acc:Ł _),ô (λx X=>x++X) acc.toArray (Ð k its.toArray)=(acc++(Ð k its).flatten).toArray
 |0,acc=>⋯|k+1,acc=>by
  let e:acc.toArray++its.toArray=(acc++its).toArray:=⋯
  let E:acc++its++(Ð k its).flatten=acc++(Ð (k+1) its).flatten:=by grind
  rw[<-E,<-Hc its k _,<-e,x4,List.foldl_cons]
def Inv.aj2{σ:È}{its:Ł _}(I:Inv X be σ H s)(h:H l=O (.L xs))(e:s.heap.get? l=O {cls:=.type "list",data:=.seq its.toArray n})(a:f its.toArray=A.toArray)(v:Vals ys A)(hz:Á ys<=Ã):Inv X be σ (de H l (.L ys)) {s with heap:=s.heap.update l (î f),toks:=t'}:=by let q:=PySem.IsL.update e f;rw[a]at q;rwa[I.write (by rw[h];rwa[Ť]) (.inl Ŗ) (λB u c hu=>(bI _ _ (cI c)).trans hu) (_,q) (hz,_,_,v,q)]
def Inv.c_{σ:È}(I:Inv X be σ H s)(h:Vals ys its)(hz:Á ys<=Ã):Inv X be σ (de H s.heap.objs.size (.L ys)) {s with heap:=s.heap.push {cls:=.type "list",data:=.seq its.toArray},toks:=t'}:=I.laid (λ_ _ q=>ae _ q) (aq _) (hz,its,0,h,ar _ Ŗ)
theorem Inv.fresh{σ:È}(I:Inv X be σ H s):H s.heap.objs.size=none:=I.cV.fresh (aq _)
def Inv.SR{σ:È}(I:Inv X be σ H s)(h:H l=O (.L xs)):Á xs<=Ã/\∃(its:Ł _)(n:Ń),Vals xs its/\Á xs=Á its/\s.heap.get? l=O {cls:=.type "list",data:=.seq its.toArray n}:=by let(z,its,n,r,e):=I.cV l _ h;exact(z,its,n,r,r.length,e)
def Nc(h:n<=Ã):Builtin.List.listTooLong n=false:=by rwa[cn ()]
def GF:V->ϕ->Hp->VK->ß:=λx v H Q=>∃l s y,x=.A l/\v=[y]/\H l=O (.L s)/\Á s<Ã/\Q .g9 (de H l (.L (s++[y])))
def xC:MtM X "list.append" GF:=by intro p s σ H x d v U Q I R b h;let(l,f,y,rfl,rfl,a,g,q):=h;cases R;let(u,rfl,c):=b.one;let(z,i,n,r,j,e):=I.SR a;erw[gI F.slot_list_append (_,e,Ŗ) F.entry_list_append (F.args_list_append_2 _ _) (PySem.list_append l _ n u nofun) (e,?_)];erw[(.g9,_,I.aj2 a e ⋯ (r.append (.cons c .nil)) ?_,Ŗ,q)];rw[ai,bM];rwa[da ‹_›]
def PP:R2:=λx y H Q=>∃l b s z,x=.A l/\y=.A b/\H l=O (.L s)/\H b=O (.L z)/\Á s+Á z<=Ã/\∀p,H p=ao->Q (.A p) (de H p (.L (s++z)))
def u_:kZ X (binaryOp .Add) PP:=by
 intro p s σ H x y v u Q I R c h;let(l,b,k,Z,rfl,rfl,d,B,m,q):=h;cases R;cases c;let(z,i,n,r,o,e):=I.SR d;let(t,a,N,f,g,E):=I.SR B;erw[PySem.P.add_list e E ?_ (by rw[aM,aM];lia)];let j:i.toArray++a.toArray=(i++a).toArray:=⋯
 rw[j];exact(.A _,_,I.c_ (r.append f) (by rw[ai];rwa[aA ‹_› ∅]),Ŗ,q _ I.fresh)
def ŷ:R2:=λx y H Q=>∃l k s,x=.A l/\y=.I k/\H l=O (.L s)/\-2^63<=k/\k<2^63/\Á s*k.toNat<=Ã/\∀p,H p=ao->Q (.A p) (de H p (.L (Ð k.toNat s).flatten))
def zf{α:Type}(xs:Ł α)(k:Ń):Á (Ð k xs).flatten=k*Á xs:=⋯
def C_:kZ X (binaryOp .Mult) ŷ:=by
 intro p s σ H x y v u Q I R d h;let(l,k,D,rfl,rfl,f,g,j,c,q):=h;cases R;let(t,rfl):=d;let(z,i,n,r,o,e):=I.SR f;let b:i.toArray.size*k.toNat<=Ã:=by rw[aM,<-o];rwa[c]
 let Y:ô (λw B=>w++B) #[] (Ð (if i.toArray.isEmpty=J then 0 else k.toNat) i.toArray)=(Ð k.toNat i).flatten.toArray:=by
  let C:∀m:Ń,ô _ #[] _=(Ð m i).flatten.toArray:=λm=>by let:=Hc i m [];rwa[this]
  rw[C];cases i with|f=>simp|g a E=>rfl
 erw[Wi (by rfl) (_,e,Ŗ) (λS=>Ap S k t) noFill_list_mul F.fills_int_mul tE repeat_list F.slot_int_index.lookup (gI tE (Ap s k t) F.entry_int_rmul (F.args_int_rmul_2 _ _) (int___rmul___int_list k t l _ n) (e,Ŗ,(_,e,Ŗ),gI F.slot_list_mul (_,e,Ŗ) F.entry_list_mul (F.args_list_mul_2 _ _) (AutoListH.list___mul___list_int_3 l _ n k t (by rw[fitsIndex_both g j];rwa[aD]) (by
  let:Ã<=(2^63-1)/8:=∅
  lia) (by rw[Nc b];rwa[aD])) (e,?_)))];rw[Y];exact(.A _,_,I.c_ (r.rep _) (by rw[zf,Nat.mul_comm];rwa[c]),Ŗ,q _ I.fresh)
end L2
namespace Att
open PySem.W PySem.Calls
def sZ:∀(ns:Ł Î)(vs:Ł _),WellAll P h vs (ns.map WData.int)->IntsAre vs ns:=by intro ns;induction ns with|f=>intro vs w;cases w;rwa[.nil]|g n ns i=>intro vs w;cases w with|g a b=>cases a;rwa[.cons _ _ (i _ b)]
def Ju{l:OpenLaw}(hn:l.most=O n)(R:l.row.toRowW.claim.pre args)(H:WellAll P h v args):∃a vs ns,v=[Ò a]/\args=[WData.list (ns.map WData.int)]/\h.get? a=O {cls:=.type "list",data:=.seq vs.toArray}/\IntsAre vs ns/\Á ns<=n:=by let(d,r,rfl,e,f):=hasAllW_cons (pre_splitW R).1;obtain rfl:=hasAllW_nil f;let(x,rfl,g):=hasW_list e;let(ns,rfl):=items_int g;cases H with|g w W=>cases W;cases w with|list o F=>exact(_,_,ns,Ŗ,Ŗ,o,sZ ns _ F,by let b:=condW_of (by let c:=(holds_andW (pre_splitW R).2).1;rw[hn]at c;rwa[c]) (w_not (w_lt w_lit (w_len_list (w_arg Ŗ))));rw[af]at b;first|(rw[cA ()]at b;rwa[Ă b ∅])|lia)
def IU(l:OpenLaw)(args:Ł _):l.row.toRowW.claim.post args (.bool J) args=true:=postW_of (show WShape.has [] _ .bool=J by rfl) (w_eq_bool (w_res Ŗ) w_lit) Ŗ
def Ay{l:OpenLaw}(hn:l.most=O n)(Z:d.params.defaults=[])(call:∀(w:ce)(S s:am)(m M:Æ->Ő _)(F:À)(o:Ú)(p c doc:Â)(a:À)(vs:Ł _)(ns:Ł Î),Ground q L [] XP w S m M s.heap->y w s.heap->s.heap.get? F=O o->o.data=.func (docDef d.name d.params d.body d.scope p c doc)->s.heap.CodeRec c d.name->m d.name=O (.ref F)->s.heap.get? a=O {cls:=.type "list",data:=.seq vs.toArray}->IntsAre vs ns->Á ns<=n->s.gens=#[]->eq (b' l.prog w) callerA (.call (.ref F) ([.ref a],[])) (λr s'=>r=.ok (.ret (.bool J))/\OldK s.heap s'.heap/\s'.os=s.os/\AllBare s'.gens) s):WalkO q L XP y l.row.toRowW d [] λf vs=>PySem.call f vs:=by intro w S s m M G Y F o p c doc e kV g i N D P j args v I R A k b t;obtain rfl:e=.none:=Dflts.none D Z;obtain rfl:kV=.none:=Dflts.noKw D;let(a,vs,ns,rfl,rfl,z,h,H):=Ju hn R b;erw[enter_call (eg (call w _ _ m M F o p c doc a vs ns G Y g (fd_plain i) N P z h H j) λr s' u=>?_)];let(rfl,x,B,C):=u;exact(.inl (_,_,[],Ŗ,λ_=>Ŗ,.bool _,IU l _,λ_=>(List.Pairwise.nil,λ_ E=>nomatch E)),x,B,C)
end Att
namespace L2
def J2:∀{vs:Ł _}{ns:Ł Î},IntsAre vs ns->Vals (ns.map V.I) vs:=by intro vs ns h;induction h with|f=>rwa[.nil]|g n t h i=>rwa[.cons (t,Ŗ) i]
def XW(H:Hp):ß:=∀b,H b=ao\/∃o x,H b=O (.mE o (.L x))
def ME{K:Å}{M j:c4}(R:K.In s₁.heap)(W:s₁.heap.Ns c3 M)(c:s₁.heap.Ns builtinsNs j)(p:∀x:Æ,x≠"__name__"->j x=dN x)(t:s₁.heap.NoLimit)(hg:s₁.gens=#[])(i:s₁.heap.get? a=O {cls:=.type "list",data:=.seq vs.toArray})(S:IntsAre vs ns)(hl:Á ns<=Ã)(hr:fe k callerA)(F:∀base:Ç,K.In base->base.Ns c3 M->iB P w K M base CX k l Q [x] sp)(y:∀(s:am)(u:Â),BindsTo s Q ([u],[]) [(x,u)])(yY:∀H:Hp,XW H->gB K H a (ns.map V.I)->sp [.A a] H (λv _=>v=.B J) λ_ _ _=>ŧ)(X:∀H e s',CX [] H s₁ (λ_ _ _=>ŧ) e s'->ŧ):eq (b' P w) callerA (.call (.ref l) ([.ref a],[])) (λr s'=>r=.ok (.ret (.bool J))/\OldK s₁.heap s'.heap/\s'.os=s₁.os/\AllBare s'.gens) s₁:=by
 let rv:=J2 S;let aqs:=S.length;let C:∀H:Hp,XW H->gB K H a (ns.map V.I)->jY P w H s₁.heap->(∀b,H b≠ao->b=a)->(H a≠ao->K.lookup a=ao)->eq (b' P w) callerA (.call (.ref l) ([.ref a],[])) (λr s'=>r=.ok (.ret (.bool J))/\OldK s₁.heap s'.heap/\s'.os=s₁.os/\AllBare s'.gens) s₁:=by
  intro H T hS U Y hK;let Z:∀{b:À}{o:Ú},s₁.heap.get? b=O o->H b=ao->(yW s₁.heap H).get? b=O o:=λe n=>LO e n;let D:∀{b:À}{o:Ú}{E:Array gc}{ep:Ń},s₁.heap.get? b=O o->o.data=.dict E ep->H b=none:=λ{b o E ep}e d=>by cases q:H b with|a=>rfl|c u=>let G:b=a:=Y b (by rw[q];simp);subst G;rw[i]at e;cases e;let d':Data.seq vs.toArray _=Data.dict E ep:=d;cases d'
  let N:∀{b:À}{m:c4},s₁.heap.Ns b m->(yW s₁.heap H).Ns b m:=λ{b m}zz=>(by let(o,E,ep,e,d,r):=zz;exact(o,E,ep,Z e (D e d),d,r));let f:K.In (yW s₁.heap H):=λb o e=>Z (R b o e) (by cases q:H b with|a=>rfl|c u=>let G:b=a:=Y b (by rw[q];simp);subst G;rw[hK (by rw[q];simp)]at e;cases e);let hM:Mod K M (yW s₁.heap H):=(f,N W,(j,N c,p),let (mc,h1,h2):=t;(mc,N h1,h2));let e0:yb P w K M (yW s₁.heap H) callerA [] s₁ H:=(Ŗ,hM,λb o e=>Tc e,eI (Ij _ _),Ť,λb c=>Ă (show b∈([]:Ł À)from c) ⋯,U,.of_eq hg);erw[eg ((F _ f (N W)).run callerA [] s₁ H ([.ref a],[]) [.ref a] [.A a] _ _ hr e0 (y s₁ (.ref a)) (.cons Ŗ .nil) (yY H T hS)) λr s' h=>?_];cases r with|error e=>exact(X H e s' h).elim|ok fl=>cases fl with|next=>rwa[é h]|brk=>rwa[é h]|cont=>rwa[é h]|ret u=>let(v,H',os,g,un,LV,r',q):=h;let q':v=.B true:=q;subst q';obtain rfl:u=Value.bool true:=r';erw[(Ŗ,OldK.of_keep λb o e=>?_,os,g)];cases q:H b with|a=>rwa[un.keep b o e q (by intro z;rwa[Ă (show b∈([]:Ł À)from z) ⋯]) ⋯]|c u=>
     rcases T b with z|⟨ob,xs,z⟩;.lia
     .let(e1,_):=U b _ z;let(e2,_):=LV b _ (un.mG b ob _ z);rw[e]at e1;cases e1;rwa[e2]
 cases L:K.lookup a with|c o=>let e:=R a o L;rw[i]at e;cases e;rwa[C _ (λ_=>.inl Ŗ) (.inr (_,_,_,L,Ŗ,Ŗ,Ŗ,nofun,by done)) λb u z=>by done (λb z=>Ă Ŗ z) λz=>Ă Ŗ z]|a=>
  erw[C (λb=>if b=a then O (.mE {cls:=.type "list",data:=.seq vs.toArray} _)else ao) (λb=>?_) (.inl (.inr (_,bV Ŗ))) (λb u z=>?_) (λb z=>?_) λ_=>L]
  .by_cases c:b=a;.rwa[.inr (_,_,bV c)]
   .rwa[.inl (bN c)]
  .by_cases c:b=a;.let z':=(bV c).symm.trans z;cases z';subst c;exact(i,by rw[af];rwa[hl],vs,_,rv,i)
   .left
  .by_cases c:b=a;.done
   .rwa[Ă (bN c) z]
def VX{l:OpenLaw}{K:Params->Å}{CX:ce->uv}{sp:ce->Sp}(hn:l.most=O n)(Z:n<=Ã)(z:d.params.defaults=[])(C:fe k callerA)(D:∀(w:ce)(h:Ç),y w h->(K w.params).In h)(F:∀(w:ce)(m:Æ->Ő _)(j:À)(h:Ç),(K w.params).In h->h.Ns c3 m->m d.name=O (.ref j)->∃p:c',(∀(s:am)(u:Â),BindsTo s p ([u],[]) [(x,u)])/\∀base:Ç,(K w.params).In base->base.Ns c3 m->iB l.prog w (K w.params) m base (CX w) k j p [x] (sp w))(E:∀(w:ce)(H:Hp)(a:À)(ns:Ł Î),Á ns<=n->XW H->gB (K w.params) H a (ns.map V.I)->sp w [.A a] H (λv _=>v=.B J) λ_ _ _=>ŧ)(X:∀(w:ce)(H:Hp)(s:am)(e:Â)(s':am),CX w [] H s (λ_ _ _=>ŧ) e s'->ŧ):WalkO q L XP y l.row.toRowW d [] λf vs=>PySem.call f vs:=by erw[Att.Ay hn z λw S r m mb j o pm cd doc a vs ns G Y ho hd oN P M i c N=>?_];let t:=D w _ Y;let(p,Q,R):=F w m j _ t G.T.g P;rwa[ME t G.T.g G.T.b G.T.builtins G.T.nolimit N M i (aA c Z) C R Q (λH U W=>E w H a ns c U W) λH e s'=>X w H _ e s']
def cW(s:É)(j:Ń):É:=match s with|.ClassDef _ _ _ body _ _ _ _ _ _ _=>body.getD j (.Pass (0,0,0,0))|_=>.Pass (0,0,0,0)
def hV(s:É):Arguments:=match s with|.FunctionDef _ a _ _ _ _ _ _ _ _=>a|_=>{posonlyargs:=[],args:=[],vararg:=ao,kwonlyargs:=[],kw_defaults:=[],kwarg:=ao,defaults:=[]}
def bR(s:É):Ł É:=match s with|.FunctionDef _ _ b _ _ _ _ _ _ _=>b|_=>[]
def ay(s:É):Í:=match s with|.FunctionDef _ _ _ _ _ _ S _ _ _=>S|_=>{kind:=.function,names:=[],isGenerator:=bb,isCoroutine:=bb}
abbrev BP:uv:=λ_ _ _ _ _ _=>ŧ
abbrev E0:XK:=λ_ _ _=>ŧ
def Ϣ:f9 BP X E0:=λ_ _ _ _ _ _ _ h=>h.elim
structure BQ(K:Å)(x cN:Æ)(st:É)(f:À)(fd:c'):ß where
 ex:∃(oc:Â)(od:Ő À)(kV doc pm:Â)(an:Ő À)(eK ct:Â)(rQ:Array (Ő Â)),fd=fnOf x cN (hV st) (bR st) (ay st) .none kV doc pm an eK ct/\K.lookup f=O (oc,od,.func fd,rQ)/\codeIn K eK cN=J
 kp:keepIn K (.ref f)=J
def BQ.ok{K:Å}{mg:c4}{base:Ç}{x l:Æ}{st:É}{f:À}{d:c'}{N ps:ϐ}{k:Ń}{sp:Sp}(F:BQ K x l st f d)(S:cU N ps (ay st))(len:∀vs H Q E,sp vs H Q E->Á vs=Á ps)(i:∀(e:Â)(A:cp)(o:Ł Û)(s:am)(H:Hp)(vs:ϕ)(Q:VK)(E:XK),fe k (A.deeper (envOfC l (ay st) s.heap.objs.size f e))->sp vs H Q E->∃t,jZ (oh BP P w K mg base N l (ay st) f e A o s H E).BX (bR st) t/\t {nx:=λ_ H'=>Q .g9 H',rt:=Q} (start N vs) H):iB P w K mg base BP (k+1) f d ps sp:=by let(oc,b,kV,doc,p,n,e,c,R,rfl,lk,a):=F.ex;erw[xq lk a S len λA o s H vs Q E r y=>?_];let(t,h,q):=i e A _ s H vs Q E r y;exact(t,h.BX,q)
def BQ.binds{K:Å}{st:É}(F:BQ K x q st f d)(h:∀(kV doc p:Â)(a:Ő _)(e c:Â)(us:Ł _),Á us=Á ps->bindArgs (fnOf x q (hV st) (bR st) (ay st) .none kV doc p a e c) (us,[])=pure (ps.zip us)):Binds K d ps []:=by let(oc,o,kV,doc,p,a,e,c,r,rfl,lk,N):=F.ex;rwa[.all (h kV doc p a e c)]
def Zh{K:Å}{st:É}{kV:Â}(l:K.lookup f=O (oc,o,.func (fnOf x q (hV st) (bR st) (ay st) .none kV doc p a e C),r))(c:codeIn K e q)(k:keepIn K (.ref f)):BQ K x q st f (fnOf x q (hV st) (bR st) (ay st) .none kV doc p a e C):=((oc,o,kV,doc,p,a,e,C,r,Ŗ,l,c),k)
def rb(H H':Hp):ß:=∀b o,H b=O o->H' b=O o
def rb.refl(H:Hp):rb H H:=λ_ _ h=>h
section
variable(P:ci)(w:ce)
end
section
variable{κ:Type}[DecidableEq κ]
def jh(a:Ł (κ×V))(k:κ):Ő V:=(a.find? λK=>Đ (K.1=k)).map (·.2)
def jK(a:Ł (κ×V))(k:κ)(v:V):Ł (κ×V):=if(a.any λK=>Đ (K.1=k))=J then a.map λK=>if K.1=k then(K.1,v)else K else a++[(k,v)]
def lH{k:κ}(e:p.1=k):jh (p::r) k=O p.2:=by simp[jh,ji,e]
def lG{k:κ}(e:¬p.1=k):jh (p::r) k=jh r k:=by simp[jh,ji,e]
theorem BK(k:κ):∀a:Ł _,(a.any λK=>Đ (K.1=k))=(jh a k).isSome
 |[]=>Ŗ|p::r=>by
  rw[pM];by_cases e:p.1=k;.simp only[lH e,cA e,Bool.true_or,Option.isSome_some]
  .rw[lG e,cn e];rwa[BK k r]
def kf(a:Ł _)(k:κ)(v:V):Á (jK a k v)<=Á a+1:=by
 delta jK;split;.simp
 .simp
def mz.lj(r:mz o u):o.isSome=u.isSome:=by induction o with
 |a=>induction u with|a=>rfl|c _=>exact(r).elim
 |c _=>induction u with|a=>exact(r).elim|c _=>rfl
theorem mz.getD(r:mz o u)(rd:RelV d d'):RelV (o.getD d) (u.getD d'):=by induction o with
 |a=>induction u with|a=>done|c _=>exact(r).elim
 |c _=>induction u with|a=>exact(r).elim|c _=>rwa[r]
def KV.val(r:KV a vs)(k:κ):mz (jh a k) (valueAt vs k):=by induction r with|f=>done|@g p q ps Q h t i=>
  let(H,c):=h;by_cases e:p.1=k
  .let E:=H.symm.trans e;let b:valueAt (q::Q) k=O q.2:=by simp[valueAt,ji,E]
   rw[lH e,b];rwa[c]
  .let E:¬q.1=k:=λz=>e (H.trans z);let b:valueAt (q::Q) k=valueAt Q k:=by simp[valueAt,ji,E]
   rw[lG e,b];rwa[i]
theorem KV.any(r:KV a vs)(k:κ):(a.any λK=>Đ (K.1=k))=vs.any λK=>Đ (K.1=k):=by induction r with|f=>rfl|g h t i=>left
def KV.Λ(r:KV a vs)(k:κ){y:V}{u:Â}(R:RelV y u):KV (a.map λK=>if K.1=k then(K.1,y)else K) (vs.map λK=>if K.1=k then(K.1,u)else K):=by induction r with|f=>rwa[.nil]|@g p q ps Q h t i=>
  rw[cq,cq];erw[.cons ?_ i];let(H,b):=h;by_cases e:p.1=k;.rw[bV e,bV (H.symm.trans e)];exact(H,R)
  .rw[bN e,bN λz=>e (H.trans z)];exact(H,b)
def KV.put{a:Ł _}{vs:Ł _}(r:KV a vs)(k:κ){y:V}{u:Â}(R:RelV y u):KV (jK a k y) (stored vs k u):=by
 delta jK stored;rw[r.any k];by_cases e:(vs.any λK=>Đ (K.1=k))=J;.rw[bV e,bV e];rwa[r.Λ k R]
 .rw[bN e,bN e];rwa[Paired.snoc r (Ŗ,R)]
def KV.keys{a:Ł (κ×V)}{vs:Ł _}(r:KV a vs):a.map (·.1)=vs.map (·.1):=by induction r with|f=>rfl|g h t i=>left
theorem KV.length{a:Ł (κ×V)}{vs:Ł _}(r:KV a vs):Á a=Á vs:=Ad r
end
def sk(r:RelV (kV k) u):(dO P w).is k u=true:=by induction k with|inl i=>let(t,e):=r;subst e;rwa[sv P w i t]|inr x=>let(t,e):=r;subst e;rwa[nA P w x t]
theorem xv:∀{ks:Ł cs}{us:Ł _},Vals (ks.map kV) us->ItemsAre (dO P w) ks us|[],_,r=>by cases r;rwa[.nil]|k::ks,_,r=>by cases r with|g h t=>rwa[.cons (sk h) (xv t)]
abbrev KT(H:Hp):Ł (Ł cs×V)->Ł (Ł cs×À×Â)->ß:=Paired λp q=>p.1=q.1/\H q.2.1=O (.T (p.1.map kV))/\RelV p.2 q.2.2
def KT.val(r:KT H a xs)(k:Ł cs):mz (jh a k) ((atKey xs k).map (·.2)):=by induction r with|f=>done|@g p q ps Q h t i=>
  let(c,_,d):=h;by_cases e:p.1=k
  .let E:=c.symm.trans e;let b:atKey (q::Q) k=O q.2:=by simp[atKey,ji,E]
   rw[lH e,b];rwa[d]
  .let E:¬q.1=k:=λz=>e (c.trans z);let b:atKey (q::Q) k=atKey Q k:=by simp[atKey,ji,E]
   rw[lG e,b];rwa[i]
def KT.Λ(r:KT H A xs)(k:Ł cs)(R:RelV y u):KT H (A.map λK=>if K.1=k then(K.1,y)else K) (xs.map (putAt k u)):=by induction r with|f=>rwa[.nil]|@g p q ps Q h t i=>
  rw[cq];erw[.cons ?_ i];let(a,b,c):=h;delta putAt;by_cases e:p.1=k;.rw[bV e,bV (a.symm.trans e)];exact(a,b,R)
  .rw[bN e,bN λz=>e (a.trans z)];exact(a,b,c)
def KT.put(r:KT H a xs)(k:Ł cs)(h:H b=O (.T (k.map kV)))(R:RelV y u):KT H (jK a k y) (storedH xs k b u):=by
 let e:(a.any λK=>Đ (K.1=k))=(atKey xs k).isSome:=by rw[BK,(r.val k).lj,B4]
 delta jK storedH;rw[e];by_cases q:(atKey xs k).isSome=J;.rw[bV q,bV q];rwa[r.Λ k R]
 .rw[bN q,bN q];rwa[Paired.snoc r (Ŗ,h,R)]
def KT.keeps(r:KT H a xs)(h:∀b ys,H b=O (.T ys)->H' b=O (.T ys)):KT H' a xs:=Paired.ad2 r λ_ _ z=>(z.1,h _ _ z.2.1,z.2.2)
def Xv(ok:jY P w H h)(e:Rd H a u):fK P w H h a u:=e.ok ok
def si(ok:jY P w H h)(e:Rd H a (.dK A)):Á A<=Ã/\(a==e9)=bb/\∃vs,KV A vs/\h.DictOf (dO P w) a vs:=Xv ok e
def WC(ok:jY P w H h)(e:H a=O (.dK A)):Á A<=Ã/\(a==e9)=bb/\∃vs,KV A vs/\h.DictOf (dO P w) a vs:=si ok (.inl e)
def nI(ok:jY P w H h)(e:H a=O (.T (ks.map kV))):(tupleKind (dO P w)).is h ks a:=by let(_,i,r,o,b,c,n,d):=ok a _ e;exact(o,_,n,b,c,d,by simpa using xv r)
def uM(ok:jY P w H h)(e:Rd H a (.dT A)):Á A<=Ã/\(a==e9)=bb/\∃xs,KT H A xs/\h.DictOfH (tupleKind (dO P w)) a xs:=by
 let(z,y,xs,r,o,E,c,d,f,g,i,j):=Xv ok e;erw[(z,y,xs,r,o,E,c,d,f,g,i,λx b=>?_,j)];let all:∀{l:Ł _}{m:Ł _},KT H l m->∀x∈m,(tupleKind (dO P w)).is h x.1 x.2.1:=by intro l m q;induction q with|f=>simp|@g p q ps Q k t I=>
   intro x b;rcases aB.mp b with e|b;.rwa[nI ok nofun]
   .rwa[I x b]
 rwa[all r x b]
def WD(ok:jY P w H h)(e:H a=O (.dT A)):Á A<=Ã/\(a==e9)=bb/\∃xs,KT H A xs/\h.DictOfH (tupleKind (dO P w)) a xs:=uM ok (.inl e)
def qX(H:Hp)(a:À)(y:V)(r:Ő V):ß:=(∃c k,Rd H a (.dK c)/\y=kV k/\r=jh c k)\/∃c k b,Rd H a (.dT c)/\y=.A b/\H b=O (.T (k.map kV))/\r=jh c k
def Ar(H:Hp)(a:À)(y v:V)(H':Hp):ß:=(∃c k,H a=O (.dK c)/\y=kV k/\Á c<Ã/\H'=de H a (.dK (jK c k v)))\/∃c k b,H a=O (.dT c)/\y=.A b/\H b=O (.T (k.map kV))/\Á c<Ã/\H'=de H a (.dT (jK c k v))
theorem Ar.k{H:Hp}{a:À}{A:Ł _}{k:cs}{v:V}(e:H a=O (.dK A))(h:Á A<Ã):Ar H a (kV k) v (de H a (.dK (jK A k v))):=.inl (A,k,e,Ŗ,h,Ŗ)
def Ar.t{k:Ł cs}(e:H a=O (.dT c))(E:H b=O (.T (k.map kV)))(h:Á c<Ã):Ar H a (.A b) v (de H a (.dT (jK c k v))):=.inr (c,k,b,e,Ŗ,E,h,Ŗ)
def Inv.big{σ:È}(I:Inv X be σ H s):e9<s.heap.objs.size:=by rwa[Nat.lt_trans ∅ (I.mod.glob.keeps I.bk).lt]
def HM{σ:È}{E:c9}{Q:c9}(hu:A.units+1<Ï)(I:Inv X be σ H s)(g:qX H a y (O v))(R:RelV y u)(h:∀W s',Inv X be σ H s'->RelV v W->Q W s'):bv (b' X.prog X.w) A (getItem (.ref a) u) Q E s:=by
 rcases g with ⟨f,k,e,c,l⟩|⟨f,k,b,e,c,i,l⟩;.subst c;let(z,j,n,rel,dd):=si I.cV e;let(W,d,Z):=mz.some_of (by rw[l];rwa[rel.val k]);rwa[Hf (sk R) dd.mapOf d (h W _ (I.tok _) Z)]
 .subst c;cases R;let(z,j,x,rel,dd):=uM I.cV e;let(W,d,Z):=mz.some_of (by rw[l];rwa[rel.val k]);let(p,m,L):=cZ.mp d;erw[wpAny_getItem_heap (jl hu) (nI I.cV i) dd m ?_];rw[L];rwa[h W _ (I.tok _) Z]
def aiA{σ:È}{E:c9}{Q:c9}(hu:A.units+1<Ï)(I:Inv X be σ H s)(g:qX H a y o)(R:RelV y u)(h:∀s',Inv X be σ H s'->Q (.bool o.isSome) s'):bv (b' X.prog X.w) A (compareOp .In u (.ref a)) Q E s:=by
 rcases g with ⟨f,k,e,c,l⟩|⟨f,k,b,e,c,i,l⟩;.subst c;let(z,d,j,rel,dd):=si I.cV e;erw[wpAny_in_of (sk R) d dd.mapOf ?_];rw[<-(rel.val k).lj,<-l];rwa[h _ (I.tok _)]
 .subst c;cases R;let(z,d,x,rel,dd):=uM I.cV e;erw[wpAny_in_heap (jl hu) (nI I.cV i) d dd ?_];let q:=(rel.val k).lj;rw[B4]at q;rw[<-q,<-l];rwa[h _ (I.tok _)]
def Ra{σ:È}{E:c9}{Q:c9}(hu:A.units+1<Ï)(I:Inv X be σ H s)(g:qX H a y o)(R:RelV y u)(h:∀s',Inv X be σ H s'->Q (.bool !o.isSome) s'):bv (b' X.prog X.w) A (compareOp .NotIn u (.ref a)) Q E s:=by
 rcases g with ⟨f,k,e,c,l⟩|⟨f,k,b,e,c,i,l⟩;.subst c;let(z,d,j,rel,dd):=si I.cV e;erw[wpAny_notIn_of (sk R) d dd.mapOf ?_];rw[<-(rel.val k).lj,<-l];rwa[h _ (I.tok _)]
 .subst c;cases R;let(z,d,x,rel,dd):=uM I.cV e;erw[wpAny_notIn_heap (jl hu) (nI I.cV i) d dd ?_];let q:=(rel.val k).lj;rw[B4]at q;rw[<-q,<-l];rwa[h _ (I.tok _)]
def yG{σ:È}(I:Inv X be σ H s)(m:mo (H a))(h:Ý a s.heap h')(e:∃q,h'.get? a=O q)(new:fK X.prog X.w (de H a c) h' a c):Inv X be σ (de H a c) {s with heap:=h',toks:=t'}:=I.write m (.inl Ŗ) (λb q d z=>(h.2 b d).trans z) e new
def yK(z:Á b<=Ã)(h:(a==e9)=bb)(R:KV b vs)(dd:h'.DictOf (dO P w) a vs):fK P w H' h' a (.dK b):=(z,h,vs,R,dd)
def HR{σ:È}{E:c9}(hu:A.units+1<Ï)(I:Inv X be σ H s)(g:Ar H a y v H')(R:RelV y u)(p:RelV v r)(h:∀s',Inv X be σ H' s'->Q ⟨⟩ s'):bv (b' X.prog X.w) A (setItem (.ref a) u r) Q E s:=by
 rcases g with ⟨f,k,e,i,l,j⟩|⟨f,k,b,e,i,t,l,j⟩
 .subst i j;let(z,m,B,rel,dd):=WC I.cV e;let C:Á B<=Ã:=by rw[<-rel.length];rwa[z]
  rwa[wpAny_setItem_pairs (sk R) dd λD Y n=>h _ (yG I (by rw[e];rwa[å]) n (let (q,_,_,d,_):=Y;(q,d)) (yK (by let:=kf f k v;omega) m (rel.put k p) Y))]
 .subst i j;cases R;let(z,m,F,rel,dd):=WD I.cV e;let C:Á F<=Ã:=by rw[<-Ad rel];rwa[z]
  erw[wpAny_setItem_heap (jl hu) (nI I.cV t) dd λD Y n=>h _ ?_];let(q,G,K,d,L,M,N,_,P):=Y;erw[yG I (by rw[e];rwa[å]) n (q,d) (by let:=kf f k v;omega,m,_,(rel.put k t p).keeps λc S x=>?_,q,G,K,d,L,M,N,P)];rw[bw (ad8 x e λz=>nomatch z)];rwa[x]
def acz{σ:È}{E:c9}{Q:c9}(I:Inv X be σ H s)(e:Rd H a (.dK aO))(h:∀t s',Inv X be σ H s'->Q (.int (Á aO) t) s'):bv (b' X.prog X.w) A (call (.builtin "len") [.ref a]) Q E s:=by let(z,d,v,rel,dd):=si I.cV e;erw[call_len_dict d dd (by rw[<-rel.length];rw[jx]at z;omega) ?_];rw[<-rel.length];rwa[h _ _ (I.tok _)]
def XU(i:Ä):ß:=∀o I,subscripted i bb o I=operate [o,I] (getItem o I)
def Vh{E:c9}{id:String}{Q:c9}(l:hG (.type T) "__getitem__"=pure (O (.builtin id)))(f:XU S)(h:bv (b' prog w) A (Ê v env) (λo b=>bv (b' prog w) A (Ê S env) (λi a=>a.TypeIs o T/\bv (b' prog w) A (getItem o i) Q E a) E b) E s):bv (b' prog w) A (Ê (.Subscript v S pos) env) Q E s:=by erw[Qi (cX h (λo b c=>cX c (λi a H=>?_) λ_ _ x=>x) λ_ _ x=>x)];let(g,H):=H;erw[aa ?_];erw[aa (Km g l ?_)];first|rwa[ah (aa (by rw[f o i];rwa[wpAny_operating (cX H (λr e d=>aa (wpAny_letTemporaryGo (ah d))) λ_ _ x=>x)]))]|rfl|rfl
def AS{p:Ł _}{σ:È}(I:Inv X p σ H s)(g:qX H a y o):s.TypeIs (.ref a) "dict":=by
 rcases g with ⟨A,k,e,_,_⟩|⟨A,k,b,e,_,_,_⟩;.let(_,_,v,_,dd):=si I.cV e;rwa[dd.typeIs]
 .let(_,_,x,_,dd):=uM I.cV e;rwa[dd.typeIs]
def afG(t ty:TE):TE:=λσ H Q=>t σ H λx b=>ty σ b λy h=>∃a v,x=.A a/\qX h a y (O v)/\Q v h
def alh(ty t:TE):TE:=λσ H Q=>ty σ H λy b=>t σ b λx h=>∃a o,x=.A a/\qX h a y o/\Q (.B o.isSome) h
def Vn(ty t:TE):TE:=λσ H Q=>ty σ H λy b=>t σ b λx h=>∃a o,x=.A a/\qX h a y o/\Q (.B !o.isSome) h
def Oy(t ty T:TE):TS:=λD σ H=>T σ H λv b=>t σ b λx c=>ty σ c λy d=>∃a h,x=.A a/\Ar d a y v h/\D.nx σ h
def TB{X:Cx}{o i:Ä}{pos:Ó}{td ty:TE}(hu:X.A.units+1<Ï)(c:PE X o td)(d:PE X i ty)(f:autoParam (XU i) Ľ):PE X (.Subscript o i pos) (afG td ty):=by intro p s σ H Q I h;erw[Vh oV.lookup f (jf (c _ s σ H _ I h) λu s1 x j k r q=>jf (d _ s1 σ j _ k q) λt s2 y l b R a=>?_)];let(a,v,ex,g,m):=a;subst ex;obtain rfl:u=Ò a:=r;exact(AS b g,HM hu b g R λw S n z=>(v,l,n,z,m))
def zx(hu:X.A.units+1<Ï)(b:PE X i ty)(c:PE X o td):PC X .In i o (alh ty td):=by intro p s σ H Q I h;erw[jf (b _ s σ H _ I h) λv s1 y d f r q=>jf (c _ s1 σ d _ f q) λu s2 x j k R a=>?_];let(a,n,ex,g,l):=a;subst ex;obtain rfl:u=Ò a:=R;rwa[aiA hu k g r λS m=>(.B _,j,m,Ŗ,l)]
def II(hu:X.A.units+1<Ï)(b:PE X i ty)(c:PE X o td):PC X .NotIn i o (Vn ty td):=by intro p s σ H Q I h;erw[jf (b _ s σ H _ I h) λv s1 y d f r q=>jf (c _ s1 σ d _ f q) λu s2 x j k R a=>?_];let(a,n,ex,g,l):=a;subst ex;obtain rfl:u=Ò a:=R;rwa[Ra hu k g r λS m=>(.B _,j,m,Ŗ,l)]
def Gz(hu:X.A.units+1<Ï)(b:PE X o td)(c:PE X i ty)(d:PE X ed tv)(f:g7 ed (O (.Subscript o i pos')) pos.line X.env=pure bb):PS X (.Assign [.Subscript o i pos'] ed pos) (Oy td ty tv):=by intro p s σ H D I h;erw[wpAny_Assign_Subscript (jf (d _ s σ H _ I h) λr s1 v j k R q=>jf (b _ s1 σ j _ k q) λu s2 x l m n Q=>jf (c _ s2 σ l _ m Q) λE S y F t w a=>?_) f];let(a,z,ex,g,B):=a;subst ex;obtain rfl:u=Ò a:=n;rwa[HR hu t g w R λG C=>(σ,z,C,B)]
def Ll(h:Ç)(b:e9<h.objs.size):fK P w H (h.push {cls:=.type "dict",data:=.dict #[]}) h.objs.size (.dK []):=(cw _,cG.mpr (cI (aF b)),[],.nil,Ki h)
def Lr(h:Ç)(b:e9<h.objs.size):fK P w H (h.push {cls:=.type "dict",data:=.dict #[]}) h.objs.size (.dT []):=(cw _,cG.mpr (cI (aF b)),[],.nil,_,#[],0,ar _ Ŗ,(Ŗ,Ŗ,Ŗ),Ŗ,Ŗ,jN)
def aat:TE:=λ_ H Q=>∀p,H p=ao->Q (.A p) (de H p (.dK []))
def aau:TE:=λ_ H Q=>∀p,H p=ao->Q (.A p) (de H p (.dT []))
def vo:PE X (.Dict [] [] pos) aat:=λp s σ H Q I h=>wpAny_Dict_empty (.A _,_,I.laid (λ_ _ q=>ae _ q) (aq _) (Ll _ I.big),Ŗ,h _ (I.cV.fresh (aq _)))
def Nw:PE X (.Dict [] [] pos) aau:=λp s σ H Q I h=>wpAny_Dict_empty (.A _,_,I.laid (λ_ _ q=>ae _ q) (aq _) (Lr _ I.big),Ŗ,h _ (I.cV.fresh (aq _)))
def jd(A more:Ł (cs×V)):Ł (cs×V):=more.foldl (λa k=>jK a k.1 k.2) A
def KV.merge:∀{m:Ł _}{R:Ł _}{a:Ł _}{vs:Ł _},KV m R->KV a vs->KV (jd a m) (merged vs R):=by intro m R a vs r;induction r generalizing a vs with|f=>intro q;rwa[q]|@g p q ps Q h t i=>
  intro b;let e:KV (jK a p.1 p.2) (stored vs q.1 q.2):=by let:=b.put p.1 h.2;rw[<-h.1];rwa[this]
  rwa[i e]
theorem ku:∀(m a:Ł _),Á (jd a m)<=Á a+Á m|[],a=>by show(Á a)<=Á a+0;omega|p::r,a=>by let h1:=ku r (jK a p.1 p.2);let h2:=kf a p.1 p.2;show(Á (jd (jK a p.1 p.2) r))<=_;rw[aJ];omega
structure M2(X:Cx)(o:Ä)(m:Æ)(cr:Ó)(e f:Ä)(dg:Ó):ß where
 base:ft o m X.env (Ê o X.env)=Ê o X.env
 few:((em dg (c7 [e,f] X.env)).all (λx=>!x.1)&&(backToKw dg (hA [] X.env)).all (λx=>x.1.isSome)&&Đ (Á ([e,f]:Ł Ä)+Á ([]:Ł fm)+(if([]:Ł fm).isEmpty then 0 else 1)<30))=J
 line:(cr.endLine==dg.line)=J
 trees:em dg (c7 [e,f] X.env)=[(bb,Ê e X.env),(bb,Ê f X.env)]
def eP(H:Hp)(a:À):ß:=(∃A,Rd H a (.dK A))\/∃A,Rd H a (.dT A)
def Mc{p:Ł _}{σ:È}(I:Inv X p σ H s)(d:eP H a):s.TypeIs (.ref a) "dict"/\(∀b,Ò a=.ref b->∃o,s.heap.get? b=O o/\o.dict=ao)/\(a==e9)=false:=by
 rcases d with ⟨A,e⟩|⟨A,e⟩;.let(_,h,v,_,dd):=si I.cV e;erw[(dd.typeIs,λb q=>?_,h)];cases q;let(o,_,_,c,f,_):=dd;exact(o,c,f.2.1)
 .let(_,h,x,_,dd):=uM I.cV e;erw[(dd.typeIs,λb q=>?_,h)];cases q;let(o,_,_,c,f,_):=dd;exact(o,c,f.2.1)
def YB{σ:È}{E:c9}{Q:c9}(hu:A.units+1<Ï)(I:Inv X be σ H s)(g:qX H a y o)(R:RelV y u)(rd:RelV d r)(h:∀W s',Inv X be σ H s'->RelV (o.getD d) W->Q W s'):bv (b' X.prog X.w) A (call (.builtin "dict.get") [.ref a,u,r]) Q E s:=by
 rcases g with ⟨i,k,e,c,l⟩|⟨i,k,b,e,c,j,l⟩;.subst c;let(z,f,v,rel,dd):=si I.cV e;erw[sG eA dd.typeIs jS (qT _ _ _) (RX _ a (sk R) f r) (_,dd.mapOf,h _ _ (I.tok _) ?_)];rw[l];exact(rel.val k).getD rd
 .subst c;cases R;let(z,f,x,rel,dd):=uM I.cV e;erw[sG eA dd.typeIs jS (qT _ _ _) (meetsH_dict_get_default _ a b f r) (jl hu,k,x,nI I.cV j,dd,h _ _ (I.tok _) ?_)];rw[l];exact(rel.val k).getD rd
def OZ(t ty T:TE):TE:=λσ H Q=>t σ H λx h=>∃a,x=.A a/\eP h a/\ty σ h λy c=>T σ c λz b=>∃o,qX b a y o/\Q (o.getD z) b
def Nv(hu:X.A.units+1<Ï)(b:PE X o td)(c:PE X e ty)(j:PE X f tx)(m:M2 X o "get" cr e f dg):PE X (.Call (.Attribute o "get" cr) [e,f] [] dg) (OZ td ty tx):=by intro p s σ H Q I h;erw[wpAny_Call_method m.base m.few m.line jw eA uq (jf (b _ s σ H _ I h) λu s1 x k i r a=>?_)];let(a,ex,d,q):=a;subst ex;obtain rfl:u=Ò a:=r;let(t,T,_):=Mc i d;erw[(t,T,?_)];rw[m.trees];rwa[gG Ŗ (eM (dh (jf (c _ s1 σ k _ i q) λF s2 y l n R v=>dh (jf (j _ s2 σ l _ n v) λG S z w B C Z=>Z.elim λK Z=>Z.elim λg D=>fN (YB hu B g R C λW L E P=>(_,w,E,P,D))))))]
end L2
namespace Att
open PySem.W PySem.Calls
end Att
namespace L2
def Qq(h:Ç)(a:À)(its:Array Â):ß:=∃(o:Ú)(n:Ń),h.get? a=O o/\o.cls=.type "tuple"/\o.dict=ao/\o.data=.seq its n
def Ku(a:À)(bs:Ł À):HO:=.ext λh=>Qq h a (bs.map Ò).toArray
def pU(cells:Ł (Æ×À))(names:Ł (Æ×NameKind))(acc:Ł (Æ×À)):Ł (Æ×À):=match names with|[]=>acc|(n,k)::r=>pU cells r (if k==.free then(n,(cells.lookup n).getD 0)::acc else acc)
theorem pV:∀{names:Ł _}{acc:Ł _},(∀y∈names,y.2=.free->∃c,cells.lookup y.1=O c)->(∀x c,acc.lookup x=O c->cells.lookup x=O c)->∀x c,(pU cells names acc).lookup x=O c->cells.lookup x=O c
 |[],acc,_,h,x,c,e=>h x c e|(n,k)::r,acc,H,h,x,c,e=>by
  erw[pV (λy a=>H y (aH _ a)) ?_ x c e];intro X C E;by_cases b:k=.free;.subst b;let(d,f):=H _ aL Ŗ;induction g:X==n with|d=>grind|e=>grind
  .grind
theorem uF:∀{names:Ł _}{acc:Ł _}{x:Æ},(∃c,acc.lookup x=O c)\/(x,ç)∈names->∃c,(pU cells names acc).lookup x=O c
 |[],acc,x,h=>by
  rcases h with h|h;.rwa[h]
  .grind|(n,k)::r,acc,x,h=>by
  delta pU;erw[uF ?_];by_cases H:k=.free;.subst H;simp only[iJ,mO,iH];induction a:x==n with|d=>lia|e=>grind
  .grind
theorem oG:∀{names:Ł _}{acc:Ł _},(∀y∈names,y.2=.free->∃c,env.cells.lookup y.1=O c)->(forIn names acc λ(x:Æ×NameKind)r=>if x.2==.free then(do let a<-cellOf env x.1;pure (ü ((x.1,a)::r)))else pure (ü r))=pure (pU env.cells names acc)
 |[],acc,_=>Ŗ|(n,k)::r,acc,h=>by
  rw[eQ];let i:=λX=>oG (acc:=X) λy H=>h y (aH _ H);by_cases b:k=.free;.subst b;let(c,d):=h _ aL Ŗ;simp only[iJ,mO,cellOf,d,pure_bind,pU,Option.getD_some];rwa[i _]
  .let e:(k==ç)=false:=()
   simp only[e,dP,gS,pure_bind,pU];rwa[i _]
def CH(h:∀y∈s.names,y.2=.free->∃c,env.cells.lookup y.1=O c):closureFor s env=pure (pU env.cells s.names []):=by exact(cb (λm:Sem _=>m>>=λC=>pure C) (oG (acc:=[]) h)).trans Ŗ
def jC(X:Cx)(n:ϐ)(s:Í)(f:Ł À)(s₀:am)(H₀:Hp):Cx:={X with N:=n,s₀:=s₀,H₀:=H₀,env:=compEnvC s (pU X.env.cells s.names []) s₀.heap.objs.size X.env,outer:=X.stack,ex:=f,fn:=λ_=>bb,pn:=[],xe:=λ_ _=>ŧ}
structure fj(X:Cx)(N':ϐ)(scope:Í):ß where
 kind:scope.kind=.function
 nd:N'.Nodup
 Na:∀y∈scope.names,y.2≠.cell
 loc:∀y∈scope.names,y.2=.local->scope.names.lookup y.1=O .local
 fre:∀y∈scope.names,y.2=.free->X.env.kindOf y.1=O .cell
 own:∀x,(x,ç)∈scope.names->(relabel scope X.env).names.lookup x≠O .local
def zL(H:∀y∈s.names,y.2≠.cell)(h:(relabel s env).names.lookup x=O .cell\/(relabel s env).names.lookup x=O .free):(x,ç)∈s.names:=by
 let key:∀(l:Ł (Æ×NameKind)),(∀y∈l,y.2≠.cell)->∀k,k=.cell\/k=.free->(l.map λ(n,k)=>if k==ç&&env.scope.kind==.function&&env.kindOf n==O .cell then(n,NameKind.cell)else(n,k)).lookup x=O k->(x,ç)∈l:=by intro l;induction l with|f=>intro _ k _ e;cases e|g y r i=>
   let(n,K):=y;intro H k c e;let hr:=λy d=>H y (aH _ d);let f:=H _ aL;rw[cq]at e;by_cases q:(K==ç&&env.scope.kind==.function&&env.kindOf n==O .cell)=J
   .simp only[q,mO,iH]at e;let hf:=by let:=(aE _ _▸(aE _ _▸q).1).1;simpa using this
    cases a:x==n with|d=>left|e=>rw[a]at e;rwa[aH _ (i hr k c e)]
   .let b:(K==ç&&env.scope.kind==.function&&env.kindOf n==O .cell)=false:=by simpa using q
    simp only[b,dP,gS]at e;rw[iH]at e;cases a:x==n with|d=>left|e=>rwa[aH _ (i hr k c (by rw[a]at e;rwa[e]))]
 rcases h with h|h;.rwa[key _ H _ (.inl Ŗ) h]
 .rwa[key _ H _ (.inr Ŗ) h]
def lQ(X:Cx)(N':ϐ)(scope:Í)(σ σ':È):ß:=Á σ'=Á N'/\∀(i:Ń)(x:Æ)(v:V),N'[i]?=O x->σ'[i]?=O (O v)->(x,ç)∈scope.names/\∃(j:Ń),X.N[j]?=O x/\σ[j]?=O (O v)
def QR{σ:È}{fp:Ł À}(S:fj X N' scope)(I:Inv X be σ H s)(f:∀b∈fp,kY X be H b)(l:∀b∈fp,b<s.heap.objs.size):(jC X N' scope fp s H).Ok:=by
 let sub:=pV (acc:=[]) (λy g k=>I.ok.has y.1 (.inl (S.fre y g k))) (λx c e=>by cases e);erw[(I.ok.mod,S.kind,I.ok.glob,I.ok.blt,aq _,λx y c E i=>I.ok.inj x y c (sub x c E) (sub y c i),λx j=>uF (.inr (zL S.Na j)),λx c p=>?_,I.ok.hd,I.ok.frames,.inl Ŗ,λb h=>?_,I.bs,aA I.ok.Az I.sz,λb o e h=>?_,λb h m=>?_,I.stack,I.qA)];.done
 .let(_,L,_,_,n,_):=f b h;exact(λe=>Ă (l b h) (by rw[e];rwa[bU _]),λx c e=>n x c (sub x c e))
 .let(_,_,_,a,_):=f b h;rcases a with a|a;.rwa[I.ok.tj b o e a]
  .rwa[Ă (aY (ax e) (aA I.ok.Az a)) (bU _)]
 .let(_,L,d,_):=f b h;rcases aB.mp (I.zV b m)with z|z;.rwa[L z]
  .rwa[d z]
def KZ{σ:È}{fp:Ł À}(S:fj X N' scope)(I:Inv X be σ H s)(t:∀b∈fp,kY X be H b)(L:∀b∈fp,b<s.heap.objs.size)(n:lQ X N' scope σ σ')(hn:d.Ns s.heap.objs.size λ_=>ao)(h:∀b o,s.heap.get? b=O o->d.get? b=O o):Inv (jC X N' scope fp s H) [] σ' H {s with heap:=d,toks:=T}:=by
 let sub:=pV (acc:=[]) (λy w h=>I.ok.has y.1 (.inl (S.fre y w h))) (λx c e=>by cases e);erw[(QR S I t L,Ŗ,I.bare,Un.kept h,(_,hn,λi x v A B C=>?_),λx c e=>?_,I.fresh,λx c e=>I.gN x c (sub x c e),λp D=>Ă (show p∈[]from D) ⋯,I.cV.kept h,n.1)]
 .let(f,j,F,G):=n.2 i x v A B;let(m,_,K):=I.loc;let g:=S.fre _ f Ŗ;let(u,r,l):=K j x v F G (.inr (.inl g));erw[(u,r,.inr ?_)];rcases l with ⟨k,_⟩|⟨_,c,M,z⟩;.left
  .let(N,E):=uF (.inr f);let a:=sub x N E;rw[M]at a;cases a;erw[(?_,c,E,z.keeps h)];rcases C with q|q|q;.exfalso;rwa[S.own x f q]
   .rwa[.inl q]
   .rwa[.inr q]
 .let(v,z):=I.cell x c (sub x c e);exact(v,z.keeps h)
def qZ(X:Cx)(i:Ł Ä)(t:TT):ß:=∀(p:Ł _)(s:am)(σ:È)(H:Hp)(Q:Þ->Hp->ß),Inv X p σ H s->t σ H Q->bv (b' X.prog X.w) X.A (forIn i J λc r=>if r=J then(do let ok<-isTrue c X.env (Ê c X.env);pure (ü ok))else pure (ü r)) (TP X p σ Q) X.xe s
def NU:qZ X [] λ_ H Q=>Q J H:=by intro p s σ H Q I h;rwa[ah (H,I,h)]
def NV(h:PT X c t):qZ X [c] t:=by intro p s σ H Q I a;rw[eQ];rwa[aa (aa (iD (h _ s σ H Q I a) λb s1 q=>ah (ah q)))]
def vI(wi:TI)(g:TG)(t:TT)(T:TE)(e:È->È):TE:=λσ H Q=>wi σ H λj f=>∀a,f a=ao->∃W:Ń->Ń->È->ϕ->Hp->ß,(∃m,W 0 m (e σ) [] (de f a (.L [])))/\∀i m d Y h,W i m d Y h->h a=O (.L Y)/\(j.stop i h/\Q (.A a) h\/j.go i h/\Á Y<Ã/\∀x k,j.yld i h x k->g x d k λc o=>t c o λb l=>if b=J then T c l λy n=>n a=O (.L Y)/\∃M,M<m/\W (i+1) M c (Y++[y]) (de n a (.L (Y++[y])))else ∃M,M<m/\W (i+1) M c Y l)
def tW(ok:jY P w H h)(a:H C=ao)(s:Ý C h h'):jY P w H h':=λb o e=>(ok b o e).tm (λc u d q=>(s.2 c ()).trans q) (λ_ q=>q) λ_ _ q=>q
section
variable{P:ci}{w:ce}{A:cp}{E:c9}{s:am}
def mZ{Q:c9}(hd:s.heap.IsTupleIter d t k)(a:s.heap.IsTuple t its)(hu:its[k]?=O u)(b:∀h,h.IsTupleIter d t (k+1)->Ý d s.heap h->Q u {s with heap:=h}):bv (b' P w) A (q0' (.ref d)) Q E s:=by let(o,D,Z,R):=id hd;let(c,H,_,n,z):=a;erw[aa (bC hd.typeIs ef (bK ef hd.typeIs mK ?_ (mw _)))];show bv _ _ (field _ 0>>=_) _ _ s;erw[aa (bg D R (x:=.ref t) Ŗ ?_)];erw[aa (bg D R (x:=.int k 0) Ŗ ?_)];erw[aa (cD H z ?_)];simp only[dE,hu];erw[aa (cE D R ⋯ (ah (u,Ŗ,ah (b _ (_,bF _ D (cO (bP R _)),(jR ..).trans Z,?_) (cj ..)))))];rw[bP R];simp[c5]
def qb{Q:c9}(b:A.handled=ao)(hd:s.heap.IsTupleIter d t k)(c:s.heap.IsTuple t its)(hu:its[k]?=ao)(f:∀h e,è d s.heap h->(∃o,h.get? e=O o/\o.cls=.type "StopIteration")->E (.ref e) {s with heap:=h}):bv (b' P w) A (q0' (.ref d)) Q E s:=by
 let(g,D,z,R):=id hd;let(i,H,_,n,Z):=c;erw[aa (bC hd.typeIs ef (bK ef hd.typeIs mK ?_ (mw _)))];show bv _ _ (field _ 0>>=_) _ _ s;erw[aa (bg D R (x:=.ref t) Ŗ ?_)];erw[aa (bg D R (x:=.int k 0) Ŗ ?_)];erw[aa (cD H Z ?_)];simp only[dE,hu];erw[aa (f7 (aa (cE D R ⋯ ?_)))];erw[aa ?_];erw[aa (bE ?_ (by size_fits))];erw[aa (pF (a:=Ô) Ŗ ?_)];erw[bE ?_ (by size_fits)];erw[aa (pQ ?_)];first|rw[b]|rfl
 rwa[aa (ah (pH (f _ _ (((cj ..).extBut.push _).push _) (_,ar _ Ŗ,Ŗ))))]
structure Qs(z a b c d:À):ß where
 az:a≠z
 bz:b≠z
 cz:c≠z
 dz:d≠z
 ab:a≠b
 ac:a≠c
 ad:a≠d
 bc:b≠c
 bd:b≠d
 cd:c≠d
structure Hl(e:Ç->À->À->Ń->ß)(h:Ç)(z a b c d t1 t2:À)(k:Ń)(f0:Â):ß where
 zip:IsZip h z a b f0
 its:ff h a (.ref c) (.ref d)own:∃x y,ff h b x y
 i1:e h c t1 k
 i2:e h d t2 k
def PJ{Q:c9}(D:Qs z a b c d)(Z:Hl ð s.heap z a b c d t T k .none)(o1:t≠z/\t≠b/\t≠c/\t≠d)(B:T≠z/\T≠b/\T≠c/\T≠d)(P8:s.heap.IsTuple t xs)(R7:s.heap.IsTuple T ys)(hx:xs[k]?=O x)(hy:ys[k]?=O y)(hQ:∀H,Hl ð H z a b c d t T (k+1) (c5 s.heap.objs.size)->ff H s.heap.objs.size x y->(∀e o,e≠z->e≠b->e≠c->e≠d->s.heap.get? e=O o->H.get? e=O o)->Q (.ref s.heap.objs.size) {s with heap:=H}):bv (b' P w) A (Builtin.«zip.__next__» ([.ref z],[])) (λF s'=>∃v,F=.done (.ret v)/\Q v s') E s:=by
 obtain⟨h,R,⟨p,q,zo⟩,z1,z2⟩:=Z;show bv _ _ (field (.ref z) 2>>=_) _ _ _;erw[aa (bg h Ŗ (x:=.bool bb) Ŗ ?_)];show bv _ _ (field (.ref z) 3>>=_) _ _ _;erw[aa (bg h Ŗ (x:=.ref a) Ŗ ?_)];erw[aa (cD R Ŗ ?_)];show bv _ _ (q2' (.ref z)>>=_) _ _ _;erw[aa ?_];delta q2';erw[aa (bg h Ŗ (x:=.none) Ŗ (ah ?_))];simp only[mO];erw[aa (f7 ?_)];erw[aa (bg h Ŗ (x:=.ref b) Ŗ ?_)];erw[aa (dm h ⋯ λk1 C s1=>?_)];replace C:IsZip k1 z a b .ellipsis:=C;erw[aa ?_];simp only[G8,Kj,eQ,nX];erw[aa (aa (lJ ?_))];show bv _ _ (q0' (.ref c)>>=_) _ _ _;erw[aa (mZ (z1.extBut s1.extBut D.cz) (P8.extBut s1.extBut o1.1) hx λk2 y2 s2=>ah ?_)];let W:ff k2 b p q:=s2.extBut _ _ D.bc (s1.extBut _ _ D.bz zo);erw[aa (cD W Ŗ ?_)];erw[aa (iA W λk3 G S=>?_)];replace G:ff k3 b x q:=G;erw[aa (vZ (ah ?_))];erw[aa (aa (lJ ?_))];show bv _ _ (q0' (.ref d)>>=_) _ _ _;erw[aa (mZ (((z2.extBut s1.extBut D.dz).extBut s2.extBut D.cd.symm).extBut S.extBut D.bd.symm) (((R7.extBut s1.extBut B.1).extBut s2.extBut B.2.2.1).extBut S.extBut B.2.1) hy λk4 y4 i=>ah ?_)];let U:ff k4 b x q:=i.extBut _ _ D.bd G;erw[aa (cD U Ŗ ?_)];erw[aa (iA U λK Y j=>?_)];replace Y:ff K b x y:=Y;erw[aa (vZ (ah (ah ?_)))];erw[aa (cD Y Ŗ ?_)];erw[aa (n8 ?_)];let sz:K.objs.size=s.heap.objs.size:=by rw[j.1,i.1,S.1,s2.1,s1.1]
 let l:=j.extBut _ _ D.bz.symm (i.extBut _ _ D.dz.symm (S.extBut _ _ D.bz.symm (s2.extBut _ _ D.cz.symm C)));let u:∀e o,e≠z->e≠b->e≠c->e≠d->s.heap.get? e=O o->K.get? e=O o:=λe o f n I L g=>j.extBut _ _ n (i.extBut _ _ L (S.extBut _ _ n (s2.extBut _ _ I (s1.extBut _ _ f g))));let m:=ax l;show bv _ _ (q1' _ (.ref K.objs.size)>>=_) _ _ _;erw[aa ?_];erw[aa (dm (ae _ l) ⋯ λk7 M X=>?_)];replace M:IsZip k7 z a b _:=M;erw[dm M ⋯ λN r s8=>?_];replace r:IsZip N z a b _:=r;let up:∀e o,e≠z->K.get? e=O o->N.get? e=O o:=λe o f g=>s8.extBut _ _ f (X.extBut _ _ f (ae _ g));let t8:=s8.extBut _ _ (dA m) (X.extBut _ _ (dA m) (ar _ Ŗ));rw[sz]at r t8;erw[ah (_,Ŗ,?_)];rw[sz];rwa[hQ N (r,up _ _ D.az (u _ _ D.az D.ab D.ac D.ad R),(x,y,up _ _ D.bz Y),(((y2.extBut S.extBut D.bc.symm).extBut i.extBut D.cd).extBut j.extBut D.bc.symm).at λo g=>up _ o D.cz g,(y4.extBut j.extBut D.bd.symm).at λo g=>up _ o D.dz g) t8 λe o f n I L g=>up e o f (u e o f n I L g)]
def V6(C:A.handled=ao)(D:Qs z a b c d)(Z:Hl ð s.heap z a b c d t T k .none)(o1:t≠z/\t≠b/\t≠c/\t≠d)(l:T≠z/\T≠b/\T≠c/\T≠d)(G:s.heap.IsTuple t xs)(U:s.heap.IsTuple T ys)(X:xs[k]?=ao\/ys[k]?=ao)(I:∀m e,(∀f o,f≠z->f≠b->f≠c->f≠d->s.heap.get? f=O o->m.get? f=O o)->(∃o,m.get? e=O o/\o.cls=.type "StopIteration")->E (.ref e) {s with heap:=m}):bv (b' P w) A (Builtin.«zip.__next__» ([.ref z],[])) Q E s:=by obtain⟨j,Y,⟨p,q,zo⟩,K,z2⟩:=Z;show bv _ _ (field (.ref z) 2>>=_) _ _ _;erw[aa (bg j Ŗ (x:=.bool bb) Ŗ ?_)];show bv _ _ (field (.ref z) 3>>=_) _ _ _;erw[aa (bg j Ŗ (x:=.ref a) Ŗ ?_)];erw[aa (cD Y Ŗ ?_)];show bv _ _ (q2' (.ref z)>>=_) _ _ _;erw[aa ?_];delta q2';erw[aa (bg j Ŗ (x:=.none) Ŗ (ah ?_))];simp only[mO];erw[aa (f7 ?_)];erw[aa (bg j Ŗ (x:=.ref b) Ŗ ?_)];erw[aa (dm j ⋯ λk1 y s1=>?_)];replace y:IsZip k1 z a b .ellipsis:=y;erw[aa ?_];simp only[G8,Kj,eQ,nX];erw[aa (aa (lJ ?_))];induction L:xs[k]? with
 |a=>erw[aa (qb C (K.extBut s1.extBut D.cz) (G.extBut s1.extBut o1.1) L λk2 e s2 n=>?_)];let(r,H,i):=n;let u:IsZip k2 z a b _:=s2 _ _ D.cz.symm y;rwa[dm u ⋯ λM _ S=>I M e (λf o F _ v _ g=>S.extBut _ _ F (s2 _ _ v (s1.extBut _ _ F g))) (r,S.extBut _ _ λg=>by lia H,i)]
 |c x=>erw[aa (mZ (K.extBut s1.extBut D.cz) (G.extBut s1.extBut o1.1) L λk2 y2 s2=>ah ?_)];let W:=s2.extBut _ _ D.bc (s1.extBut _ _ D.bz zo);erw[aa (cD W Ŗ ?_)];erw[aa (iA W λM y3 S=>?_)];erw[aa (vZ (ah ?_))];erw[aa (aa (lJ ?_))];erw[aa (qb C (((z2.extBut s1.extBut D.dz).extBut s2.extBut D.cd.symm).extBut S.extBut D.bd.symm) (((U.extBut s1.extBut l.1).extBut s2.extBut l.2.2.1).extBut S.extBut l.2.1) (by
   rcases X with h|h;.lia
   .rwa[h]) λk4 e N n=>?_)];let(r,H,i):=n;let B:IsZip k4 z a b _:=N _ _ D.dz.symm (S.extBut _ _ D.bz.symm (s2.extBut _ _ D.cz.symm y));rwa[dm B ⋯ λk5 _ R=>I k5 e (λf o F f2 v f4 g=>R.extBut _ _ F (N _ _ f4 (S.extBut _ _ f2 (s2.extBut _ _ v (s1.extBut _ _ F g))))) (r,R.extBut _ _ λg=>by lia H,i)]
def PK(D:Qs z a b c d)(Z:Hl ð s.heap z a b c d t T k .none)(o1:t≠z/\t≠b/\t≠c/\t≠d)(f:T≠z/\T≠b/\T≠c/\T≠d)(p:s.heap.IsTuple t xs)(R:s.heap.IsTuple T ys)(g:xs[k]?=O x)(i:ys[k]?=O y)(j:∀h,Hl ð h z a b c d t T (k+1) (c5 s.heap.objs.size)->ff h s.heap.objs.size x y->(∀e o,e≠z->e≠b->e≠c->e≠d->s.heap.get? e=O o->h.get? e=O o)->Q (O (.ref s.heap.objs.size)) {s with heap:=h}):bv (b' P w) A (d4 (.ref z)) Q E s:=by let H:s.TypeIs (.ref z) _:=(_,Z.zip,Ŗ);rwa[aa (eJ (bC H tG (bK tG H F.entry_zip_next (PJ D Z o1 f p R g i λh q l m=>ah (j h q l m)) (F.args_zip_next_1 _))))]
def PL(g:A.handled=ao)(D:Qs z a b c d)(Z:Hl ð s.heap z a b c d t T k .none)(o1:t≠z/\t≠b/\t≠c/\t≠d)(i:T≠z/\T≠b/\T≠c/\T≠d)(p:s.heap.IsTuple t xs)(R:s.heap.IsTuple T ys)(j:xs[k]?=ao\/ys[k]?=ao)(l:∀h,(∀f o,f≠z->f≠b->f≠c->f≠d->s.heap.get? f=O o->h.get? f=O o)->Q ao {s with heap:=h}):bv (b' P w) A (d4 (.ref z)) Q E s:=by let H:s.TypeIs (.ref z) _:=(_,Z.zip,Ŗ);erw[aa (eJ (bC H tG (bK tG H F.entry_zip_next (V6 g D Z o1 i p R j λh e m n=>?_) (F.args_zip_next_1 _))))];let(o,q,r):=n;rwa[aa (gr (o,q,r) jU (ah (l _ m)))]
end
def G4(n:Ń):Qs (n+4) (n+2) (n+3) n (n+1):=by let h:∀i j:Ń,i≠j->n+i≠n+j:=λi j h e=>h (Nat.add_left_cancel e);exact(h 2 4 ∅,h 3 4 ∅,h 0 4 ∅,h 1 4 ∅,h 2 3 ∅,h 2 0 ∅,h 2 1 ∅,h 3 0 ∅,h 3 1 ∅,h 0 1 ∅)
def aaY(n:Ń)(e:À)(h:e ∈[n+4,n+2,n+3,n,n+1]):n<=e:=by
 simp only[aB,dZ,or_false]at h;rcases h with rfl|rfl|rfl|rfl|rfl;.rwa[bp _ _]
 .rwa[bp _ _]
 .rwa[bp _ _]
 .rwa[aq _]
 .rwa[bp _ _]
def wp(sq:Hp->À->ϕ->ß)(t a:À):It:=(λi H=>∃X Y x y,sq H t X/\sq H a Y/\X[i]?=O x/\Y[i]?=O y,λi H v h=>∃T,H T=ao/\v=.A T/\∀X Y x y,sq H t X->sq H a Y->X[i]?=O x->Y[i]?=O y->h=de H T (.T [x,y]),λi H=>∃X Y,sq H t X/\sq H a Y/\(Á X<=i\/Á Y<=i))
def Jz{p:Ł _}{σ:È}(I:Inv X p σ H s)(h:gF X.K H t xs)(f:kY X p H b):t≠b:=by
 rintro rfl;let(a,c,d,F,g,j):=f;rcases h with(h|⟨o,h⟩)|⟨o,i,n,k,_⟩;.left
 .left
 .let e:=I.ok.mod.DL t o k;rcases F with q|q;.rwa[I.ok.tj t o e q]
  .rwa[Ă (aY (ax e) (aA I.ok.Az q)) (bU _)]
section
variable{z a b c d e:À}
def xY(h:e ∈[z,b,c,d]):e ∈[z,a,b,c,d]:=(aB.mp h).elim (λq=>q▸.head _) λh=>.tail _ (.tail _ h)
def mf:b ∈[z,a,b,c,d]:=.tail _ (.tail _ (.head _))
def mF:c ∈[z,a,b,c,d]:=.tail _ (.tail _ (.tail _ (.head _)))
def ny:d ∈[z,a,b,c,d]:=.tail _ (.tail _ (.tail _ (.tail _ (.head _))))
def Ī{P:ß}(h:e ∉[z,b,c,d])(k:e≠z->e≠b->e≠c->e≠d->P):P:=k (λq=>h (q▸.head _)) (λq=>h (q▸.tail _ (.head _))) (λq=>h (q▸.tail _ (.tail _ (.head _)))) λq=>h (q▸.tail _ (.tail _ (.tail _ (.head _))))
def ϛ{P:À->ß}(h:e ∈[z,a,b,c,d])(hz:P z)(H:P a)(f:P b)(g:P c)(i:P d):P e:=(aB.mp h).elim (λq=>q▸hz) λh=>(aB.mp h).elim (λq=>q▸H) λh=>(aB.mp h).elim (λq=>q▸f) λh=>(aB.mp h).elim (λq=>q▸g) λh=>(aB.mp h).elim (λq=>q▸i) λh=>nomatch h
end
def Pj{K:Å}{C:Ç->À->Array Â->ß}(ob:∀{h c t k},j h c t k->∃o,h.get? c=O o/\∀v,o.data≠.cell v)(at':∀{h h' c t k},j h c t k->(∀o,h.get? c=O o->h'.get? c=O o)->j h' c t k)(of:∀{X F σ H s t xs},X.K=K->Inv X F σ H s->sq H t xs->∃its:Ł _,Vals xs its/\C s.heap t its.toArray/\Á xs<=Ã)(inj:∀{X F σ H s t xs ys},X.K=K->Inv X F σ H s->sq H t xs->sq H t ys->xs=ys)(ap:∀{X F σ H s t b xs},X.K=K->Inv X F σ H s->sq H t xs->kY X F H b->t≠b)(nx:∀{A E s k xs ys x y}{Q:Ő _->am->ß},Hl j s.heap z a b c d L M k .none->L≠z/\L≠b/\L≠c/\L≠d->M≠z/\M≠b/\M≠c/\M≠d->C s.heap L xs->C s.heap M ys->xs[k]?=O x->ys[k]?=O y->(∀hp,Hl j hp z a b c d L M (k+1) (c5 s.heap.objs.size)->ff hp s.heap.objs.size x y->(∀e o,e≠z->e≠b->e≠c->e≠d->s.heap.get? e=O o->hp.get? e=O o)->Q (O (.ref s.heap.objs.size)) {s with heap:=hp})->bv (b' P w) A (d4 (.ref z)) Q E s)(no:∀{A E s k xs ys}{Q:Ő _->am->ß},A.handled=ao->Hl j s.heap z a b c d L M k .none->L≠z/\L≠b/\L≠c/\L≠d->M≠z/\M≠b/\M≠c/\M≠d->C s.heap L xs->C s.heap M ys->xs[k]?=ao\/ys[k]?=ao->(∀hp,(∀f o,f≠z->f≠b->f≠c->f≠d->s.heap.get? f=O o->hp.get? f=O o)->Q ao {s with heap:=hp})->bv (b' P w) A (d4 (.ref z)) Q E s)(D:Qs z a b c d):uz P w K (.Tuple es k pos) (wp sq L M) [z,a,b,c,d] z λi h=>Hl j h z a b c d L M i .none:=have obj:∀{h i e},Hl j h z a b c d L M i .none->e ∈[z,a,b,c,d]->∃o,h.get? e=O o/\∀v,o.data≠.cell v:=λ{h i e}st l=>by obtain⟨zz,zi,⟨p,q,zo⟩,i1,i2⟩:=st;rwa[ϛ (P:=λe=>∃o,h.get? e=O o/\∀v,o.data≠.cell v) l (_,zz,λv g=>õ g) (_,zi,λv g=>õ g) (_,zo,λv g=>õ g) (ob i1) (ob i2)]
 {mem:=.head _
  obj:=λi h st e l=>obj st l
  keep:=λi h h' st W=>by obtain⟨zz,zi,⟨p,q,zo⟩,z1,z2⟩:=st;exact(W z (.head _) _ zz,W a (.tail _ (.head _)) _ zi,(p,q,W b mf _ zo),at' z1 λo e=>W c mF o e,at' z2 λo e=>W d ny o e)
  item:=by
   intro X hP hw hK hc i F s σ H E I N st hg;subst hP hw hK;erw[cps λG k=>?_];let(xs,ys,x,y,R,U,hx,hy):=hg;let(ZY,r1,p1,l1):=of Ŗ I R;let(A5,r2,p2,l2):=of Ŗ I U;let(u1,P9,Φ):=r1.get hx;let(u2,hu2,ru2):=r2.get hy;let Y:=λ(e:À)(l:e ∈[z,a,b,c,d])=>ap Ŗ I R (N e l);let Z:=λ(e:À)(l:e ∈[z,a,b,c,d])=>ap Ŗ I U (N e l);erw[k (nx st (Y z (.head _),Y b mf,Y c mF,Y d ny) (Z z (.head _),Z b mf,Z c mF,Z d ny) p1 p2 (x:=u1) (y:=u2) (by simpa using P9) (by simpa using hu2) λhp Z' pr W=>?_)];erw[(_,Ŗ,wpAny_letOwnedTupleGo_zip Z'.zip λhq zq sb=>?_)];let nT:H s.heap.objs.size=none:=I.fresh;let S:∀e o,e ∉[z,b,c,d]->s.heap.get? e=O o->hq.get? e=O o:=λe o l g=>by rwa[Ī l λR U h3 h4=>sb.extBut _ _ R (W e o R U h3 h4 g)]
   let Tz:s.heap.objs.size≠z:=dA (ax st.zip);let prq:ff hq s.heap.objs.size u1 u2:=sb.extBut _ _ Tz pr;let B:∀e u,H e=O u->e ∉[z,b,c,d]:=λe u l hm=>by let:H e=none:=(N e (xY hm)).1;rw[this]at l;cases l
   let LV:jY X.prog X.w (de H s.heap.objs.size (.T [x,y])) hq:=λe u l=>by
    by_cases ee:e=s.heap.objs.size;.subst ee;rw[bA]at l;cases l;exact(by show 2<=Ã;decide,[u1,u2],.cons Φ (.cons ru2 .nil),(_,prq,Ŗ,_,Ŗ))
    .rw[bw ee]at l;erw[(I.cV e u l).tm (λf o LN g=>S f o ?_ g) (λf g=>by rw[bw (b7 g nT)];rwa[g]) λf zs g=>by rw[bw (b7 g nT)];rwa[g]]
     rcases LN with rfl|LN;.rwa[B f u l]
     .rwa[B f _ LN]
   let I1:Inv X F σ (de H s.heap.objs.size (.T [x,y])) {s with heap:=hq}:=by
    erw[I.step (g':=s.gens) (d':=s.drawn) (t':=s.toks) (ch:=[z,b,c,d]) (λe l=>?_) (λe o _ _ l g _=>S e o l g) (λe o _ _ l g _=>(o.slots,S e o l g)) (λe o _ g n=>by rw[bw (aF (ax g))];rwa[n]) (λe o l g=>(o,S e o l g)) (λe zs g=>by rw[bw (b7 g nT)];rwa[g]) (λe o u g=>by rw[bw (b7 g nT)];rwa[g]) (λe ps g=>(#[],by rw[bw (b7 g nT),g];simp)) (λm hm=>?_) LV I.bare];.let(f0,f1,f2,f3,f4,f5):=N e (xY l);exact(f3,f1,f4,f5)
    .let(o,Lz,ep,ho,r):=hm;erw[(o,Lz,ep,S _ o (λLR=>?_) ho,r)];exact(N X.env.locals (xY LR)).2.1 Ŗ
   erw[(.A s.heap.objs.size,_,I1,Ŗ,(_,nT,Ŗ,λxs' ys' x' y' g1 g2 gx gy=>?_),?_,λe l=>?_)];.let e1:=inj Ŗ I g1 R;let e2:=inj Ŗ I g2 U;subst e1;subst e2;rw[hx]at gx;rw[hy]at gy;cases gx;cases gy;rfl
   .obtain⟨_,zi,⟨p,q,zo⟩,z1,z2⟩:=Z';exact(zq,sb.extBut _ _ D.az zi,(p,q,sb.extBut _ _ D.bz zo),at' z1 λo g=>sb.extBut _ _ D.cz g,at' z2 λo g=>sb.extBut _ _ D.dz g)
   .rw[bw];.exact(N e l).1
    .let(o,ho,_):=obj st l;rwa[aF (ax ho)]
  done:=by
   intro X hP hw hK hc i F s σ H E I N st hg;subst hP hw hK;erw[cps λG k=>?_];let(xs,ys,R,U,hx):=hg;let(ZY,r1,p1,l1):=of Ŗ I R;let(A5,r2,p2,l2):=of Ŗ I U;let e1:=r1.length;let e2:=r2.length;let Y:=λ(e:À)(l:e ∈[z,a,b,c,d])=>ap Ŗ I R (N e l);let Z:=λ(e:À)(l:e ∈[z,a,b,c,d])=>ap Ŗ I U (N e l);erw[k (no (I.ok.hd hc) st (Y z (.head _),Y b mf,Y c mF,Y d ny) (Z z (.head _),Z b mf,Z c mF,Z d ny) p1 p2 nofun λhq W=>(Ŗ,?_))];let S:=λe o l g=>by rwa[Ī l λR U h3 h4=>W e o R U h3 h4 g]
   let B:∀e u,H e=O u->e ∉[z,b,c,d]:=λe u l hm=>by let:=(N e (xY hm)).1;rw[this]at l;cases l
   erw[I.step (λe l=>?_) (λe o _ _ l g _=>S e o l g) (λe o _ _ l g _=>(_,S e o l g)) (λe o _ g n=>n) (λe o l g=>(o,S e o l g)) (λe zs g=>g) (λe o u g=>g) (λe ps g=>(#[],by done)) (λm hm=>?_) (λe u l=>?_) I.bare];.let(f0,f1,f2,f3,f4,f5):=N e (xY l);exact(f3,f1,f4,f5)
   .let(o,Lz,ep,ho,r):=hm;exact(o,Lz,ep,S _ o (λLR=>(N _ (xY LR)).2.1 Ŗ) ho,r)
   .erw[(I.cV e u l).tm (λf o LN g=>S f o ?_ g) (λf g=>g) λf zs g=>g];rcases LN with rfl|LN;.rwa[B f u l]
    .rwa[B f _ LN]
  self:=λ_ _ _ _ _ st h=>wpAny_pyIter_zip st.zip h}
abbrev tz(h:Ç)(t:À):Ç:=h.push {cls:=.type "tuple_iterator",data:=.fields #[.ref t,.int 0 0]}
abbrev vy(h:Ç)(t T:À):Ç:=(tz h t).push {cls:=.type "tuple_iterator",data:=.fields #[.ref T,.int 0 0]}
abbrev qi(h:Ç)(t T:À):Ç:=(vy h t T).push {cls:=.type "tuple",data:=.seq #[.ref h.objs.size,.ref (tz h t).objs.size]}
abbrev wT(h:Ç)(t T:À):Ç:=(qi h t T).push {cls:=.type "tuple",data:=.seq #[.none,.none]}
abbrev ib(h:Ç)(t T:À):Ç:=(wT h t T).push {cls:=.type "zip",data:=.fields #[.none,.bool bb,.bool bb,.ref (vy h t T).objs.size,.ref (qi h t T).objs.size]}
def BO(t T:À)(xs ys:Array Â):Meets (Builtin.«zip.__new__» ([.type "zip",.ref t,.ref T],[])) λ_ R s=>s.heap.IsTuple t xs/\s.heap.IsTuple T ys/\R (.ok (.ret (.ref (wT s.heap t T).objs.size))) {s with heap:=ib s.heap t T}:=.of_wp λp w A R s h=>by let(a,g,d,k,os):=s;let(P,r,h):=h;let D:=sub_zip;let H:Heap.IsTuple (Shared.heap _) t xs:=P;wp_walk using gK H,gK (Heap.IsTuple.push r _);exact(_,Ŗ,h)
def ZI(sq:Hp->À->ϕ->ß)(a:TA):TI:=λσ H R=>a σ H λv h=>∃t T,v=[.A t,.A T]/\(∃x,sq h t x)/\(∃y,sq h T y)/\R (wp sq t T) h
def P'(m:Gl X "zip")(u:X.mg "zip"=ao)(x:PA X [a,b] l)(F:c7 [a,b] X.env=[(bb,Ê a X.env),(bb,Ê b X.env)])(g:c7 [b] X.env=[(bb,Ê b X.env)])(mk:∀{E P s σ H t c xs ys}{Q:c9},Inv X P σ H s->sq H t xs->sq H c ys->(∀h',Hl j h' (s.heap.objs.size+4) (s.heap.objs.size+2) (s.heap.objs.size+3) s.heap.objs.size (s.heap.objs.size+1) t c 0 .none->(∀e o,s.heap.get? e=O o->h'.get? e=O o)->Q (.ref (s.heap.objs.size+4)) {s with heap:=h'})->bv (b' X.prog X.w) X.A (call (.type "zip") [.ref t,.ref c]) Q E s)(T:∀n t c,Qs (n+4) (n+2) (n+3) n (n+1)->uz X.prog X.w X.K (.Tuple es k v) (wp sq t c) [n+4,n+2,n+3,n,n+1] (n+4) λi h=>Hl j h (n+4) (n+2) (n+3) n (n+1) t c i .none):PI X (.Tuple es k v) (.Call (.Name "zip" p) [a,b] [] pos) (ZI sq l):=by intro P s σ H R I h;erw[Call_ (l8 I m u (show dN _=O (.type "zip")from Ŗ) (dc (iD (x pos _ s σ H _ I h) λU s1 (L,y,f,z,B)=>?_) nofun (by rw[g];rfl)))];obtain⟨t,c,e,⟨xs,G⟩,⟨ys,C⟩,q⟩:=B;subst e;let(M,u2,rfl,Φ,r):=z.two;cases Φ;cases r;erw[mk f G C λh' Z up=>?_];let T:=T s1.heap.objs.size t c (G4 _);erw[T.self X.A 0 _ _ _ Z ?_];erw[(_,_,_,_,y,Ŗ,f.kept up,T,Z,λe D=>?_,q)];let d:=aaY _ e D;rwa[f.AX d (f.cV.fresh d)]
def Um(G:Gl X "zip")(L:X.mg "zip"=ao)(M:PA X [a,b] u)(N:c7 [a,b] X.env=[(bb,Ê a X.env),(bb,Ê b X.env)])(i:c7 [b] X.env=[(bb,Ê b X.env)]):PI X (.Tuple es k C) (.Call (.Name "zip" p) [a,b] [] pos) (ZI (gF X.K) u):=P' (j:=ð) G L M N i (λ{E P s1 σ H t T xs ys Q}w R S q=>by
  let(U,r1,W,l1):=w.tuple R;let(A5,r2,p2,l2):=w.tuple S;erw[callType_new F.called_zip ∅ (F.typeCall_zip_2 _ _) (F.newCall_zip_2 _ _) (λl=>F.args_object_init_3 l _ _) F.entry_zip_new (BO t T U.toArray A5.toArray) (W,p2,?_)];let Z:(tz s1.heap t).objs.size=s1.heap.objs.size+1:=dI ..;let m:(vy s1.heap t T).objs.size=s1.heap.objs.size+2:=by rw[dI,Z]
  let s:(qi s1.heap t T).objs.size=s1.heap.objs.size+3:=by rw[dI,m]
  let x:(wT s1.heap t T).objs.size=s1.heap.objs.size+4:=by rw[dI,s]
  let y:(ib s1.heap t T).get? (wT s1.heap t T).objs.size=O _:=ar _ Ŗ;let Y:(ib s1.heap t T).get? (qi s1.heap t T).objs.size=O _:=ae _ (ar _ Ŗ);let A:(ib s1.heap t T).get? (vy s1.heap t T).objs.size=O _:=ae _ (ae _ (ar _ Ŗ));let B:(ib s1.heap t T).get? (tz s1.heap t).objs.size=O _:=ae _ (ae _ (ae _ (ar _ Ŗ)));let y1:(ib s1.heap t T).get? s1.heap.objs.size=O _:=ae _ (ae _ (ae _ (ae _ (ar _ Ŗ))));rw[m,s,x]at y;rw[Z,m]at A;rw[s]at Y;rw[Z]at B;rw[x];exact((_,y,Ŗ),q _ (y,A,(_,_,Y),(_,y1,Ŗ,Ŗ),(_,B,Ŗ,Ŗ)) λe o g=>ae _ (ae _ (ae _ (ae _ (ae _ g)))))) λn t T D=>Pj (λ(o,e,c,d)=>(o,e,λv g=>õ (d.symm.trans g))) (λz k=>z.at k) (λe I q=>I.tuple (e▸q)) (λe I q r=>I.xU (e▸q) (e▸r)) (λe I q f=>Jz I (e▸q) f) (PK D) (λh=>PL h D) D
def A'(x:Æ):It:=(λi _=>i<x.cps.size,λi H v h=>h=H/\∃c,x.cps[i]?=O c/\v=.S ⟨#[c]⟩,λi _=>i=x.cps.size)
def vL{K:Å}(W:∀M:cp,M.handled=ao->Walks P w M a [a] [a] x.cps.size (SignAt x) λi h=>h.IsStrIter a T x t i)(U:∀(A:cp)(i:Ń)(s:am)(Q:c9)(E:c9),s.heap.IsStrIter a T x t i->Q (.ref a) s->bv (b' P w) A (pyIter (.ref a)) Q E s):uz P w K (.Name y R) (A' x) [a] a λi h=>h.IsStrIter a T x t i where
 mem:=⋯
 obj:=λi h st b f=>by
  let e:=by simpa using f
  subst e;let(o,e,c,d):=st;exact(o,e,λv z=>nofun)
 keep:=λi h N st k=>by let(o,e,r):=st;exact(o,k a ⋯ o e,r)
 item:=by intro X j l m n i p s σ H E I g st q;subst j l m;let(F,B,Y,C,D,G):=g a ⋯;erw[(W X.A (I.ok.hd n)).item i s _ E q st λv N Z hv vE L=>?_];let(c,u,RW,rfl):=hv;exact(_,Ŗ,ah (.S _,H,I.turned (λb o f e=>L b o (by simpa using f) e) F B C D G,(u,Ŗ),(Ŗ,c,RW,Ŗ),vE,λb f=>(g b f).1))
 done:=by intro X j l m n i p s σ H E I g st q;subst j l m;let(F,B,Y,C,D,G):=g a ⋯;let e:=q;subst e;exact(W X.A (I.ok.hd n)).done s _ E st λN Z L=>(Ŗ,I.turned (λb o f e=>L b o (by simpa using f) e) F B C D G)
 self:=U
def ajM(t:TE):TI:=λσ H R=>t σ H λx h=>∃z,x=.S z/\R (A' z) h
def L'(j:PE X l T):PI X (.Name y P) l (ajM T):=by
 intro p s σ H R I h;erw[jf (j _ s σ H _ I h) λv s1 x c a r k=>?_];let(z,rfl,q):=k;let(t,rfl):=r;let F:∀b ∈[s1.heap.objs.size],kY X _ c b:=λb m=>by
  let e:=by simpa using m
  subst e;rwa[a.AX (aq _) a.fresh]
 induction g:z.cps.all _;.rwa[wpAny_pyIter_wide g (_,_,_,_,c,Ŗ,a.kept λb o e=>ae _ e,vL (λn d=>Walks.strWide d _ z t) λA i s Q E st f=>wpAny_pyIter_striter_wide st f,(_,ar _ Ŗ,Ŗ,Ŗ),F,q)]
 .rwa[wpAny_pyIter_ascii g (_,_,_,_,c,Ŗ,a.kept λb o e=>ae _ e,vL (λn d=>Walks.strAscii d _ z t) λA i s Q E st f=>wpAny_pyIter_striter_ascii st f,(_,ar _ Ŗ,Ŗ,Ŗ),F,q)]
def Pk(H:Hp):V->Ő String
 |.g9=>O "NoneType"|.B _=>O "bool"|.I _=>O "int"|.S _=>O "str"|.A a=>match H a with|O (.L _)=>O "list"|O (.T _)=>O "tuple"|O (.dK _)=>O "dict"|_=>ao
 |_=>ao
def wC(t c:String):Þ:=t==c||t=="bool"&&c=="int"
def VM{K:Å}(h:Pk H x=O t):rf K H x (.type t):=by induction x with
 |g9=>cases h;rwa[.g9]|B b=>cases h;rwa[.bl b]|I i=>cases h;rwa[.int i]|S z=>cases h;rwa[.str z]|A a=>delta Pk at h;dsimp only at h;generalize e:H a=o at h;induction o with|a=>cases h|c c=>induction c with|L _=>cases h;rwa[.lst e]|T _=>cases h;rwa[.tup e]|dK _=>cases h;rwa[.dK e]|_=>cases h
 |byt _=>cases h|RE _=>cases h|ty _=>cases h
def VL(h:Pk H x=O t):t ∈["NoneType","bool","int","str","list","tuple","dict"]:=by
 let k:(Pk H x).all (λt=>["NoneType","bool","int","str","list","tuple","dict"].contains t)=true:=by induction x with
  |A a=>delta Pk;dsimp only;induction H a with|a=>rfl|c c=>induction c<;>rfl
  |_=>rfl
 rw[h]at k;rwa[List.contains_iff_mem.mp k]
def jc{α:Type}{P:α->ß}{a:α}{l:Ł α}(h:P a)(k:∀x∈l,P x):∀x∈a::l,P x:=λ_ m=>(aB.mp m).elim (λe=>e▸h) (k _)
def MV{α:Type}{P:α->ß}:∀x∈[],P x:=λ_ m=>nomatch m
def akl{P:String->ß}(h:t ∈["NoneType","bool","int","str","list","tuple","dict"])(H:P "NoneType")(a:P "bool")(b:P "int")(c:P "str")(d:P "list")(e:P "tuple")(f:P "dict"):P t:=jc H (jc a (jc b (jc c (jc d (jc e (jc f MV)))))) _ h
def akk{P:String->ß}(h:t ∈["str","int","bool","tuple","list"])(H:P "str")(a:P "int")(b:P "bool")(c:P "tuple")(d:P "list"):P t:=jc H (jc a (jc b (jc c (jc d MV)))) _ h
def Mz{K:Å}(h:t ∈["NoneType","bool","int","str","list","tuple","dict"])(H:c ∈["str","int","bool","tuple","list"]):kitOne K (.type t) (.type c)=O (wC t c):=by erw[akk (P:=λc=>kitOne K (.type t) _=O _) H ?_ ?_ ?_ ?_ ?_]<;>erw[akl (P:=λt=>kitOne K _ _=O (wC t _)) h ?_ ?_ ?_ ?_ ?_ ?_ ?_]<;>rfl
def KR:fi X (.builtin "isinstance") λxs H Q=>∃x c t,xs=[x,.ty c]/\Pk H x=O t/\c ∈["str","int","bool","tuple","list"]/\Q (.B (wC t c)) H:=by intro p s σ H xs U Q I r h;let(x,c,t,rfl,a,b,q):=h;let(u,v,rfl,R,d):=r.two;obtain rfl:v=â c:=d;rwa[Ip I R (VM a) (Mz (VL a) b) λT=>(.B _,H,I.tok T,Ŗ,q)]
def AF(t:X.calm):fi X (.builtin "all") λxs H Q=>∃(l:À)(bs:Ł _),xs=[.A l]/\gB X.K H l (bs.map V.B)/\Q (.B (bs.all id)) H:=by
 intro p s σ H xs U Q I r h;let(l,bs,rfl,w,q):=h;let(u,rfl,x):=r.one;cases x;obtain⟨d,j,⟨o,n,k,Z,D,F⟩,C⟩:=I.list w;let L:s.heap.IsList l _:=(o,k,Z,n,F);let len:=by let:=j.length;rw[af]at this;rwa[this]
 erw[call_all_walk (jX L ?_)];erw[(_,_,_,_,_,_,λi=>bs[i]?.getD J,Ŗ,Walks.list (A:=X.A.in1) (I.ok.hd t) _ l (aF (ax k)) _,((_,ar _ Ŗ,Ŗ,Ŗ),L.push _),λi v S E G P f=>?_,λM T y=>?_)]
 .let m:=by simpa using P
  let hi:=(aw.mp m).1;let c:bs[i]?=O bs[i]:=av _;let(N,Y,R):=j.get (by rw[aR,c];rfl);rw[m]at Y;cases Y;obtain rfl:v=Value.bool _:=R;dsimp only at f;rw[c]at f;rwa[fQ f]
 .let e:((Ù d.toArray.size).all λi=>bs[i]?.getD J)=bs.all id:=by
   rw[aM,<-len,tD,aS,aS];constructor;.intro g b c;let(i,hi,e):=vW.mp c;let:=g i (ir.mpr hi);rw[av hi,e]at this;rwa[this]
   .intro g i hi;let a:=ir.mp hi;rw[av a];rwa[g _ (kL a)]
  rw[e];exact(.B _,H,I.kept λb o e=>y b o (λz=>by rw[aG.mp z]at e;rwa[bU _ (ax e)]) (ae _ e),Ŗ,q)
def IG:kZ X (compareOp .LtE) λx y H Q=>∃i j,x=.S i/\y=.S j/\Q (.B ! Đ (j.cps.toList<i.cps.toList)) H:=by intro p s σ H x y v u Q I r R h;let(i,j,rfl,rfl,q):=h;let(t,rfl):=r;let(T,rfl):=R;rwa[PySem.P.le_str (.B _,H,I,Ŗ,q)]
def kg(h:H p=ao)(o:HO):rb H (de H p o):=λb u q=>by rw[bw (b7 q h)];rwa[q]
def CK{lo:Ő Î}(h:HT.lC (Á xs) 0 lo=0/\HT.lC (Á xs) (Á xs) H=Á xs):rk xs lo H=xs:=by delta rk;rw[h.1,h.2,jL,Nat.sub_zero,kM]
def sW{E:c9}{lo:Ő Î}{Q:c9}(H:IsTup s.heap t items)(b:s.heap.IsSliceOf sl v u .none)(p:IsPart v lo)(c:IsPart u i)(d:HT.lC items.size 0 lo=0/\HT.lC items.size items.size i=items.size)(h:Q (.ref t) s):bv (b' P w) A (getItem (.ref t) (.ref sl)) Q E s:=by
 let(os,F,a,R):=id b;delta getItem;try with_reducible erw[bJ ?_]
 erw[aa (Ca H.typeIs Ŗ ?_)];erw[aa (bC H.typeIs bY (bK bY H.typeIs x9 ?_ (An _ _)))];show bv _ _ (Ē _>>=_) _ _ s;erw[aa (XN H ?_)];erw[aa (fR (os,F,a) ?_)];erw[aa (HT.lD b p c ?_)];show bv _ _ (if((HT.lC _ 0 lo:Î)==0&&1==1&&HT.lC _ _ i-HT.lC _ 0 lo==items.size)=J then _ else _) _ _ s;rw[bV nofun];erw[aa ?_];erw[aa (fR H.typeIs (ah ?_))];first|rwa[aa (f7 (ah (_,Ŗ,ah h)))]|rfl|rfl
theorem uT{α β:Type}{f g:α->Ő β}:∀{l:Ł α},(∀x∈l,f x=g x)->l.filterMap f=l.filterMap g|[],_=>Ŗ|x::r,h=>by rw[eW,eW,h x aL,uT λy H=>h y (aH _ H)]
def Ov(xs:Ł Â):((Ù (Á xs)).filterMap λ(k:Ń)=>xs.toArray[(((Á xs:Ń):Î)-1+(k:Î)*-1).toNat]?).toArray=xs.reverse.toArray:=by
 congr 1;let e:∀k∈Ù (Á xs),xs.toArray[(((Á xs:Ń):Î)-1+(k:Î)*-1).toNat]?=xs.reverse[k]?:=λk h=>by
  let P:=ir.mp h;let:(((Á xs:Ń):Î)-1+(k:Î)*-1).toNat=Á xs-1-k:=()
  rw[this,et,um P]
 rw[uT e];apply List.ext_getElem?;intro i;let key:∀(l:Ł Â),(Ù (Á l)).filterMap (λk=>l[k]?)=l:=λl=>by
  let:(Ù (Á l)).filterMap (λk=>l[k]?)=(Ù (Á l)).map λk=>l.getD k .none:=by rw[<-List.filterMap_eq_map];erw[uT λk h=>?_];let P:=ir.mp h;rw[av P,Function.comp,fz,av P];rfl
  rw[this];apply List.ext_getElem;.simp
  .intro j a H;rw[List.getElem_map,Ah,fz,av H];rfl
 let k2:=key xs.reverse;rw[el]at k2;rw[k2]
def sX{E:c9}{Q:c9}(H:IsTup s.heap t its.toArray)(c:s.heap.IsSliceOf sl .none .none (.int (-1) T))(D:Á its<=Ã)(h:Q (.ref s.heap.objs.size) {s with heap:=s.heap.push {cls:=.type "tuple",data:=.seq its.reverse.toArray}}):bv (b' P w) A (getItem (.ref t) (.ref sl)) Q E s:=by
 let(os,F,a,R):=id c;let b:s.TypeIs (.ref sl) "slice":=(os,F,a);let Z:sizeOk (.seq its.reverse.toArray):=by show its.reverse.toArray.size<=Ã;rw[aM,el];rwa[D]
 delta getItem;try with_reducible erw[bJ ?_]
 first|erw[aa (ah ?_)]|skip
 erw[aa (Ca H.typeIs ∅ ?_)];erw[aa (bC (name:=ì "__getitem__") H.typeIs bY (bK bY H.typeIs x9 ?_ (An _ _)))];show bv _ _ (Ē (.ref t)>>=_) _ _ s;erw[aa (XN H ?_)];erw[aa (fR b ?_)];rw[bV ∅];erw[aa ?_];delta ŵ Builtin.Slice.sliceFields;erw[aa (aa (bg F R (x:=.none) Ŗ (aa (bg F R (x:=.none) Ŗ (aa (bg F R (x:=.int (-1) T) Ŗ (ah ?_)))))))];erw[aa (slicePart_int ?_)];show bv _ _ (if((-1:Î)==0)=J then _ else _) _ _ s;rw[bN ∅];erw[aa (vY (aa (vY (aa (ah ?_)))))];let j:Ą ao ao (-1) ((its.toArray.size:Ń):Î)=(((Á its:Ń):Î)-1,-1):=by delta Ą;simp
 let p:ï (((Á its:Ń):Î)-1) (-1) (-1)=Á its:=by
  delta ï;let d:¬(-1:Î)>0:=()
  let e:-(-1:Î)=1:=∅
  simp only[d,gS,e,Int.ediv_one];split<;>lia
 show bv _ _ (match Ą ao ao (-1) ((its.toArray.size:Ń):Î)with|(lo,i)=>pure (á lo (á (-1:Î) (ï lo i (-1))))) _ _ s;rw[j];show bv _ _ (pure (á (((Á its:Ń):Î)-1) (á (-1:Î) (ï (((Á its:Ń):Î)-1) (-1) (-1))))) _ _ s;rw[p];erw[ah ?_];show bv _ _ (if(((Á its:Ń):Î)-1==0&&(-1:Î)==1&&Á its==its.toArray.size)=J then _ else _) _ _ s;rw[bN (by intro z;rw[aE,aE]at z;rwa[Ă z.1.2 ∅]),Ov];first|rwa[aa (m:=ē _) (bE (ah (_,Ŗ,ah h)) Z)]|rwa[aa (aa (m:=ē _) (bE (ah (ah (_,Ŗ,ah h))) Z))]|rwa[aa (aa (m:=ē _) (bE (ah (_,Ŗ,ah h)) Z))]
structure uy(w:ce)(K:Å)(a:À)(tab:Æ->Ő ϐ):ß where
 ex:∃(es:Array gc)(n:Ń),K.lookup a=O (.type "dict",ao,.dict es n,#[])/\KeysLit w.params es.toList/\∀x,match tab x with|O ks=>∃b,findBy ã es x=O (.ref b)/\∃(o:Ú)(its:Array Â)(m:Ń),K.lookup b=O o/\o.cls=.type "tuple"/\o.data=.seq its m/\its.size<=Ã/\Vals (ks.map V.S) its.toList|ao=>findBy ã es x=ao
 lo:(a==e9)=bb
def aln(K:Å)(t:Æ->Ő ϐ)(T:TE):TE:=λσ H Q=>T σ H λy h=>∃x,y=.S x/\match t x with|O k=>∀b,gF K h b (k.map V.S)->Q (.A b) h|ao=>Q .g9 h
def IP(T:uy X.w X.K a c)(L:Gl X n)(M:X.mg n=O (.ref a))(N:PE X e g)(U:ø ((n==("__debug__":Æ))=bb) x0)(W:ø (ft (.Name n p) "get" X.env (Ê (.Name n p) X.env)=Ê (.Name n p) X.env) o0)(Z:ø (((em d (c7 [e] X.env)).all (λx=>!x.1)&&(backToKw d (hA [] X.env)).all (λx=>x.1.isSome)&&Đ (Á [e]+Á ([]:Ł fm)+(if([]:Ł fm).isEmpty then 0 else 1)<30))=J) o0)(qh:ø ((cr.endLine==d.line)=J) o0)(B:ø (c7 [e] X.env=[(bb,Ê e X.env)]) o0):PE X (.Call (.Attribute (.Name n p) "get" cr) [e] [] d) (aln X.K c g):=by intro P s σ H Q I h;let(es,k,lk,keys,look):=T.ex;let f:=gR (prog:=X.prog) (w:=X.w) I.kr lk keys;erw[sH W Z qh Ŗ (iT I L M ?_ U)];erw[("dict","dict.get",jw,eA,uq,f.typeIs,f.noDict,?_)];let i:PA X [e] (OY g Fa):=Gs N kD (by rw[B];rfl);let C:=i d P s σ H (λv j=>match v with|[y]=>∃x,y=.S x/\(match c x with|O D=>∀b,gF X.K j b (D.map V.S)->Q (.A b) j|ao=>Q .g9 j)|_=>ŧ) I h;rw[B]at C⊢;erw[gG Ŗ (eM ?_)];erw[iD C λus s2 v=>?_];let(v,E,r,R,q2):=v;let Y:=gR (prog:=X.prog) r.kr lk keys;match v,R,q2 with|[y],R,(x,ey,q)=>subst ey;let(u,rfl,t,rfl):=R.one;erw[sG eA Y.typeIs jS (PySem.F.args_dict_get_2 _ _) (meets_dict_get _ a (kP _ X.w x t) T.lo) (_,Y,?_)];let l:=look x;induction G:c x with|c D=>rw[G]at l q;let(b,fb,o,z,m,l1,l2,l3,l4,l5):=l;rw[fb];exact(.A b,E,r.tok _,Ŗ,q b (.inr (o,z,m,l1,l2,l3,l4,l5)))|a=>rw[G]at l q;rw[l];exact(.g9,E,r.tok _,Ŗ,q)
structure Src(K:Å)(mg:c4)(x:Æ)(st:É)(ps:ϐ):ß where ex:∃(f:À)(fd:c'),BQ K x x st f fd/\mg x=O (.ref f)/\Binds K fd ps []
def bW:Ä->Þ|.Starred _ _=>bb|_=>J
def cx(h:bW e):c7 (e::es) env=(bb,Ê e env)::c7 es env:=by cases e<;>first|rfl|cases h
theorem eV:∀{es:Ł _},es.all bW=J->(em pos (c7 es env)).any (·.1)=bb|[],_=>Ŗ|e::es,h=>by rw[bZ,aE]at h;rw[cx h.1];show(bb||(em pos _).any _)=bb;rw[eV (env:=env) (pos:=pos) h.2];rfl
def Tn(H:PE X e T)(r:PA X es t)(h:ø (bW e=J) o0):PA X (e::es) (OY T t):=Gs H r (cx h)
def Np{id:String}(h:fi X (.builtin id) r)(H:Gl X x)(m:X.mg x=ao)(v:dN x=O (.builtin id))(a:PA X (e::es) t)(hn:ø (x≠"__name__") x0)(j:ø ((x==("__debug__":Æ))=bb) x0)(d:ø ((e::es).all bW=J) o0):PE X (.Call (.Name x p) (e::es) [] pos) (vr r t):=Nr h H m v a hn j (cx (by rw[bZ,aE]at d;rwa[d.1])) (eV (by rw[bZ,aE]at d;rwa[d.2]))
def Nq{id:String}(h:fi X (.type id) r)(H:Gl X x)(m:X.mg x=ao)(v:dN x=O (.type id))(a:PA X (e::es) t)(hn:ø (x≠"__name__") x0)(j:ø ((x==("__debug__":Æ))=bb) x0)(d:ø ((e::es).all bW=J) o0):PE X (.Call (.Name x p) (e::es) [] pos) (vr r t):=IK h H m v a hn j (cx (by rw[bZ,aE]at d;rwa[d.1])) (eV (by rw[bZ,aE]at d;rwa[d.2]))
def sg(k:Ń)(s:Ϙ)(σ:È):È:=Ð k ao++s.map λj=>σ[j]?.join
def aiw(k:Ń)(a:Ϙ)(d:k+Á a=Á n)(hn:a.map (λj=>X.N[j]?)=(n.drop k).map O)(f:∀x∈n.drop k,(x,ç)∈s.names):∀σ:È,Á σ=Á X.N->lQ X n s σ (sg k a σ):=by
 intro σ _;erw[(by delta sg;rw[ai,cF,af];rwa[d],λi x v g h=>?_)];delta sg at h;by_cases H:i<k;.rw[bt (by simpa using H),gm,bV H]at h;cases h
 .rw[aI (by simpa using H),cF,aR]at h;induction b:a[i-k]? with|a=>left|c j=>
   rw[b]at h;let h3:=by simpa using h
   let e:(n.drop k)[i-k]?=O x:=by grind
   let e2:=cb (λl=>l[i-k]?) hn;simp only[aR,b,e,Option.map_some]at e2;erw[(f x (aP e),j,dM e2,?_)];induction c:σ[j]? with|a=>rw[c]at h3;cases h3|c o=>rw[c]at h3;let:o=O v:=h3;rw[this]
def CJ{X:Cx}{N:ϐ}{scope:Í}(s:Í)(h:ø (X.env.scope=s) o0)(a:ø (scope.kind=.function) kT)(b:ø N.Nodup kT)(c:ø (∀y∈scope.names,y.2≠.cell) kT)(d:ø (∀y∈scope.names,y.2=.local->scope.names.lookup y.1=O .local) kT)(e:ø (∀y∈scope.names,y.2=.free->s.names.lookup y.1=O .cell) kT)(f:ø (∀y∈scope.names,y.2=.free->(scope.names.map λ(n,k)=>if k==.free&&s.kind==.function&&s.names.lookup n==O .cell then(n,NameKind.cell)else(n,k)).lookup y.1≠O .local) kT):fj X N scope:=by subst h;exact(a,b,c,d,e,λx H=>f _ H Ŗ)
def Cy:dN "len"=O (.builtin "len"):=PySem.boot_len
def wg:dN "isinstance"=O (.builtin "isinstance"):=by rfl
def Yd:dN "all"=O (.builtin "all"):=by rfl
def Fe:dN "list"=O (.type "list"):=by rfl
def AB:dN "tuple"=O (.type "tuple"):=by rfl
def Ye:dN "str"=O (.type "str"):=by rfl
def KG:dN "int"=O (.type "int"):=by rfl
def QC:dN "bool"=O (.type "bool"):=by rfl
def aeM(h:X.mg x=ao)(H:dN x=O (.type n))(g:Gl X x)(hn:ø (x≠"__name__") x0)(d:ø ((x==("__debug__":Æ))=bb) x0):PE X (.Name x pos) (tC (.ty n)):=Ts g h H rfl hn d
def yS(C t:À)(d:Ő À)(T:Â):Ú:={cls:=.ref C,dict:=d,data:=.fields #[.ref t,T,.none,.none,.bool bb,.none]}
def Ex(h:Ç)(a C:À)(d:Ő À)(T:À)(fl:Â):ß:=(∃t,h.get? a=O (yS C t d (.ref T)))/\T≠a/\∃o s,h.get? T=O o/\o.data=.fields s/\s[3]?=O fl
structure Mv(fs:Ł À)(a T:À)(h h':Ç):ß where
 keep:∀b o,h.get? b=O o->b∉fs->b≠a->b≠T->h'.get? b=O o
 slot:∀b o,h.get? b=O o->b∈fs->b≠a->b≠T->∃sl,h'.get? b=O {o with slots:=sl}
def Mv.any(m:Mv fs a T h h')(e:h.get? b=O o)(H:b≠a)(c:b≠T):∃sl,h'.get? b=O {o with slots:=sl}:=by
 by_cases d:b∈fs;.rwa[m.slot b o e d H c]
 .exact(_,m.keep b o e d H c)
def uP{E:c9}{s:am}(w:A.frames=O (env::outer))(l:s.heap.FunFrames base (env::outer))(y:env.frame=O L)(m:s.heap.get? a=O (yS C t d v))(h:∀h' g,s.heap.get? g=ao->s.heap.objs.size<=g->Ex h' a C d g (c5 L)->Mv ((env::outer).filterMap (·.frame)) a a s.heap h'->Q ⟨⟩ {s with heap:=h'}):bv M A (do let x<-frameOf env;let p<-entryPlaceOf L R;let b<-EntryCells.newEntry head x .none (c5 L) .none p;setField (.ref a) 1 b) Q E s:=by
 erw[aa (wpAny_frameOf_fun w l y λn H=>?_)];erw[aa (wpAny_entryPlaceOf λp D=>?_)];erw[aa (bE ?_ (D.sizeOk5 _ _ _ _ _))];let c:=(H.2.1 a λz=>by let(_,o,r,hn):=l.mem z;rw[m]at r;cases r;rwa[hn _ Ŗ]).trans m;let f:=ae {cls:=.type "traceback",dict:=ao,data:=.fields ([head,.ref L,.none,c5 L,.none]++if p.isEmpty then Ð 6 Ô else p).toArray} c;erw[cE f Ŗ (Nat.lt_of_sub_pos (Nat.succ_pos 4)) ?_];let I:=dA (ax c);let i:∀b o,s.heap.get? b=O o->b≠n.objs.size:=λb o e=>by let(sl,j):=H.2.2 b o e;rwa[aF (ax j)]
 erw[h _ _ (by induction q:s.heap.get? _ with|a=>rfl|c o=>rwa[Ă Ŗ (i _ o q)]) (eI H.1.symm) ((t,bF _ f Ŗ),I,{cls:=.type "traceback",dict:=ao,data:=.fields ([head,.ref L,.none,c5 L,.none]++if p.isEmpty then Ð 6 Ô else p).toArray},_,?_,Ŗ,?_) (λb o e u k _=>?_,λb o e u k _=>?_)];.rw[bI _ _ (cI I)];rwa[ar n Ŗ]
 .rfl
 .rw[bI _ _ (cI k)];rwa[ae _ ((H.2.1 b u).trans e)]
 .let(sl,j):=H.2.2 b o e;erw[(sl,?_)];rw[bI _ _ (cI k)];rwa[ae _ j]
def ϫ{E:c9}{s:am}(o:A.frames=O (env::outer))(l:s.heap.FunFrames base (env::outer))(H:env.frame=O L)(e:s.heap.get? a=O (yS C t d .none))(h:∀h' b,s.heap.get? b=ao->s.heap.objs.size<=b->Ex h' a C d b (c5 L)->Mv ((env::outer).filterMap (·.frame)) a a s.heap h'->Q ⟨⟩ {s with heap:=h'}):bv M A (ge (.ref a) env) Q E s:=by delta ge;simp only[H];rwa[aa (bg e Ŗ (x:=.none) Ŗ (uP o l H e h))]
def W4{E:c9}{s:am}(r:A.frames=O (env::outer))(u:s.heap.FunFrames base (env::outer))(l:env.frame=O L)(v:Ex s.heap a C d T .none)(h:∀h' c,s.heap.get? c=ao->s.heap.objs.size<=c->Ex h' a C d c (c5 L)->Mv ((env::outer).filterMap (·.frame)) a T s.heap h'->Q ⟨⟩ {s with heap:=h'}):bv M A (ge (.ref a) env) Q E s:=by
 obtain⟨⟨t,m⟩,I,D,G,i,j,n⟩:=v;delta ge;simp only[l];erw[aa (bg m Ŗ (x:=.ref T) Ŗ ?_)];erw[aa (bg i j n ?_)];erw[aa (cE i j (d9.mp n).1 ?_)];let B:∀b,b≠T->(s.heap.update T (ä (·.setIfInBounds 3 Ô))).get? b=s.heap.get? b:=λb H=>bI _ _ (cI H);erw[uP r (u.of_keeps λb o H f=>(o,(B b (λb o H f q=>by left b o H f)).trans H,Ŗ)) l ((B a (cI I)).trans m) λh' c F w y p=>?_];erw[h h' c ?_ ?_ y (λb o e H g k=>p.keep b o ((B b k).trans e) H g g,λb o e H g k=>p.slot b o ((B b k).trans e) H g g)]
 .by_cases q:c=T;.rw[q]at F;let z:=bF (ä (·.setIfInBounds 3 Ô)) i (cO (bP j _));rw[z]at F;cases F
  .exact(B c q).symm.trans F
 .left
def aed{E:c9}{L:À}(H:env.frame=O L)(e:Ex s.heap a C d T (c5 L))(h:Q ⟨⟩ s):bv M A (ge (.ref a) env) Q E s:=by obtain⟨⟨t,b⟩,m,o,i,c,f,g⟩:=e;delta ge;simp only[H];erw[aa (bg b Ŗ (x:=.ref T) Ŗ ?_)];erw[aa (bg c f g ?_)];rw[bV ⋯];rwa[ah h]
def RC{E:c9}(e:Ex s.heap a C d T fl)(h:∀h',Ex h' a C d T .none->Ý T s.heap h'->Q ⟨⟩ {s with heap:=h'}):bv M A (setFlight (.ref a) ao) Q E s:=by obtain⟨⟨t,b⟩,m,o,g,c,H,f⟩:=e;let hz:=(d9.mp f).1;rwa[aa (bg b Ŗ (x:=.ref T) Ŗ (cE c H hz (h _ ((t,(bI _ _ m).trans b),m,_,_,bF _ c (cO (bP H _)),bP H _,nofun) (cj ..))))]
def wu:entryFor table "proto.unchain"=O Builtin.«proto.unchain»:=qV Ŗ
def EO{E:c9}{Q:c9}(H:s.heap.get? e=O (yS C t d tb))(h:Q .none s):bv (b' prog w) A (runValue (.builtin "proto.unchain" ([x,.ref e,.ref e,.bool bb],[]))) Q E s:=by rwa[v8 (cJ wu (aa (bg H Ŗ (x:=.none) Ŗ (ah h))))]
def Oj{E:c9}{Q:α->am->ß}(H:A.handled=O (.ref e))(a:s.heap.get? e=O (yS C t d tb))(b:s.heap.get? x=O o)(c:o.data=.fields vs)(hz:2<vs.size)(m:e≠x)(h:E (.ref x) {s with heap:=s.heap.update x (ä (·.setIfInBounds 2 (.ref e)))}):bv (b' prog w) A (raiseNew (.ref x)) Q E s:=by erw[aa (pQ ?_)];rw[H];show bv _ _ (if(Ò e !=Ò x)=J then _ else _) _ _ _;rw[bV (by simp[m])];rwa[aa (bJ (EO a (aa (cE b c hz (pH h)))))]
def EH{E:c9}{items}(j:A.handled=O (.ref e))(m:s.heap.get? e=O (yS C t d tb))(M:e≠I)(hit:s.heap.IsTupleIter I T i)(n:s.heap.IsTuple T items)(p:items[i]?=ao)(r:∀h',è I s.heap h'->Q ao {s with heap:=h'}):bv (b' prog w) A (d4 (.ref I)) Q E s:=by let(o,h,z,H):=id hit;let(ol,l,_,N,c):=n;delta d4;erw[aa (eJ (bC (name:=ì "__next__") hit.typeIs ef (bK ef hit.typeIs mK ?_ (mw _))))];show bv _ _ (field (.ref I) 0>>=_) _ _ s;erw[aa (bg h H (x:=.ref T) Ŗ ?_)];show bv _ _ (if(Ò T==Ô)=J then _ else _) _ _ s;rw[bN (show ¬(Ò T==Ô)=J from aD)];show bv _ _ (field (.ref I) 1>>=_) _ _ s;erw[aa (bg h H (x:=.int i 0) Ŗ ?_)];show bv _ _ (seqItems? (.ref T)>>=_) _ _ s;erw[aa (cD l c ?_)];simp only[dE,p];erw[aa (f7 (aa (cE h H ⋯ ?_)))];show bv _ _ (newExc (.type "StopIteration") []>>=_) _ _ _;erw[aa ?_];erw[aa (bE ?_ (by size_fits))];erw[aa (pF (a:=Ô) Ŗ ?_)];erw[bE ?_ (by size_fits)];let k1:∀{f:Ç}{u:Ú},f.get? e=O (yS C t d tb)->(f.push u).get? e=O _:=λq=>ae _ q;let k:(s.heap.update I (ä (·.setIfInBounds 0 Ô))).get? e=O _:=(bI _ _ (cI M)).trans m;erw[Oj j (k1 (k1 k)) (ar _ Ŗ) rfl (by rw[Array.size_append];rwa[aY (show 2<6 by ext) (bp 6 _)]) (aF (ax (k1 k))) ?_];erw[aa (gr (_,bF _ (ar _ Ŗ) Ŗ,Ŗ) jU ?_)];erw[ah (r _ ?_)];intro b o v q;let y:(s.heap.update I (ä (·.setIfInBounds 0 Ô))).get? b=O o:=(bI _ _ (cI v)).trans q;let g:=ae {cls:=.type "tuple",data:=.seq #[]} y;exact(bI _ _ (cI (aF (ax g)))).trans (ae _ g)
def fK.there(x:fK P w H h a o):∃ob,h.get? a=O ob:=by induction o with|L X=>let(_,_,_,_,e):=x;exact(_,e)|T X=>let(_,_,_,o,e,_):=x;exact(_,e)|dK A=>let(_,_,_,_,o,_,_,e,_):=x;exact(_,e)|dT A=>let(_,_,_,_,o,_,_,e,_):=x;exact(_,e)|set S n=>let(o,_,_,_,e,_):=x;exact(_,e)|ins C d fs=>let(_,_,_,e,_):=x;exact(_,e)|own y=>rwa[x]|xd fs=>obtain⟨_,⟨o,_,_,e,_⟩,_⟩:=x;exact(_,e)|rng lo i=>let(_,_,_,e):=x;exact(_,e)|mE ob u=>let(e,_):=x;exact(_,e)|Vz ps=>exact(_,x)|met f y=>exact(_,x)|ext φ=>rwa[x.2.1]
def jY.none_of(x:jY P w H h)(e:h.get? a=ao):H a=none:=by induction q:H a with|a=>rfl|c o=>let(b,z):=(x a o q).there;rw[e]at z;cases z
def jY.keep(x:jY P w H h)(k:∀b u o,H b=O u->h.get? b=O o->h'.get? b=O o):jY P w H h':=λa o e=>(x a o e).tm (λb u c q=>by
  rcases c with rfl|c;.rwa[k _ _ _ e q]
  .rwa[k _ _ _ c q]) (λ_ q=>q) λ_ _ q=>q
structure Fl(P:ci)(w:ce)(l:Ł Û)(H:Hp)(s:am)(H':Hp)(a C:À)(d:Ő À)(fl:Â)(s':am):ß where
 os:s'.os=s.os
 bare:AllBare s'.gens
 un:Un (o7 l) [] H H' s.heap s'.heap
 cV:jY P w H' s'.heap
 na:H' a=ao
 new:s.heap.get? a=ao
 ex:∃T,Ex s'.heap a C d T fl/\H' T=ao/\s.heap.get? T=ao
def qI(P:ci)(w:ce):uv:=λl H s E e S=>∃a C d h,e=.ref a/\Fl P w l H s h a C d .none S/\E (.ref C) d h
def Fl.inv{σ:È}(I:Inv X be σ H s)(f:Fl X.prog X.w X.stack H s H' a C d fl s'):Inv X be σ H' s':=I.AE f.os f.un f.cV f.bare λb h=>Ă h ⋯
def Fl.frF{σ:È}(I:Inv X be σ H s)(f:Fl X.prog X.w X.stack H s H' a C d fl s'):∀b∈o7 X.stack,H' b=none:=λb h=>by let(_,o,c,_):=I.stack.mem h;rwa[f.un.free b o c (I.qA b h) ⋯]
def Fl.move{X:Cx}(f:Fl X.prog X.w l H s H' a C d fl s')(i:∀b∈o7 l,H' b=ao)(j:H' T=ao)(R:s.heap.get? T=ao)(m:Mv (o7 l) a T s'.heap h')(e:Ex h' a C d t W)(c:H' t=ao)(A:s.heap.get? t=ao):Fl X.prog X.w l H s H' a C d W {s' with heap:=h'}where
 os:=f.os;bare:=f.bare;un:=by
  let na:∀b o,s.heap.get? b=O o->b≠a:=λb o q z=>by rw[z,f.new]at q;cases q
  let N:∀b o,s.heap.get? b=O o->b≠T:=λb o q z=>()
  erw[(λb o q n h x=>m.keep b o (f.un.keep b o q n h x) h (na b o q) (N b o q),λb o q n h x=>?_,f.un.free,λb o q x=>?_,f.un.oE,f.un.mG,f.un.oA)];.let(sl,Q):=f.un.slot b o q n h x;let(S,g):=m.slot b _ Q h (na b o q) (N b o q);exact(S,g)
  .let(k,Q):=f.un.there b o q x;let(sl,g):=m.any Q (na b o q) (N b o q);exact(_,g)
 cV:=f.cV.keep λb u o e q=>m.keep b o q λz=>by left (λz=>by rw[z,f.na]at e;cases e) (λz=>nofun);na:=f.na;new:=f.new;ex:=(t,e,c,A)
theorem Fl.fresh{X:Cx}(f:Fl X.prog X.w l H s H' a C d fl s')(hn:s'.heap.get? T=ao)(h:s'.heap.objs.size<=T):H' T=ao/\s.heap.get? T=none:=by erw[(f.cV.fresh h,?_)];induction q:s.heap.get? T with|a=>rfl|c o=>let(b,z):=f.un.there T o q ⋯;rw[hn]at z;cases z
def Fl.kq{σ:È}(I:Inv X be σ H s)(f:Fl X.prog X.w X.stack H s H' a C d fl s'):s'.heap.FunFrames X.base X.stack:=(f.inv I).stack
def Fl.note{σ:È}{E:c9}(I:Inv X be σ H s)(W:X.stack=X.env::o)(c:X.env.frame=O X.env.locals)(b:A.frames=O X.stack)(f:Fl X.prog X.w X.stack H s H' a C d .none s')(h:∀j,Fl X.prog X.w X.stack H s H' a C d (c5 X.env.locals) j->Q ⟨⟩ j):bv M A (ge (.ref a) X.env) Q E s':=by let(T,e,g,R):=f.ex;let hl:=f.kq I;rw[W]at b hl;erw[W4 b hl c e λl t n N i m=>h _ ?_];let(G,k):=f.fresh n N;rwa[f.move (f.frF I) g R (by rw[W];rwa[m]) i G k]
def Fl.land{X:Cx}{E:c9}(f:Fl X.prog X.w l H s H' a C d fl s')(i:∀b∈o7 l,H' b=ao)(h:∀j,Fl X.prog X.w l H s H' a C d .none j->Q ⟨⟩ j):bv M A (setFlight (.ref a) ao) Q E s':=by let(T,e,g,R):=f.ex;rwa[RC e λm k S=>h _ (f.move i g R (λb o q _ _ c=>(S.2 b c).trans q,λb o q _ _ c=>(_,(S.2 b c).trans q)) k g R)]
def Fl.out{σ:È}(I:Inv X be σ H s)(h:X.ex=[])(f:Fl X.prog X.w X.stack H s H' a C d fl s'):Fl X.prog X.w X.outer X.H₀ X.s₀ H' a C d fl s':=by
 let j:=f.inv I;let c:∀b,s.heap.get? b=ao->X.s₀.heap.get? b=none:=λb q=>by induction z:X.s₀.heap.get? b with|a=>rfl|c o=>let(i,y):=I.base.there b o z nofun;rw[q]at y;cases y
 let(T,e,g,R):=f.ex;let un:=j.base;rw[h]at un;exact(j.os,j.bare,un,j.cV,f.na,c _ f.new,T,e,g,c _ R)
structure Cd(X:Cx):ß where
 st:X.stack=X.env::X.outer
 fr:X.env.frame=O X.env.locals
 ex:X.ex=[]fn:∀x,X.fn x=J
def gM(X:Cx)(E:XK):ß:=∀e s,bv (b' X.prog X.w) X.A (leaving X.env e) (λ_ j=>qI X.prog X.w X.outer X.H₀ X.s₀ E e j) (λa j=>qI X.prog X.w X.outer X.H₀ X.s₀ E a j) s->X.xe e s
def gM.pass(fr:Cd X)(o:gM X E):f9 (qI X.prog X.w) X E:=by intro p σ H s e S I h;let(a,C,d,b,rfl,f,q):=h;rwa[o _ _ (aa (f.note I fr.st fr.fr I.ok.frames λs2 f2=>f2.land (f2.frF I) λc F=>(a,C,d,b,Ŗ,F.out I fr.ex,q)))]
def gM.WY{p:Ł _}{σ:È}(fr:Cd X)(o:gM X E)(I:Inv X p σ H s)(os:s1.os=s.os)(un:Un (o7 X.stack) [] H c s.heap s1.heap)(l:jY X.prog X.w c s1.heap)(B:AllBare s1.gens)(r:s1.heap.get? a=O (yS C t d .none))(hn:c a=ao)(new:s.heap.get? a=ao)(q:E (.ref C) d c):X.xe (.ref a) s1:=by
 erw[o _ _ ?_];let j:=I.AE os un l B λb h=>Ă h ⋯;let F:=j.qA;let hl:=j.stack;let k:=j.ok.frames;rw[fr.st]at hl k;let g:∀b,s1.heap.get? b=ao->s.heap.get? b=none:=λb q=>by induction z:s.heap.get? b with|a=>rfl|c o=>let(v,y):=un.there b o z ⋯;rw[q]at y;cases y
 erw[aa (ϫ k hl fr.fr r λh2 T A D e mv=>?_)];let f:Fl X.prog X.w X.stack H s c a C d (c5 X.env.locals) {s1 with heap:=h2}:=by
  let N:∀b o,s.heap.get? b=O o->b≠a:=λb o q z=>()
  let m:Mv (o7 X.stack) a a s1.heap h2:=by rw[fr.st];rwa[mv]
  erw[(os,j.bare,(λb o q n h x=>m.keep b o (un.keep b o q n h x) h (N b o q) (N b o q),λb o q n h x=>?_,un.free,λb o q x=>?_,un.oE,un.mG,un.oA),(j.cV.keep λb u o e q=>m.keep b o q λz=>by left (λz=>by rw[z,hn]at e;cases e) λz=>by rw[z,hn]at e;cases e),hn,new,T,e,j.cV.fresh D,g T A)];.let(sl,Q):=un.slot b o q n h x;let(S,i):=m.slot b _ Q h (N b o q) (N b o q);exact(S,i)
  .let(v,Q):=un.there b o q x;let(sl,i):=m.any Q (N b o q) (N b o q);exact(_,i)
 rwa[f.land F λK G=>(a,C,d,c,Ŗ,G.out I fr.ex,q)]
def gM.made{p:Ł _}{σ:È}(fr:Cd X)(o:gM X E)(I:Inv X p σ H s)(m:Heap.MadeExcOf s.heap h' a (.ref C) vs)(q:E (.ref C) ao H):X.xe (.ref a) {s with heap:=h'}:=by let(t,h,n,b):=m.there;let j:Inv X _ σ H {s with heap:=h'}:=I.kept m.keeps;rwa[o.WY fr I rfl (Un.kept m.keeps) j.cV j.bare h (I.cV.none_of m.new) m.new q]
nonrec abbrev xB:Ł Â:=[.type "ValueError",.type "Exception",.type "BaseException",.type "object"]
def As(K:Å)(C:À):ß:=excIn K C xB "ValueError.__new__"=J
def aiM{P:Ő Ú->ß}(k:∀d c s,f d c s=J->P (O (.type "type",d,.cls c,s)))(q:excIn.match_6 (λ_=>Þ) o f (λ_=>bb)):P o:=by
 induction o with|a=>exact(aD q).elim|c o=>let(ty,d,dt,s):=o;induction ty with|type t=>
  by_cases h:t="type";.subst h;induction dt with|cls c=>rwa[k _ _ _ q]|_=>exact(aD q).elim
  .delta excIn.match_6 nsOkIn._sparseCasesOn_4 excIn._sparseCasesOn_6 at q;dsimp only at q;rw[dif_neg h]at q;exact(aD q).elim|_=>exact(aD q).elim
def aiL{P:Ł Â->Ł (Ő Â)->ß}(k:∀C m k0 k1 k2 k3 n k5,f C m k0 k1 k2 k3 n k5=J->P (.ref C::m) [k0,k1,k2,k3,O (.builtin n),k5])(q:excIn.match_1 (λ_ _=>Þ) a b f (λ_ _=>bb)):P a b:=by
 obtain _|⟨a,m⟩:=a;.exact(aD q).elim
 induction a with
 |ref C=>
  obtain _|⟨k0,b⟩:=b;.exact(aD q).elim
  obtain _|⟨k1,b⟩:=b;.exact(aD q).elim
  obtain _|⟨k2,b⟩:=b;.exact(aD q).elim
  obtain _|⟨k3,b⟩:=b;.exact(aD q).elim
  obtain _|⟨k4,b⟩:=b;.exact(aD q).elim
  obtain _|k4:=k4;.exact(aD q).elim
  induction k4 with|builtin n=>
   obtain _|⟨k5,b⟩:=b;.exact(aD q).elim
   obtain _|_:=b;.rwa[k _ _ _ _ _ _ _ _ q]
   .exact(aD q).elim|_=>exact(aD q).elim
 |_=>exact(aD q).elim
inductive Qk(h:Ç)(C:À):ß|mk(bm N nm qn bs hdct sn sub ab col dd k0 k1 k2 k3 k5 mN):h.get? C=O (hY nm qn C N bs bm hdct sn sub ab col dd k0 k1 k2 k3 k5 "ValueError.__new__")->h.Ns N mN->mN "__init__"=ao->OwnTail h xB bm->Qk h C
def Rz{K:Å}(X:K.In h)(q:As K C):Qk h C:=by erw[aiM (P:=λo=>K.lookup C=o->Qk h C) (λd c s q H=>?_) q Ŗ];let(N,bs,mro,e,Q,f,S,sub,g,a,D):=c;revert H;erw[aiL (P:=λm l=>K.lookup C=O (_,d,.cls (N,bs,m,e,Q,f,S,sub,g,a,D),⟨l⟩)->Qk h C) (λj m k k1 k2 p n r q H=>?_) q];simp only[aE,sE,Bool.not_eq_true']at q;obtain⟨⟨⟨⟨⟨rfl,rfl⟩,A⟩,t⟩,b⟩,i⟩:=q;cases A;rwa[.mk _ _ _ _ _ _ _ _ _ _ _ _ _ _ _ _ _ (X _ _ H) (.of_isNs (Al X b)) (fZ X b i) (PySem.W.tail_of_in X t)]
def O5(E:XK)(C:À)(t:TE):TS:=λ_ σ H=>t σ H λ_ h=>E (.ref C) ao h
def N4(fr:Cd X)(o:gM X E)(c:X.calm)(g:Gl X x)(b:X.mg x=O (.ref C))(f:As X.K C)(j:PE X e0 t)(k:ø (bW e0=J) o0)(l:ø ((x==("__debug__":Æ))=bb) x0):PS X (.Raise (O (.Call (.Name x n) [e0] [] d)) ao pos) (O5 E C t):=by intro p s σ H D I h;let(B,N,nm,Q,bs,hdct,sn,sub,ab,col,dd,k0,k1,k2,k3,k5,M,u,w,a,T):=Rz I.mod.DL f;let hs:=cx (es:=[]) (env:=X.env) k;erw[wpAny_Raise_call_subT (nm:=nm) (q:=Q) (N:=N) (bs:=bs) (hdct:=hdct) (sn:=sn) (sub:=sub) (ab:=ab) (col:=col) (dd:=dd) (k0:=k0) (k1:=k1) (k2:=k2) (k3:=k3) (k5:=k5) PySem.F.excBase_ValueError (T.hasType (by rfl)) (I.ok.hd c) (by rw[hs];rfl) a (iT I g b (Ŗ,?_) l)];rw[hs];rwa[eM (dh (jf (j _ s σ H _ I h) λv s2 y z i r q=>fN (Ŗ,by show 1<=Ã;decide,i.bk _ _ u,w.keeps i.bk,T.keeps i.bk,λA e m=>o.made fr i m q)))]
structure kX(P:ci)(w:ce)(K:Å)(mg:c4)(base:Ç)(k:Ń)(x:Æ)(ps:ϐ)(sp:Sp):ß where ex:∃(f:À)(fd:c'),iB P w K mg base (qI P w) k f fd ps sp/\mg x=O (.ref f)/\keepIn K (.ref f)/\Binds K fd ps []
def Src.okX{K:Å}{st:É}(S:Src K mg x st ps)(F:cU N ps (ay st))(len:∀vs H Q E,sp vs H Q E->Á vs=Á ps)(i:∀(f:À)(e:Â)(A:cp)(o:Ł Û)(s:am)(H:Hp)(vs:ϕ)(Q:VK)(E:XK),fe k (A.deeper (envOfC x (ay st) s.heap.objs.size f e))->sp vs H Q E->∃t,jZ (oh (qI P w) P w K mg base N x (ay st) f e A o s H E) (bR st) t/\t {nx:=λ_ H'=>Q .g9 H',rt:=Q} (start N vs) H):kX P w K mg base (k+1) x ps sp:=by let(f,d,a,h,b):=S.ex;let(oc,g,kV,doc,p,n,e,C,R,rfl,lk,c):=a.ex;exact(f,_,xq lk c F len λA o s H vs Q E r y=>i f e A _ s H vs Q E r y,h,a.kp,b)
theorem kX.mono{K:Å}(D:kX P w K mg base j x ps sp)(h:j<=k):kX P w K mg base k x ps sp:=by let(f,d,F,r):=D.ex;exact(f,d,F.mono h,r)
theorem kX.imp{K:Å}(D:kX P w K mg base k x ps sp)(h:∀vs H Q E,wQ vs H Q E->sp vs H Q E):kX P w K mg base k x ps wQ:=by let(f,d,F,r):=D.ex;exact(f,d,F.imp h,r)
def nq{K:Å}:Cd (oh CX P w K mg base N x S f e A o s H E):=(Ŗ,Ŗ,Ŗ,λ_=>Ŗ)
def nB{K:Å}:gM (oh (qI P w) P w K mg base N x S f e A o s H E) E:=λ_ _ h=>h
def BE(sp:Sp)(E:XK)(t:TA):TE:=λσ H Q=>t σ H λv h=>sp v h Q E
def Tw(D:kX X.prog X.w X.K X.mg X.base k x ps sp)(r:fe k X.A)(a:f9 (qI X.prog X.w) X E)(g:Gl X x)(b:PA X (e::es) t)(j:ø ((x==("__debug__":Æ))=bb) x0)(d:ø ((e::es).all bW=J) o0):PE X (.Call (.Name x p) (e::es) [] pos) (BE sp E t):=by
 let(f,n,F,m,c,i):=D.ex;intro P s σ H Q I h;rw[bZ,aE]at d;erw[(Tt (p:=p) (pos:=pos) F r g m c i .nil a b j (cx d.1) (eV d.2) _ s σ H Q I) ?_];let l:xS sp [] E t=BE sp E t:=by delta xS BE;simp only[aK]
 rw[l];rwa[h]
def DY(h:env.frame=env'.frame):ge e env=ge e env':=by delta ge PySem.frameOf;rw[h]
def aee{E:c9}{L:À}{Q:Unit->am->ß}(v:A.frames=O (env::outer))(w:s.heap.FunFrames base (env::outer))(j:env.frame=O L)(m:Ex s.heap a C d T fl)(f:fl=c5 L->Q ⟨⟩ s)(h:∀h' c,s.heap.get? c=ao->s.heap.objs.size<=c->Ex h' a C d c (c5 L)->Mv ((env::outer).filterMap (·.frame)) a T s.heap h'->Q ⟨⟩ {s with heap:=h'}):bv M A (ge (.ref a) env) Q E s:=by
 by_cases n:fl=c5 L;.subst n;rwa[aed j m (f Ŗ)]
 obtain⟨⟨t,p⟩,I,G,K,k,l,r⟩:=m;delta ge;simp only[j];erw[aa (bg p Ŗ (x:=.ref T) Ŗ ?_)];erw[aa (bg k l r ?_)];rw[bN λz=>n (wW z)];erw[aa (cE k l (d9.mp r).1 ?_)];let B:∀b,b≠T->(s.heap.update T (ä (·.setIfInBounds 3 Ô))).get? b=s.heap.get? b:=λb H=>bI _ _ (cI H);erw[uP v (w.of_keeps λb o H g=>(o,(B b (λb o H g q=>by grind b o H g)).trans H,Ŗ)) j ((B a (cI I)).trans p) λh' c F y D u=>?_];erw[h h' c ?_ ?_ D (λb o e H i f=>u.keep b o ((B b f).trans e) H i i,λb o e H i f=>u.slot b o ((B b f).trans e) H i i)]
 .by_cases q:c=T;.rw[q]at F;let z:=bF (ä (·.setIfInBounds 3 Ô)) k (cO (bP l _));rw[z]at F;cases F
  .exact(B c q).symm.trans F
 .left
def RD{E:c9}(e:Ex s.heap a C d T fl)(h:∀h' W,Ex h' a C d T W->Ý T s.heap h'->Q ⟨⟩ {s with heap:=h'}):bv M A (setFlight (.ref a) fr) Q E s:=by obtain⟨⟨t,b⟩,m,o,i,c,H,g⟩:=e;let hz:=(d9.mp g).1;rwa[aa (bg b Ŗ (x:=.ref T) Ŗ (cE c H hz (h _ (fr.elim .none λf=>c5 f) ((t,(bI _ _ m).trans b),m,_,_,bF _ c (cO (bP H _)),bP H _,nofun) (cj ..))))]
def To{E:c9}{b:α->am->ß}(H:Ex s.heap a C d T fl)(h:∀h' W,Ex h' a C d T W->Ý T s.heap h'->E (.ref a) {s with heap:=h'}):bv M A (PySem.passOn D (.ref a) q) b E s:=by let Z:=H;obtain⟨⟨t,c⟩,_⟩:=Z;rwa[aa (bg c Ŗ (x:=.ref T) Ŗ (aa (RD H λh' W e S=>pH (h h' W e S))))]
def Inv.toX{p:Ł _}{σ:È}(I:Inv X p σ H s):Inv {X with xe:=E} p σ H s:=((I.ok.mod,I.ok.kind,I.ok.glob,I.ok.blt,I.ok.above,I.ok.inj,I.ok.has,I.ok.P1,I.ok.hd,I.ok.frames,I.ok.Ve,I.ok.RB,I.ok.bs,I.ok.Az,I.ok.tj,I.ok.wx,I.ok.kq,I.ok.Ic),I.os,I.bare,I.base,I.loc,I.cell,I.free,I.gN,I.pin,I.cV,I.len)
def Inv.ofX{p:Ł _}{σ:È}(I:Inv {X with xe:=E} p σ H s):Inv X p σ H s:=((I.ok.mod,I.ok.kind,I.ok.glob,I.ok.blt,I.ok.above,I.ok.inj,I.ok.has,I.ok.P1,I.ok.hd,I.ok.frames,I.ok.Ve,I.ok.RB,I.ok.bs,I.ok.Az,I.ok.tj,I.ok.wx,I.ok.kq,I.ok.Ic),I.os,I.bare,I.base,I.loc,I.cell,I.free,I.gN,I.pin,I.cV,I.len)
def c8(X:Cx)(N:ϐ)(S:Í)(f:Ł À)(a:am)(h:Hp)(E1:XK):Cx:={jC X N S f a h with xe:=λe b=>∃p σ H s,Inv (jC X N S f a h) p σ H s/\qI X.prog X.w X.stack H s E1 e b}
def CI:f9 (qI X.prog X.w) (c8 X N S f a b E1) E1:=λp σ H s e c I h=>(_,σ,H,s,I.ofX,h)
def wV{Ee:c9}(I:Ń->am->ß)(B:∀e s',Ee e s'->notedBy (b' prog w) A env (λe s'=>R (.error e) s') e s')(l:∀n s,I n s->bv (b' prog w) A (d4 z) (λr S=>r=ao/\R (.ok .next) S\/∃v,r=O v/\bv (b' prog w) A (letOwnedTupleGo T z v) (λ_ b=>bv (b' prog w) A (assign T env v) (λ_ d=>bv (b' prog w) A (forIn k J λc r=>if r=J then(do let ok<-isTrue c env (Ê c env);pure (ü ok))else pure (ü r)) (λok a=>if ok=J then bv (b' prog w) A (Ê E env) (λx f=>bv (b' prog w) A (call (.builtin "list.append") [acc,x]) (λ_ g=>∃m,m<n/\I m g) Ee f) Ee a else ∃m,m<n/\I m a) Ee d) Ee b) Ee S) Ee s)(n:Ń)(h:I n s):eq (b' prog w) A (.compLoop (.ListComp E [(T,iter,k,0)] j pos) 0 z acc env) R s:=by
 let no:∀{α:Type}{t:Sem α}{Q:α->am->ß}{s:am},bv (b' prog w) A t Q Ee s->bv _ A t Q _ s:=λh=>cX h (λ_ _ q=>q) B;erw[codeAny_loop Ŗ I (λn s C=>?_) n h];show bv _ A _ _ _ s;erw[wpAny_noted ?_];rw[compTurn_list];erw[aa (gY (aa (no (iD (l n s C) λr S H=>?_))))];rcases H with ⟨rfl,H⟩|⟨v,rfl,H⟩;.rwa[ah H]
 .erw[aa (no (iD H λ_ b o=>aa (no (iD o λ_ d p=>aa (no (iD p λok a i=>?_))))))];induction ok with|e=>rwa[ah (Ŗ,i)]|d=>rwa[aa (aa (no (iD i λx f u=>aa (no (iD u λ_ g y=>ah (ah (Ŗ,y)))))))]
def BI{X:Cx}(w:X.stack=X.env::X.outer)(f:X.env.frame=O X.env.locals)(ab:X.s₀.heap.objs.size<=X.env.locals):Un (o7 X.outer) [] X.H₀ H' X.s₀.heap h↔Un (o7 X.stack) [] X.H₀ H' X.s₀.heap h:=by
 let m:∀b o,X.s₀.heap.get? b=O o->(b∈o7 X.stack↔b∈o7 X.outer):=λb o e=>by rw[w];delta o7;rw[eW,f];simp only[aB];exact(λh=>h.resolve_left λz=>by let:=ax e;rw[z]at this;rwa[Ă this (dR.mpr ab)],.inr)
 constructor;.intro u;exact(λb o e n H x=>u.keep b o e n (λz=>H ((m b o e).mpr z)) x,λb o e n H x=>u.slot b o e n ((m b o e).mp H) x,u.free,u.there,u.oE,u.mG,u.oA)
 .intro u;exact(λb o e n H x=>u.keep b o e n (λz=>H ((m b o e).mp z)) x,λb o e n H x=>u.slot b o e n ((m b o e).mpr H) x,u.free,u.there,u.oE,u.mG,u.oA)
def gM.marked{p:Ł _}{σ:È}(fr:Cd X)(o:gM X E)(I:Inv X p σ H s)(h:Ex s.heap a C d T fl)(i:H a=ao)(n:H T=ao)(j:X.s₀.heap.get? a=ao)(b:X.s₀.heap.get? T=ao)(q:E (.ref C) d H):X.xe (.ref a) s:=by
 erw[o _ _ ?_];let F:=I.qA;let hl:=I.stack;let c:=I.ok.frames;rw[fr.st]at hl c;let u:=I.base;rw[fr.ex]at u;let g:Fl _ X.w _ _ _ H a C d fl s:=(I.os,I.bare,(BI fr.st fr.fr I.ok.above).mp u,I.cV,i,j,T,h,n,b);let out:∀s',Fl X.prog X.w _ _ _ H a C d _ s'->qI _ X.w _ _ _ E _ s':=λs' f=>by exact(a,C,d,H,Ŗ,(f.os,f.bare,(BI fr.st fr.fr I.ok.above).mpr f.un,f.cV,f.na,f.new,f.ex),q)
 rwa[aa (aee c hl fr.fr h (λ_=>g.land F λs' f=>out s' f) λk t l N e m=>(g.move F n b (by rw[fr.st];rwa[m]) e (I.cV.fresh N) (by induction z:X.s₀.heap.get? t with|a=>rfl|c r=>rwa[Ă (aY (ax z) (aA I.sz N)) (bU _)])).land F λs' f=>out s' f)]
def nr(n:Ń)(X:Cx)(e:Ä)(t:TE):ß:=∀(p:Ł _)(s:am)(σ:È)(H:Hp)(Q:VK),Inv X p σ H s->n<=s.toks->t σ H Q->bv (b' X.prog X.w) X.A (Ê e X.env) (EP X p σ Q) X.xe s
def BH{R:α->am->ß}{E:c9}(H:n<=s.toks)(h:bv M A t Q E s)(k:∀v s',n<=s'.toks->Q v s'->R v s'):bv M A t R E s:=wpAny_with_toks H (cX h (λv s' q t=>k v s' t q) λ_ _ e _=>e)
theorem PE.n(h:PE X e t)(n:Ń):nr n X e t:=λp s σ H Q I _ q=>h _ s σ H Q I q
def yz{R:c9}{σ:È}(S:fj X F a)(nu:X.calm)(hσ:∀σ:È,Á σ=Á X.N->lQ X F a σ (Z σ))(hi:PI X tg iter wi)(hg:∀fp m t,PG (c8 X F a fp m t E1) tg g)(hc:∀fp m t,qZ (c8 X F a fp m t E1) D tc)(he:∀fp m t,nr nt (c8 X F a fp m t E1) E te)(hs:∀x,hB iter X.env x=pure x)(fin:∀{fp:Ł À}{s3 s':am}{σ':È}{H3 H':Hp}{acc:À},Inv X P σ H3 s3->(∀b∈fp,kY X P H3 b)->Inv (c8 X F a fp s3 H3 E1) [] σ' H' s'->Q (.A acc) H'->compPost (b' X.prog X.w) X.A X.xe use R (.ref acc) s3.heap.objs.size (.ok .next) s')(bad:∀{fp:Ł À}{s3:am}{H3:Hp}{acc:À},Inv X P σ H3 s3->(∀b∈fp,kY X P H3 b)->∀e s',(c8 X F a fp s3 H3 E1).xe e s'->notedBy (b' X.prog X.w) X.A (compEnvC a (pU X.env.cells a.names []) s3.heap.objs.size X.env) (λe s'=>compPost (b' X.prog X.w) X.A X.xe use R (.ref acc) s3.heap.objs.size (.error e) s') e s')(I:Inv X P σ H s)(ht:nt<=s.toks)(h:vI wi g tc te Z σ H Q):bv (b' X.prog X.w) X.A (comprehension (.ListComp E [(tg,iter,D,0)] a pos) a X.env p' (newList []) bb (Ê iter X.env) use) R X.xe s:=by
 let A2:∀y∈a.names,y.2=.free->∃c,X.env.cells.lookup y.1=O c:=λy hy hk=>I.ok.has y.1 (.inl (S.fre y hy hk));let sub:=pV (cells:=X.env.cells) (names:=a.names) (acc:=[]) A2 (λx c e=>by cases e);erw[wpAny_comprehension_free (use:=use) rfl hs (CH A2) S.kind S.loc (BH ht (hi P s σ H _ I h) λv s1 t1 h1=>BH t1 h1 λitv s2 t2 h2=>cps λG k=>?_)];let(it,fp,tn,j,H2,rfl,I2,T,Qe,f2,h2):=h2;obtain⟨W,⟨m0,w0⟩,turn⟩:=h2 s2.heap.objs.size I2.fresh;let lt2:∀b∈fp,b<s2.heap.objs.size:=λb l=>by let(o,ho,_):=T.obj _ _ Qe b l;rwa[ax ho]
 erw[k (bE (wpAny_newFunctionEnv S.Na (by intro y hy;simp at hy) (λh₁ Dx DA=>?_) S.kind))];dsimp only at Dx DA⊢;let I3:Inv X P σ (de H2 s2.heap.objs.size (.L [])) {s2 with heap:=s2.heap.push {cls:=.type "list",data:=.seq ([]:Ł Â).toArray}}:=I2.c_ (t':=s2.toks) (ys:=[]) .nil (cw _);generalize hs3:({s2 with heap:=s2.heap.push {cls:=.type "list",data:=.seq ([]:Ł Â).toArray}}:am)=s3 at I3;let e3:s2.heap.push {cls:=.type "list",data:=.seq ([]:Ł Â).toArray}=s3.heap:=by rw[<-hs3]
 let sz3:s3.heap.objs.size=s2.heap.objs.size+1:=by rw[<-e3,dI]
 let alA:∀b o,s2.heap.get? b=O o->s3.heap.get? b=O o:=λb o e=>by rw[<-e3];rwa[ae _ e]
 let f3:∀b∈fp,kY X P (de H2 s2.heap.objs.size (.L [])) b:=λb l=>by let(q1,q2):=f2 b l;exact(by rw[bw (aF (lt2 b l))];rwa[q1],q2)
 let lt3:∀b∈fp,b<s3.heap.objs.size:=λb l=>by rw[sz3];rwa[eO (lt2 b l)]
 rw[e3]at Dx DA⊢;let up1:∀b o,s3.heap.get? b=O o->h₁.get? b=O o:=λb o e=>DA.extBut b o (aF (ax e)) (ae _ e);let ajv:h₁.Ns s3.heap.objs.size λ_=>ao:=by let q:=Dx;simpa using q
 let I4:Inv (c8 X F a fp s3 (de H2 s2.heap.objs.size (.L [])) E1) [] (Z σ) (de H2 s2.heap.objs.size (.L [])) {s3 with heap:=h₁,toks:=s2.toks}:=(KZ S I3 f3 lt3 (hσ σ I.len) ajv up1).toX;let st4:tn 0 h₁:=T.keep _ _ _ Qe λb l o e=>up1 b o (alA b o e);let acV:=λ{s' σ' H'}=>fin (s':=s') (σ':=σ') (H':=H') (acc:=s2.heap.objs.size) I3 f3;let hE:=bad (acc:=s2.heap.objs.size) I3 f3;generalize B:c8 X F a fp s3 (de H2 s2.heap.objs.size (.L [])) E1=f at I4 acV hE;let xP:f.prog=X.prog:=by rw[<-B];rfl
 let xw:f.w=X.w:=by rw[<-B];rfl
 let xK:f.K=X.K:=by rw[<-B];rfl
 let xA:f.A=X.A:=by rw[<-B];rfl
 let xc:f.calm=true:=by rw[<-B];rwa[nu]
 let xe:f.env=compEnvC a (pU X.env.cells a.names []) s3.heap.objs.size X.env:=by rw[<-B];rfl
 let hg':PG f tg g:=by rw[<-B];rwa[hg _ _ _]
 let RW:qZ f D tc:=by rw[<-B];rwa[hc _ _ _]
 let Zs:nr nt f E te:=by rw[<-B];rwa[he _ _ _]
 let M:f.ex=fp:=by rw[<-B];rfl
 let fs0:f.fs=o7 X.stack:=by rw[<-B];rfl
 let pn0:f.pn=[]:=by rw[<-B];rfl
 let s00:f.s₀=s3:=by rw[<-B];rfl
 let H00:f.H₀=de H2 s2.heap.objs.size (.L []):=by rw[<-B];rfl
 let ok4:=I4.ok;let EA:∀{H':Hp},(∀b∈fp,H' b=ao)->∀b∈fp,kY f [] H' b:=λ{H'}hn b l=>by let(_,q1,q2,q3,q4,q5):=f3 b l;erw[(hn b l,(ok4.RB b (by rw[M];rwa[l])).1,ok4.wx b (by rw[M];rwa[l]),.inl (by rw[M];rwa[l]),(ok4.RB b (by rw[M];rwa[l])).2,λp hp=>?_)];rw[pn0]at hp;rwa[Ă (show p∈([]:c6)from hp) ⋯]
 let Y:eq (b' X.prog X.w) X.A (.compLoop (.ListComp E [(tg,iter,D,0)] a pos) 0 (.ref it) (.ref s2.heap.objs.size) (compEnvC a (pU X.env.cells a.names []) s3.heap.objs.size X.env)) (compPost (b' X.prog X.w) X.A X.xe use R (.ref s2.heap.objs.size) s3.heap.objs.size) {s3 with heap:=h₁,toks:=s2.toks}:=by
  erw[wV (Ee:=f.xe) (λn s'=>nt<=s'.toks/\∃i σ' ys H',Inv f [] σ' H' s'/\tn i s'.heap/\(∀b∈fp,H' b=ao)/\W i n σ' ys H') hE ?_ m0 (t2,0,_,[],_,I4,st4,λb l=>(f3 b l).1,w0)];erw[λn s5 z=>cps λG k=>?_];let(t5,i,U,ys,H5,I5,st5,fr5,w5):=z;let(rC,hh):=turn i n U ys H5 w5;rcases hh with ⟨stop,q⟩|⟨go,DC,step⟩;.let d:=T.done f xP xw xK xc i [] s5 U H5 f.xe I5 (EA fr5) st5 stop;rw[xA]at d;rwa[k (iD d λr s6 (hr,I6)=>.inl (hr,acV I6 q))]
  .let d:=T.item f xP xw xK xc i [] s5 U H5 f.xe I5 (EA fr5) st5 go;rw[xA]at d;erw[k (BH t5 d λr s6 t6 zz=>zz.elim λu zz=>zz.elim λhr h6=>.inr (u,hr,BH t6 h6 λ_ s7 t7 x=>?_))];let(x,H7,I7,r7,y7,st7,fr7):=x;let I7':=I7.pinned (EA fr7) (T.obj _ _ st7);let a1:=hg' _ s7 U H7 x u _ I7' r7 (step x H7 y7);rw[xP,xw,xA,xe]at a1;erw[BH t7 a1 λ_ s8 t8 C=>?_];let(C,H8,I8,q8):=C;let a2:=RW _ s8 C H8 _ I8 q8;rw[xP,xw,xA,xe]at a2;erw[BH t8 a2 λok s9 t9 zz=>zz.elim λH9 zz=>zz.elim λI9 q9=>?_];let back:∀{σz:È}{Hz:Hp}{sz:am},Inv f ([]++vp fp s7.heap) σz Hz sz->tn (i+1) sz.heap/\∀b∈fp,Hz b=none:=λ{σz Hz sz}Iz=>by erw[(T.keep _ _ _ st7 λb l o e=>(Iz.pin (b,o) (bG _ (bG _ (jJ l e)))).1,λb l=>?_)];let(o,e,_):=T.obj _ _ st7 b l;exact(Iz.pin (b,o) (bG _ (bG _ (jJ l e)))).2.1
   induction ok with|e=>let(m',hm,w'):=q9;exact(m',hm,t9,_,C,ys,H9,I9.lF,(back I9).1,(back I9).2,w')|d=>let a3:=Zs _ s9 C H9 _ I9 t9 q9;rw[xP,xw,xA,xe]at a3;erw[BH t9 a3 λy sa ta yv=>?_];let(yv,Ha,Ia,ra,ada,m',hm,w'):=yv;let a4:=xC _ sa C Ha (.A _) _ _ [y] (λv H'=>H'=de Ha _ _) Ia rfl (.cons ra .nil) (_,ys,yv,Ŗ,Ŗ,ada,DC,Ŗ);rw[xP,xw,xA]at a4;erw[BH ta a4 λ_ sb tb Hb=>?_];let(_,Hb,Ib,_,eb):=Hb;subst eb;exact(m',hm,tb,_,C,_,_,Ib.lF,(back Ib).1,(back Ib).2,w')
 let es:{s2 with heap:=h₁,toks:=s2.toks+Á ([]:Ł (Æ×Â))}={s3 with heap:=h₁,toks:=s2.toks}:=by rw[<-hs3];rfl
 rwa[codeAny_compStart_list (es▸Y) (T.self _ 0 _ _ _ st4 (es▸Y))]
def AK{p:Ł _}{σ:È}{σ':È}(i:Inv X p σ H S)(F:∀b∈f,kY X p H b)(I:Inv (c8 X N s f S H E1) [] σ' H' s')(q:Q (.A acc) H'):compPost (b' X.prog X.w) X.A X.xe ao (EP X p σ Q) (.ref acc) S.heap.objs.size (.ok .next) s':=by let(m,a,_):=id I.loc;erw[(m,a,λh' K=>(.A acc,H',?_,Ŗ,q))];let un:Un (o7 X.stack) f H H' S.heap _:=I.base;let W:∀b o,S.heap.get? b=O o->b≠S.heap.objs.size:=λb o e=>aF (ax e);let u:Un _ f H H' _ h':=(λb o e n h x=>(K.2 b (W b o e)).trans (un.keep b o e n h x),λb o e n h x=>let (sl,z):=un.slot b o e n h x;(sl,(K.2 b (W b o e)).trans z),un.free,λb o e x=>let (c,z):=un.there b o e x;(c,(K.2 b (W b o e)).trans z),un.oE,un.mG,un.oA);erw[i.AE I.os u (tW I.cV I.free K) I.bare λb h=>?_];.let(_,d,l,g,j,k):=F b h;exact(g,d,j,k)
def AJ{R:c9}{p:Ł _}{σ:È}(fr:Cd X)(o:gM X E1)(r:Inv X p σ g c)(M:∀b∈F,kY X p g b):∀e s',(c8 X L S F c g E1).xe e s'->notedBy (b' X.prog X.w) X.A (compEnvC S (pU X.env.cells S.names []) c.heap.objs.size X.env) (λe s'=>compPost (b' X.prog X.w) X.A X.xe use R (.ref acc) c.heap.objs.size (.error e) s') e s':=by
 intro e u h5;let(NW,σ',H5,s4,I,a,C,d,P,rfl,f,q):=h5;let j:=Fl.inv I f;let(T,e1,hT,RT):=f.ex;let W:u.heap.FunFrames X.base X.stack:=j.stack;let Y:=r.ok.frames;let wB:=fr.st;rw[wB]at W Y;show bv _ _ _ _ _ u;rw[DY (env:=compEnvC _ _ _ _) (env':=X.env) Ŗ];erw[W4 Y W fr.fr e1 λh6 y n1 N e6 m6=>?_];let(G,g2):=f.fresh n1 N;let v:=Fl.inv I (f.move (λb h=>Fl.frF I f b h) hT RT (by rw[wB];rwa[m6]) e6 G g2);let B:(jC X L S F c g).env.locals=c.heap.objs.size:=Ŗ;let(m,hm,_):=id v.loc;erw[(m,hm,λh7 H acq amr=>?_)];let aC:a≠c.heap.objs.size:=λz=>by obtain⟨m4,⟨o4,es4,ep4,i,_⟩,_⟩:=id I.loc;rw[B]at i;let nw:=f.new;rw[z,i]at nw;cases nw
 let k:c.heap.objs.size<=u.heap.objs.size:=j.sz;let e7:Ex h7 a C d y (c5 X.env.locals):=by obtain⟨⟨t,ha⟩,mI,oT,ts,D,hd,h3⟩:=e6;exact((t,(H.2 a aC).trans ha),mI,oT,ts,(H.2 y λz=>by rw[z]at N;rwa[Ă j.lt (dR.mpr N)]).trans D,hd,h3)
 erw[To (s:={u with heap:=h7}) e7 λh8 fl8 e8 l=>?_];let E:∀b o,c.heap.get? b=O o->h8.get? b=h6.get? b:=λb o e=>(l.2 b ((λb o e=>aF (aY (ax e) (aA k N))) b o e)).trans (H.2 b ((λb o e=>aF (ax e)) b o e));let un:Un (o7 X.stack) F g P c.heap h6:=v.base;let U:Un _ F g P _ h8:=(λb o e n h x=>(E b o e).trans (un.keep b o e n h x),λb o e n h x=>let (sl,z):=un.slot b o e n h x;(sl,(E b o e).trans z),un.free,λb o e x=>let (K,z):=un.there b o e x;(K,(E b o e).trans z),un.oE,un.mG,un.oA);erw[o.marked fr (by erw[r.AE j.os U (tW (tW v.cV (by rwa[v.free]) H) G l) j.bare λb h=>?_];let(_,q1,q2,Q,q4,q5):=M b h;exact(Q,q1,q4,q5)) e8 f.na G ?_ ?_ q];.induction z:X.s₀.heap.get? a with
  |a=>rfl|c ob=>let(K,z'):=r.base.there a ob z (by rw[fr.ex];simp);let(o'',Z):=I.base.there a K z' (λh=>by
    let(_,q1,q2,Q,q4,q5):=M a h;rcases Q with Q|Q;.rw[fr.ex]at Q;simp at Q
    .rwa[Ă (ax z) (dR.mpr Q)]);let nw:=f.new;rw[Z]at nw;cases nw
 .cases z:X.s₀.heap.get? y with|a=>rfl|c ob=>rwa[Ă (aY (ax z) (aA r.sz (aA k N))) (bU _)]
def IL(fr:Cd X)(o:gM X E1)(S:fj X n e)(u:X.calm)(d:∀σ:È,Á σ=Á X.N->lQ X n e σ (c σ))(k:PI X tg iter wi)(l:∀f a b,PG (c8 X n e f a b E1) tg g)(m:∀f a b,qZ (c8 X n e f a b E1) i T)(q:∀f a b,nr t (c8 X n e f a b E1) E j)(r:∀x,hB iter X.env x=pure x):nr t X (.ListComp E [(tg,iter,i,0)] e pos) (vI wi g T j c):=by intro p s σ H Q I v h;rwa[yz S u d k l m q r AK (λw F=>AJ fr o w F) I v h]
def Nu(fr:Cd X)(o:gM X E1)(S:fj X c e)(u:X.calm)(j:∀σ:È,Á σ=Á X.N->lQ X c e σ (d σ))(k:PI X tg iter wi)(l:∀f a b,PG (c8 X c e f a b E1) tg g)(m:∀f a b,qZ (c8 X c e f a b E1) i t)(q:∀f a b,PE (c8 X c e f a b E1) E T)(r:ø (∀x,hB iter X.env x=pure x) hH):PE X (.ListComp E [(tg,iter,i,0)] e pos) (vI wi g t T d):=λp s σ H Q I h=>IL fr o S u j k l m (λf a b=>(q f _ _).n 0) r _ s σ H Q I (cw _) h
def Cx.Ok.pnx{X:Cx}(ok:X.Ok)(p:Ł _)(E:c9):Cx.Ok {X with pn:=p,xe:=E}:=(ok.mod,ok.kind,ok.glob,ok.blt,ok.above,ok.inj,ok.has,ok.P1,ok.hd,ok.frames,ok.Ve,ok.RB,ok.bs,ok.Az,ok.tj,ok.wx,ok.kq,ok.Ic)
abbrev Cx.hn(X:Cx)(pn:c6)(a:À):Cx:={X with A:=X.A.mark (O (.ref a)),calm:=bb,pn:=pn,xe:=λ_ _=>ŧ}
structure Hd(X:Cx)(a C:À)(d:Ő À):ß where hd:X.A.handled=O (.ref a)pn:∃t tb,(a,yS C t d tb)∈X.pn
def Inv.alx{σ:È}(I:Inv X be σ H s)(E:c9):Inv {X with pn:=X.pn++be,xe:=E} [] σ H s:=(I.ok.pnx _ _,I.os,I.bare,I.base,I.loc,I.cell,I.free,I.gN,λp h=>I.pin p (by simpa using h),I.cV,I.len)
def Inv.akI{σ:È}(ok:X.Ok)(I:Inv {X with pn:=X.pn++be,xe:=E} [] σ H s):Inv X be σ H s:=(ok,I.os,I.bare,I.base,I.loc,I.cell,I.free,I.gN,λp h=>I.pin p (by simpa using h),I.cV,I.len)
def Inv.alw{X:Cx}{σ:È}(I:Inv {X with pn:=pn} [] σ H s)(b:s.heap.get? a=O o)(hn:H a=ao)(l:a≠X.env.locals)(f:a∉X.fs)(c:∀v,o.data≠.cell v):Inv (X.hn ((a,o)::pn) a) [] σ H s:=by
 erw[((I.ok.mod,I.ok.kind,I.ok.glob,I.ok.blt,I.ok.above,I.ok.inj,I.ok.has,I.ok.P1,λz=>(aD z).elim,I.ok.frames,I.ok.Ve,I.ok.RB,I.ok.bs,I.ok.Az,I.ok.tj,I.ok.wx,I.ok.kq,I.ok.Ic),I.os,I.bare,I.base,I.loc,I.cell,I.free,I.gN,λp h=>?_,I.cV,I.len)];let Z:p∈(a,o)::pn:=by simpa using h
 rcases aB.mp Z with rfl|Z;.done
 .rwa[I.pin p (by simpa using Z)]
def Inv.akH{X:Cx}{σ:È}(ok:Cx.Ok {X with pn:=pn})(I:Inv (X.hn ((a,o)::pn) a) [] σ H s):Inv {X with pn:=pn} [] σ H s:=(ok,I.os,I.bare,I.base,I.loc,I.cell,I.free,I.gN,λp h=>I.pin p (by simpa using Or.inr (by simpa using h)),I.cV,I.len)
def Inv.aiS{σ:È}(I:Inv X be σ H s)(F:X.N.Nodup)(G:X.N[i]?=O n)(hl:X.env.kindOf n=O .local)(hn:s.heap.Ns X.env.locals m)(W:h'.Ns X.env.locals λx=>if x=n then v else m x)(h:Ý X.env.locals s.heap h'):Inv X be (σ.set i ao) H {s with heap:=h',toks:=T}:=by
 let(m1,e,R):=id I.loc;let K:m1=m:=by funext x;let(o,es,ep,L,M,_,P):=e;let(A,Lz,S,B,U,_,f):=hn;rw[L]at B;cases B;rw[M]at U;cases U;rw[<-P,<-f]
 subst K;let ln:∀{b:À}{o:Ú},X.s₀.heap.get? b=O o->b≠X.env.locals:=λq=>aF (aY (ax q) I.ok.above);erw[(I.ok,I.os,I.bare,(λb o q n g d=>(h.2 b (ln q)).trans (I.base.keep b o q n g d),λb o q n g d=>?_,I.base.free,λb o q d=>?_,I.base.oE,I.base.mG,I.base.oA),(_,W,λj y l D Q Y=>?_),λy c q=>?_,I.free,I.gN,λp hp=>?_,I.cV.keep λb u o q z=>(h.2 b λy=>by rw[y,I.free]at q;cases q).trans z,by simpa using I.len)];.let(sl,z):=I.base.slot b o q n g d;exact(sl,(h.2 b (ln q)).trans z)
 .let(A,z):=I.base.there b o q d;exact(A,(h.2 b (ln q)).trans z)
 .by_cases t:j=i
  .subst t;rw[List.getElem?_set]at Q;split at Q;.lia
   .done
  .rw[cK (cI t)]at Q;let(u,r,z):=R j y l D Q Y;erw[(u,r,?_)];rcases z with ⟨k,z⟩|⟨k,c,Z,w⟩;.let:y≠n:=λz=>t (vn F D (z▸G));rwa[.inl (k,by simp[this,z])]
   .rwa[.inr (k,c,Z,w.sameBut h (I.QQ y c Z))]
 .let(l,z):=I.cell y c q;exact(l,z.sameBut h (I.QQ y c q))
 .let(Z,w,E,z4,z5):=I.pin p hp;exact((h.2 p.1 E).trans Z,w,E,z4,z5)
structure Ql(K:Å)(R:À):ß where
 ty:typeIn K (.ref R)=O (.type "type")cl:(clsIn K R).isSome=J
 ba:subIn K (.ref R) (.type "BaseException")=O J
def Il{K:Å}(X:K.In h)(q:(clsIn K R).isSome):Looks M h (isType (.ref R)) true:=by
 delta clsIn at q;split at q;.ext C d c s H;intro A Q E S k z;rwa[aa (wpAny_loadPart (k _ _ (X _ _ H)) (ah z))]
 .cases q
def Ry{K:Å}{E:c9}(X:K.In s.heap)(H:Ql K R)(b:s.heap.get? a=O o)(c:o.cls=.ref C)(e:subIn K (.ref C) (.ref R)=O J)(q:Q J s):bv M A (excMatches (.ref a) (.ref R)) Q E s:=by let(h,g,d,t,os):=s;let L:Looks M h (typeOf (.ref R)) _:=PySem.W.looks_typeIn X H.ty;let l:Looks M h (typeOf (.ref a)) (.ref C):=c▸(Looks.ld b).andThen .now;erw[aa ((L.andThen (Looks.of_pure tc_notTuple)).at ?_)];erw[aa (ah ?_)];erw[aa ?_];rw[eQ];erw[aa (aa (((Il X H.cl).andThen (Pa X H.ba)).at ?_))];erw[ah ?_];erw[ah ?_];erw[aa (l.at ?_)];erw[aa ?_];rw[eQ];rwa[aa (aa ((Pa X e).at (ah (ah (ah q)))))]
structure gW(K:Å)(C:À)(x cN:Æ)(st:É)(ps:ϐ):ß where ex:∃(f:À)(fd:c'),BQ K x cN st f fd/\yc K C x f/\Binds K fd ps []
structure n9(K:Å)(C:À)(cN:Æ)(st:É)(ps:ϐ):ß where ex:∃(f:À)(fd:c'),BQ K "__init__" cN st f fd/\Mk K C f/\Binds K fd ps []
structure ya(P:ci)(w:ce)(K:Å)(mg:c4)(base:Ç)(CX:uv)(k:Ń)(C:À)(x:Æ)(ps:ϐ)(sp:Sp):ß where ex:∃(f:À)(fd:c'),iB P w K mg base CX k f fd ps sp/\yc K C x f/\Binds K fd ps []
structure lR(P:ci)(w:ce)(K:Å)(mg:c4)(base:Ç)(k:Ń)(x:Æ)(C:À)(ps:ϐ)(sp:Sp):ß where ex:∃(f:À)(fd:c')(IV:ϐ)(Jx:Sp)(ds:Ł Â)(dvs:ϕ),iB P w K mg base BP k f fd IV Jx/\Mk K C f/\Binds K fd IV ds/\Vals dvs ds/\(∀vs H Q E,sp vs H Q E->Jx (vs++dvs) H Q E)/\mg x=O (.ref C)
def gW.okX{K:Å}{st:É}(S:gW K C x cN st ps)(F:cU N ps (ay st))(len:∀vs H Q E,sp vs H Q E->Á vs=Á ps)(i:∀(f:À)(e:Â)(A:cp)(o:Ł Û)(s:am)(H:Hp)(vs:ϕ)(Q:VK)(E:XK),fe k (A.deeper (envOfC cN (ay st) s.heap.objs.size f e))->sp vs H Q E->∃t,jZ (oh (qI P w) P w K mg base N cN (ay st) f e A o s H E) (bR st) t/\t {nx:=λ_ H'=>Q .g9 H',rt:=Q} (start N vs) H):ya P w K mg base (qI P w) (k+1) C x ps sp:=by let(f,d,a,h,b):=S.ex;let(oc,g,kV,doc,p,n,e,l,R,rfl,lk,c):=a.ex;exact(f,_,xq lk c F len λA o s H vs Q E r y=>i f e A _ s H vs Q E r y,h,b)
theorem n9.ok{K:Å}{mg:c4}{base:Ç}{x cN:Æ}{st:É}{ps N:ϐ}{k:Ń}{sp:Sp}{C:À}(S:n9 K C cN st ps)(a:mg x=O (.ref C))(F:cU N ps (ay st))(len:∀vs H Q E,sp vs H Q E->Á vs=Á ps)(i:∀(f:À)(e:Â)(A:cp)(o:Ł Û)(s:am)(H:Hp)(vs:ϕ)(Q:VK)(E:XK),fe k (A.deeper (envOfC cN (ay st) s.heap.objs.size f e))->sp vs H Q E->∃t,jZ (oh BP P w K mg base N cN (ay st) f e A o s H E).BX (bR st) t/\t {nx:=λ_ H'=>Q .g9 H',rt:=Q} (start N vs) H):lR P w K mg base (k+1) x C ps sp:=by let(f,d,b,m,c):=S.ex;exact(f,d,ps,sp,[],[],b.ok F len (i f),m,c,.nil,λ_ _ _ _ h=>by rw[aK];rwa[h],a)
theorem ya.mono{K:Å}(D:ya P w K mg base CX j C x ps sp)(h:j<=k):ya P w K mg base CX k C x ps sp:=by let(f,d,F,r):=D.ex;exact(f,d,F.mono h,r)
theorem lR.mono{K:Å}(D:lR P w K mg base j x C ps sp)(h:j<=k):lR P w K mg base k x C ps sp:=by let(f,a,I,b,ds,d,F,r):=D.ex;exact(f,a,I,b,ds,d,F.mono h,r)
def Nz(D:lR X.prog X.w X.K X.mg X.base k x C ps sp)(g:fe (k+1) X.A)(j:Gl X x)(l:PA X (e::es) t)(G:ø ((x==("__debug__":Æ))=bb) x0)(d:ø ((e::es).all bW=J) o0):PE X (.Call (.Name x p) (e::es) [] pos) (afI C sp [] E0 t):=by let(f,N,R,S,ds,n,F,M,u,v,y,z):=D.ex;rw[bZ,aE]at d;intro P s σ H Q I h;rwa[fB (iT I j z (fA I.ok.mod.DL M.kp (iD (l pos _ s σ H _ I h) λU s1 Z=>by let(B,T,i,r,q):=Z;exact(i.kr,Ox M F g u v Ϣ i r λx L a b c=>y (.A x::B) _ _ _ (by let q:=q x L a b c;rw[aK]at q;rwa[q]))) (cx d.1) (eV d.2)) G)]
def oq(e:Î×Â):Æ:=strOf e.2
def ki(P:ci)(w:ce)(h:Ç)(a:À)(ws:ϐ):ß:=∃(o:Ú)(e:Array _)(E:Ń)(t:eT),h.get? a=O o/\o.ExactSet/\o.data=.set e E t/\ElemsOf (Ü P w) e.toList/\(e.toList.map oq).Perm ws/\ws.Nodup/\e.size<scanBound/\t.fits e.size=J/\(w.params.followText "set-order"=bb->t.led=J/\(e.size≠0->t.plain=bb))
def pd(ws:ϐ)(x:Æ):ϐ:=if x∈ws then ws else ws++[x]
def JJ(t:eT)(n:Ń):(t.orStandIn n).led=t.led:=by delta SetTable.orStandIn;split<;>rfl
def DP(t:eT)(es:Array _)(h:Î)(x:Â):(layNew t es h x).2.1.led=t.led:=by
 delta layNew;split;.rw[JJ];rfl
 .rfl
def Ep{t:eT}{os:Array Ń}(h:t.relaid H n=O (t',os)):t'.led=t.led/\t'.plain=t.plain:=by delta SetTable.relaid SetTable.laid at h;induction c:SetTable.layClean _ H with|a=>rw[c]at h;cases h|c ow=>rw[c]at h;cases h;exact(Ŗ,Ŗ)
def Jq(t:eT)(es:Array _)(n:Ń):(relayAll t es n).2.1.led=t.led/\(t.plain=bb->(relayAll t es n).2.1.plain=bb):=by
 delta relayAll;split
 .ext T os e;let:=Ep e;dsimp only;split;.exact(this.1,λh=>this.2.trans h)
  .exact(Ŗ,λ_=>Ŗ)
 .exact(Ŗ,λ_=>Ŗ)
def zb(u:ElemsOf (Ü P w) es)(h:e∈es):∃t,e.2=.str (oq e) t:=by obtain⟨⟨k,H,_⟩,_⟩:=u e h;let(t,a):=x8 H;exact(t,by delta oq;rw[a];rfl)
def xr(u:ElemsOf (Ü P w) es)(x:Æ):(∃e∈es,(Ü P w).is x e.2=J)↔x∈es.map oq:=by
 constructor;.rintro⟨e,H,p⟩;let(t,a):=x8 p;erw[cB.mpr (e,H,?_)];delta oq;rw[a];rfl
 .intro h;let(e,H,rfl):=cB.mp h;let(t,a):=zb u H;exact(e,H,by rw[a];rwa[kP P w _ t])
def Õ{s:am}(b:s.heap.get? a=O o)(hex:o.ExactSet)(h:o.data=.set es ep t)(u:ElemsOf (Ü P w) n.toList)(p:(n.toList.map oq).Perm ws)(N:ws.Nodup)(c:n.size<scanBound)(f:T.fits n.size)(l:w.params.followText "set-order"=bb->T.led/\(n.size≠0->T.plain=bb)):(s.heap.update a (č n T)).get? a=O {o with data:=.set n (ep+1) T}/\ki P w (s.heap.update a (č n T)) a ws:=by
 let H:=by let q:=bF (č n T) b (by rw[putSet_of n T h];rfl);rw[putSet_of n T h]at q;rwa[q]
 exact(H,_,n,_,T,H,hex,Ŗ,u,p,N,c,f,l)
def Kw{E:c9}(hS:ki P w s.heap a ws)(amF:Á ws+1<scanBound)(h:∀(b:Þ)(h':Ç),Ý a s.heap h'->ki P w h' a (pd ws x)->Q b {s with heap:=h'}):bv (b' P w) A (setAddHashed a (.str x k) ((Ü P w).hash x)) Q E s:=by
 let(o,c,ep,t,i,hex,l,u,m,nd,hb,K,M):=hS;let wA:=kP P w x k;let hlen:c.size=Á ws:=by rw[<-m.length_eq,af,bS]
 delta setAddHashed setAddHashedIn;erw[bJ (aa (fP i l K ?_))];dsimp only;rw[byScan_of (x:=.str x k) Ŗ hb u];simp only[↓reduceIte];delta setAddByScan;erw[aa (aa (f7 (aa (wpAny_setScan_of wA i l K u ?_))))];induction hr:List.findIdx? (λe=>(Ü P w).is x e.2) c.toList with|c j=>dsimp only;let(hj,U,_):=List.findIdx?_eq_some_iff_getElem.mp hr;let d:x∈ws:=m.mem_iff.mp ((xr u x).mp (_,kL hj,U));erw[ah (ah ?_)];let q:=h bb s.heap (Heap.SameBut.refl a s.heap) (o,c,ep,t,i,hex,l,u,by delta pd;rw[bV d];rwa[m],by delta pd;rw[bV d];rwa[nd],hb,K,M);rwa[q]|a=>
  dsimp only;let d:x∉ws:=λd=>by let(e,he,hp):=(xr u x).mpr (m.mem_iff.mpr d);let:=List.findIdx?_eq_none_iff.mp hr e he;rw[hp]at this;cases this
  let ei:pd ws x=ws++[x]:=by delta pd;rw[bN d]
  rw[ei]at h;let N:(ws++[x]).Nodup:=dF.mpr (nd,⋯,λy hy z hz=>by rw[aG]at hz;subst hz;rwa[λe=>d (e▸hy)]);let p:=layNew_perm t c ((Ü P w).hash x) (.str x k);let H:=layNew_fits t c ((Ü P w).hash x) (.str x k);let Y:=DP t c ((Ü P w).hash x) (.str x k);generalize layNew t c ((Ü P w).hash x) (.str x k)=L at p H Y⊢;let(n,t1,PF,aoQ):=L;dsimp only at p H Y⊢;rw[Array.toList_push]at p;let v:ElemsOf (Ü P w) n.toList:=(u.push wA Ŗ).perm p;let W:(n.toList.map oq).Perm (ws++[x]):=(p.map oq).trans (by rw[aN];rwa[m.append (vV _)]);let apP:n.size=Á ws+1:=by rw[<-bS,<-af (f:=oq),W.length_eq,ai];rfl
  let B:n.size<scanBound:=()
  let gw:∀(b:Þ){s₁:am}{X:Unit->am->ß},X ⟨⟩ s₁->bv (b' P w) A (match b with|J=>rule "set.scan.the-table-gave-way"|bb=>pure ⟨⟩) X E s₁:=λb s₁ X hq=>by
   induction b;.rwa[ah hq]
   .rwa[f7 hq]
  erw[aa (gw _ ?_)];let tail:∀T:eT,T.fits n.size=J->T.led=t.led->T.plain=bb->bv (b' P w) A (do storeSet a n T if(!PF&&T.tooFull)=J then do(match(relayAll T n (û n.size)).2.2 with|J=>rule "set.scan.the-table-gave-way"|bb=>pure ⟨⟩)storeSet a (relayAll T n (û n.size)).1 (relayAll T n (û n.size)).2.1pure (O J)else pure (O J)) (λr S=>∃h',r=O J/\S={s with heap:=h'}/\Ý a s.heap h'/\ki P w h' a (ws++[x])) E s:=by
   intro T Z C WL;erw[aa (wpAny_storeSet_of i l ?_ (B5 B))];let(Zx,hS1):=Õ i hex l v W N B Z λz=>(C.trans (M z).1,λ_=>WL);let D:=cj s.heap a (č n T);split
   .let R4:=relayAll_perm T n (û n.size);let oO:=relayAll_fits T n (û n.size);let g:=Jq T n (û n.size);generalize relayAll T n _=R at R4 oO g⊢;let(F,t3,amg):=R;let DC:F.size=n.size:=by rw[<-bS,R4.length_eq,bS]
    let G:F.size<scanBound:=()
    erw[aa (gw _ ?_)];erw[aa (wpAny_storeSet_of Zx Ŗ ?_ (B5 G))];let(_,hS2):=Õ (s:={s with heap:=s.heap.update a _}) Zx hex rfl (v.perm R4) ((R4.map _).trans W) N G oO λz=>(g.1.trans (C.trans (M z).1),λ_=>g.2 WL);rwa[ah (_,Ŗ,Ŗ,D.trans (cj _ a _),hS2)]
   .rwa[ah (_,Ŗ,Ŗ,D,hS1)]
  let I:∀(r:Ő _)(S:am),(∃h',r=O J/\S={s with heap:=h'}/\Ý a _ h'/\ki P w h' a _)->∃h',r=O _/\S={s with heap:=h'}/\Q J _:=λr S zz=>(by let(h',e1,e2,e3,e4):=zz;exact(h',e1,e2,h _ h' e3 e4));split;.erw[aa ?_];erw[ah (cX (tail _ (SetTable.fits_plain_off H) Y Ŗ) (λr S z=>?_) λ_ _ e=>e)];let(h',rfl,rfl,q):=I r S z;rwa[ah q]
  .ext dH;erw[cX (tail t1 H Y (bq.mpr dH)) (λr S z=>?_) λ_ _ e=>e];let(h',rfl,rfl,q):=I r S z;rwa[ah q]
def dW(l:ϐ):ϐ:=l.foldl pd []
def Dh(l:ϐ)(x:Æ):dW (l++[x])=pd (dW l) x:=by delta dW;rw[List.foldl_append];rfl
def DH(h:ws.Nodup)(x:Æ):(pd ws x).Nodup:=by
 delta pd;split;.rwa[h]
 .ext a;rwa[dF.mpr (h,⋯,λy b z H=>by rw[aG]at H;subst H;rwa[λe=>a (e▸b)])]
def Mb:y∈pd ws x↔y∈ws\/y=x:=by
 delta pd;split;.left
 .rw[eR,aG]
def nh(l:ϐ):(dW l).Nodup/\∀y,y∈dW l↔y∈l:=by
 suffices h:∀(l:ϐ)(ws:ϐ),ws.Nodup->(l.foldl _ ws).Nodup/\∀y,y∈l.foldl _ ws↔y∈ws\/y∈l by let(a,b):=h l [] jN;exact(a,λy=>(b y).trans ⋯)
 intro l;induction l with|f=>intro ws h;exact(h,λy=>⋯)|g x r i=>intro ws h;let(a,b):=i _ (DH h x);exact(a,λy=>(b y).trans (by rw[Mb,aB,or_assoc]))
def ki.at(H:ki P w h a ws)(k:∀o,h.get? a=O o->h'.get? a=O o):ki P w h' a ws:=by let(o,e,E,t,b,r):=H;exact(o,e,E,t,k o b,r)
def HZ{R:Result->am->ß}{I S l:À}{its:Array Â}{xs:ϐ}(W:Walks P w A.in1 I [I,l] [I] its.size (λi v=>its[i]?=O v) λi h=>h.IsListIter I l i/\h.IsList l its)(H:S≠I)(B:S≠l)(C:∀(i:Ń)(v:Â),its[i]?=O v->∃x t,xs[i]?=O x/\v=.str x t)(hn:Á xs=its.size)(D:∀i,Á (dW (xs.take i))+1<scanBound):∀(k i:Ń)(s:am),its.size-i=k->i<=its.size->s.heap.IsListIter I l i/\s.heap.IsList l its->ki P w s.heap S (dW (xs.take i))->(∀(h':Ç)(T:Ń),(∀b o,b≠S->b≠I->s.heap.get? b=O o->h'.get? b=O o)->ki P w h' S (dW xs)->R (.ok (.ret .none)) {s with heap:=h',toks:=T})->eq (b' P w) A (.builtin "set.update.loop" ([.ref S,.ref I],[])) R s:=by
 intro k;induction k with|h=>
  intro i s F G st f q;obtain rfl:i=its.size:=()
  erw[cJ ź ?_];rw[dX qO _];show bv _ A.in1 (d4 (.ref I)>>=_) _ _ s;erw[aa (W.done s _ _ st λh' T K=>?_)];show bv _ A.in1 (ret Ô) _ _ _;let e:dW (xs.take its.size)=dW xs:=by rw[<-hn,kM]
  rwa[ah (q h' T (λb o _ j g=>K b o (by simp[j]) g) (e▸f.at λo g=>K S o (by simp[H]) g))]|j k M=>
  intro i s F G st f q;let L:i<its.size:=()
  erw[cJ ź ?_];rw[dX qO _];show bv _ A.in1 (d4 (.ref I)>>=_) _ _ s;erw[aa (W.item i s _ _ L st λv h' T N Q K=>?_)];let(x,t,m,rfl):=C i v N;let n:ki P w h' S (dW (xs.take i)):=f.at λo g=>K S o (by simp[H]) g;show bv _ A.in1 (holding [ć x t] (setAdd S (.str x t))>>=_) _ _ _;erw[aa (bJ ?_)];delta setAdd;erw[bJ (aa ((Ü P w).pyHash (k:=x) (kP _ _ _ _) ?_))];erw[Kw (s:={s with heap:=h',toks:=T+1}) n (D i) λb X z p=>?_];let e:dW (xs.take (i+1))=pd (dW (xs.take i)) x:=by rw[List.take_add_one,m];rwa[Dh _ _]
  erw[ah (d8 qO _,M (i+1) _ () L (W.frame _ _ _ Q λc Y o g=>?_) (e▸p) λU r u y=>?_)];.rw[z.2 c (by grind)];rwa[g]
  .erw[q U r (λc o a d g=>u c o a d ?_) y];rw[z.2 c a];rwa[K c o (by simp[d]) g]
def SV{E:c9}(a:Â){Q₁:c9}(h:Q₁ (.ref s.heap.objs.size) {s with heap:=s.heap.push {cls:=.type "set",dict:=ao,data:=.set #[] 0 (.fresh 0 0 !w.params.followText "set-order")}}):eq (b' P w) A (.call (.builtin "set.__new__") ([.type "set",a],[])) (wants Q₁ E) s:=by erw[codeAny_of_tree ?_];show bv _ A.in1 (do checkBuiltinCall "set.__new__" ([.type "set",a],[]);again _) _ _ s;erw[aa (pF (F.newCall_set_1 a) (ah (d8 F.plain_set_new _,cJ F.entry_set_new ?_)))];let D:=sub_set_self;wp_walk;rwa[kQ (ah (aa (wpAny_alloc (ah (ah h)))))]
section
variable{P:ci}{w:ce}{A:cp}{E:c9}{s:am}
def OH{x:Â}{Q:c9}(b:bv (b' P w) A.in1.in1 (Builtin.«set.__init__» ([.ref s.heap.objs.size,x],[])) (λd s'=>match d with|.done f=>wants (λr S=>r=.none/\Q (.ref s.heap.objs.size) S) E (.ok f) s'|.again C=>C.quiet=J/\eq (b' P w) A.in1 C (wants (λr S=>r=.none/\Q (.ref s.heap.objs.size) S) E) s') (λe s'=>wants (λr S=>r=.none/\Q (.ref s.heap.objs.size) S) E (.error e) s') {s with heap:=s.heap.push {cls:=.type "set",dict:=ao,data:=.set #[] 0 (.fresh 0 0 !w.params.followText "set-order")}}):bv (b' P w) A (call (.type "set") [x]) Q E s:=by
 let t:=F.called_set;let(c,l,G):=t.mro;let B:=t.made;let D:=t.sub;let h1:=t.notType;let h2:=t.canCreate;let H:=F.typeCall_set_1 x;erw[sI (codeAny_of_tree (show bv _ _ (callAny (.type "set") _) _ _ _ from ah (Code.quiet_builtin _ ∅,cJ F.entry_type_call ?_)))];rw[Around.under_plain (weight_type_call_type "set" [x] []) Ŗ];repeat(any_goals(first|assumption|wp_step))
 erw[eg (SV (P:=P) (w:=w) x (E:=E) (Q₁:=λo a=>o=.ref s.heap.objs.size/\a={s with heap:=s.heap.push {cls:=.type "set",dict:=ao,data:=.set #[] 0 (.fresh 0 0 !w.params.followText "set-order")}}) (Ŗ,Ŗ)) λr a h=>?_];match r,h with
 |.error e,h=>rwa[h]|.ok (.ret o),h=>
  let(rfl,rfl):=h;let T:Shared.TypeIs {s with heap:=s.heap.push {cls:=.type "set",dict:=ao,data:=.set #[] 0 (.fresh 0 0 !w.params.followText "set-order")}} (.ref s.heap.objs.size) "set":=(_,ar _ Ŗ,Ŗ);let i:=t.init.lookup;let g:=t.init.bind (.ref s.heap.objs.size);repeat(any_goals(first|assumption|wp_step))
  erw[eg (vX t.init.plain F.entry_set_init (check_set_init_1 T b)) λR S n=>?_];match R,n with|.error e,n=>rwa[n]|.ok (.ret u),n=>let(rfl,q):=n;repeat(any_goals(first|assumption|wp_step))|.ok .next,n=>rwa[n.elim]|.ok .brk,n=>rwa[n.elim]|.ok .cont,n=>rwa[n.elim]
 |.ok .next,h=>rwa[h.elim]|.ok .brk,h=>rwa[h.elim]|.ok .cont,h=>rwa[h.elim]
def zR{Q:c9}(q:A.handled=ao)(r:s.heap.IsList l its)(u:∀(i:Ń)(v:Â),its[i]?=O v->∃x t,xs[i]?=O x/\v=.str x t)(hn:Á xs=its.size)(B:∀i,Á (dW (xs.take i))+1<scanBound)(h:∀(h':Ç)(T:Ń),ki P w h' s.heap.objs.size (dW xs)->(∀b o,s.heap.get? b=O o->h'.get? b=O o)->Q (.ref s.heap.objs.size) {s with heap:=h',toks:=T}):bv (b' P w) A (call (.type "set") [.ref l]) Q E s:=by
 erw[OH ?_];generalize f:({cls:=.type "set",dict:=ao,data:=.set #[] 0 (.fresh 0 0 !w.params.followText "set-order")}:Ú)=o;let C:(s.heap.push o).get? s.heap.objs.size=O o:=ar _ (by rw[<-f];rfl);let j:ki P w (s.heap.push o) s.heap.objs.size (dW (xs.take 0)):=by
  erw[(o,#[],0,.fresh 0 0 !w.params.followText "set-order",C,by rw[<-f];exact(Ŗ,Ŗ,Ŗ),by rw[<-f],λe K=>by simp at K,?_,?_,∅,by rfl,λz=>(?_,λy=>Ă Ŗ y))];.rwa[vV _]
  .rwa[jN]
  .show(!w.params.followText "set-order")=J;rw[z];rfl
 let(ol,d,H,N,a):=r;let k:=ae o d;let R:(s.heap.push o).IsList l its:=(_,k,H,N,a);let S:l<s.heap.objs.size:=ax d;let D:(s.heap.push o).objs.size=s.heap.objs.size+1:=jk _ _;let(oc,X,L,Y):=ol;simp only at H a;subst H;subst a;let e1:=F.sub_list_set;let e2:=F.sub_list_frozenset;let Z:(â "list"==â "dict")=false:=∅
 let M:l≠(s.heap.push o).objs.size:=by rw[D];rwa[aF (eO S)]
 let U:s.heap.objs.size≠(s.heap.push o).objs.size:=by rw[D];rwa[aF (gq _)]
 subst f;delta Builtin.«set.__init__» noKeywords;delta Builtin.Frozenset.updateFrom;generalize I:pyIter=PI;wp_walk;subst I;erw[jX R ?_];erw[aa (v8 ?_)];let m:A.in1.in1.in1.handled=none:=by simp[q]
 erw[HZ (P:=P) (w:=w) (A:=A.in1.in1) (xs:=xs) (Walks.list m _ l M its) U (dA S) u hn B (its.size-0) 0 _ rfl (cw _) ((_,ar _ Ŗ,Ŗ,Ŗ),R.push _) (j.at λp g=>ae _ g) λh' T W n=>?_];show bv _ _ _ _ _ _;erw[ah ?_];show bv _ _ (ret Ô) _ _ _;erw[ah (Ŗ,h h' T n λc p g=>?_)];let G:=ax g;rwa[W c p (aF G) (by rw[D];rwa[aF (eO G)]) (ae _ (ae _ g))]
def ij:Slot "set_iterator" "__next__" "set_iterator.__next__":=by
 erw[.of (owner:="set_iterator") (n:="__next__") ?_ ?_ ?_ ?_ ?_ ?_];.kernel_rfl
 .rfl
 .rfl
 .rfl
 .first|rwa[.inl (by rfl)]|lia
 .rfl
def qw:entryFor table "set_iterator.__next__"=O Builtin.«set_iterator.__next__»:=qV Ŗ
def ug(a:Â):argsOk "set_iterator.__next__" ([a],[]):=by rfl
def nC:entryFor table "set.__iter__"=O Builtin.«frozenset.__iter__»:=by
 erw[Qj (id':="frozenset.__iter__") ?_ Ŗ ?_ ?_];.kernel_rfl
 .decide+kernel
 .kernel_rfl
def Au(h:Ç)(I a:À)(first:Â)(i n ep:Ń):ß:=∃o,h.get? I=O o/\o.cls=.type "set_iterator"/\o.data=.fields #[first,.int i 0,.ref a,.int n 0,.int ep 0]
def Au.typeIs(h:Au s.heap I a first i n ep):s.TypeIs (.ref I) "set_iterator":=let (o,H,c,_):=h;(o,H,c)
def GO{slot nx:Ń}(hit:Au s.heap I a (.int slot 0) i n ep)(h:s.heap.get? a=O o)(H:o.data=.set es ep t)(f:t.fits es.size)(hn:es.size=n)(x:∀(d:cp)(e:c9)(c:Ő _->am->ß),c (O (v,nx)) s->bv (b' P w) d (setNext a slot i ep) c e s)(q:∀h',Au h' I a (.int nx 0) (i+1) n ep->Ý I s.heap h'->Q (O v) {s with heap:=h'}):bv (b' P w) A (d4 (.ref I)) Q E s:=by let(oI,F,j,b):=id hit;erw[aa (eJ (bC hit.typeIs ij (bK ij hit.typeIs qw ?_ (ug _))))];erw[aa (ah ?_)];erw[aa (jW F b ?_)];erw[aa (gj h H f ?_)];rw[bN (by rw[hn];simp)];erw[aa (x _ _ _ ?_)];erw[aa (cE F b ⋯ ?_)];let g:=bF (ä (·.setIfInBounds 0 (c5 nx))) F (cO (bP b _));let d1:=bP b (·.setIfInBounds 0 (c5 nx));erw[aa (cE g d1 ⋯ ?_)];erw[ah (v,Ŗ,ah (q _ (_,(bF (ä (·.setIfInBounds 1 (c5 (i+1)))) g (cO (bP d1 _))),(jR ..).trans ((jR ..).trans j),?_) ((cj ..).trans (cj ..))))];rw[(bP d1 (·.setIfInBounds 1 (c5 (i+1))))];simp[c5]
def Eu{slot:Ń}(h:A.handled=ao)(hit:Au s.heap I a (.int slot 0) i n ep)(H:s.heap.get? a=O o)(d:o.data=.set es ep t)(f:t.fits es.size)(hn:es.size=n)(x:∀(e:cp)(g:c9)(b:Ő (Â×Ń)->am->ß),b ao s->bv (b' P w) e (setNext a slot i ep) b g s)(q:∀h',è I s.heap h'->Q ao {s with heap:=h'}):bv (b' P w) A (d4 (.ref I)) Q E s:=by let(oI,F,j,c):=id hit;delta d4;erw[aa (eJ (bC (name:=ì "__next__") hit.typeIs ij (bK ij hit.typeIs qw ?_ (ug _))))];delta Builtin.«set_iterator.__next__»;erw[aa (ah (aa (jW F c ?_)))];erw[aa (gj H d f ?_)];rw[bN (by rw[hn];simp)];erw[aa (x _ _ _ ?_)];erw[aa (cE F c ⋯ ?_)];erw[aa ?_];erw[aa (bE ?_ (by size_fits))];erw[aa (pF (a:=Ô) Ŗ ?_)];erw[bE ?_ (by size_fits)];erw[aa (pQ ?_)];rw[h];erw[aa (ah (pH ?_))];rwa[aa (gr (_,ar _ Ŗ,Ŗ) jU (ah (q _ (((cj ..).extBut.push _).push _))))]
def U3{k:Ń}(hit:Au s.heap I a (.ref p) i n ep)(c:s.heap.get? a=O o)(d:o.data=.set es ep t)(f:t.fits es.size)(hn:es.size=n)(e:s.heap.IsTuple p ps)(g:ps[i]?=O (.int k T))(j:es[k]?=O (z,v))(q:∀h',Au h' I a (.ref p) (i+1) n ep->Ý I s.heap h'->Q (O v) {s with heap:=h'}):bv (b' P w) A (d4 (.ref I)) Q E s:=by let(oI,F,l,b):=id hit;let(r,h,m,mp,H):=e;erw[aa (eJ (bC hit.typeIs ij (bK ij hit.typeIs qw ?_ (ug _))))];erw[aa (ah (aa (jW F b ?_)))];erw[aa (gj c d f ?_)];rw[bN (by rw[hn];simp)];erw[aa (cD h H ?_)];simp only[dE,g];erw[aa ?_];erw[aa (fP c d f ?_)];dsimp only;rw[bN ⋯];simp only[j];erw[ah ?_];erw[aa (cE F b ⋯ ?_)];erw[ah (v,Ŗ,ah (q _ (_,(bF (ä (·.setIfInBounds 1 (c5 (i+1)))) F (cO (bP b _))),(jR ..).trans l,?_) (cj ..)))];rw[bP b];simp[c5]
def Ϥ(c:A.handled=ao)(hit:Au s.heap I a (.ref p) i n ep)(d:s.heap.get? a=O o)(e:o.data=.set es ep t)(f:t.fits es.size)(hn:es.size=n)(g:s.heap.IsTuple p ps)(k:ps[i]?=ao)(q:∀h',è I s.heap h'->Q ao {s with heap:=h'}):bv (b' P w) A (d4 (.ref I)) Q E s:=by let(oI,F,l,b):=id hit;let(m,h,j,mp,H):=g;delta d4;erw[aa (eJ (bC (name:=ì "__next__") hit.typeIs ij (bK ij hit.typeIs qw ?_ (ug _))))];delta Builtin.«set_iterator.__next__»;erw[aa (ah (aa (jW F b ?_)))];show bv _ _ (setEntries a>>=_) _ _ s;erw[aa (gj d e f ?_)];rw[bN (by rw[hn];simp)];show bv _ _ _ _ _ s;erw[aa (cD h H ?_)];simp only[dE,k];erw[aa (cE F b ⋯ ?_)];erw[aa (cE (bF (ä (·.setIfInBounds 0 (c5 0))) F (cO (bP b _))) (bP b _) ⋯ ?_)];erw[aa ?_];simp only[newExc,newTuple];erw[aa (bE ?_ (by size_fits))];erw[aa (pF (a:=Ô) Ŗ ?_)];erw[bE ?_ (by size_fits)];erw[aa (pQ ?_)];rw[c];erw[aa (ah (pH ?_))];rwa[aa (gr (_,ar _ Ŗ,Ŗ) jU (ah (q _ ((((cj ..).trans (cj ..)).extBut.push _).push _))))]
end
section
variable{P:ci}{w:ce}{A:cp}{E:c9}
def V0(hn:n≠0)(h:∀i,i<n->∀d,Q i {s with drawn:=d}):bv (b' P w) A (choose S n) Q E s:=by intro Γ p H;exact(hn,h _ (Aj _ (Nat.pos_of_ne_zero hn)) _)
theorem pk{α:Type}:∀{xs:Ł α}{i:Ń}{x:α},xs[i]?=O x->(x::xs.eraseIdx i).Perm xs|y::r,0,x,h=>by simp at h;subst h;rwa[vV _]|y::r,i+1,x,h=>by exact(List.Perm.swap y x _).trans ((pk (by done)).cons y)
theorem BL:∀(n:Ń)(xs:Ł α)(s:am){Q:Ł α->am->ß},Á xs=n->(∀ys d,ys.Perm xs->Q ys {s with drawn:=d})->bv (b' P w) A (drawOrder n xs) Q E s|0,xs,s,Q,H,h=>by obtain rfl:=qS.mp H;rwa[ah (h [] _ (vV _))]|n+1,[],s,Q,H,h=>by done|n+1,y::r,s,Q,H,h=>by erw[aa (V0 () λi a d=>?_)];obtain⟨x,b⟩:∃x,(y::r)[i]?=O x:=(_,av a);simp only[b];rwa[aa (BL n _ _ (by rw[ϊ,bV a];simp at H⊢;rwa[‹_›]) λys D p=>ah (h _ D ((p.cons x).trans (pk b))))]
theorem Gv(next:Ń->Ń):∀(f k:Ń)(left:Ł α)(out:Array α),Á left=f->((pickOrder.go next f k left out).toList).Perm (out.toList++left)|0,k,left,out,h=>by obtain rfl:=qS.mp h;delta pickOrder.go;simp|f+1,k,left,out,h=>by delta pickOrder.go;let i:next k%Á left<Á _:=Aj _ ();obtain⟨x,H⟩:∃x,left[next k%Á _]?=O x:=(_,av i);simp only[H];erw[(Gv _ f _ _ _ (by rw[ϊ];lia)).trans ?_];rw[Array.toList_push,bL];rwa[List.Perm.append_left _ (pk H)]
def xH(next:Ń->Ń)(xs:Array α):(pickOrder next xs).toList.Perm xs.toList:=by let:=Gv next xs.size 0 _ #[] rfl;delta pickOrder;simpa using this
def GP:Slot "set_iterator" "__iter__" "set_iterator.__iter__":=by
 erw[.of (owner:="set_iterator") (n:="__iter__") ?_ ?_ ?_ ?_ ?_ ?_];.kernel_rfl
 .rfl
 .rfl
 .rfl
 .first|rwa[.inl (by rfl)]|lia
 .rfl
def wN:entryFor table "set_iterator.__iter__"=O Builtin.«dict_keyiterator.__iter__»:=by
 erw[Qj (id':="dict_keyiterator.__iter__") ?_ Ŗ ?_ ?_];.kernel_rfl
 .decide+kernel
 .kernel_rfl
def zS(a:Â):argsOk "set_iterator.__iter__" ([a],[]):=by rfl
def tJ(P:ci)(w:ce)(A:cp)(I:À)(f:Ł À)(xs:ϐ)(È:Ń->Ç->ß):ß:=Walks P w A I f [I] (Á xs) (λi v=>∃x t,xs[i]?=O x/\v=.str x t) È
def zT{Q:c9}(hit:Au s.heap I a first i n ep)(h:Q (.ref I) s):bv (b' P w) A (pyIter (.ref I)) Q E s:=by rwa[pG hit.typeIs GP (bK GP hit.typeIs wN (ah (_,Ŗ,_,_,hit.typeIs,ij.lookup,h)) (zS _))]
def Au.at(x:Au h I a first i n ep)(k:∀o,h.get? I=O o->h'.get? I=O o):Au h' I a first i n ep:=let (o,H,r):=x;(o,k o H,r)
def xD(H:s.heap.get? a=O o)(d:o.data=.set es ep t)(f:t.fits es.size)(b:w.params.followText "set-order"=J)(h:Q ((pickOrder (w.params.setOrder a ep) es)[i]?.map λe=>(e.2,slot)) s):bv (b' P w) A (setNext a slot i ep) Q E s:=by erw[aa (fP H d f ?_)];erw[eS (λ_=>?_) λz=>Ă b z];rw[bN ⋯];rwa[aa (aa (fP H d f (aa (aa (kQ (ah (eS (λ_=>aa (kQ (ah (ah h)))) λz=>Ă b z)))))))]
def vm{s:am}{a:À}{i ep slot:Ń}{o:Ú}{es:Array _}{t:eT}{Q:Ő _->am->ß}(H:s.heap.get? a=O o)(d:o.data=.set es ep t)(f:t.fits es.size)(b:w.params.followText "set-order"=bb)(l:t.led)(c:es.size<=1)(h:Q (match es[Ā t.place slot]?,t.place[Ā t.place slot]? with|O (Prod.mk _ x),O j=>O (Prod.mk x (j+1))|_,_=>ao) s):bv (b' P w) A (setNext a slot i ep) Q E s:=by
 erw[aa (fP H d f ?_)];erw[eS (λz=>Ă (b.symm.trans z) ∅) λ_=>?_];erw[eS (λz=>Ă z ?_) λ_=>?_];.show ¬(!t.plain&&Đ _)=J;rw[cn (),vU];decide
 erw[aa ?_];show bv _ _ (if(!t.led&&!es.isEmpty)=J then unsupported _ else pure Unit.unit) _ _ _;rw[l];rwa[ah (ah h)]
def vc{Q:c9}(H:s.heap.get? a=O o)(hex:o.ExactSet)(d:o.data=.set es ep t)(f:t.fits es.size)(b:w.params.followText "set-order"=J\/es.size<=1)(h:Q (.ref s.heap.objs.size) {s with heap:=s.heap.push {cls:=.type "set_iterator",data:=.fields #[.int 0 0,.int 0 0,.ref a,.int es.size 0,.int ep 0]}}):bv (b' P w) A (pyIter (.ref a)) Q E s:=by
 let T:s.TypeIs (.ref a) _:=(o,H,hex.1);erw[pG T tF (bK tF T nC ?_ (F.args_set_iter_1 _))];show bv _ _ (Builtin.Frozenset.sizeOf a>>=_) _ _ s;erw[aa ?_];erw[aa (gj H d f (ah ?_))];erw[aa ?_];erw[aa (fP H d f ?_)];erw[aa (aa (kQ (ah (ah ?_))))];erw[eS (λz=>Ă z ?_) λ_=>aa (ah ?_)]
 .show ¬(!w.params.followText _&&(!t.plain&&Đ _))=J;rcases b with b|b;.rw[b];rwa[aD]
  .rw[cn (),vU,vU];decide
 rwa[aa (wpAny_setEpoch_of H d f (aa (bE (ah (_,Ŗ,_,_,(_,ar _ Ŗ,Ŗ),ij.lookup,h)))))]
def DK{s:am}{Q:c9}(H:s.heap.get? a=O o)(hex:o.ExactSet)(b:o.data=.set es ep t)(f:t.fits es.size)(hz:es.size<=Ã)(c:w.params.followText "set-order"=bb)(e:1<es.size)(p:t.plain=bb)(h:∀(ys:Ϙ)(d:Drawn),ys.Perm (Ù es.size)->Q (.ref (s.heap.objs.size+1)) {s with heap:=(s.heap.push {cls:=.type "tuple",data:=.seq (ys.map λi=>c5 (i:Ń)).toArray}).push {cls:=.type "set_iterator",data:=.fields #[.ref s.heap.objs.size,.int 0 0,.ref a,.int es.size 0,.int ep 0]},drawn:=d}):bv (b' P w) A (pyIter (.ref a)) Q E s:=by let T:s.TypeIs (.ref a) _:=(o,H,hex.1);erw[pG T tF (bK tF T nC ?_ (F.args_set_iter_1 _))];show bv _ _ (Builtin.Frozenset.sizeOf a>>=_) _ _ s;erw[aa ?_];erw[aa (gj H b f (ah ?_))];erw[aa ?_];erw[aa (fP H b f ?_)];erw[aa (aa (kQ (ah (ah ?_))))];erw[eS (λ_=>?_) λz=>Ă (show(!w.params.followText _&&(!t.plain&&Đ _))=J by rw[c,p,cA e];rfl) z];erw[aa (BL _ _ s eN λys d Z=>?_)];erw[aa (n8 ?_ (by rw[af,Z.length_eq,eN];rwa[hz]))];erw[aa (wpAny_setEpoch_of (s:={s with heap:=s.heap.push _,drawn:=d}) (ae {cls:=.type "tuple",data:=.seq (ys.map λi=>c5 (i:Ń)).toArray} H) b f ?_)];let hq:=h ys d Z;rw[<-jk _ _]at hq;rwa[aa (bE (ah (_,Ŗ,_,_,(_,ar _ Ŗ,Ŗ),ij.lookup,hq)))]
def Cu(p:Ń):Ā #[p] 0=0:=rfl
def Cv(p:Ń):Ā #[p] (p+1)=1:=by delta Ā;simp[SetTable.below.go]
def J3(p:A.handled=ao)(M:a≠I)(H:o.data=.set es ep t)(u:ElemsOf (Ü P w) es.toList)(f:t.fits es.size)(l:w.params.followText "set-order"=J):tJ P w A I [I,a] ((pickOrder (w.params.setOrder a ep) es).toList.map oq) λi h=>Au h I a (.int 0 0) i es.size ep/\h.get? a=O o where
 sub:=λb l=>nofun
 frame:=λi h c st k=>(st.1.at λd e=>k I ⋯ d e,k a ⋯ o st.2);item:=λi s Q E n st m=>by rw[af]at n;obtain⟨e,j⟩:∃e,(pickOrder _ es)[i]?=O e:=(_,cY n);let(T,r):=zb u ((xH _ es).mem_iff.mp (by rw[<-cM]at j;rwa[aP j]));rwa[GO (slot:=0) st.1 st.2 H f rfl (λv y z q=>xD st.2 H f l (by rw[j];rwa[q])) λc W S=>m e.2 c _ (_,T,by rw[aR,cM,j];rfl,r) (W,by rw[S.2 a M];rwa[st.2]) λb d x g=>by rw[S.2 b (by simpa using x)];rwa[g]]
 done:=λs Q E st m=>by erw[Eu (slot:=0) p st.1 st.2 H f rfl (λv y z q=>xD st.2 H f l ?_) λc ex=>m c _ λb d x g=>ex b d (by simpa using x) g];rw[af,bS,eY (aq _)];rwa[q]
 self:=λi s Q E st h=>zT st.1 h
def PD(y:A.handled=ao)(M:a≠I)(f:o.data=.set es ep t)(U:ElemsOf (Ü P w) es.toList)(H:t.fits es.size)(j:w.params.followText "set-order"=bb)(n:t.led)(r:es.size<=1):tJ P w A I [I,a] (es.toList.map oq) λi h=>Au h I a (.int (if i=0 then 0 else((t.place.getD 0 0+1:Ń):Î)) 0) i es.size ep/\h.get? a=O o where
 sub:=λb j=>by simp at j;simp[j]
 frame:=λi h c st k=>(st.1.at λl e=>k I ⋯ l e,k a ⋯ o st.2);item:=λi s Q E z st u=>by
  rw[af,bS]at z;obtain rfl:i=0:=()
  let L:t.place.size=1:=by simp only[SetTable.fits,aE,sE]at H;lia
  obtain⟨p,D⟩:∃p,t.place=#[p]:=agl.mp L;obtain⟨e,m⟩:∃e,es[0]?=O e:=(_,cY z);let N:e∈es.toList:=by rw[<-cM]at m;rwa[aP m]
  let(T,R):=zb U N;let d:Au s.heap I a (.int ((0:Ń):Î) 0) 0 es.size ep:=st.1;erw[GO (nx:=p+1) (v:=e.2) d st.2 f H rfl (λB C G q=>vm st.2 f H j n r ?_) λc W S=>?_];.rw[D,Cu,m];rwa[q]
  erw[u e.2 c s.toks (oq e,T,by rw[aR,cM,m];rfl,R) (?_,by rw[S.2 a M];rwa[st.2]) λb l x g=>by rw[S.2 b (by simpa using x)];rwa[g]]
  rw[D];rwa[W]
 done:=λs Q E st u=>by
  rw[af,bS]at st;let X:=by simp only[SetTable.fits,aE,sE]at H;rwa[H.1]
  let F:∀c,è I _ c->Q _ {s with heap:=c}:=λc ex=>u c _ λb l x g=>ex b l (by simpa using x) g;by_cases K:es.size=0;.rw[bV K]at st;erw[Eu y st.1 st.2 f H rfl (λB C G q=>vm st.2 f H j n r ?_) F];rw[eY ()];rwa[q]
  .rw[bN K]at st;obtain⟨p,D⟩:∃p,t.place=#[p]:=agl.mp ();let d:Au s.heap I a (.int (p+1:Ń) 0) es.size es.size ep:=by let:=st.1;rw[D]at this;rwa[this]
   erw[Eu y d st.2 f H rfl (λB C G q=>vm st.2 f H j n r ?_) F];rw[D,Cv,eY (aA ‹_› ⋯)];rwa[q]
 self:=λi s Q E st h=>zT st.1 h
def EW{ys:Ϙ}(q:A.handled=ao)(M:a≠I)(D:p≠I)(l:o.data=.set es ep t)(u:ElemsOf (Ü P w) es.toList)(m:t.fits es.size)(Z:ys.Perm (Ù es.size)):tJ P w A I [I,a,p] (ys.map λk=>oq (es.getD k (0,.none))) λi h=>Au h I a (.ref p) i es.size ep/\h.get? a=O o/\h.IsTuple p (ys.map λi=>c5 (i:Ń)).toArray where
 sub:=λb y=>nofun
 frame:=λi h H st k=>(st.1.at λc e=>k I ⋯ c e,k a ⋯ o st.2.1,let (c,B,r):=st.2.2;(c,k p ⋯ c B,r));item:=λi s Q E n st f=>by
  rw[af]at n;obtain⟨k,j⟩:∃k,ys[i]?=O k:=(_,av n);obtain⟨e,d⟩:∃e,es[k]?=O e:=(_,cY (ir.mp (Z.mem_iff.mp (aP j))));let(T,v):=zb u (by rw[<-cM]at d;rwa[aP d]);erw[U3 st.1 st.2.1 l m rfl st.2.2 (by rw[et,aR,j];rfl) (by rw[d]) λH W S=>?_];erw[f e.2 H _ (_,T,?_,v) (W,by rw[S.2 a M];rwa[st.2.1],?_) λb c x g=>by rw[S.2 b (by simpa using x)];rwa[g]]
  .rw[aR,j];show O (oq _)=_;rw[mJ,d];rfl
  .let(c,B,r):=st.2.2;exact(c,by rw[S.2 p D];rwa[B],r)
 done:=λs Q E st f=>by rwa[Ϥ q st.1 st.2.1 l m rfl st.2.2 (by rw[et,aR,af,er (aq _)];rfl) λH ex=>f H _ λb c x g=>ex b c (by simpa using x) g]
 self:=λi s Q E st h=>zT st.1 h
end
section
variable{P:ci}{w:ce}{A:cp}{E:c9}{s:am}
def LJ(es:Array _):((Ù es.size).map λk=>oq (es.getD k (0,.none)))=es.toList.map oq:=by
 let e:es.toList=(Ù es.size).map λk=>es.getD k (0,.none):=by erw[List.ext_getElem ⋯ λi h H=>?_];rw[List.getElem_map,Ah,mJ,cY h];simp
 rw[e,aV];rfl
def OI{Q:c9}(i:A.handled=ao)(S:ki P w s.heap a ws)(h:∀(I:À)(F:Ł _)(xs:ϐ)(È:Ń->Ç->ß)(h':Ç)(d:Drawn),tJ P w A I F xs È->È 0 h'->xs.Perm ws->(∀b o,s.heap.get? b=O o->h'.get? b=O o)->s.heap.objs.size<=I->(∀b∈F,b=a\/s.heap.objs.size<=b)->Q (.ref I) {s with heap:=h',drawn:=d}):bv (b' P w) A (pyIter (.ref a)) Q E s:=by let(o,l,r,t,H,hex,c,u,q,N,j,f,L):=S;let ha:=ax H;induction e:w.params.followText _ with
 |d=>
  erw[vc H hex c f (.inl e) (h _ _ _ _ _ _ (J3 i (aF ha) c u f e) ((_,ar _ Ŗ,Ŗ,Ŗ),ae _ H) (((xH _ l).map _).trans q) (λb k g=>ae _ g) (aq _) λb x=>?_)];simp only[aB,dZ,or_false]at x;rcases x with rfl|rfl;.rwa[.inr (aq _)]
  .rwa[.inl Ŗ]|e=>
  let(n,D):=L e;by_cases m:l.size<=1
  .erw[vc H hex c f (.inr m) (h _ _ _ _ _ _ (PD i (aF ha) c u f e n m) ((_,ar _ Ŗ,Ŗ,Ŗ),ae _ H) q (λb k g=>ae _ g) (aq _) λb x=>?_)];simp only[aB,dZ,or_false]at x;rcases x with rfl|rfl;.rwa[.inr (aq _)]
   .rwa[.inl Ŗ]
  .erw[DK H hex c f (B5 j) e (Nat.not_le.mp ‹_›) (D ()) λy d Z=>?_];let G:∀o1 o2:Ú,o2.isFreed=bb->((s.heap.push o1).push o2).get? (s.heap.objs.size+1)=O o2:=λo1 o2 p=>by rw[<-(λk=>jk _ _) o1];rwa[ar _ p]
   erw[h _ _ _ _ _ d (EW i (aF (eO ha)) (aF (gq _)) c u f Z) ((_,G _ _ Ŗ,Ŗ,Ŗ),ae _ (ae _ H),(_,ae _ (ar _ Ŗ),Ŗ,_,Ŗ)) (((Z.map _).trans (by rw[LJ])).trans q) (λb k g=>ae _ (ae _ g)) (dG _) λb x=>?_]
   .simp only[aB,dZ,or_false]at x;rcases x with rfl|rfl|rfl;.rwa[.inr (dG _)]
    .rwa[.inl Ŗ]
    .rwa[.inr (aq _)]
def LP(H:s.TypeIs (.ref r) "set")(h:Q bb s):bv (b' P w) A (Builtin.List.listLengthHint (.ref r)) Q E s:=by erw[aa (Km H F.slot_set_len.lookup ?_)];generalize d:"set.__len__"=i;subst d;rwa[aa (gr H sub_set_self (eS (λz=>Ă z ∅) λ_=>eS (λ_=>aa (fR H (ah h))) λz=>Ă (by rfl) z))]
def wZ(acc:Array Â)(xs:ϐ):ß:=acc.size=Á xs/\∀(j:Ń)(v:Â),acc[j]?=O v->∃x t,xs[j]?=O x/\v=.str x t
def Er{R:Result->am->ß}{a S:À}{ws:ϐ}{g:Ń}(U:A.handled=ao)(D:ki P w s.heap a ws)(hn:Á ws<=Ã)(j:S≠a)(G:s.heap.get? S=O {cls:=.type "list",data:=.seq #[] g})(Y:∀(h':Ç)(t:Ń)(d:Drawn)(acc:Array Â)(c:Ń)(xs:ϐ),(∀b o,b≠S->s.heap.get? b=O o->h'.get? b=O o)->h'.get? S=O {cls:=.type "list",dict:=ao,data:=.seq acc c,slots:=#[]}->wZ acc xs->xs.Perm ws->R (.ok (.ret (.ref S))) {s with heap:=h',toks:=t,drawn:=d}):bv (b' P w) A.in1 (İ (.ref S) (.ref a) (.ref S)) (λF s'=>match F with|.done f=>R (.ok f) s'|.again p=>p.quiet=J/\eq (b' P w) A p R s') (λe s'=>R (.error e) s') s:=by
 let L:s.TypeIs (.ref a) "set":=by let(o,_,_,_,q,hex,_):=D;exact(o,q,hex.1)
 let k:=ax G;delta İ;erw[aa (fR (T:="set") L ?_)];let Z:ũ (.ref S) (.ref a)=false:=by simp[ũ,j]
 simp only[Z,show(â "set"==â "list")=bb by ext,show(â "set"==â "tuple")=bb by ext,Bool.or_false,dP,gS];erw[aa (OI (A:=A.in1) U D λI fp xs È X d W st M K N r=>?_)];let hSI:S≠I:=aF (aY k N);let l:S∉fp:=λz=>(r S z).elim j λy=>Ă k (dR.mpr y);let x:Á xs<=Ã:=by rw[M.length_eq];rwa[hn]
 let key:∀(h:Ç)(C t:Ń),È 0 h->(∀b o,b≠S->s.heap.get? b=O o->h.get? b=O o)->h.get? S=O {cls:=.type "list",data:=.seq #[] C}->eq (b' P w) A (.builtin "list.extend.loop" ([.ref S,.ref I,.ref S],[])) R {s with heap:=h,toks:=t,drawn:=d}:=by
  intro h C t wB hk u;erw[codeAny_extend_loopS (Walks.toS W) x S l (.ref S) (Á xs) 0 {s with heap:=h,toks:=t,drawn:=d} #[] C rfl (cw _) wB u (ItemsOf.nil _) λs' X0 p Q v rC=>?_];rw[Moved.eq_with Q];erw[Y s'.heap s'.toks d X0 p xs (λb o H e=>Q.heap b o (λz=>?_) (hk b o H e)) v rC M];rcases aB.mp z with e'|z;.rwa[H e']
  .rw[aG]at z;rwa[Ă (ax e) (dR.mpr (by rw[z];rwa[N]))]
 let i:=K S _ G;erw[aa (bJ (LP (s:={s with heap:=X,drawn:=d}) (by let(o,q,hc):=L;exact(o,K a o q,hc)) ?_))];erw[eS (λ_=>?_) λ_=>ah (d8 Wh _,key _ g _ st (λb o _ e=>K b o e) i)];erw[aa (f7 (aa ?_))];show bv _ _ (updateSeq S (·.push .none)>>=λ_=>updateSeq S (·.pop)) _ _ _;erw[aa (wpAny_updateSeq (s:={s with heap:=X,drawn:=d}) i Ŗ ?_)];let m:=bF (î (·.push Ô)) i Ŗ;erw[wpAny_updateSeq (hz:=by seq_fits) m Ŗ ?_];let B:=bF (î (·.pop)) m Ŗ;erw[ah (d8 Wh _,key _ _ _ (W.frame 0 _ _ st λb H o e=>?_) (λb o H e=>(bI _ _ (cI H)).trans ((bI _ _ (cI H)).trans (K b o e))) B)];.let n:b≠S:=λz=>l (z▸H);exact(bI _ _ (cI n)).trans ((bI _ _ (cI n)).trans e)
theorem xT:∀{vs:Ł _}{xs:ϐ},Á vs=Á xs->(∀(j:Ń)(v:Â),vs[j]?=O v->∃x t,xs[j]?=O x/\v=.str x t)->StrsAre vs xs
 |[],[],_,_=>.nil|[],_::_,h,_=>by cases h|_::_,[],h,_=>by cases h|v::vs,x::xs,h,k=>by
  let(y,t,H,rfl):=k 0 v Ŗ;let e:=by simpa using H
  subst e;rwa[.cons x t (xT (by simpa using h) λj u hu=>by simpa using k (j+1) u (by done))]
def wZ.strs(h:wZ acc xs):StrsAre acc.toList xs:=xT (by rwa[h.1]) λj v H=>h.2 j v (by rw[<-cM];rwa[H])
def By(i:A.handled=ao)(W:ki P w s.heap a ws)(hn:Á ws<=Ã)(h:∀(h':Ç)(t:Ń)(d:Drawn)(acc:Array _)(xs:ϐ),(∀b o,s.heap.get? b=O o->h'.get? b=O o)->s.heap.objs.size<h'.objs.size->wZ acc xs->xs.Perm ws->R acc.toList {s with heap:=h',toks:=t,drawn:=d}):bv (b' P w) A (collect (.ref a)) R E s:=by
 erw[aa (v8 (cJ ZH ?_))];erw[aa (bE (ah (d8 Ix _,cJ entry_list_iadd' ?_)))];let F:∀(q:Result)(s':am),(∃(h':Ç)(t:Ń)(d:Drawn)(acc:Array _)(c:Ń)(xs:ϐ),q=.ok (.ret (.ref s.heap.objs.size))/\s'={s with heap:=h',toks:=t,drawn:=d}/\(∀b o,s.heap.get? b=O o->h'.get? b=O o)/\h'.get? s.heap.objs.size=O {cls:=.type "list",dict:=ao,data:=.seq acc c,slots:=#[]}/\wZ acc xs/\xs.Perm ws)->wants (λv S=>bv (b' P w) A (match v with
    |.ref a=>do match(<-load a).data with|.seq xs _=>pure xs.toList|_=>unsupported "internal:collect"
    |_=>unsupported "internal:collect") R E S) E q s':=by rintro q s' ⟨h',t,d,acc,c,xs,rfl,rfl,k,g,T,H⟩;rwa[aa (Aq g (ah (h h' t d acc xs k (ax g) T H)))]
 erw[cX (Er (s:={s with heap:=s.heap.push _}) (R:=λq s'=>∃(h':Ç)(t:Ń)(d:Drawn)(acc:Array _)(c:Ń)(xs:ϐ),q=.ok _/\s'={s with heap:=h',toks:=t,drawn:=d}/\(∀b o,s.heap.get? b=O o->h'.get? b=O o)/\h'.get? _=O {cls:=.type "list",dict:=ao,data:=.seq acc c,slots:=#[]}/\wZ acc xs/\xs.Perm ws) i (W.at λo g=>ae _ g) hn (dA (by let(o,_,_,_,j,_):=W;rwa[ax j])) (ar _ Ŗ) λh' t d acc c xs k g T H=>(h',t,d,acc,c,xs,Ŗ,Ŗ,λb o e=>k b o (aF (ax e)) (ae _ e),g,T,H)) (λf s' x=>?_) λe s' x=>?_];.induction f with|done f=>rwa[F _ _ x]|again C=>exact(x.1,eg x.2 λq S y=>F _ _ y)
 .let(_,_,_,_,_,_,l,_):=x;cases l
def Ew{Q:c9}(i:A.handled=ao)(W:ki P w s.heap a ws)(j:Á ws<64)(h:∀(h':Ç)(t:Ń)(d:Drawn)(D:À)(e:Ń)(out:Ł _)(S:ϐ),(∀b o,s.heap.get? b=O o->h'.get? b=O o)->s.heap.objs.size<=D->h'.get? D=O (seqObj "list" out.toArray e)->StrsAre out S->S.Perm ws->sortedS S->Q (.ref D) {s with heap:=h',toks:=t,drawn:=d}):bv (b' P w) A (call (.builtin "sorted") [.ref a]) Q E s:=by
 let l:64<=Ã:=∅
 erw[Wf kind_sorted plain_sorted entry_sorted (args_sorted1 _) ?_];erw[aa (ah (aa (By i W () λh' t d c x k L T p=>?_)))];let y:Á c.toList=Á ws:=by rw[bS,T.1,p.length_eq]
 let H:=T.strs;erw[aa (XO ?_ ())];let R:(h'.push (seqObj "list" c.toList.toArray 0)).get? _=O _:=ar _ Ŗ;erw[aa (bJ (bK slot_list_sort (_,R,Ŗ) entry_list_sort (list_sort_treeK (s:={s with heap:=h'.push (seqObj "list" _ 0),toks:=t,drawn:=d}) strKind_oneLt R H.keysOf (λv f r e=>keyKind_strs (by rw[<-e];rwa[H])) () λm a1 n=>(_,Ŗ,?_)) (args_list_sort _)))];let(S,z,Z,q):=sorted_out_str H a1 n;let(e,u):=sortedHeap_at R;erw[ah (_,Ŗ,h _ t d _ e ((arrOf m).map _).toList S (λb o g=>?_) (gH L) u z (Z.trans p) q)];.let G:=ax (k b o g);rw[sortedHeap_old (aF G) (by rw[jk];rwa[eO G])];rwa[ae _ (k b o g)]
end
def Inv.drew{p:Ł _}{σ:È}(I:Inv X p σ H s)(d:Drawn):Inv X p σ H {s with drawn:=d}:=(I.ok,I.os,I.bare,I.base,I.loc,I.cell,I.free,I.gN,I.pin,I.cV,I.len)
theorem xW:∀{ws:ϐ}{us:Ł _},Vals (ws.map V.S) us->StrsAre us ws|[],us,h=>by cases h;rwa[.nil]|x::r,us,h=>by cases h with|g a b=>let(t,rfl):=a;rwa[.cons x t (xW b)]
theorem xR:∀{ws:ϐ}{us:Ł _},StrsAre us ws->Vals (ws.map V.S) us|[],us,h=>by cases h;rwa[.nil]|x::r,us,h=>by cases h with|g _ t b=>rwa[.cons (t,Ŗ) (xR b)]
theorem uU:∀(l ws:ϐ),Á ws<=Á (l.foldl pd ws)
 |[],ws=>aq _|x::r,ws=>by
  erw[aA ?_ (uU r _)];delta pd;split;.lia
  .grind
def Dk(ws:ϐ)(i:Ń):Á (dW (ws.take i))<=Á (dW ws):=by
 let e:dW ws=(ws.drop i).foldl pd (dW (ws.take i)):=by delta dW;rw[<-List.foldl_append,OC]
 rw[e];rwa[uU _ _]
def mU(e:X.calm):fi X (.type "set") λxs H Q=>∃(l:À)(ws:ϐ),xs=[.A l]/\gB X.K H l (ws.map V.S)/\Á (dW ws)<64/\∀a,H a=ao->Q (.A a) (de H a (.ext λh=>ki X.prog X.w h a (dW ws))):=by
 intro p s σ H xs U Q I r h;let(l,ws,rfl,f,g,q):=h;let(u,rfl,j):=r.one;cases j;let(c,R,P,D):=I.list f;let m:64<scanBound:=∅
 let n:Á ws=c.toArray.size:=by rw[aM,<-R.length,af]
 erw[zR (I.ok.hd e) P.isList (λi v b=>?_) n λi=>by let:=Dk ws i;lia λx T W y=>(.A _,_,I.laid y (aq _) (show fK _ X.w _ x _ (.ext _)from(W,let (o,_,_,_,B,_):=W;(o,B),λE F z k=>z.at k)),Ŗ,q _ I.fresh)]
 .rw[et]at b;let d:i<Á ws:=by rw[n];exact(aw.mp b).1
  let(t,C):=(xW R).at (av d);rw[C]at b;exact(_,t,av d,by injection b with b;rwa[b.symm])
def sT(i:X.calm):fi X (.builtin "sorted") λxs H Q=>∃(a:À)(ws:ϐ),xs=[.A a]/\H a=O (.ext λh=>ki X.prog X.w h a ws)/\Á ws<64/\∀(D:À)(b:ϐ),H D=ao->b.Perm ws->sortedS b=J->Q (.A D) (de H D (.L (b.map V.S))):=by
 intro p s σ H xs U Q I r h;let(a,ws,rfl,j,c,q):=h;let(u,rfl,R):=r.one;cases R;let l:64<=Ã:=∅
 rwa[Ew (I.ok.hd i) (I.cV a _ j).1 c λk t d D e out b K f o m g n=>(.A D,_,(I.laid K f (show fK _ X.w _ k _ (.L _)from(by rw[af];exact(by rw[g.length_eq];lia),out,e,xR m,o))).drew d,Ŗ,q D b (I.cV.fresh f) g n)]
end L2
namespace L2
open PySem.SeqAt
end L2
namespace L2
def rN:fillsNumberSlot (.type "tuple") "mul"=pure false:=PySem.fillsNumberSlot_seq (id:="tuple.__mul__") (r:=O (.builtin "tuple.__rmul__")) iF.lookup ∅ F.slot_tuple_rmul.lookup ∅
def zM:seqRepeat? (.type "tuple")=pure (O (.builtin "tuple.__mul__")):=by delta seqRepeat?;rw[PySem.seqSlot_of (T:="tuple") (name:="__mul__") (id:="tuple.__mul__") iF.lookup ∅,PySem.seqSlot_of (T:="tuple") (name:="__rmul__") (id:="tuple.__rmul__") F.slot_tuple_rmul.lookup ∅];rfl
def uZ(a:Î)(t:Tok)(l:À)(items:Array Â)(n:Ń)(dd:Ő À)(sl:Array (Ő Â)):Meets (Builtin.«int.__rmul__» ([.int a t,.ref l],[])) λ_ R s=>s.heap.get? l=O {cls:=.type "tuple",dict:=dd,data:=.seq items n,slots:=sl}/\R (.ok (.ret Value.notImplemented)) s:=.of_wp λp w A R s h=>by let(H,g,d,T,os):=s;let(b,h):=h;wp_walk;exact(_,Ŗ,h)
def EI(t:Tok)(l:À)(items:Array Â)(n:Ń)(dd:Ő À)(sl:Array (Ő Â)):Meets (Builtin.«tuple.__mul__» ([.ref l,.int 1 t],[])) λ_ R s=>s.heap.get? l=O {cls:=.type "tuple",dict:=dd,data:=.seq items n,slots:=sl}/\R (.ok (.ret (.ref l))) s:=.of_wp λp w A R s h=>by let(H,g,d,T,os):=s;let(a,h):=h;delta Builtin.«tuple.__mul__»;wp_walk;exact(_,Ŗ,h)
def EK(k:Î)(t:Tok)(l:À)(items:Array Â)(n:Ń)(dd:Ő À)(sl:Array (Ő Â))(a:items.isEmpty=bb)(m:2<=k)(c:k<=1000)(o:items.size<=10):Meets (Builtin.«tuple.__mul__» ([.ref l,.int k t],[])) λ_ R s=>s.heap.get? l=O {cls:=.type "tuple",dict:=dd,data:=.seq items n,slots:=sl}/\R (.ok (.ret (.ref s.heap.objs.size))) {s with heap:=s.heap.push {cls:=.type "tuple",data:=.seq (ô (λx X=>x++X) #[] (Ð k.toNat items))}}:=.of_wp λp w A R s h=>by
  let(q,g,d,T,os):=s;let(r,h):=h;let C:(Đ (k< -(2^63:Î))||Đ (k>=2^63))=false:=by rw[cn (),cn ()];rfl
  let f:(items.isEmpty||k==1)=false:=by rw[a,Bool.false_or];rwa[cG.mpr ()]
  let i:(Đ (k<=0)||items.isEmpty)=false:=by rw[a,cn ()];rfl
  delta Builtin.«tuple.__mul__»;let L:(100000:Ń)<Ã:=by rw[jx];decide
  let H:(items.size:Î)*k<=10*1000:=Int.mul_le_mul () c () ();wp_walk;rw[bN (by rw[C];rwa[aD])];wp_walk;rw[bN (by rw[f];rwa[aD])];wp_walk;rw[bN (by rw[i];rwa[aD])];wp_walk;rw[bN ()];wp_walk;let b:(ô (λx X=>x++X) #[] (Ð k.toNat items)).size<=Ã:=by
   let e:=Hc items.toList k.toNat [];rw[List.nil_append]at e;let E:ô (λx X=>x++X) #[] (Ð k.toNat items)=(Ð k.toNat items.toList).flatten.toArray:=e;rw[E,aM,zf];let j:(k.toNat:Î)=k:=Ŷ ();let:((k.toNat*Á items.toList:Ń):Î)<=10000:=by rw[Int.natCast_mul,j,Int.mul_comm,bS];rwa[H]
   lia
  rw[bN (by delta Builtin.Tuple.tupleTooMany;rw[g8];lia)];wp_walk;exact(_,Ŗ,h)
def EJ(k:Î)(t:Tok)(l:À)(n:Ń)(dd:Ő À)(sl:Array (Ő Â))(H:0<=k)(a:k<=1000):Meets (Builtin.«tuple.__mul__» ([.ref l,.int k t],[])) λ_ R s=>s.heap.get? l=O {cls:=.type "tuple",dict:=dd,data:=.seq #[] n,slots:=sl}/\R (.ok (.ret (.ref l))) s:=.of_wp λp w A R s h=>by
  let(b,g,d,T,os):=s;let(e,h):=h;let c:(Đ (k< -(2^63:Î))||Đ (k>=2^63))=false:=by rw[cn (),cn ()];rfl
  delta Builtin.«tuple.__mul__»;wp_walk;rw[bN (by rw[c];rwa[aD])];wp_walk;first|rw[bV Ŗ]|skip
  wp_walk;exact(_,Ŗ,h)
def EL(t:Tok)(l:À)(items:Array Â)(n:Ń)(dd:Ő À)(sl:Array (Ő Â))(H:items.isEmpty=bb):Meets (Builtin.«tuple.__mul__» ([.ref l,.int 0 t],[])) λ_ R s=>s.heap.get? l=O {cls:=.type "tuple",dict:=dd,data:=.seq items n,slots:=sl}/\R (.ok (.ret (.ref s.heap.objs.size))) {s with heap:=s.heap.push {cls:=.type "tuple",data:=.seq #[]}}:=.of_wp λp w A R s h=>by let(a,g,d,T,os):=s;let(b,h):=h;delta Builtin.«tuple.__mul__»;wp_walk;exact(_,Ŗ,h)
def akV(K:Å)(a:À)(t:Æ->Ő ϐ):R2:=λx y H Q=>x=.A a/\∃k s,y=.S k/\t k=O s/\∀b,gF K H b (s.map V.S)->Q (.A b) H
def Z1(T:uy X.w X.K a c):Kt X (akV X.K a c):=by intro e S p s σ H x y v u Q I r R h d;let(rfl,k,n,rfl,f,q):=h;cases r;let(t,rfl):=R;let(E,m,lk,keys,look):=T.ex;let hm:=gR (prog:=X.prog) I.kr lk keys;let l:=look k;rw[f]at l;let(b,F,o,i,M,l1,l2,L,g,j):=l;rwa[jV hm.typeIs oV.lookup (Hf (kP _ X.w k t) hm F (Ŗ,(.A b,H,I.tok _,Ŗ,q b (.inr (o,i,M,l1,l2,L,g,j))))) d]
end L2
namespace L2
open PySem.SeqAt PySem.MeetsSeq PySem.Builtin PySem.Builtin.Tuple
end L2
namespace L2
def Xs(K:Å):V->Ő Î->Ő Î->Hp->VK->ß:=λx lo i H Q=>∃a X,x=.A a/\gF K H a X/\∀p h,rb H h->gF K h p (rk X lo i)->Q (.A p) h
def U7:Qp X (Xs X.K):=by
 intro P s σ H x v f g lo d sl Q I R e l u h;let(a,b,rfl,c,q):=h;by_cases w:HT.lC (Á b) 0 lo=0/\HT.lC (Á b) (Á b) d=Á b
 .cases R;let(i,r,t,z):=I.tuple c;let n:i.toArray.size=Á b:=by rwa[r.length.symm]
  exact(_,_,bY.lookup,t.typeIs,sW t e l u (by rw[n];rwa[w]) (.A a,H,I,Ŗ,q a H (rb.refl H) (by rw[CK w];rwa[c])))
 .rwa[Ϻ _ s σ H _ v f g lo d sl Q I R e l u (a,b,Ŗ,c,w,λp j=>q p _ (kg j _) (gF.of bA))]
def Oh(K:Å):R2:=λx y H Q=>∃a b X Y,x=.A a/\y=.A b/\gF K H a X/\gF K H b Y/\Á X+Á Y<=Ã/\∀p h,rb H h->gF K h p (X++Y)->Q (.A p) h
def Nj:kZ X (binaryOp .Add) (Oh X.K):=by
 intro P s σ H x y v u Q I r R h;let(a,b,g,Y,rfl,rfl,i,f,z,q):=h;by_cases j:g=[];.cases r;cases R;subst j;let(m,t,w,_):=I.tuple i;let(F,G,B,_):=I.tuple f;obtain⟨⟨cls,dd,data,sl⟩,o,k,n,l⟩:=id w;obtain⟨⟨C,D,data2,S⟩,Z,c,N,d⟩:=id B;simp only at k l c d;subst k l c d;obtain rfl:=t.zero;rwa[AT (_,o,Ŗ) (_,Z,Ŗ) He XM sD qU (pN _ _) (tuple_addW0 a b #[] _ n N dd D sl S rfl) (o,Z,(.A b,H,I.tok _,Ŗ,q b H (rb.refl H) f))]
 .rwa[Th _ s σ H _ _ v u Q I r R (a,b,g,Y,Ŗ,Ŗ,i,f,j,z,λe=>q a H (rb.refl H) nofun,λ_ p E=>q p _ (kg E _) (gF.of bA))]
def afR(K:Å)(t:TE):TE:=λσ H Q=>t σ H λx h=>∃a X,x=.A a/\gF K h a X/\∀p,h p=ao->Q (.A p) (de h p (.T X.reverse))
def TF{st:Ä}(j:PE X e t)(W:PE X st (tC (.I (-1)))):PE X (.Subscript e (.Slice ao ao (O st) p2) pos) (afR X.K t):=by intro p s σ H Q I h;erw[Qi (jf (j p s σ H _ I h) λv s1 x d l R q=>?_)];erw[wpAny_Slice ?_];rw[evalPart_none];erw[ah (ah ?_)];rw[evalPart_some];erw[jf (W p s1 σ d (λy c=>y=.I (-1)/\c=d) l (Ŗ,Ŗ)) λN s2 y c m u z=>z.elim λE B=>?_];subst B;let(a,C,ex,D,F):=q;subst E;subst ex;let(k,rfl):=u;cases R;let i:Inv X p σ c {s2 with heap:=s2.heap.push {cls:=.type "slice",data:=.fields #[.none,.none,.int (-1) k]}}:=m.kept (t':=s2.toks) λb G g=>ae _ g;let(L,r,f,M):=i.tuple D;let n:=r.length;show bv (b' X.prog X.w) X.A (subscriptTail e (.Slice ao ao (O st) p2) (.ref a) (.ref s2.heap.objs.size)) (EP X p σ Q) X.xe {s2 with heap:=s2.heap.push {cls:=.type "slice",data:=.fields #[.none,.none,.int (-1) k]}};erw[tail_any (ops:=[.ref a,.ref s2.heap.objs.size]) f.typeIs bY.lookup (sX f (Heap.IsSliceOf.new ..) () ?_) (by with_unfolding_all rfl)];erw[(.A _,_,i.laid (t':=s2.toks) (o:=.T C.reverse) (λb G g=>ae _ g) (aq _) (by rw[el];rwa[M],_,r.reverse,qQ _ _),Ŗ,?_)];rwa[F _ i.fresh]
def lY:entryFor table "dict.update.loop"=O Builtin.«dict.update.loop»:=qV Ŗ
def M0{E:c9}{id:String}(S:Slot T "__getattribute__" id)(e0:entryFor table id=O Builtin.«object.__getattribute__»)(m:∀x y,argsOk id ([x,y],[]))(G:hG (.type T) "__getattr__"=pure ao)(me:∀sl u,Meets (Builtin.«object.__getattribute__» ([.ref a,.str "keys" u],[])) λA R s=>s.heap.get? a=O {cls:=.type T,data:=.seq xs k,slots:=sl}/\raisesAttr (.ref a) "keys" A R s)(H:s.heap.get? a=O o)(f:o.cls=.type T)(D:o.data=.seq xs k)(i:o.dict=ao)(n:A.handled=ao)(h:∀h' t,(∀b j,s.heap.get? b=O j->h'.get? b=O j)->Q ao {s with heap:=h',toks:=t}):bv (b' prog w) A (getAttr? (.ref a) "keys") Q E s:=by
 let(c,p,q,sl):=o;simp only at f D i;subst f D i;let(r,g,d,t,os):=s;let l:∀P,((r,g,d,P,os):am).TypeIs (.ref a) T:=λ_=>(_,H,Ŗ);let F:=sub_AttributeError;let v:=S.lookup;let f4:=S.bind (.ref a);delta getAttr? getAttrBy?;delta getAttrBy;repeat(any_goals(first|assumption|rwa[l _]|((with_reducible show bv _ _ (call (í id) _ _) _ _ _);erw[gI S (l _) e0 (m _ _) (me sl _) (H,n,λh' P e Z=>?_)])|wp_step))
 let(z,U,B):=Z.there;show bv _ _ (wE _ _ _ _ _ _ _) _ _ _;delta wE;repeat(any_goals(first|rfl|wp_step))
 rwa[h _ _ Z.keeps]
def gi:plainId "dict.update.loop"=true:=∅
def ux{P:ci}{w:ce}{κ:Type}[DecidableEq κ](knd:KeyKind P w κ)(h:Ç)(u:Â)(p:κ×Â):ß:=∃t key,u=Ò t/\h.IsTuple t #[key,p.2]/\knd.is p.1 key=J
section
variable{P:ci}{w:ce}{κ:Type}[DecidableEq κ]{knd:KeyKind P w κ}{A:cp}
theorem DR{I l:À}{its:Array Â}{ps:Ł (κ×Â)}{R:Result->am->ß}{È:Ń->Ç->ß}(W:Walks P w A.in1 I [I,l] [I] its.size (λi v=>its[i]?=O v) È)(hn:∀(j:Ń)t,its[j]?=O (.ref t)->t≠d/\t≠I)(D:d≠I)(dl:d≠l)(H:its.size=Á ps)(hz:Á ps<=1000):∀(m i:Ń)(f:Ł (κ×Â))(s:am),i+m=Á ps->È i s.heap->s.heap.DictOf knd d f->Á f<=i->(∀(j:Ń)(u:Â)(p:κ×Â),its[j]?=O u->ps[j]?=O p->ux knd s.heap u p)->(∀h' k,h'.DictOf knd d (merged f (ps.drop i))->(∀b o,b≠d->b≠I->s.heap.get? b=O o->h'.get? b=O o)->R (.ok (.ret .none)) {s with heap:=h',toks:=k})->eq (b' P w) A (.builtin "dict.update.loop" ([.ref d,.ref I,c5 i,.none],[])) R s:=by intro m;induction m with|h=>intro i f s N st hd x Q y;erw[cJ lY ?_];rw[dX gi];delta Builtin.«dict.update.loop»;let hi:i=its.size:=N.trans H.symm;subst hi;erw[aa (W.done s _ _ st λh' k K=>?_)];let E:∀b o,b≠I->s.heap.get? b=O o->h'.get? b=O o:=λb o n g=>K b o (λq=>n (aG.mp q)) g;show bv _ _ (Ŏ d []>>=_) _ _ _;erw[aa (ah (ah ?_))];erw[y h' k ?_ λb o _=>E b o];rw[Ĭ (eI H.symm)];rwa[hd.extBut E D]|j m ih=>
  intro i f s N st hd x Q y;erw[cJ lY ?_];rw[dX gi];delta Builtin.«dict.update.loop»;let L:i<Á ps:=()
  let h:=av L;let Dq:=oU L;generalize ps[i]=p at h Dq;erw[aa (W.item i s _ _ (H▸L) st λu U k z B K=>?_)];let S:∀b o,b≠I->s.heap.get? b=O o->U.get? b=O o:=λb o n g=>K b o (λq=>n (aG.mp q)) g;let X:∀{j:Ń}{u:Â}{p:κ×Â},its[j]?=O u->ps[j]?=O p->ux knd U u p:=λe C=>by obtain⟨t,key,rfl,⟨o,g,r⟩,x⟩:=Q _ _ _ e C;exact(t,key,Ŗ,(o,S _ _ (hn _ _ e).2 g,r),x)
  obtain⟨t,key,rfl,⟨o,e,c,n,F⟩,wA⟩:=X z h;erw[aa (bJ (aa (wpAny_tryCatch ?_)))];delta ş;erw[aa (fR (T:="tuple") (o,e,c) ?_)];rw[bV ∅];erw[aa ?_];delta seqItems?;erw[aa (Aq e ?_)];rw[F];erw[ah (ah ?_)];let l3:(1000:Ń)<=Ã:=∅
  erw[bJ (YP wA (hd.extBut S D) (λh2 G a=>?_) ())];erw[ah (d8 gi _,?_)];let e1:c5 ((i:Î)+1)=c5 ((i+1:Ń):Î):=Ŗ;erw[ih (i+1) (Ĉ f p.1 p.2) {s with heap:=h2,toks:=k+1} () (W.frame _ _ _ B λc M o g=>(a.2 c ?_).trans g) G ?_ ?_ λh' k BU k'=>?_]
  .rcases aB.mp M with rfl|M;.rwa[cI D]
   .rw[aG.mp M];rwa[cI dl]
  .delta Ĉ;split;.rw[af];rwa[aU ‹_›]
   .left
  .intro j u' p' Y ZE;obtain⟨t',aqo,rfl,⟨o',C,r'⟩,P6⟩:=X Y ZE;exact(t',_,Ŗ,(o',(a.2 _ (hn _ _ Y).1).trans C,r'),P6)
  .erw[y h' k ?_ λb ob Z J9 E=>k' b ob Z J9 ((a.2 _ Z).trans (S _ _ J9 E))];rw[Dq];rwa[BU]
def CW{its:Array _}{ps:Ł _}{T:String}{È:À->Ń->Ç->ß}{Q:c9}{E:c9}{s:am}(e:s.heap.get? l=O o)(c:o.cls=.type T)(N:(â T !=â "dict"))(M:∀{E s}{Q:Ő _->am->ß},s.heap.get? l=O o->(∀h' k,(∀b g,s.heap.get? b=O g->h'.get? b=O g)->Q ao {s with heap:=h',toks:=k})->bv (b' P w) A.in1.in1 (getAttr? (.ref l) "keys") Q E s)(ni:∀{E s}{Q:c9},s.heap.get? l=O o->Q (.ref s.heap.objs.size) {s with heap:=s.heap.push f}->bv (b' P w) A.in1.in1 (pyIter (.ref l)) Q E s)(W:∀I,l≠I->Walks P w A.in1.in1 I [I,l] [I] its.size (λi v=>its[i]?=O v) (È I))(U:∀h:Ç,h.get? l=O o->È h.objs.size 0 (h.push f))(D:its.size=Á ps)(hz:Á ps<=1000)(R:∀(j:Ń)(u:Â)(p:κ×Â),its[j]?=O u->ps[j]?=O p->ux knd s.heap u p)(h:∀h' k,h'.DictOf knd s.heap.objs.size (merged [] ps)->(∀b o,s.heap.get? b=O o->h'.get? b=O o)->Q (.ref s.heap.objs.size) {s with heap:=h',toks:=k}):bv (b' P w) A (call (.type "dict") [.ref l]) Q E s:=by
 erw[callType_codes (Q₁:=λd S=>d=.ref _/\S={s with heap:=s.heap.push _}) F.kt_called_dict (ZF _) F.entry_dict_init (kt_code_dict_new _ (Ŗ,Ŗ)) ?_];rintro d S ⟨rfl,rfl⟩;let y:(s.heap.push _).DictOf knd _ []:=Ki _;erw[(y.typeIs,F.args_dict_init_2 _ _,?_)];erw[aa ?_];erw[aa (uu y.typeIs ?_)];erw[ah ?_];show bv _ _ (Ļ _ _ _ [] _) _ _ _;let m:(s.heap.push {cls:=.type "dict",data:=.dict #[]}).get? l=O o:=ae _ e;erw[aa (fR (o,m,c) ?_)];rw[bV N];erw[aa (M m λH B k1=>?_)];erw[aa (f7 ?_)];let(x,X,Y,a,r):=y;erw[aa (ni (k1 _ _ m) ?_)];erw[ah (d8 gi _,?_)];let K:∀b o,s.heap.get? b=O o->(H.push f).get? b=O o:=λb o q=>ae _ (k1 _ _ (ae _ q));let n:∀{b o},s.heap.get? b=O o->b≠s.heap.objs.size/\b≠H.objs.size:=λq=>(aF (ax q),aF (ax (k1 _ _ (ae _ q))));erw[DR (W _ (n e).2) (λj t q=>?_) (aF (ax (k1 _ _ a))) (n e).1.symm D hz _ 0 [] {s with heap:=H.push f,toks:=B} (cP _) (U _ (k1 _ _ m)) (x,X,Y,ae _ (k1 _ _ a),r) (aq _) (λj u p hu C=>?_) λh' k Z k'=>(Ŗ,h h' k Z λb g q=>k' b g (n q).1 (n q).2 (K _ _ q))];.let hj:=D▸(d9.mp q).1;obtain⟨t',key,z,⟨x,a,G⟩,L⟩:=R j _ _ q (av hj);cases z;rwa[n a]
 .obtain⟨t,key,rfl,⟨x,a,G⟩,L⟩:=R j u p hu C;exact(t,key,Ŗ,(x,K _ _ a,G),L)
end
def Paired.at'(p:Paired F xs ys):∀{i:Ń},xs[i]?=O x->ys[i]?=O y->F x y:=by induction p with|f=>intro i e;cases e|g h _ I=>intro i E a;induction i with|h=>left|j i=>rwa[I E a]
def Hy:fi X (.builtin "len") λxs H Q=>∃(a:À)(ws:ϐ),xs=[.A a]/\H a=O (.ext λh=>ki X.prog X.w h a ws)/\Q (.I (Á ws)) H:=by
 intro p s σ H xs U Q I r h;let(a,ws,rfl,b,q):=h;let(u,rfl,R):=B8 r;cases R;let(o,E,i,t,e,ex,d,_,c,_,j,f,_):=(I.cV a _ b).1;let hl:=by let:=c.length_eq;simpa using this
 let g:(scanBound:Î)<2^63:=∅
 rwa[call_len_set e ex d f () (.I _,H,I.tok _,(_,by rw[hl]),q)]
end L2
namespace L2
open PySem.SeqAt PySem.MeetsSeq PySem.Builtin PySem.Builtin.Str
end L2
namespace L2
def Vf(h:(dO P w).is (à x) v):∃t,v=.str x t:=by rw[(dO P w).strs (à x) x 0 v (sk (k:=à x) (0,Ŗ))]at h;induction v with|str y t=>exact(t,by rw[show y=x from by simpa[Value.isStr]using h])|_=>simp[Value.isStr]at h
def Nn{p:Ł _}{σ:È}(I:Inv X p σ H s)(h:gF X.K H b [kV k,v]):∃r,RelV v r/\ux (dO X.prog X.w) s.heap (.ref b) (k,r):=by let(a,c,d,_):=I.tuple h;let(u,r,rfl,R,e):=c.two;erw[(r,e,b,u,Ŗ,d,?_)];induction k with|inl i=>let(t,rfl):=R;rwa[sv _ X.w i t]|inr x=>let(t,rfl):=R;rwa[nA _ X.w x t]
def IH{P:Ł _}{s:am}{σ:È}{H:Hp}(I:Inv X P σ H s):∀{ts:ϕ}{d:Ł _}{its:Ł _},Vals ts its->Paired (λt k=>∃b,t=V.A b/\gF X.K H b [kV k.1,k.2]) ts d->∃ps:Ł _,KV d ps/\Paired (ux (dO X.prog X.w) s.heap) its ps:=by intro ts d its a;induction a generalizing d with|f=>intro b;cases b;exact([],.nil,.nil)|g r R i=>intro b;cases b with|g p pp=>let(ps,a,b):=i pp;let(c,rfl,h):=p;cases r;let(w,z,e):=Nn I h;exact(_,.cons (Ŗ,z) a,.cons e b)
def xn{P:Ł _}{σ:È}{E:c9}{Q:V->Hp->ß}{È:À->Ń->Ç->ß}(I:Inv X P σ H s)(r:Vals ts its)(hz:Á d<=100)(x:Paired (λt y=>∃b,t=V.A b/\gF X.K H b [kV y.1,y.2]) ts d)(q:∀a,H a=ao->Q (.A a) (de H a (.dK (jd [] d))))(e:s.heap.get? l=O o)(c:o.cls=.type T)(N:(â T !=â "dict"))(D:∀{E s}{Q:Ő _->am->ß},s.heap.get? l=O o->(∀h' z,(∀b B,s.heap.get? b=O B->h'.get? b=O B)->Q ao {s with heap:=h',toks:=z})->bv (b' X.prog X.w) X.A.in1.in1 (getAttr? (.ref l) "keys") Q E s)(ni:∀{E s}{Q:c9},s.heap.get? l=O o->Q (.ref s.heap.objs.size) {s with heap:=s.heap.push n}->bv (b' X.prog X.w) X.A.in1.in1 (pyIter (.ref l)) Q E s)(W:∀I,l≠I->Walks X.prog X.w X.A.in1.in1 I [I,l] [I] its.toArray.size (λi v=>its.toArray[i]?=O v) (È I))(S:∀h:Ç,h.get? l=O o->È h.objs.size 0 (h.push n)):bv (b' X.prog X.w) X.A (call (.type "dict") [.ref l]) (EP X P σ Q) E s:=by
 let C:Á its=Á d:=by rw[<-r.length,x.length]
 let(ps,k,f):=IH I r x;let G:=k.length.symm;let L:1000<=Ã:=∅
 erw[CW (knd:=dO _ X.w) (ps:=ps) e c N D ni W S nofun () (λj u p hu g=>?_) λh' z U F=>?_];.rw[et]at hu;rwa[Paired.at' f hu g]
 .let m:=ku d [];exact(.A _,_,I.laid F (aq _) (yK (by simp at m;lia) (cG.mpr (cI (aF I.big))) (KV.merge k .nil) U),Ŗ,q _ (I.cV.fresh (aq _)))
def k6(i:X.calm):fi X (.type "dict") λxs H Q=>∃(l:À)(ts:ϕ)(f:Ł _),xs=[.A l]/\gB X.K H l ts/\Á f<=100/\Paired (λt v=>∃b,t=V.A b/\gF X.K H b [kV v.1,v.2]) ts f/\∀a,H a=ao->Q (.A a) (de H a (.dK (jd [] f))):=by intro p s σ H xs U Q I r h;let(l,ts,f,rfl,j,z,m,q):=h;let(u,rfl,R):=B8 r;cases R;obtain⟨w,x,⟨o,n,e,c,dn,d⟩,_⟩:=I.list j;let g:X.A.in1.in1.handled=none:=I.ok.hd i;rwa[xn I x z m q e c rfl (λe k=>M0 F.slot_list_getattribute am_entry_list_getattribute F.args_list_getattribute_2 am_list_getattr_none (λsl u=>meets_getattribute_miss_list l _ _ sl _ _ rfl rfl (by size_fits)) e c d dn g k) (λe q=>jX (o,e,c,n,d) q) (λI n=>Walks.list g I l n _) λh e=>((_,ar _ Ŗ,Ŗ,Ŗ),o,ae _ e,c,n,d)]
def AZ(i:Ń)(D:Ö):Ö:={nx:=λσ H=>D.nx (σ.set i ao) H,rt:=D.rt,bk:=λσ H=>D.bk (σ.set i ao) H,ct:=λσ H=>D.ct (σ.set i ao) H}
def Pe{ts:À->À->Ő _->TS}{p:Ł _}(fr:Cd X)(hN:X.N.Nodup)(hi:X.N[i]?=O n)(G:X.env.scope.names.lookup n=O .local)(hf:X.fn n)(hg:Gl X x)(hm:X.mg x=O (.ref R))(hR:Ql X.K R)(ok:X.Ok)(hs:∀pn a C d,Hd (X.hn pn a) a C d->jZ (X.hn pn a) (Z::Y) (ts a C d))(hb:bv (b' X.prog X.w) X.A (execs B X.env) (SP X p D) (λe s1=>∃(E1:XK)(σ':È)(E:Hp)(l:am),Inv {X with pn:=X.pn++p} [] σ' E l/\qI X.prog X.w X.stack E l E1 e s1/\∀C od H' a,E1 (.ref C) od H'->subIn X.K (.ref C) (.ref R)=O J/\ts a C od (AZ i D) (σ'.set i (O (.A a))) H') s)(hd:ø ((x=="__debug__")=bb) x0):bv (b' X.prog X.w) X.A (exec (.Try B [.ExceptHandler (O (.Name x np)) (O n) (Z::Y) R3] [] [] pos) X.env) (SP X p D) X.xe s:=by
 erw[wpAny_Try_except (cX hb (λf s1 q'=>?_) λe s1 q=>cps λR k0=>?_)];.induction f with|next=>rwa[gT q']|brk=>done|cont=>done|ret u=>done
 obtain⟨E1,σ',E,l,j,⟨a,C,d,H',rfl,L,hE⟩,hh⟩:=q;let(DB,M):=hh C d H' a hE;let P:∀{b:À},l.heap.get? b=ao->b≠X.env.locals:=λz e=>by obtain⟨m,⟨o,_,_,y,_⟩,_⟩:=j.loc;rw[e]at z;rw[z]at y;cases y
 let h:∀{fl:Â}{s2:am}(f2:Fl X.prog X.w _ E l H' a C d fl s2),∃t T,s2.heap.get? a=O _/\Inv _ [] σ' H' s2:=λ{fl s2}f2=>by obtain⟨T,⟨⟨t,ha⟩,_⟩,_⟩:=f2.ex;exact(t,T,ha,(f2.inv j).alw ha f2.na (P f2.new) ((λz e=>by let(_,o,y,_):=j.kq.mem e;rw[z]at y;cases y) f2.new) (by intro v z;cases z))
 erw[k0 (L.note (X:={X with pn:=X.pn++p}) j fr.st fr.fr ok.frames λs2 f2=>?_)];erw[f2.land (f2.frF j) λs3 U=>cps λR k1=>?_];let(t3,T3,W,I3):=h U;erw[k1 (wpAny_handleBy_cons (codeAny_handlers_test ?_) (by intro z;cases z))];erw[iT I3 hg hm ?_ hd];erw[Ry I3.kr hR W rfl DB ?_];erw[codeAny_handlers_suite_as ?_];erw[U.land (U.frF j) λs4 f4=>cps λR k2=>?_];let(t4,T4,ha4,I4):=h f4;erw[k2 (iW (X:=X.hn _ a) (v:=.A a) I4 hN hi (.inl G) rfl (λs5 I5=>?_) (.inl hf))];erw[cX (hs _ a C d (Ŗ,t4,_,aL) [] s5 _ H' _ I5 M) (λfl s6 F=>?_) λ_ _ z=>z.elim];let go:∀{c:È}{H:Hp}{Q:Unit->am->ß},Inv (X.hn ((a,yS C t4 d (.ref T4))::(X.pn++p)) a) [] c H s6->(∀S,Inv X _ _ H S->Q ⟨⟩ S)->bv (b' X.prog X.w) X.A (do bindName _ n _;unbindBehindTheSuite _ n R3) Q X.xe s6:=λ{c H Q}I k=>by let J6:=Inv.akI ok (I.akH (ok.pnx _ _));let(m,hn,_):=id J6.loc;rwa[wpAny_nameGoes_keeps G hn (by rw[ok.kind];rfl) λh' v WJ Ka=>k _ (J6.aiS hN hi G hn WJ Ka)]
 induction fl with|next=>let(c,H,I,q):=F;rwa[go I λS g=>(_,_,g,q)]|brk=>let(c,H,I,q):=F;rwa[go I λS g=>(_,_,g,q)]|cont=>let(c,H,I,q):=F;rwa[go I λS g=>(_,_,g,q)]|ret u=>let(v,c,H,I,r,q):=F;rwa[go I λS g=>(v,_,_,g,r,q)]
end L2
namespace L2
open PySem.W
end L2
namespace L2
open PySem.SeqAt
def xb:dN "sorted"=O (.builtin "sorted"):=∅
def KH:dN "set"=O (.type "set"):=by rfl
end L2
namespace L2
structure sL(w:ce)(K:Å)(mg:c4)(gh:Ń->Æ)(a:À)(tab:Æ->Ő ϐ):ß where
 ex:∃(es:Array gc)(n:Ń),K.lookup a=O (.type "dict",ao,.dict es n,#[])/\KeysLit w.params es.toList/\∀x,match tab x with|O ks=>∃f,findBy ã es x=O (.ref f)/\mg (gh (Á ks))=O (.ref f)|ao=>findBy ã es x=ao
 lo:(a==e9)=bb
def afe(m:c4)(gh:Ń->Æ)(a:À)(tab:Æ->Ő ϐ):R2:=λx y H Q=>x=.A a/\∃k K,y=.S k/\tab k=O K/\∀f,m (gh (Á K))=O (.ref f)->Q (.A f) H
def SG(T:sL X.w X.K X.mg gh a tab):Kt X (afe X.mg gh a tab):=by intro e S p s σ H x y v u Q I r R h b;let(rfl,k,d,rfl,c,q):=h;cases r;let(t,rfl):=R;let(E,m,lk,keys,look):=T.ex;let hm:=gR (prog:=X.prog) I.kr lk keys;let l:=look k;rw[c]at l;let(f,F,M):=l;rwa[jV hm.typeIs oV.lookup (Hf (kP _ X.w k t) hm F (Ŗ,(.A f,H,I.tok _,Ŗ,q f M))) b]
def x_(T:sL X.w X.K X.mg gh a tab):kZ X (compareOp .In) λx y H Q=>y=.A a/\∃k,x=.S k/\Q (.B (tab k).isSome) H:=by intro p s σ H x y v u Q I r R h;let(rfl,k,rfl,q):=h;cases R;let(t,rfl):=r;let(e,m,lk,keys,look):=T.ex;erw[wpAny_in_of (kP _ X.w k t) T.lo (gR I.kr lk keys) ?_];erw[(_,H,I.tok _,?_,q)];let l:=look k;induction b:tab k with|c c=>rw[b]at l;let(f,F,M):=l;rw[F];rfl|a=>rw[b]at l;rw[l];rfl
def Bk(x:PE X (.Subscript a b p) tx)(m:fe k X.A)(n:f9 (qI X.prog X.w) X E)(o:PA X (e::es) t)(d:(e::es).all bW):PE X (.Call (.Subscript a b p) (e::es) [] pos) λσ H Q=>tx σ H λv c=>∃(f:À)(g:c')(ps:ϐ)(sp:Sp),v=.A f/\iB X.prog X.w X.K X.mg X.base (qI X.prog X.w) k f g ps sp/\keepIn X.K (.ref f)=J/\Binds X.K g ps []/\t σ c λvs i=>sp vs i Q E:=by intro P s σ H Q I h;rw[bZ,aE]at d;erw[aa (jf (x _ s σ H _ I h) λv s1 y c j r f=>?_)];let(f,g,ps,sp,u,F,z,B,q):=f;subst u;cases r;rwa[fA j.ok.mod.DL z (iD (o pos _ s1 σ c _ j q) λU s2 Z=>by let(vs,i,l,R,C):=Z;exact(l.kr,zO F m B .nil n l R (by rw[aK];rwa[C]))) (cx d.1) (eV d.2)]
structure gZ(k:Ń)(A:cp):ß where
 dp:A.depth+3*k+5<recursionLimit
 un:A.units+16*k+200<Ï
def fe.u(r:fe k A):gZ k A:=(r.dp,r.un)
def gZ.room(r:gZ k A)(h:A.handled=ao):fe k A:=(h,r.dp,r.un)
def gZ.mono(r:gZ k A)(h:j<=k):gZ j A:=(by let:=r.dp;lia,by let:=r.un;lia)
theorem gZ.deeper(r:gZ (k+1) A)(env:Û):gZ k (A.deeper env):=(by let:=r.dp;show A.depth+1+3*k+5<_;lia,by let:=r.un;show A.units+3+16*k+200<_;lia)
theorem gZ.units(r:gZ k A):A.units+64<Ï:=by let:=r.un;lia
def gZ.aaO(r:gZ k A):A.units+1<Ï:=by let:=r.un;lia
def zn(A:cp)(s:am)(H:Hp)(fs:Ł À):ß:=A.handled=ao\/∃a C t d T,A.handled=O (.ref a)/\s.heap.get? a=O (yS C t d T)/\H a=ao/\a∉fs
def Hq(X:Cx):ß:=X.A.handled=ao\/∃a C t d T,X.A.handled=O (.ref a)/\(a,yS C t d T)∈X.pn
def Hq.at{p:Ł _}{σ:È}(q:Hq X)(I:Inv X p σ H s):zn X.A s H (o7 X.stack):=by
 rcases q with q|⟨a,C,t,d,T,q,h⟩;.rwa[.inl q]
 .let(Z,b,c,f,_):=I.pin _ (il _ h);erw[.inr (a,C,t,d,T,q,Z,b,λz=>?_)];rcases aB.mp (I.zV a z)with e|e;.rwa[c e]
  .rwa[f e]
structure PU(P:ci)(w:ce)(K:Å)(mg:c4)(base:Ç)(k:Ń)(f:À)(fd:c')(ps:ϐ)(sp:Sp):ß where len:∀vs H Q E,sp vs H Q E->Á vs=(Á ps)run:∀(A:cp)(outer:Ł Û)(s:am)(H:Hp)(args:Args)(us:Ł Â)(vs:ϕ)(Q:VK)(E:XK),gZ k A->yb P w K mg base A outer s H->zn A s H (o7 outer)->BindsTo s fd args (ps.zip us)->Vals vs us->sp vs H Q E->eq (b' P w) A (.call (.ref f) args) (CR BP outer P w H s Q E0) s
abbrev Yw(P:ci)(w:ce)(K:Å)(m:c4)(b:Ç)(N:ϐ)(q:Æ)(S:Í)(f:À)(c:Â)(A:cp)(o:Ł Û)(s:am)(H:Hp)(pn:c6):Cx:={(oh BP P w K m b N q S f c A o s H E0).BX with calm:=bb,pn:=pn}
section
variable{P:ci}{w:ce}{K:Å}{mg:c4}{base:Ç}{x cN:Æ}{st:É}{ps N:ϐ}{j k:Ń}{sp:Sp}{f C:À}{fd:c'}
theorem PU.ok(F:PU P w K mg base k f fd ps sp):iB P w K mg base CX k f fd ps sp:=(F.len,λA o s H args U v Q E h e0 b r q=>eg (F.run A _ s H _ U v Q E h.u e0 (.inl h.hd) b r q) λr S z=>by induction r with|error e=>rwa[z.elim]|ok fl=>induction fl<;>rwa[z])
theorem PU.mono(F:PU P w K mg base j f fd ps sp)(h:j<=k):PU P w K mg base k f fd ps sp:=(F.len,λA o s H args u v Q E r=>F.run A _ s H _ u v Q E (r.mono h))
def BQ.okU(W:BQ K x cN st f fd)(F:cU N ps (ay st))(len:∀vs H Q E,sp vs H Q E->Á vs=Á ps)(Z:∀(i:Â)(A:cp)(h:Ł Û)(s:am)(H:Hp)(vs:ϕ)(Q:VK)(E:XK)(pn:Ł _),gZ k (A.deeper (envOfC cN (ay st) s.heap.objs.size f i))->sp vs H Q E->Hq (Yw P w K mg base N cN (ay st) f i A h s H pn)->∃T,jZ (Yw P w K mg base N cN (ay st) f i A h s H pn) (bR st) T/\T {nx:=λ_ H'=>Q .g9 H',rt:=Q} (start N vs) H):PU P w K mg base (k+1) f fd ps sp:=by
 let(oc,od,kV,doc,pm,an,i,ct,rQ,rfl,lk,oN):=W.ex;erw[(len,λA h s H args us vs Q E S e0 m G r Y=>?_)];let X:=e0.mod.DL.keeps λb o e=>(e0.bs b o e).1;erw[ur (by let:=S.dp;lia) (X _ _ lk) rfl F.co F.gen rfl (Ak X oN) (G _ _ _ _ ?_)];erw[n6 F.kind (λ(n,v) hy=>by
  rcases F.par n (my hy).1 with q|q;.rwa[.inl q]
  .rwa[.inr (q,jT _ _ _ (.inl q))]) λenv he s1 y=>?_];subst he;erw[((e0.mod.nolimit.keeps λb o e=>(e0.bs b o e).1).keeps y.toInCall.keep,Dp ?_)];let g:Inv (oh BP P w K mg _ N _ _ f i {A with handled:=ao} _ s H E0) [] _ H s1:=rE F rfl (e0.frames,e0.mod,e0.bs,e0.Az,e0.kq,e0.Ic,e0.cV,e0.bare) (len _ _ _ _ Y) r y;obtain⟨pn,D,I⟩:∃pn,(∀p∈pn,s1.heap.get? p.1=O p.2/\H p.1=ao/\p.1≠s.heap.objs.size/\p.1∉o7 h/\∀v,p.2.data≠.cell v)/\Hq (Yw P w K mg _ N _ _ f i A _ s H pn):=by
  rcases m with m|⟨a,C,t,d,U,m,B,L,M⟩;.exact([],λp D=>by done,.inl m)
  .erw[([(a,yS C t d U)],λp D=>?_,.inr (a,C,t,d,U,m,aL))];rw[aG.mp D];exact(y.toInCall.keep _ _ B,L,aF (ax B),M,by intro v z;cases z)
 let(T,ht,I):=Z i A _ s H vs Q E pn (S.deeper _) Y I;erw[cX (ht [] s1 _ H _ ((g.ok.mod,g.ok.kind,g.ok.glob,g.ok.blt,g.ok.above,g.ok.inj,g.ok.has,g.ok.P1,λz=>(aD z).elim,g.ok.frames,g.ok.Ve,g.ok.RB,g.ok.bs,g.ok.Az,g.ok.tj,g.ok.wx,g.ok.kq,g.ok.Ic),g.os,g.bare,g.base,g.loc,g.cell,g.free,g.gN,λp q=>D p (by simpa using q),g.cV,g.len) I) (λfl s' l=>?_) λe s' l=>l.elim];induction fl with|ret u=>let(v,R,H',c,rv,q):=l;exact(v,H',c.os,c.bare,c.base,c.cV,rv,q)|next=>let(R,H',c,q):=l;exact(.g9,H',c.os,c.bare,c.base,c.cV,Ŗ,q)|brk=>let(_,_,_,q):=l;rwa[é q]|cont=>let(_,_,_,q):=l;rwa[é q]
structure sJ(P:ci)(w:ce)(K:Å)(mg:c4)(base:Ç)(k:Ń)(x:Æ)(ps:ϐ)(sp:Sp):ß where ex:∃(f:À)(fd:c'),PU P w K mg base k f fd ps sp/\mg x=O (.ref f)/\keepIn K (.ref f)/\Binds K fd ps []
structure qY(P:ci)(w:ce)(K:Å)(mg:c4)(base:Ç)(k:Ń)(C:À)(x:Æ)(ps:ϐ)(sp:Sp):ß where ex:∃(f:À)(fd:c'),PU P w K mg base k f fd ps sp/\yc K C x f/\Binds K fd ps []
def sJ.toX(D:sJ P w K mg base k x ps sp):kX P w K mg base k x ps sp:=let (f,fd,F,r):=D.ex;(f,fd,F.ok,r)
def qY.toM(D:qY P w K mg base k C x ps sp):ya P w K mg base CX k C x ps sp:=let (f,fd,F,r):=D.ex;(f,fd,F.ok,r)
theorem sJ.mono(D:sJ P w K mg base j x ps sp)(h:j<=k):sJ P w K mg base k x ps sp:=let (f,fd,F,r):=D.ex;(f,fd,F.mono h,r)
theorem qY.mono(D:qY P w K mg base j C x ps sp)(h:j<=k):qY P w K mg base k C x ps sp:=let (f,fd,F,r):=D.ex;(f,fd,F.mono h,r)
theorem Src.okU(S:Src K mg x st ps)(F:cU N ps (ay st))(len:∀vs H Q E,sp vs H Q E->Á vs=Á ps)(i:∀(f:À)(e:Â)(A:cp)(o:Ł Û)(s:am)(H:Hp)(vs:ϕ)(Q:VK)(E:XK)(pn:Ł _),gZ k (A.deeper (envOfC x (ay st) s.heap.objs.size f e))->sp vs H Q E->Hq (Yw P w K mg base N x (ay st) f e A o s H pn)->∃t,jZ (Yw P w K mg base N x (ay st) f e A o s H pn) (bR st) t/\t {nx:=λ_ H'=>Q .g9 H',rt:=Q} (start N vs) H):sJ P w K mg base (k+1) x ps sp:=by let(f,fd,a,h,b):=S.ex;exact(f,fd,a.okU F len (i f),h,a.kp,b)
theorem gW.okU(S:gW K C x cN st ps)(F:cU N ps (ay st))(len:∀vs H Q E,sp vs H Q E->Á vs=Á ps)(i:∀(f:À)(e:Â)(A:cp)(o:Ł Û)(s:am)(H:Hp)(vs:ϕ)(Q:VK)(E:XK)(pn:Ł _),gZ k (A.deeper (envOfC cN (ay st) s.heap.objs.size f e))->sp vs H Q E->Hq (Yw P w K mg base N cN (ay st) f e A o s H pn)->∃t,jZ (Yw P w K mg base N cN (ay st) f e A o s H pn) (bR st) t/\t {nx:=λ_ H'=>Q .g9 H',rt:=Q} (start N vs) H):qY P w K mg base (k+1) C x ps sp:=by let(f,fd,a,h,b):=S.ex;exact(f,fd,a.okU F len (i f),h,b)
end
structure v9(P:ci)(w:ce)(K:Å)(mg:c4)(base:Ç)(k:Ń)(x:Æ)(sp:Sp):ß where ex:∃(f:À)(fd:c')(IV:ϐ)(Jx:Sp)(ds:Ł Â)(dvs:ϕ),iB P w K mg base (qI P w) k f fd IV Jx/\mg x=O (.ref f)/\keepIn K (.ref f)/\Binds K fd IV ds/\Vals dvs ds/\∀vs H Q E,sp vs H Q E->Jx (vs++dvs) H Q E
theorem v9.mono{K:Å}{m:Æ->Ő _}(D:v9 P w K m b j x sp)(h:j<=k):v9 P w K m b k x sp:=by let(f,a,I,c,ds,d,F,r):=D.ex;exact(f,a,I,c,ds,d,F.mono h,r)
def gA(X:Cx)(f:À)(sp:Sp)(dvs:ϕ)(E:XK):ß:=∀(p:Ł _)(σ:È)(H:Hp)(s:am)(Q:VK)(u:Ł _)(v:ϕ),Inv X p σ H s->Vals v u->sp (v++dvs) H Q E->bv (b' X.prog X.w) X.A (call (.ref f) u) (EP X p σ Q) X.xe s
section
variable{X:Cx}{CX:uv}{k:Ń}{f C:À}{fd:c'}{ps:ϐ}{sp:Sp}{dvs:ϕ}{ds:Ł Â}{E:XK}{x m:Æ}{p pos cr:Ó}{e o:Ä}{es:Ł Ä}{ta:TE}{t:TA}
def iB.runs(F:iB X.prog X.w X.K X.mg X.base CX k f fd ps sp)(H:fe k X.A)(b:Binds X.K fd ps ds)(d:Vals dvs ds)(a:f9 CX X E):gA X f sp dvs E:=λ_ _ _ _ _ _ _ I r h=>zO F H b d a I r h
def PU.runs(F:PU X.prog X.w X.K X.mg X.base k f fd ps sp)(a:gZ k X.A)(q:Hq X)(b:Binds X.K fd ps ds)(d:Vals dvs ds):gA X f sp dvs E:=λP σ H s Q U v I r h=>by let r2:=r.append d;erw[sI (eg (F.run X.A _ s H _ _ _ Q E a I.Ls (q.at I) (b s U I.kr (by rw[<-r2.length];rwa[F.len _ _ _ _ h])) r2 h) λr S q=>?_)];induction r with|error e=>rwa[q.elim]|ok fl=>induction fl with|ret u=>rwa[I.after q]|next=>assumption|brk=>assumption|cont=>assumption
theorem v9.runs(D:v9 X.prog X.w X.K X.mg X.base k x sp)(a:fe k X.A)(b:f9 (qI X.prog X.w) X E):∃f,X.mg x=O (.ref f)/\keepIn X.K (.ref f)/\gA X f sp [] E:=by let(f,fd,l,n,ds,dvs,F,c,d,g,v,i):=D.ex;exact(f,c,d,λP σ H s Q u j I r h=>F.runs a g v b _ σ H s Q u j I r (i _ _ _ _ (by rw[aK]at h;rwa[h])))
def Bj(R:gA X f sp dvs E)(g:Gl X x)(a:X.mg x=O (.ref f))(b:keepIn X.K (.ref f))(c:PA X (e::es) t)(j:ø ((x=="__debug__")=bb) x0)(d:ø (c7 (e::es) X.env=(bb,Ê e X.env)::c7 es X.env) o0)(D:ø ((em pos (c7 es X.env)).any (·.1)=bb) o0):PE X (.Call (.Name x p) (e::es) [] pos) (xS sp dvs E t):=by intro P s σ H Q I h;rwa[fB (iT I g a (fA I.ok.mod.DL b (iD (c pos _ s σ H _ I h) λu s1 z=>by let(v,l,i,r,q):=z;exact(i.kr,R _ σ l s1 Q u v i r q)) d D) j)]
def NA{g:Sem _}(j:PE X o ta)(c:J7 X.K C)(b:yc X.K C m f)(R:gA X f sp dvs E)(n:PA X (e::es) t)(w:ø (c7 (e::es) X.env=(bb,Ê e X.env)::c7 es X.env) o0)(D:ø ((em pos (c7 es X.env)).any (·.1)=bb) o0)(y:ø (Ê (.Call (.Attribute o m cr) (e::es) [] pos) X.env=do
   let v<-Ê o X.env
   standAt cr.atName let(f,first)<-holding [v] (getMethod v m g)callWith pos f first (em pos (c7 (e::es) X.env)) (backToKw pos (hA [] X.env))) o0):PE X (.Call (.Attribute o m cr) (e::es) [] pos) (XD C m sp dvs E ta t):=by intro P s σ H Q I h;erw[ļ (jf (j _ s σ H _ I h) λu s1 x z i B a=>?_) y];let(a,N,fs,ex,F,l,q):=a;subst ex;obtain rfl:u=Ò a:=B;rwa[uW i F c b l (fA I.ok.mod.DL b.kp (Qf (n pos _ s1 σ z _ i q) λU s2 G L d r M=>(d.kr,R _ σ L s2 Q _ (.A a::G) d (.cons Ŗ r) M)) w D)]
def IM{d:Sem _}(g:PE X o ta)(c:J7 X.K C)(b:yc X.K C m f)(R:gA X f sp dvs E)(j:ø (Ê (.Call (.Attribute o m cr) [] [] pos) X.env=do
   let v<-Ê o X.env
   standAt cr.atName let(f,first)<-holding [v] (getMethod v m d)callWith pos f first (em pos (c7 [] X.env)) (backToKw pos (hA [] X.env))) o0):PE X (.Call (.Attribute o m cr) [] [] pos) (XD C m sp dvs E ta Fa):=by intro P s σ H Q I h;erw[ļ (jf (g _ s σ H _ I h) λu s1 x n i r a=>?_) j];let(a,D,fs,ex,w,l,q):=a;subst ex;obtain rfl:u=Ò a:=r;rwa[uW i w c b l (PySem.W.callWith_K0 i.kr b.kp (R _ σ n s1 Q [.ref a] [.A a] i (.cons Ŗ .nil) q))]
end
def wc{E:c9}{x}(i:zn A s H fs)(k:s.heap.IsTuple t items)(hn:(f6 c env).length=items.size)(W:(f6 c env).findIdx? (·.1)=ao)(h:∀h',è s.heap.objs.size s.heap h'->bv (b' prog w) A (assignInOrder ((f6 c env).map (·.2)) items.toList) Q E {s with heap:=h'}):bv (b' prog w) A (assign (.Tuple c x pos) env (.ref t)) Q E s:=by
 rcases i with i|⟨a,C,T,d,v,i,g,q,r⟩;.rwa[assign_Tuple_tuple i k hn W h]
 let f:=k;let l:t≠s.heap.objs.size:=by let(o,u,_):=k;rwa[aF (ax u)]
 erw[aa (gY ?_)];delta unpack;rw[hn,W];erw[aa (bJ ?_)];erw[aa ?_];erw[aa (Km f.typeIs slot_tuple_iter.lookup ?_)];erw[ah ?_];erw[aa (bJ (iter_tuple f ?_))];erw[aa (bJ (draw_tuple l _ 0 _ _ (_,ar _ Ŗ,Ŗ,Ŗ) (f.push _) () λj Z L=>?_))];let F:List.take items.size (List.drop 0 items.toList)=items.toList:=by rw[jL];rwa[jO ⋯]
 rw[F,bN ⋯];rwa[aa (bJ (EH (s:={s with heap:=j}) i ((L.2 a (aF (ax g))).trans (ae _ g)) (aF (ax g)) Z ((f.push _).extBut L.extBut l) ⋯ λn m=>ah (h _ λb o p e=>m b o p (L.extBut b o p (ae _ e)))))]
def Ui(q:Hq X)(h:ml X es t)(hn:ø (Á (f6 es X.env)=n) o0)(W:ø ((f6 es X.env).findIdx? (·.1)=ao) o0):PG X (.Tuple es k pos) (Zi X.K n t):=by intro p s σ H v u Q I r w;let(a,x,E,c,l,w):=w;subst E;cases r;let(i,R,d,z):=I.tuple c;rwa[wc (q.at I) d (by simp[hn,<-l,R.length]) W λg f=>h _ _ σ H x _ Q (I.kept λb o e=>f b o (aF (ax e)) e) (by done) w]
end L2
namespace L2
open Builtin Builtin.ObjectAttr
abbrev ul:Ł Â:=[.type "Exception",.type "BaseException",.type "object"]
def RA{E:c9}{os:OsState}{mN:c4}(S:StoreFacts B bm L owner)(a:h.get? C=O (hY nm q C N bs bm J sn sub ab col dd k0 k1 k2 k3 k5 newId))(hn:h.Ns N mN)(M:mN "__setattr__"=ao)(f:mN name=ao)(P:hG (.type B) name=pure ao)(H:h.get? x=O o)(i:o.cls=.ref C)(j:∀c,o.data≠.cls c)(n:o.dict=ao)(R:∀h' T,h'.get? x=O {o with dict:=O h.objs.size}->h'.Ns1 h.objs.size (λy=>if y=name then O v else ao)->(∀b k,b≠x->h.get? b=O k->h'.get? b=O k)->Q ⟨⟩ (h',g,d,T,os)):bv (b' prog w) A (setAttr (.ref x) name v) Q E (h,g,d,t,os):=by
 let Z:=S.slot.bind (.ref x);let l:=S.passes (.ref x);delta setAttr callSpecial?;delta specialOf;repeat(any_goals(first|assumption|(with_reducible erw[eh H ?_];rw[i])|(with_reducible erw[iz a hn S.mro S.slot.lookup ?_];rw[M])|wp_step))
 erw[vX S.slot.plain S.entry (wpAny_check_sa S a H i ?_)];delta Builtin.«object.__setattr__»;repeat(first|rw[refuse_eq]|(rw[refuseLoop_ref,l])|(with_reducible erw[eh H ?_];rw[i])|with_reducible erw[wpAny_mroOf_exc a ?_]|(with_reducible erw[iz a hn S.mro P ?_];rw[f])|wp_step)
 rw[n,bN (by simp[typeHasDict])];split;.ext m;cases m
 split;.ext c m;rwa[Ă m (j c)]
 let W:(h.push {cls:=.type "dict",data:=.dict #[]}).get? x=O o:=ae _ H;let s:x≠h.objs.size:=aF (ax H);erw[aa (wpAny_alloc' ?_)];erw[aa (wpAny_update' W ?_)];erw[ah ?_];let p:((h.push {cls:=.type "dict",data:=.dict #[]}).update x λo=>{cls:=o.cls,dict:=O h.objs.size,data:=o.data,slots:=o.slots}).Ns h.objs.size λ_=>ao:=(_,#[],_,(x3 _ _ _ _ s.symm).trans (Heap.get?_push_at Ŗ Ŗ),Ŗ,λe U=>Ă U ⋯,λ_=>Ŗ);show bv _ _ (storeInDict h.objs.size _ name v) _ _ _;delta storeInDict newKeyGuard;erw[aa (ah (aa (wpAny_nsSet1 (Heap.Ns1.of_empty p) λh' G I=>?_)))];let(oD,X,Y,D,r,u):=G.count (Within.cons name v Within.nil);erw[aa (wpAny_lookBehind D (by rw[r];rwa[pastItsLine_dict (aA u (by rw[aJ,List.length_nil,jx];rwa[aQ _ _]))]) ?_)];wp_walk;erw[R h' _ ?_ G λb k z K=>(I.2 b (aF (ax K))).trans ((x3 _ _ _ _ z).trans (ae _ K))];erw[(I.2 x s).trans (bF _ W ?_)];let(oc,od,F,rQ):=o;induction F<;>first|rfl|exact(Heap.get?_some_iff.mp H).2
def Rx{E:c9}{os:OsState}{mN:c4}{M:c4}{Q:c9}(FB:ExcAttrBase B bm)(H:h.get? C=O (hY nm q C N bs bm J sn sub ab col dd k0 k1 k2 k3 k5 newId))(hn:h.Ns N mN)(f:mN "__getattribute__"=ao)(i:mN "__getattr__"=ao)(j:mN name=ao)(n:hG (.type B) name=pure ao)(a:h.get? x=O o)(b:o.cls=.ref C)(k:∀c,o.data≠.cls c)(L:o.dict=O D)(W:h.Ns D M)(p:M name=O v)(G:handedOut v=pure v)(r:Q v (h,g,d,t+1,os)):bv (b' prog w) A (getAttr (.ref x) name e) Q E (h,g,d,t,os):=by
 let I:=FB.ga.bind (.ref x);let s:(e&&onTheHeap (í "BaseException.__getattribute__"))=false:=by cases e<;>rfl
 let l:(í "BaseException.__getattribute__"==í "object.__getattribute__")=false:=∅
 let u:(onTheHeap (Ò C)&&í "BaseException.__getattribute__"==í "object.__getattribute__")=false:=by rw[l];rfl
 let m:(Ò C::bm).contains (.type "BaseException")=true:=by rw[List.contains_cons,FB.hasBase,B0]
 delta getAttr getAttrBy;repeat(any_goals(first|assumption|(with_reducible erw[eh a ?_];rw[b])|(with_reducible erw[iz H hn FB.mro FB.ga.lookup ?_];rw[f])|(with_reducible erw[iz H hn FB.mro FB.noGetattr ?_];rw[i])|wp_step))
 let y:builtinKind "BaseException.__getattribute__"=O .slot:=∅
 let Z:splitId "BaseException.__getattribute__"=O ("BaseException","__getattribute__"):=∅
 erw[vX FB.ga.plain PySem.F.entry_bexc_ga ?_];show bv _ _ (checkBuiltinCall "BaseException.__getattribute__" ([.ref x,.str name t],[])) _ _ _;let ha:=PySem.F.args_bexc_ga (.ref x) (.str name t);simp only[checkBuiltinCall,y,Z];erw[aa ?_];delta isInstance;repeat(first|(with_reducible erw[eh a ?_];rw[b])|(with_reducible erw[L5 H ?_];rw[m])|wp_step)
 repeat(first|(with_reducible erw[eh a ?_];rw[b])|(with_reducible erw[iz H hn FB.mro n ?_];rw[j])|wp_step)
 split;.ext c z;rwa[Ă z (k c)]
 delta instanceDict;repeat(first|(with_reducible erw[eh a ?_];rw[b])|with_reducible erw[eh H ?_]|wp_step)
 rw[L];repeat(first|(with_reducible erw[wpAny_nsGet W ?_];rw[p])|wp_step)
 rwa[r]
end L2
namespace L2
structure Hh(K:Å)(C fI:À):ß where ex:∃nm q N bs sn sub ab col dd k0 k1 k2 k3 k5,K.lookup C=O (hY nm q C N bs ul J sn sub ab col dd k0 k1 k2 k3 k5 "Exception.__new__")/\nsOkIn K N/\nsIn K N "__init__"=O (O (.ref fI))/\nsIn K N "__setattr__"=O ao/\nsIn K N "__getattribute__"=O ao/\nsIn K N "__getattr__"=O ao/\nsIn K N "number"=O ao
inductive Ű(h:Ç)(C fI:À):ß|mk(nm q N bs sn sub ab col dd k0 k1 k2 k3 k5 mN):h.get? C=O (hY nm q C N bs ul J sn sub ab col dd k0 k1 k2 k3 k5 "Exception.__new__")->h.Ns N mN->mN "__init__"=O (.ref fI)->mN "__setattr__"=ao->mN "__getattribute__"=ao->mN "__getattr__"=ao->mN "number"=ao->Ű h C fI
def SW{K:Å}(X:K.In h)(G:h.Ns N m)(e:nsIn K N n=O (O v)):m n=O v:=by
 let(o,E,p,H,d,_,f):=G;delta nsIn at e;split at e
 .ext q;let:=X _ _ q;rw[H]at this;cases this;cases d;split at e;.ext a;cases e;rw[<-f];delta nsFind findBy;rw[<-Ag,a];rfl
  .lia
 .cases e
def yT{K:Å}(X:K.In h)(q:Hh K C fI):Ű h C fI:=by let(n,Q,N,bs,s,sub,A,c,dd,k,k1,k2,i,j,a,H,b,d,e,f,g):=q.ex;rwa[.mk _ _ _ _ _ _ _ _ _ _ _ _ _ _ _ (X _ _ a) (.of_isNs (Al X H)) (SW X (.of_isNs (Al X H)) b) (fZ X H d) (fZ X H e) (fZ X H f) (fZ X H g)]
def xy:hG (.type "Exception") "number"=pure none:=by kernel_rfl
structure XQ(P:ci)(w:ce)(fs:Ł À)(H:Hp)(s:am)(e C t:À)(dx:À)(n:Î)(s':am):ß where
 os:s'.os=s.os
 bare:AllBare s'.gens
 obj:s'.heap.get? e=O (yS C t (O dx) .none)ne:dx≠e
 new:s.heap.get? dx=ao
 cV:jY P w (de H dx (.xd [("number",.I n)])) s'.heap
 keep:∀b o,b≠e->s.heap.get? b=O o->H b=ao->b∉fs->s'.heap.get? b=O o
 slot:∀b o,b≠e->s.heap.get? b=O o->H b=ao->b∈fs->∃sl,s'.heap.get? b=O {o with slots:=sl}there:∀b o,s.heap.get? b=O o->∃o',s'.heap.get? b=O o'
def jY.aie(x:jY P w H h)(fr:H a=ao)(new:fK P w (de H a o) h a o):jY P w (de H a o) h:=λb u e=>by
 let st:∀{c v},H c=O v->de H a o c=O v:=λq=>by rw[bw (b7 q fr)];rwa[q]
 by_cases d:b=a;.subst d;rw[bA]at e;cases e;rwa[new]
 .rw[bw d]at e;exact(x b u e).tm (λ_ _ _ q=>q) (λ_ q=>st q) λ_ _ q=>st q
def LC(d:X.N=(["self","number"]:ϐ))(j:XZ X.env.scope "self")(v2:XZ X.env.scope "number")(I:Inv X [] (start ["self","number"] [.A e,.I n]) H s)(k:X.s₀.heap.get? e=O (yS C t ao .none))(hn:X.H₀ e=ao)(l:e∉X.fs)(x:X.ex=[])(m:Hh X.K C g):bv (b' X.prog X.w) X.A (execs [.Assign [.Attribute (.Name "self" p1) "number" p2] (.Name "number" p3) p4] X.env) (λfl s'=>fl=.next/\∃S h' T u,Inv X [] (start ["self","number"] [.A e,.I n]) H S/\s'={S with heap:=h',toks:=T}/\h'.get? e=O (yS C t (O S.heap.objs.size) .none)/\h'.Ns1 S.heap.objs.size (λy=>if y="number"then O u else ao)/\RelV (.I n) u/\∀b o,b≠e->S.heap.get? b=O o->h'.get? b=O o) X.xe s:=by let ps:PE X (.Name _ p1) (BG 0):=zA (by rw[d];rfl) j;let pn:PE X (.Name _ p3) (BG 1):=zA (by rw[d];rfl) v2;erw[qW (EZ (jf (pn [] s _ H (λv h=>v=.I n/\h=H) I (_,Ŗ,Ŗ,Ŗ)) λu s2 v f p r q=>?_) Ŗ)];let(rfl,rfl):=q;erw[jf (ps [] s2 _ f (λv h=>v=.A e/\h=f) p (_,Ŗ,Ŗ,Ŗ)) λU S v W i R q=>?_];let(rfl,rfl):=q;cases R;let(Y,Z,N,bs,sn,sub,ab,B,dd,k0,k1,k2,k3,k5,mN,D,a,_,E,_,_,G):=yT i.kr m;rwa[RA PySem.F.store_Exception D a E G xy (i.base.keep e _ k hn l (by rw[x];rwa[dZ])) rfl (λc z=>by cases z) rfl λh' P Q L M=>gT (Ŗ,_,h',P,u,i,Ŗ,Q,L,r,M)]
def RF{K:Å}{M:Æ->Ő _}{st:É}(R:BQ K "__init__" Q st g D)(F:cU ["self","number"] ["self","number"] (ay st))(h:bR st=[.Assign [.Attribute (.Name "self" p1) "number" p2] (.Name "number" p3) p4])(l:Binds K D ["self","number"] [])(E:fe k A)(e0:yb P w K M B A a s H)(G:s.heap.get? e=O (yS C t ao .none))(hn:H e=ao)(c:e∉o7 a)(S:Hh K C g)(rn:RelV (.I n) N):eq (b' P w) A (.call (.ref g) ([.ref e,N],[])) (λr s'=>r=.ok (.ret .none)/\∃T,XQ P w (o7 a) H s e C t T n s') s:=by
 let(oc,od,kV,doc,pm,an,U,ct,rQ,rfl,lk,W):=R.ex;let X:=e0.mod.DL.keeps λb o e=>(e0.bs b o e).1;erw[ur E.depth (X _ _ lk) rfl F.co F.gen rfl (Ak X W) ((l s [.ref e,N] X Ŗ) _ _ _ _ ?_)];erw[n6 F.kind (λ(n,v) Y=>by
  rcases F.par n (my Y).1 with q|q;.rwa[.inl q]
  .rwa[.inr (q,jT _ _ _ (.inl q))]) λZ Zs s1 y=>?_];subst Zs;erw[((e0.mod.nolimit.keeps λb o e=>(e0.bs b o e).1).keeps y.toInCall.keep,Dp ?_)];let I:Inv (oh BP P w K M _ _ Q _ g U A _ s H E0).BX [] _ H s1:=(rE (vs:=[.A e,.I n]) F E.hd e0 rfl (.cons Ŗ (.cons rn .nil)) y).tw _;let d:∀x∈(["self","number"]:ϐ),XZ _ x:=λx hx=>(F.par x hx).elim .inl λq=>.inr (.inl q);let z:=LC (p1:=p1) (p2:=p2) (p3:=p3) (p4:=p4) rfl (d _ ⋯) (d _ ⋯) I G hn c rfl S;rw[<-h]at z;erw[cX z (λfl s' m=>?_) λe s' m=>m.elim];let(rfl,s3,h',tk,u,i,rfl,L,q2,ru,j):=m;erw[(Ŗ,_,i.os,i.bare,L,dA (ax (i.base.keep e _ G hn c dZ)),Ħ i.sz,?_,λb o h q n p=>j b o h (i.base.keep b o q n p dZ),λb o h q n p=>?_,λb o q=>?_)]
 .erw[(i.cV.keep λb v o h q=>j b o λz=>by lia q).aie (i.cV.fresh (aq _)) (_,q2,λf=>?_)];rw[iH];by_cases c:f="number";.subst c;rwa[ru]
  .rw[bN c,cG.mpr c];rwa[å]
 .let(sl,z):=i.base.slot b o q n p dZ;exact(sl,j b _ h z)
 .by_cases h:b=e;.exact(_,h▸L)
  .let(o',z):=i.base.there b o q dZ;exact(o',j b _ h z)
def El{E:c9}(n:bm.contains (.type "BaseException"))(c:A.handled=ao)(h:bv M A x (λv S=>∃e t d,v=.ref e/\S.heap.get? C=O (hY nm q C N bs bm hdct sn sub ab col dd k0 k1 k2 k3 k5 newId)/\S.heap.get? e=O (yS C t d .none)/\E (.ref e) S) E s):bv M A (raiseStmt env (O x) ao) Q E s:=by
 let B:(Ò C::bm).contains (.type "BaseException")=true:=by rw[List.contains_cons,n,B0]
 delta raiseStmt;erw[aa (cX h (λv S H=>?_) λ_ _ x=>x)];let(e,t,d,rfl,a,b,f):=H;let(p,g,D,T,os):=S;delta yS at b;repeat(first|with_reducible erw[eh b ?_]|with_reducible erw[eh a ?_]|(with_reducible erw[L5 a ?_];rw[B])|wp_step)
 rwa[wpAny_raiseNew_none c f]
def GU(E:XK)(C:À)(t:TE):TS:=λ_ σ H=>t σ H λv h=>∃n:Î,v=.I n/\∀d,h d=ao->E (.ref C) (O d) (de h d (.xd [("number",.I n)]))
structure Hi(K:Å)(C:À):ß where
 ex:∃(fI:À)(fd:c')(cN:Æ)(st:É)(p1 p2 p3 p4:Ó)(oI:Ú),Hh K C fI/\BQ K "__init__" cN st fI fd/\cU ["self","number"] ["self","number"] (ay st)/\bR st=[.Assign [.Attribute (.Name "self" p1) "number" p2] (.Name "number" p3) p4]/\Binds K fd ["self","number"] []/\K.lookup fI=O oI/\oI.cls=.type "function"hit:Ql K C
 sub:subIn K (.ref C) (.ref C)=O J
def XQ.un{s:am}(B:XQ P w fs H {s with heap:=a} e C t d n s')(m:Heap.MadeExcOf s.heap a e (.ref C) vs)(f:H d=ao):Un fs [] H (de H d (.xd [("number",.I n)])) s.heap s'.heap:=by
 let N:∀b o,s.heap.get? b=O o->b≠e:=λb o q z=>by rw[z,m.new]at q;cases q
 let st:∀{c v},H c=O v->de H d (.xd [("number",.I n)]) c=O v:=λq=>by rw[bw (b7 q f)];rwa[q]
 erw[(λb o q n h _=>B.keep b o (N b o q) (m.keeps b o q) n h,λb o q n h _=>B.slot b o (N b o q) (m.keeps b o q) n h,λb o q n _=>?_,λb o q _=>B.there b o (m.keeps b o q),λb x q=>st q,λb o u q=>st q,λb ps q=>(#[],by rw[st q];simp))];rw[bw λz=>?_];.rwa[n]
 .let:=B.new;rw[<-z,m.keeps b o q]at this;cases this
def IW(fr:Cd X)(o:gM X E)(G:X.calm)(R:fe (k+1) X.A)(T:Gl X x)(m:X.mg x=O (.ref C))(U:Hi X.K C)(W:PE X e0 t)(Y:ø (bW e0=J) o0)(Z:ø ((x=="__debug__")=bb) x0):PS X (.Raise (O (.Call (.Name x u) [e0] [] w)) ao pos) (GU E C t):=by intro P s σ H D I h;let(fI,fd,Q,st,p1,p2,p3,p4,oI,F,F0,Fs,b,d,hI,f):=U.ex;let(nm,qn,N,bs,sn,sub,ab,col,dd,k0,k1,k2,k3,k5,mN,g,l,hi,h1,_,_,h2):=yT I.mod.DL F;erw[aa (gY (El (C:=C) (nm:=nm) (q:=qn) (N:=N) (bs:=bs) (bm:=ul) (hdct:=J) (sn:=sn) (sub:=sub) (ab:=ab) (col:=col) (dd:=dd) (k0:=k0) (k1:=k1) (k2:=k2) (k3:=k3) (k5:=k5) (newId:="Exception.__new__") Wg.hasBase (I.ok.hd G) (aa (cX (wpAny_Call_ofName (iT I T m ?_ Z)) (λv S c=>aa (gY (ah c))) λ_ _ x=>x))))];simp only[cx (es:=[]) (env:=X.env) Y];erw[aa (bJ (eM (dh (jf (W _ s σ H _ I h) λv s2 y H1 i r q=>fN (aa (gY ?_))))))];let(n,rfl,q):=q;let(h2,g2,d2,t2,o2):=s2;let a:=i.bk _ _ g;erw[aa (wpAny_keeperOf_exc a ?_)];erw[aa (wpAny_call_exc_init Wg a (l.keeps i.bk) hi (i.kr _ _ hI) f λh' e m=>?_)];let(t0,p,_,_):=m.there;let j:Inv X _ σ H1 {heap:=h',gens:=g2,drawn:=d2,toks:=t2,os:=o2}:=i.kept m.keeps;let M:=i.cV.none_of m.new;erw[sI (eg (RF F0 Fs b d (R.make C [v] []) (j.Ls.make C [v] []) p M (λb=>by let(_,ob,ho,_):=i.stack.mem b;let:=m.new;rw[ho]at this;cases this) F r) λres s' hq=>?_)];let(rfl,dx,B):=hq;let L:=j.cV.none_of B.new;exact(Ŗ,aa (bJ (wpAny_point (ah (e,t0,_,Ŗ,(B.keep C _ (λz=>by let:=m.new;rw[<-z,a]at this;cases this) (m.keeps _ _ a) (i.bs _ _ g).2 λb=>by let:=(i.stack.mem b).1;rw[g]at this;cases this),B.obj,o.WY fr i B.os (B.un m L) B.cV B.bare B.obj (by rw[bw (cI B.ne)];rwa[M]) m.new (q dx L))))))
structure Hk(w:ce)(K:Å)(a:À)(tab:Æ->Ő ϐ):ß where
 ex:∃(es:Array gc)(n:Ń),K.lookup a=O (.type "dict",ao,.dict es n,#[])/\KeysLit w.params es.toList/\∀x,match tab x with|O ks=>∃y t,ks=[y]/\findBy ã es x=O (.str y t)|ao=>findBy ã es x=ao
 lo:(a==e9)=bb
def XF(t:Æ->Ő ϐ)(T a:TE):TE:=λσ H Q=>T σ H λy b=>∃x,y=.S x/\a σ b λz h=>match t x with|O k=>∀y,k=[y]->Q (.S y) h|ao=>Q z h
def TH(T:Hk X.w X.K a b)(r:Gl X n)(v:X.mg n=O (.ref a))(A:PE X e g)(B:PE X f j)(C:(n==("__debug__":Æ))=bb)(N:ft (.Name n p) "get" X.env (Ê (.Name n p) X.env)=Ê (.Name n p) X.env)(L:((em d (c7 [e,f] X.env)).all (λx=>!x.1)&&(backToKw d (hA [] X.env)).all (λx=>x.1.isSome)&&Đ (Á [e,f]+Á ([]:Ł fm)+(if([]:Ł fm).isEmpty then 0 else 1)<30))=J)(D:(cr.endLine==d.line))(E:c7 [e,f] X.env=[(bb,Ê e X.env),(bb,Ê f X.env)]):PE X (.Call (.Attribute (.Name n p) "get" cr) [e,f] [] d) (XF b g j):=by intro P s σ H Q I h;let(es,k,lk,keys,look):=T.ex;let c:=gR (prog:=X.prog) I.kr lk keys;erw[sH N L D Ŗ (iT I r v ?_ C)];erw[(_,_,jw,eA,uq,c.typeIs,c.noDict,?_)];rw[E];erw[gG Ŗ (eM (dh (jf (A _ s σ H _ I h) λu s1 y F G R Z=>Z.elim λx Z=>Z.elim λM U=>dh (jf (B _ s1 σ F _ G U) λW s2 z m i rz q=>fN ?_))))];subst M;let(t,rfl):=R;let Y:=gR (prog:=X.prog) i.kr lk keys;erw[sG eA Y.typeIs jS (qT _ _ _) (RX _ a (kP _ X.w x t) T.lo W) (_,Y,?_)];let l:=look x;induction o:b x with|c ks=>rw[o]at l q;let(y,t',rfl,fb):=l;rw[fb];exact(.S y,m,i.tok _,(_,Ŗ),q y Ŗ)|a=>rw[o]at l q;rw[l];exact(z,m,i.tok _,rz,q)
def yC:c8 X N s f S H₀ (λ_ _ _=>ŧ)=jC X N s f S H₀:=by
 let e:(c8 X N s f S H₀ λ_ _ _=>ŧ).xe=λ_ _=>ŧ:=by funext e a;erw[propext (λh=>?_,é)];let(_,_,_,_,_,_,_,_,_,_,_,q):=h;rwa[q]
 show{jC X N _ f _ _ with xe:=(c8 X N s f S H₀ λ_ _ _=>ŧ).xe}=_;rw[e];rfl
def j_{P:ß}(h:(c8 X N s f S H λ_ _ _=>ŧ).xe e s'):P:=by rw[yC]at h;rwa[h.elim]
def Tv(S:fj X d a)(u:X.calm)(j:∀σ:È,Á σ=Á X.N->lQ X d a σ (f σ))(k:PI X tg iter wi)(l:∀F b c,PG (jC X d a F b c) tg g)(m:∀F b c,qZ (jC X d a F b c) i t)(o:∀F b c,PE (jC X d a F b c) E T)(q:ø (∀x,hB iter X.env x=pure x) hH):PE X (.ListComp E [(tg,iter,i,0)] a pos) (vI wi g t T f):=by intro p s σ H Q I h;rwa[yz S u j k (λ_ _ _=>by rw[yC];rwa[l _ _ _]) (λ_ _ _=>by rw[yC];rwa[m _ _ _]) (λ_ _ _=>by rw[yC];exact(o _ _ _).n 0) q AK (λ_ _ e r h=>j_ h) I (cw _) h]
def N2(G:X.N.Nodup)(K:X.N[i0]?=O y)(L:Loc X.env.scope y)(S:fj X k a)(nu:X.calm)(M:∀σ:È,Á σ=Á X.N->lQ X k a σ (r σ))(hi:PI X tg iter wi)(hg:∀F c d,PG (c8 X k a F c d E1) tg g)(hc:∀F c d,qZ (c8 X k a F c d E1) i tc)(he:∀F c d,PE (c8 X k a F c d E1) E te)(P:∀{use:Ő (Â->Sem Unit)}{R:c9}{p:c6}{σ:È}{F:Ł À}{j:am}{t:Hp}{acc:À},Inv X p σ t j->(∀b∈F,kY X p t b)->∀e s',(c8 X k a F j t E1).xe e s'->notedBy (b' X.prog X.w) X.A (compEnvC a (pU X.env.cells a.names []) j.heap.objs.size X.env) (λe s'=>compPost (b' X.prog X.w) X.A X.xe use R (.ref acc) j.heap.objs.size (.error e) s') e s')(hs:ø (∀x,hB iter X.env x=pure x) hH)(T:ø (g7 (.ListComp E [(tg,iter,i,0)] a pos) (O (.Name y py)) OL.line X.env=pure J) o0)(U:ø (X.fn y=J\/X.env.scope.names.lookup y=O .local) W1):PS X (.Assign [.Name y py] (.ListComp E [(tg,iter,i,0)] a pos) OL) (vH (vI wi g tc te r) (mm i0)):=by
 intro p s σ H D I h;rw[exec_Assign_Name_used _ _ _ _ T];erw[aa (gY (aa ?_))];erw[aa (cX (yz S nu M hi hg hc (λ_ _ _=>(he _ _ _).n 0) hs (λ{F j s' σ' t H' acc}u W l q=>?_) (λu W=>P u W) I (cw _) h) (λ_ s' hq=>ah (ah hq)) λ_ _ e=>e)];let(m,z,_):=id l.loc;let z:s'.heap.Ns j.heap.objs.size m:=z;let IX:=by erw[u.AE l.os l.base l.cV l.bare λb f=>?_];.let(_,Q,q2,Y,Z,q5):=W b f;exact(Y,Q,Z,q5)
 let cok:=u.AX (aq _) l.free;let(oC,esC,epC,C,hrC):=id z;erw[wpAny_assign_Name (iW (IX.pinned (λb f=>by rw[aG.mp f];rwa[cok]) λb f=>by rw[aG.mp f];exact(oC,C,λv g=>nofun)) G K L (v:=.A acc) rfl (λsa Ia=>?_) U)];erw[(m,z.at' λo e=>?_,λh' Ka=>(_,H',?_,q))];.rw[C]at e;rwa[e▸(Ia.pin _ (bG _ (bG _ (jJ ⋯ C)))).1]
 .let(q0,Q,q2,Y,Z,q5):=cok;let Iu:=Ia.lF;let B:∀b o,b ∉[j.heap.objs.size]->sa.heap.get? b=O o->h'.get? b=O o:=λb o f e=>(Ka.2 b (by simpa using f)).trans e;erw[Iu.step (λb f=>?_) (λb o _ _ f e _=>B b o f e) (λb o _ _ f e _=>(_,B b o f e)) (λb o _ _ n=>n) (λb o f e=>(o,B b o f e)) (λ_ _ e=>e) (λ_ _ _ e=>e) (λb ps e=>(#[],by done)) (λm' hm'=>hm'.at' λo e=>B _ o (by simpa using cI Q) e) (tW Iu.cV q0 Ka) Iu.bare];rw[aG.mp f];exact(Y,Q,Z,q5)
def N3(fr:Cd X)(o:gM X E1)(h:X.N.Nodup)(b:X.N[I]?=O y)(d:Loc X.env.scope y)(S:fj X n s)(u:X.calm)(j:∀σ:È,Á σ=Á X.N->lQ X n s σ (c σ))(l:PI X tg iter wi)(m:∀f a H,PG (c8 X n s f a H E1) tg g)(q:∀f a H,qZ (c8 X n s f a H E1) i t)(r:∀f a H,PE (c8 X n s f a H E1) e T)(v:ø (∀x,hB iter X.env x=pure x) hH)(w:ø (g7 (.ListComp e [(tg,iter,i,0)] s pos) (O (.Name y p)) L.line X.env=pure J) o0)(k:ø (X.fn y=J\/X.env.scope.names.lookup y=O .local) W1):PS X (.Assign [.Name y p] (.ListComp e [(tg,iter,i,0)] s pos) L) (vH (vI wi g t T c) (mm I)):=N2 h b d S u j l m q r (λz F=>AJ fr o z F) v w k
end L2
namespace PySem
open Builtin Builtin.Str
end PySem
namespace L2
open PySem.SeqAt PySem.MeetsSeq PySem.Builtin PySem.Builtin.Str
end L2
namespace L2
def XG(K:Å)(R:À)(i j:Ń)(sp:Sp)(t:TA)(ts:À->À->Ő À->TS):TS:=λD σ H=>t σ H λs b=>∃E1:XK,sp s b (λv c=>D.nx (σ.set j (O v)) c) E1/\∀C o h a,E1 (.ref C) o h->subIn K (.ref C) (.ref R)=O J/\ts a C o (AZ i D) (σ.set i (O (.A a))) h
theorem Inv.BX{p:Ł _}{σ:È}(I:Inv X.BX p σ H s):Inv X p σ H s:=(I.ok.mh,I.os,I.bare,I.base,I.loc,I.cell,I.free,I.gN,I.pin,I.cV,I.len)
def Uy(fr:Cd X)(E:X.N.Nodup)(W:X.N[i]?=O n)(Z:X.env.scope.names.lookup n=O .local)(hf:X.fn n)(hg:Gl X x)(hm:X.mg x=O (.ref R))(hR:Ql X.K R)(hs:∀pn a C d,Hd (X.hn pn a) a C d->jZ (X.hn pn a) (p::B) (ts a C d))(D0:kX X.prog X.w X.K X.mg X.base k f ps sp)(hr:fe k X.A)(c:Gl X f)(ha:PA X.BX (e::es) T)(hj:X.N[j]?=O y)(hy:Loc X.env.scope y)(g:X.fn y\/X.env.scope.names.lookup y=O .local)(hd:(x=="__debug__")=bb)(Zr:(f=="__debug__")=bb)(l:(e::es).all bW):PS X (.Try [.Assign [.Name y Y] (.Call (.Name f Q) (e::es) [] t) S] [.ExceptHandler (O (.Name x L)) (O n) (p::B) M] [] [] pos) (XG X.K R i j sp T ts):=by intro P s σ H D I h;let(fa,fd,F,m,hk,hb):=D0.ex;rw[bZ,aE]at l;erw[Pe fr E W Z hf hg hm hR I.ok hs ?_ hd];erw[qW (wpAny_Assign_Name (fB (iT I c m (fA I.ok.mod.DL hk (cX (ha t _ s σ H _ (I.tw _) h) (λU s1 zz=>?_) λ_ _ z=>z.elim) (cx l.1) (eV l.2)) Zr)) Ŗ)];let(vs,G,I1,r,E1,q,hh):=zz;replace I1:=I1.BX;erw[(I1.kr,?_)];erw[sI (eg (F.run X.A _ s1 G (U,[]) U vs _ E1 hr I1.Ls (by simpa using hb s1 U I1.kr (by simpa using by rw[<-r.length];rwa[F.len _ _ _ _ q])) r q) λo s' b=>?_)];induction o with|error e=>exact(E1,σ,G,s1,I1.alx _,b,hh)|ok fl=>induction fl with|ret u=>let(v,H2,I2,rv,q2):=I1.after b;rwa[iW I2 E hj hy rv (λs2 I3=>gT (_,H2,I3,q2)) g]|next=>rwa[b.elim]|brk=>rwa[b.elim]|cont=>rwa[b.elim]
def ř(i:Ń)(a:À)(d:Ő À):TE:=λσ H Q=>σ[i]?=O (O (.A a))/\∃D m,d=O D/\H D=O (.xd [("number",.I m)])/\Q (.I m) H
def K_(g:Hd X a C d)(j:Hh X.K C f)(hn:PE X (.Name n p) (BG i)):PE X (.Attribute (.Name n p) "number" p2) (ř i a d):=by intro P s σ H Q I h;let(k,D,m,rfl,L,q):=h;erw[Fb Ŗ (jf (hn _ s σ H (λv l=>v=.A a/\l=H) I (_,k,Ŗ,Ŗ)) λu s1 v o b R z=>?_)];let(rfl,rfl):=z;cases R;let(t,T,w):=g.pn;let(Z,_):=b.pin _ (il _ w);let(U,Y,N,bs,sn,sub,ab,x,dd,k0,k1,k2,k3,k5,mN,y,e,_,_,B,E,G):=yT b.kr j;let(mA,W,r):=b.cV D _ L;let(w',M,S):=mz.some_of (r "number");let(tk,rfl):=S;rwa[Rx PySem.F.attrBase_Exception y e B E G xy Z rfl (λc z=>by cases z) rfl W.ns M rfl (.I m,o,b.tok _,(_,Ŗ),q)]
def NF(X:Cx)(a:À):ß:=∀o u,X.H₀ a≠O (.mE o u)
def Inv.aff{σ:È}(I:Inv X be σ H s)(e:H a=O o)(t:∀xs,o≠.T xs)(g:∀ps,o≠.Vz ps)(nw:∀y,o≠.own y)(i:NF X a)(new:fK X.prog X.w (de H a u) s.heap a u):Inv X be σ (de H a u) s:=by
 let N:∀{b v},H b=O v->v≠o->de H a u b=O v:=λ{b v}q n=>by rw[bw λz=>n nofun];rwa[q]
 let d:∀{b},H b=ao->de H a u b=none:=λ{b}q=>by rw[bw λz=>nofun];rwa[q]
 erw[(I.ok,I.os,I.bare,(I.base.keep,I.base.slot,λb o q n j=>d (I.base.free b o q n j),I.base.there,λb xs q=>N (I.base.oE b xs q) λz=>t xs z.symm,λb f U q=>?_,λb ps q=>?_),I.loc,I.cell,d I.free,λx c q=>d (I.gN x c q),λp k=>?_,λb v q=>?_,I.len)]
 .by_cases h:b=a;.subst h;rwa[Ă q (i f U)]
  .rw[bw h];rwa[I.base.mG b f U q]
 .let(m,z):=I.base.oA b ps q;exact(_,N z λy=>g _ y.symm)
 .let(Z,l,r):=I.pin p k;exact(Z,d l,r)
 .by_cases h:b=a;.subst h;rw[bA]at q;cases q;rwa[new]
  .rw[bw h]at q;exact(I.cV b v q).tm (λ_ _ _ z=>z) (λc z=>N z λy=>nw _ y.symm) λc xs z=>N z λy=>t xs y.symm
theorem Inv.mE{σ:È}{H:Hp}{s:am}{a:À}{aO:Ł (cs×V)}(I:Inv X be σ H s)(e:H a=O (.dK aO)):∃ob,s.heap.get? a=O ob/\NF X a/\Inv X be σ (de H a (.mE ob (.dK aO))) s:=by
 let(ob,h):=(I.cV a _ e).there;let n:NF X a:=λo u q=>by let:=I.base.mG a o u q;rw[e]at this;cases this
 exact(ob,h,n,I.aff e (λ_ z=>by cases z) (λ_ z=>by cases z) (λ_ z=>by cases z) n (h,I.cV a _ e))
def Inv.alq{σ:È}(I:Inv X be σ H s)(e:H a=O (.mE ob (.dK aO)))(n:NF X a):Inv X be σ (de H a (.dK aO)) s:=by let(_,q):=I.cV a _ e;rwa[I.aff e (λ_ z=>by cases z) (λ_ z=>by cases z) (λ_ z=>by cases z) n q]
def qz(a:À)(o:Ú)(ks:ϐ)(H:Hp):ß:=∃A:Ł _,H a=O (.mE o (.dK A))/\A.map (·.1)=ks.map à
def ju(a:À)(o:Ú)(ks:ϐ):It:=(λi H=>qz a o ks H/\i<Á ks,λi H x h=>h=H/\∀y,ks[i]?=O y->x=.S y,λi H=>qz a o ks H/\Á ks<=i)
def FF{p:Ł _}{σ:È}(I:Inv X p σ H s)(e:qz a b ks H)(h:∃es,b.data=.dict es ep):∃vs:Ł (cs×Â),(vs.map (·.1))=ks.map à/\s.heap.DictAt (dO X.prog X.w) a vs ep:=by let(A,e,k):=e;let(c,_,_,vs,rel,o,es,E,d,g,f,i):=I.cV a _ e;rw[c]at d;cases d;let(L,h):=h;rw[f]at h;cases h;exact(vs,by rw[<-rel.keys];rwa[k],b,es,c,g,f,i)
def JU{K:Å}(v:∃es,u.data=.dict es ep):uz P w K tg (ju a u ks) [t] t λi h=>h.IsKeyIter t a i (Á ks) ep:=nE (n:="dict_keyiterator") rfl (λ(o,e,c,d)=>(o,_,e,c,d)) (λst k=>st.at k) (λ{X i p s σ H E Q}g j l x I st m q=>by
  subst g j l;let(r,z):=m;let(A,f,D):=FF I r v;let hl:=by let:=cb Á f;simpa using this
  let b:(A.map (·.1))[i]?=O (à ks[i]):=by rw[f,aR,av z];rfl
  rw[aR]at b;obtain⟨⟨k,L⟩,B,b⟩:=cZ.mp b;cases b;rw[<-hl]at st;erw[wpAny_pyNext_dict_item st D B λkey C W F G=>?_];let(T,rfl):=Vf W;rwa[q _ (.S _) C _ (_,Ŗ) (Ŗ,λy M=>nofun) (by rw[<-hl];rwa[F]) G.extBut]) (λ{X i p s σ H E Q}g j l x I st m q=>by
  subst g j l;let(r,z):=m;let(A,f,D):=FF I r v;let hl:=by let:=cb Á f;simpa using this
  rw[<-hl]at st;rwa[wpAny_pyNext_dict_end (I.ok.hd x) st D (er ()) q]) λst h=>G3 st h
def FW(X:Cx)(t:TE):TI:=λσ H R=>t σ H λx h=>∃a b k,x=.A a/\b.map (·.1)=k.map à/\((h a=O (.dK b)/\∀o,NF X a->R (ju a o k) (de h a (.mE o (.dK b))))\/∃o,h a=O (.mE o (.dK b))/\R (ju a o k) h)
def Uk(j:PE X l t):PI X tg l (FW X t):=by
 intro p s σ H R I h;erw[jf (j _ s σ H _ I h) λv s1 x G m u Q=>?_];let(a,w,K,e,y,Q):=Q;subst e;cases u;let f:∀{g:Hp}{c:Ú},Inv X p σ g s1->g a=O (.mE c (.dK w))->R _ g->bv _ X.A _ (Fc X _ σ tg R) X.xe s1:=λ{g c}i d q=>by
  let(k,_,z,B,rel,o,E,L,n,C,r,D):=i.cV a _ d;rw[k]at n;cases n;let j:Á B=Á K:=by let:=cb Á y;rw[<-rel.length];simpa using this
  erw[wpAny_pyIter_dict z (c,E,k,C,r,D) ?_];erw[(_,_,_,_,_,Ŗ,i.kept λb o e=>ae _ e,JU (E,r),(_,ar _ Ŗ,Ŗ,by rw[j];rfl),λb F=>?_,q)];let e:=by simpa using F
  subst e;rwa[i.AX (aq _) (i.cV.fresh (aq _))]
 rcases Q with ⟨d,q⟩|⟨c,d,q⟩;.let(c,k,N,i):=m.mE d;rwa[f i bA (q c N)]
 .rwa[f m d q]
def O9(X:Cx)(D:Ö):Ö:={nx:=λσ H=>(∃a o A,NF X a/\H a=O (.mE o (.dK A))/\D.nx σ (de H a (.dK A)))\/D.nx σ H,rt:=λ_ _=>ŧ,bk:=λ_ _=>ŧ,ct:=λ_ _=>ŧ}
def GA(d:PassesOwn (b' X.prog X.w) X.A X.env X.xe)(j:X.calm)(k:PE X iter t)(l:PG X tg g)(m:jZ X b T)(n:∀x,hB iter X.env x=pure x):PS X (.For tg iter b [] pos) λD σ H=>JP (FW X t) g T (O9 X D) σ H:=by
 intro p s σ H D I h;erw[cX (Ea d j (Uk k) l m n _ s σ H _ I h) (λf s1 q=>?_) λ_ _ z=>z]
 induction f with|next=>
  let(c,o,i,q):=q;rcases q with ⟨a,r,u,N,e,q⟩|q;.exact(c,_,i.alq e N,q)
  .exact(c,_,i,q)|ret v=>let(_,_,_,_,_,q):=q;rwa[q.elim]|brk=>let(_,_,_,q):=q;rwa[q.elim]|cont=>let(_,_,_,q):=q;rwa[q.elim]
def wb(h:Ç)(d:À)(es:Array gc)(ep:Ń):ß:=∃o,h.get? d=O o/\o.ExactDict/\o.data=.dict es ep
def wb.typeIs{s:am}(x:wb s.heap d es ep):s.TypeIs (.ref d) "dict":=let (o,h,H,_):=x;(o,h,H.1)
def wb.at(x:wb h d es ep)(e:∀o,h.get? d=O o->h'.get? d=O o):wb h' d es ep:=let (o,H,r):=x;(o,e o H,r)
def Om{E:c9}{Q:c9}(b:(d==e9)=bb)(H:wb s.heap d es ep)(c:Q (.ref s.heap.objs.size) {s with heap:=s.heap.push {cls:=.type "dict_keyiterator",data:=.fields #[.ref d,.int 0 0,.int es.size 0,.int ep 0]}}):bv (b' prog w) A (pyIter (.ref d)) Q E s:=by let h:=H.typeIs;let(o,a,e,D):=H;erw[pG h WN (bK WN h PySem.F.entry_dict_iter ?_ (PySem.F.args_dict_iter_1 _))];erw[aa ?_];erw[aa (uu h ?_)];show bv _ _ (pure (Ò d)) _ _ s;erw[ah ?_];show bv _ _ (ū d>>=_) _ _ s;delta ū;rw[bN (by rw[b];rwa[aD])];rwa[aa (ah (aa (B9 a D (aa (Kl a D (aa (bE (ah (_,Ŗ,_,_,(_,ar _ Ŗ,Ŗ),dU.lookup,c)))))))))]
def Oq{E:c9}(hit:s.heap.IsKeyIter it d i es.size ep)(m:wb s.heap d es ep)(b:es[i]?=O x)(c:∀h',h'.IsKeyIter it d (i+1) es.size ep->Ý it s.heap h'->Q (O x.key) {s with heap:=h'}):bv (b' prog w) A (d4 (.ref it)) Q E s:=by
 let(o,a,e,H):=id hit;let(f,D,N,h):=m;delta d4;erw[aa (eJ (bC (name:=ì "__next__") hit.typeIs dU (bK dU hit.typeIs Ae ?_ (x5 _))))];erw[aa (ah ?_)];erw[aa ?_];erw[aa ?_];first|erw[aa (gE hit.typeIs (ah ?_))]|erw[aa (pR hit.typeIs (ah ?_))]
 erw[aa (jW a H ?_)];let Z:Builtin.Dict_items.ownsTuple "dict_keyiterator"=false:=∅
 simp only[Z,dP,gS];show bv _ _ (if(Ò d==Ô)=J then _ else _) _ _ s;rw[bN (show ¬(Ò d==Ô)=J from aD)];erw[aa (ah ?_)];erw[aa (B9 D h ?_)];rw[bN ⋯];erw[aa (ah ?_)];erw[aa (Kl D h ?_)];rw[bN ⋯];erw[ah ?_];simp only[show ¬ i<0 from (),gS,dE,b];erw[aa ?_];first|erw[aa (gE hit.typeIs (ah ?_))]|rfl
 erw[aa (WK hit.typeIs ?_)];show bv _ _ (setField _ 1 (c5 (i+1))>>=_) _ _ s;erw[aa (cE a H ⋯ ?_)];let W:(s.heap.update it (ä (·.setIfInBounds 1 (c5 (i+1))))).IsKeyIter it d (i+1) es.size ep:=(_,bF _ a (cO (bP H _)),(jR ..).trans e,by rw[bP H];simp[c5]);rwa[aa (bJ (aa (WK W.typeIs (ah (ah (_,Ŗ,ah (c _ W (cj ..))))))))]
def US{E:c9}(c:A.handled=ao)(hit:s.heap.IsKeyIter it d i es.size ep)(m:wb s.heap d es ep)(x:es.size<=i)(e:∀h',è it s.heap h'->Q ao {s with heap:=h'}):bv (b' prog w) A (d4 (.ref it)) Q E s:=by
 let(o,H,f,b):=id hit;let(g,D,N,h):=m;delta d4;erw[aa (eJ (bC (name:=ì "__next__") hit.typeIs dU (bK dU hit.typeIs Ae ?_ (x5 _))))];erw[aa (ah ?_)];erw[aa ?_];erw[aa ?_];first|erw[aa (gE hit.typeIs (ah ?_))]|erw[aa (pR hit.typeIs (ah ?_))]
 erw[aa (jW H b ?_)];let Z:Builtin.Dict_items.ownsTuple "dict_keyiterator"=false:=∅
 simp only[Z,dP,gS];show bv _ _ (if(Ò d==Ô)=J then _ else _) _ _ s;rw[bN (show ¬(Ò d==Ô)=J from aD)];erw[aa (ah ?_)];erw[aa (B9 D h ?_)];rw[bN ⋯];erw[aa (ah ?_)];erw[aa (Kl D h ?_)];rw[bN ⋯];erw[ah ?_];simp only[show ¬(i:Î)<0 from (),gS,dE,eY x];erw[aa ?_];first|erw[aa (gE hit.typeIs (ah ?_))]|erw[aa (pR hit.typeIs (ah ?_))]
 show bv _ _ (setField (.ref it) 0 .none>>=_) _ _ s;erw[aa (cE H b ⋯ ?_)];show bv _ _ (newExc (.type _) []>>=_) _ _ _;erw[aa ?_];erw[aa (bE ?_ (by size_fits))];erw[aa (pF (a:=Ô) Ŗ ?_)];erw[bE ?_ (by size_fits)];erw[aa (pQ ?_)];rw[c];erw[aa (ah (pH ?_))];rwa[aa (gr (_,ar _ Ŗ,Ŗ) jU (ah (e _ (((cj ..).extBut.push _).push _))))]
def Jo(f:A.handled=ao)(I:À)(m:d≠I):Walks prog w A I [I,d] [I] es.size (λi v=>∃e,es[i]?=O e/\v=e.key) λi h=>h.IsKeyIter I d i es.size ep/\wb h d es ep where
 sub:=λb a=>nofun
 frame:=λ_ _ _ st k=>(st.1.at λo e=>k I ⋯ o e,st.2.at λo e=>k d ⋯ o e);item:=λi s Q E g st H=>by rwa[Oq st.1 st.2 (x:=es[i]) ⋯ λc W K=>H _ c _ (_,⋯,Ŗ) (W,st.2.at λo e=>(K.2 d m).trans e) λb o a e=>K.extBut b o (λh=>a (by simp[h])) e]
 done:=λs Q E st H=>US f st.1 st.2 (aq _) λc Z=>H c _ λb o a e=>Z b o (λh=>a (by simp[h])) e;self:=λ_ _ _ _ st H=>G3 st.1 H
def UT(lo:(d==e9)=bb):KdlSrc prog w "dict" d d es.size (λi v=>∃e,es[i]?=O e/\v=e.key) λh=>wb h d es ep where type:=λ_ H=>H.typeIs;there:=λ_ H=>let (_,a,_):=H;(ax a,ax a);keep:=λ_ _ H k=>H.at λo e=>k d (.inl Ŗ) o e;notList:=Ŗ;notTuple:=Ŗ;hint:=λ_ _ _ _ H q=>PySem.W.kdl_hint_dict H.typeIs q;iter:=λ_ s b H=>(_,_,λ_ _ q=>Om lo H q,Jo b _ (aF (let (_,a,_):=H;ax a)),((_,ar _ Ŗ,Ŗ,Ŗ),H.at λo e=>ae _ e))
end L2
namespace L2
open PySem.W
def l7{α:Type}(f:Ń->Ń->Þ):KasT α->α|.ret a=>a|.ask i j k=>l7 f (k (f i j))
def iE{α:Type}(n:Ń)(R:α->ß):KasT α->ß|.ret a=>R a|.ask i j k=>i<n/\j<n/\∀b,iE n R (k b)
theorem iE.bind{R:α->ß}{r:β->ß}{f:α->KasT β}:∀{t:KasT α},iE n R t->(∀a,R a->iE n r (f a))->iE n r (t.bind f)|.ret a,h,H=>H a h|.ask i j k,h,H=>(h.1,h.2.1,λb=>iE.bind (h.2.2 b) H)
theorem A6{f:Ń->Ń->Þ}{cmp:Ń->Ń->(Þ->am->ß)->am->ß}{G:α->am->ß}{s:am}(H:∀i j,i<n->j<n->∀C:Þ->am->ß,C (f i j) s->cmp i j C s):∀(t:KasT α),iE n R t->(R (l7 f t)->G (l7 f t) s)->t.kasWp cmp G s|.ret a,h,q=>q h|.ask i j k,h,q=>H i j h.1 h.2.1 _ (A6 H _ (h.2.2 _) q)
abbrev Pm(n:Ń)(p:Array Ń):ß:=p.Perm (Ù n).toArray
def Pm.lt(hn:0<n)(h:Pm n p)(i:Ń):p.getD i 0<n:=by rw[mJ];induction e:p[i]? with|a=>done|c x=>let:=(h.mem_iff).mp (Array.mem_of_getElem? e);simpa using this
def Pm.rev(h:Pm n p)(i j:Ń):Pm n (kas_rev p i j):=(mirror_perm _ _ _ _).trans h
theorem DF(hn:0<n)(h:Pm n p):∀(f k:Ń),iE n (λ_=>æ) (kas_asc p f k)|0,k=>Ť|f+1,k=>(h.lt hn _,h.lt hn _,λb=>by induction b with|d=>done|e=>rwa[DF hn h f _])
theorem tX(hn:0<n):∀(f:Ń){p:Array Ń}(k q:Ń),Pm n p->iE n (λr=>Pm n r.1) (kas_desc f p k q)|0,p,k,q,h=>h|f+1,p,k,q,h=>(h.lt hn _,h.lt hn _,λb=>by
  induction b with|d=>
   show iE n _ (if q>0 then _ else _);split;.rwa[tX hn f _ 0 (h.rev _ _)]
   .rwa[tX hn f _ 0 h]|e=>erw[(h.lt hn _,h.lt hn _,λb=>?_)];induction b with|d=>rwa[h]|e=>rwa[tX hn f _ _ h])
def FY(hn:0<n)(h:Pm n p)(k m:Ń):iE n (λr=>Pm n r.2) (kas_tail3 k m p):=(DF hn (h.rev 0 k) _ _).bind λ_ _=>h.rev 0 k
def FX(hn:0<n)(h:Pm n p)(k m:Ń):iE n (λr=>Pm n r.2) (kas_descPart k m p):=(tX hn _ _ _ h).bind λr H=>by
 split;.rwa[FY hn (H.rev _ _) _ _]
 .rwa[FY hn H _ _]
def L4(hn:0<n)(h:Pm n p)(m:Ń):iE n (λr=>Pm n r.2) (kas_count m p):=(DF hn h _ _).bind λk _=>by
 split;.rwa[h]
 .split;.erw[(h.lt hn _,h.lt hn _,λb=>?_)];induction b with|d=>rwa[h]|e=>rwa[FX hn (h.rev _ _) _ _]
  .rwa[FX hn h _ _]
theorem uY(hn:0<n)(h:Pm n p)(k:Ń):∀(f l r:Ń),iE n (λ_=>æ) (kas_place p k f l r)
 |0,l,r=>Ť|f+1,l,r=>by
  delta kas_place;split;.done
  .erw[(h.lt hn _,h.lt hn _,λb=>?_)];induction b with|d=>rwa[uY hn h k f _ _]|e=>rwa[uY hn h k f _ _]
theorem L3(hn:0<n):∀(f:Ń){p:Array Ń}(k:Ń),Pm n p->iE n (Pm n) (kas_bin f p k)|0,p,k,h=>h|f+1,p,k,h=>(uY hn h k _ _ _).bind λl _=>L3 hn f _ ((bubble_perm _ _ _).trans h)
def yZ(hn:0<n):iE n (Pm n) (kas_sort n):=(L4 hn (Array.Perm.refl _) n).bind λr h=>by
 split;.rwa[L3 hn _ _ h]
 .done
def No:cs->cs->Þ|.inl i,.inl j=>Đ (i<j)|.inr x,.inr y=>Đ (x.cps.toList<y.cps.toList)|_,_=>bb
def adU:cs->cs->Þ|.inl _,.inl _=>J|.inr _,.inr _=>J|_,_=>bb
def MR:Ł cs->Ł cs->Þ|[],[]=>bb|[],_::_=>J|_::_,[]=>bb|a::r,b::q=>bif Đ (a=b)then MR r q else No a b
def pc:Ł cs->Ł cs->Þ|a::r,b::q=>adU a b&&(! Đ (a=b)||pc r q)|_,_=>J
section
variable{prog:ci}{w:ce}{A:cp}{E:c9}{s:am}
theorem MI:∀{ks M:Ł cs}{xs ys:Ł Â}{i:Ń}{b:Þ}{f:Þ},Vals (ks.map kV) xs->Vals (M.map kV) ys->pc ks M->(b=J->i=0->∃x r,ks=à x::r)->f=Đ (Á ks<Á M)->Q (MR ks M) s->KatLex prog w A b f Q (xs.zip ys) i s
 |[],M,xs,ys,i,b,f,h,H,_,_,d,q=>by cases h;rw[List.zip_nil_left];erw[kat_nil ?_];rw[d];induction M with|f=>rwa[q]|g _ _=>simpa[MR]using q
 |a::r,[],xs,ys,i,b,f,h,H,_,_,d,q=>by cases H;rw[List.zip_nil_right];erw[kat_nil ?_];rw[d];simpa[MR]using q|a::r,c::m,x::xs,y::ys,i,b,f,.cons h t,.cons H T,g,k,d,q=>by
  rw[List.zip_cons_cons];delta pc at g;rw[aE]at g;let next:a=c->KatLex prog w A b f Q (xs.zip ys) (i+1) s:=λe=>by subst e;erw[MI t T (by simpa using g.2) (λ_ z=>Ă z (Nat.succ_ne_zero i)) ?_ (by simpa[MR]using q)];rw[d];simp only[aJ,Nat.add_lt_add_iff_right]
  let out:a≠c->Q (No a c) s:=λe=>by simpa[MR,e]using q
  erw[kat_cons ?_];induction a with
  |inl n=>cases c with|inr _=>cases g.1|inl N=>
    let(l,rfl):=h;let(P,rfl):=H;erw[wpAny_eqBool_int ?_];by_cases e:n=N;.rw[sE.mpr e];rwa[kat_yes (next (by rw[e]))]
    .rw[cG.mpr e];erw[kat_no ?_];let j:(b&&i==0)=false:=by induction b with|e=>rfl|d=>rw[Bool.true_and];erw[cG.mpr λz=>?_];let(x,r,p):=k Ŗ z;cases p
     rw[j];rwa[kat_one _ _ (PyProof.Rows.lt_int (out λz=>e (by cases z;rfl)))]
  |inr X=>cases c with|inl _=>cases g.1|inr u=>
    let(l,rfl):=h;let(P,rfl):=H;erw[wpAny_eqBool_str ?_];by_cases e:X=u;.rw[cA e];rwa[kat_yes (next ())]
    .rw[cn e];erw[kat_no ?_];let o:=out λz=>e ();induction j:b&&i==0 with|d=>rwa[oneLt_str o]|e=>rwa[kat_one _ _ (PyProof.Rows.lt_str o)]
def qy(n:Ń)(f:Ń->Ń->Þ):Ϙ:=if n<2 then Ù n else(l7 f (kas_sort n)).toList
def aam:∀i∈qy n f,i<n:=λi H=>by
 delta qy at H;split at H;.simpa using H
 .let:∀{α:Type}{R:α->ß}(t:KasT α),iE n R t->R (l7 f t):=λ{α R}t=>by induction t with|ret a=>rwa[λh=>h]|ask i j k I=>rwa[λh=>I _ (h.2.2 _)]
  let:=((this _ (yZ ())).mem_iff).mp (ZB.mp H);simpa using this
def Vd:Á (qy n f)=n:=by
 delta qy;split;.rwa[eN]
 .let:∀{α:Type}{R:α->ß}(t:KasT α),iE n R t->R (l7 f t):=λ{α R}t=>by induction t with|ret a=>rwa[λh=>h]|ask i j k I=>rwa[λh=>I _ (h.2.2 _)]
  rw[bS,(this _ (yZ ())).size_eq];simp
abbrev iN(h:Ç)(a:À)(vs:Ł Â):Ç:=((h.update a (î λ_=>#[])).push (seqObj "tuple" vs.toArray 0)).push (seqObj "list" #[] 0)
def V7:∀{vs:Ł _},vs.length<2->(vs.toArray.zip vs.toArray).map (·.2)=((Ù vs.length).map λi=>vs.getD i Ô).toArray|[],_=>⋯|[x],_=>⋯|_::_::_,h=>by simp at h;lia
def wG(o:s.heap.get? a=O (seqObj "list" vs.toArray n))(c:vs.length<64)(l:2<=vs.length->∃κ,(∀(Q:SortKind->am->ß)(E:c9),Q κ {s with heap:=iN s.heap a vs}->bv (b' prog w) A (keyKind' vs.toArray) Q E {s with heap:=iN s.heap a vs})/\∀i j,i<vs.length->j<vs.length->∀C:Þ->am->ß,C (f i j) {s with heap:=iN s.heap a vs}->kas_ask prog w A κ vs i j C {s with heap:=iN s.heap a vs})(h:P (.done (.ret .none)) {s with heap:=sortedHeap s.heap a vs ((qy vs.length f).map λi=>vs.getD i Ô).toArray}):bv (b' prog w) A (Builtin.«list.sort» ([.ref a],[])) P E s:=by
 rw[list_sort_plain];let g:a<s.heap.objs.size:=ax o;erw[aa (B6 o Ŗ ?_)];erw[aa (XJ o Ŗ ?_ (by rw[aM,jx];lia) (cw _))];obtain⟨d,Z⟩:∃d,(s.heap.update a (î λ_=>(#[]:Array Â))).get? a=O (seqObj "list" #[] d):=(_,get?_update_seq o λ_=>#[]);erw[aa (C3 Z Ŗ ?_)];erw[aa (n8 ?_ (by show vs.length<=_;rw[jx];lia))];erw[aa (XO ?_ (cw _))];erw[bJ ?_];let H:(iN s.heap a vs).get? a=O (seqObj "list" #[] d):=by delta iN;rw[pB _ _ _ (by rw[jk,qP];rwa[aF (eO g)]),pB _ _ _ (by rw[qP];rwa[aF g])];rwa[Z]
 show bv (b' prog w) A _ P E {s with heap:=iN s.heap a vs};dsimp only;let D:vs.toArray.size=vs.length:=⋯
 by_cases b:vs.toArray.size<2
 .rw[bV b,bV b];erw[aa (ah ?_)];rw[StateT.run_pure];erw[aa (ah ?_)];dsimp only;erw[aa (C3 H Ŗ ?_)];let e:(arrOf (SortSt.mk' general' (vs.toArray.zip vs.toArray) #[] 7 ao)).map (·.2)=((qy vs.length f).map λi=>vs.getD i Ô).toArray:=by delta qy;rw[bV (by done)];rwa[V7 (by done)]
  rw[e];erw[aa (XJ H Ŗ ?_ (cw _) (by rw[aM,af];delta qy;rw[bV (by done),eN,jx];lia))];simp only[bne_self_eq_false,dP,gS];rwa[ah h]
 .rw[bN b,bN b];rw[D]at b;let(κ,k1,k2):=l (dR.mp ‹_›);erw[aa (k1 _ _ ?_)];erw[aa (cX (kat_run (E:=E) (Q:=λv S=>∃p:Array Ń,p.size=vs.length/\arrOf v=p.map _/\failedOf v=ao/\S={s with heap:=iN _ a vs}/\p=l7 f _) (G:=λp S=>S={s with heap:=iN _ a vs}/\p=l7 f _) rfl (dR.mp ‹_›) c (λp v S a1 m q k=>(p,a1,m,q,k.1,k.2)) (A6 k2 _ (yZ ()) λ_=>(Ŗ,Ŗ))) ?_ λ_ _ e=>e)];rintro⟨⟨⟩,v⟩ S ⟨p,t,r,u,rfl,rfl⟩;rw[kat_snds Ŗ r];erw[aa (C3 H Ŗ ?_)];erw[aa (XJ H Ŗ ?_ (cw _) (by rw[aM,af,bS,t,jx];lia))];rw[u];simp only[bne_self_eq_false,dP,gS];let e:qy vs.length f=(l7 f (kas_sort vs.length)).toList:=by delta qy;rw[bN b]
  rw[e]at h;rwa[ah h]
end
def BV:Ł cs->Þ|.inr _::_=>J|_=>bb
def wl(ks:Ł (Ł cs)):Þ:=ks.all λk=>BV k&&ks.all (pc k)
def JF(ks:Ł (Ł cs)):Ł (Ł cs):=(qy (Á ks) λi j=>MR (ks.getD i []) (ks.getD j [])).map λi=>ks.getD i []
def AY{α:Type}{l:Ł α}{d:α}(h:i<Á l):l.getD i d∈l:=nofun
def Bz{E:c9}(K:KdlSrc prog w T r d n P OK)(H:A.handled=ao)(C:OK s.heap)(hn:n<=Ã)(h:∀(h':Ç)(t:Ń)(acc:Array _),(∀b o,s.heap.get? b=O o->h'.get? b=O o)->s.heap.objs.size<h'.objs.size->ItemsOf P acc n->R acc.toList {s with heap:=h',toks:=t}):bv (b' prog w) A (collect (.ref r)) R E s:=by
 let l:=K.there _ C;erw[aa (v8 (cJ ZH ?_))];erw[aa (bE (ah (d8 Ix _,cJ entry_list_iadd' ?_)))];let F:∀(q:Result)(s':am),(∃(h':Ç)(t:Ń)(acc:Array _)(c:Ń),q=.ok (.ret (.ref s.heap.objs.size))/\s'={s with heap:=h',toks:=t}/\(∀b o,s.heap.get? b=O o->h'.get? b=O o)/\h'.get? s.heap.objs.size=O {cls:=.type "list",dict:=ao,data:=.seq acc c,slots:=#[]}/\ItemsOf P acc n)->wants (λv S=>bv (b' prog w) A (match v with
    |.ref a=>do match(<-load a).data with|.seq X _=>pure X.toList|_=>unsupported "internal:collect"
    |_=>unsupported "internal:collect") R E S) E q s':=by rintro q s' ⟨h',t,acc,c,rfl,rfl,k,g,i⟩;rwa[aa (Aq g (ah (h h' t acc k (ax g) i)))]
 erw[cX (kdl_extend (s:={s with heap:=s.heap.push _}) (R:=λq s'=>∃(h':Ç)(t:Ń)(acc:Array _)(c:Ń),q=.ok (.ret (.ref s.heap.objs.size))/\s'={s with heap:=h',toks:=t}/\(∀b o,s.heap.get? b=O o->h'.get? b=O o)/\h'.get? _=O {cls:=.type "list",dict:=ao,data:=.seq acc c,slots:=#[]}/\ItemsOf P acc n) K H (K.keep _ _ C λb _ o e=>ae _ e) _ (dA l.1) (dA l.2) _ 0 (ar _ Ŗ) (λh' t acc c k g i=>(h',t,acc,c,Ŗ,Ŗ,λb o e=>k b o (aF (ax e)) (ae _ e),g,i)) hn) (λf s' x=>?_) λe s' x=>?_];.induction f with|done f=>rwa[F _ _ x]|again j=>exact(x.1,eg x.2 λq S y=>F _ _ y)
 .let(_,_,_,_,m,_):=x;cases m
def D4(r:Paired F l m):∀{i:Ń}(H:i<Á l)(a:i<Á m),F l[i] m[i]:=by induction r with|f=>simp|g h t I=>intro i H a;induction i with|h=>rwa[h]|j i=>rwa[I _ _]
theorem vd:∀{vs:Ł _},(∀v∈vs,∃a o xs n x t,v=Ò a/\h.get? a=O o/\o.cls=.type "tuple"/\o.data=.seq xs n/\xs[0]?=O (.str x t))->∃fs,KatTups h vs fs/\Á fs=Á vs/\∀f∈fs,∃x t,f=ć x t
 |[],_=>([],Ť,Ŗ,λ_ H=>by done)|v::vs,b=>by
  let(a,o,xs,n,x,t,rfl,c,d,e,g):=b v aL;let(fs,k1,k2,k):=vd λw i=>b w (aH _ i);erw[(_,KatTups.cons c d e g k1,by rw[aJ,aJ,k2],λf H=>?_)];rcases aB.mp H with z|z;.exact(x,t,z)
  .rwa[k f z]
def ET(H:BV k)(v:Vals (k.map kV) its):∃x t,its[0]?=O (.str x t):=by cases k with|f=>done|g a r=>induction a with|inl _=>done|inr x=>cases v with|g h t=>let(T,rfl):=h;exact(x,T,Ŗ)
def yt(hc:X.calm):fi X (.builtin "sorted") (λxs H Q=>∃(a:À)(p:Ł (Ł cs×V)),xs=[.A a]/\H a=O (.dT p)/\Á p<64/\wl (p.map (·.1))=J/\∀(D:À)(vs:ϕ),H D=ao->Paired (λv(k:Ł cs)=>∃b,v=V.A b/\H b=O (.T (k.map kV))) vs (JF (p.map (·.1)))->Q (.A D) (de H D (.L vs))):=by
 intro be s σ H xs us Q I r h;let(a,p,rfl,ha,h64,ok,q):=h;let(u,rfl,ru):=r.one;cases ru;let(z,hd,Y,U,o,es,ep,ho,hex,Dw,W,_,_):=WD I.cV ha;let hsl:(64:Ń)<=Ã:=∅
 let hyl:Á Y=Á p:=(Ad U).symm;let uX:es.size=Á Y:=by rw[<-bS,W,af]
 erw[Wf kind_sorted plain_sorted entry_sorted (args_sorted1 _) ?_];delta Builtin.«sorted»;erw[aa (m:=checkCount "sorted" 1 1 _) (ah (aa (Bz (A:=X.A.in1) (UT (es:=es) (ep:=ep) hd) (I.ok.hd hc) (o,ho,hex,Dw) () λK tk G kp lK rC=>?_)))];let R:G.toList=Y.map λy=>Ò y.2.1:=by
  erw[List.ext_getElem? λj=>?_];rw[aR,cM];by_cases M:j<es.size
  .let Z:j<G.size:=by rw[rC.1];rwa[M]
   let(e,P,hv):=rC.2 j G[j] (cY Z);rw[cY Z,hv];rw[<-cM,W,aR]at P;induction hy:Y[j]? with|a=>rw[hy]at P;cases P|c y=>rw[hy]at P;cases P;rfl
  .rw[eY (by rw[rC.1];rwa[dR.mp ‹_›]),er ()];rfl
 let N:Á G.toList=Á p:=by rw[R,af];rwa[hyl]
 erw[aa (XO ?_ ())];generalize hvl:G.toList=B at R N;let RZ:(K.push (seqObj "list" B.toArray 0)).get? K.objs.size=O (seqObj "list" B.toArray 0):=ar _ Ŗ;let old:∀b ob,s.heap.get? b=O ob->(iN (K.push (seqObj "list" B.toArray 0)) K.objs.size B).get? b=O ob:=λb ob e=>by let hb:=ax (kp b ob e);delta iN;rw[pB _ _ _ (by rw[jk,qP,jk];lia),pB _ _ _ (by rw[qP,jk];lia),x3 _ _ _ _ (aF ‹_›)];rwa[ae _ (kp b ob e)]
 let tup:∀i,i<Á p->∃b ob F n,B.getD i Ô=.ref b/\H b=O (.T (((p.map (·.1)).getD i []).map kV))/\(iN (K.push (seqObj "list" B.toArray 0)) K.objs.size B).get? b=O ob/\ob.cls=.type "tuple"/\ob.data=.seq F n/\Vals (((p.map (·.1)).getD i []).map kV) F.toList:=λi E=>by
  let hiy:i<Á Y:=()
  let(r1,r2,_):=D4 U E hiy;let ek:(p.map (·.1)).getD i []=p[i].1:=by rw[fz,aR,av E];rfl
  let ev:B.getD i Ô=.ref Y[i].2.1:=by rw[R,fz,aR,av hiy];rfl
  rw[ek];obtain⟨F,rv,⟨ob,h1,h2,n,h3⟩,_⟩:=I.tuple (gF.of r2);exact(_,ob,F.toArray,n,ev,r2,old _ _ h1,h2,h3,by simpa using rv)
 let S:∀i j,i<Á p->j<Á p->BV ((p.map (·.1)).getD i [])/\pc ((p.map (·.1)).getD i []) ((p.map (·.1)).getD j [])=true:=λi j E M=>by let:=aS.mp ok _ (AY (l:=p.map (·.1)) (i:=i) (d:=[]) (by rw[af];rwa[E]));rw[aE]at this;exact(this.1,aS.mp this.2 _ (AY (l:=p.map (·.1)) (i:=j) (d:=[]) (by rw[af];rwa[M])))
 erw[aa (bJ (bK slot_list_sort (_,RZ,Ŗ) entry_list_sort (wG (s:={s with heap:=K.push (seqObj "list" B.toArray 0),toks:=tk}) (f:=λi j=>MR ((p.map (·.1)).getD i []) ((p.map (·.1)).getD j [])) RZ () (λh2=>(tuples' J,λQ' E' hq=>?_,λi j E M C hC=>?_)) (_,Ŗ,?_)) (args_list_sort _)))]
 .let(fs,k1,k2,k3):=vd (h:=iN (K.push (seqObj "list" B.toArray 0)) K.objs.size B) (vs:=B) λv hv=>by
   let(i,E,rfl):=vW.mp hv;rw[N]at E;let(b,ob,F,n,e,_,g,c,d,vv):=tup i E;let(x,t,hx):=ET (S i i E E).1 vv;let e2:B[i]=Ò b:=by rw[<-e,fz,av (da ‹_›)];rfl
   exact(b,ob,F,n,x,t,e2,g,c,d,by rw[<-cM];rwa[hx])
  erw[kat_kind (T:=.type "str") k1 (by rw[k2];rwa[gH ‹_›]) (λf hf=>?_) ∅ hq];let(x,t,rfl):=k3 f hf;rwa[Looks.of_pure Ŗ]
 .rw[N]at E M;let(b1,o1,i1,n1,e1,_,g1,_,d1,v1):=tup i E;let(b2,o2,i2,n2,e2,_,g2,_,d2,v2):=tup j M;delta kas_ask;rw[e1,e2];erw[kat_lt (s:={s with heap:=_,toks:=tk}) g1 d1 g2 d2 (MI v1 v2 (S i j E M).2 (λ_ _=>?_) ?_ hC)];.let:=(S i j E M).1;induction hk:(p.map (·.1)).getD i []with|f=>rw[hk]at this;cases this|g x r=>rw[hk]at this;induction x with|inl _=>cases this|inr x=>exact(x,r,Ŗ)
  .let l1:(Á ((p.map (·.1)).getD i []))=i1.size:=by simpa using v1.length
   let l2:(Á ((p.map (·.1)).getD j []))=i2.size:=by simpa using v2.length
   rw[l1,l2]
 .let(e,P):=sortedHeap_at (out:=((qy B.length λi j=>MR ((p.map (·.1)).getD i []) ((p.map (·.1)).getD j [])).map λi=>B.getD i Ô).toArray) RZ;let hD:s.heap.objs.size<=K.objs.size:=gH lK;let hsn:∀i∈qy B.length λi j=>MR ((p.map (·.1)).getD i []) ((p.map (·.1)).getD j []),i<Á p:=λi E=>by let:=aam i E;lia
  generalize hsr:(qy B.length λi j=>MR ((p.map (·.1)).getD i []) ((p.map (·.1)).getD j []))=sr at P hsn;let mk:∀(l:Ϙ),(∀i∈l,i<Á p)->∃vs:ϕ,Vals vs (l.map λi=>B.getD i Ô)/\Paired (λv(k:Ł cs)=>∃b,v=V.A b/\H b=O (.T (k.map kV))) vs (l.map λi=>(p.map (·.1)).getD i []):=λl=>by induction l with|f=>rwa[λ_=>([],.nil,.nil)]|g i l ih=>intro hl;let(vs,h1,h2):=ih λj M=>hl j (aH _ M);let(b,ob,F,n,e,hb,_):=tup i (hl i aL);erw[(.A b::vs,?_,.cons (b,Ŗ,hb) h2)];rw[cq,e];rwa[.cons Ŗ h1]
  let(vs,w1,w2):=mk sr hsn;let hlen:Á vs<=Ã:=by
   let e1:=w1.length;rw[af]at e1;let:Á sr<64:=by rw[<-hsr,Vd];lia
   lia
  erw[ah (_,Ŗ,(.A _,_,I.laid (λb ob g=>?_) hD (show fK _ X.w _ _ _ (.L vs)from(hlen,_,e,w1,P)),Ŗ,q _ vs (I.cV.fresh hD) ?_))];.let gb:=ax (kp b ob g);rw[sortedHeap_old (aF gb) (by rw[jk];rwa[eO gb])];rwa[ae _ (kp b ob g)]
  .delta JF;rw[af,<-N,hsr];rwa[w2]
end L2
namespace L2
end L2
namespace F
open L2
inductive Pv where|N|B(b:Þ)|I(i:Î)|S(x:Æ)|T(xs:ϑ)|L(xs:ϑ)|scr(xs:ϑ)|dct(ks vs:ϑ)|obj(C:Ń)(fs:ϑ)|fn(i:Ń)|ty(c:Ń)|key(ks:Ł cs)|wld(xs:ϑ)
inductive Dv where|p(x:Pv)|r(i:Ń)
inductive Ob where|L(xs:ϑ)|D(xs:Ł Dv)|C(ks vs:ϑ)|I(C:Ń)(fs:Ł Dv)|K(ks:Ł (Ł cs))|E(ks:ϑ)(ds:Ł Dv)|F(ob:Ú)(ks us:ϑ)
def kF:Ń->String|0=>"str"|1=>"int"|2=>"bool"|3=>"tuple"|_=>"list"
abbrev Hs:=Ł Ob
abbrev Es:=Ł (Ő Dv)
structure Tx where
 K:Å
 mg:c4
 gh:Ń->Æ
 ca:Ń->À
 fl:Ń->ϐ
 G:Ł À
def OE{K:Å}(s:P/\Rd H a (.L vs)\/gB K (λ_=>ao) a vs):gB K H a vs:=s.elim (λh=>.inl h.2) λh=>h.elim (λz=>by rcases z with z|⟨_,z⟩<;>cases z) .inr
variable(Z:Tx)(M:Ł À)(H:Hp)
mutual
def eo:Pv->V->ß|.N,v=>v=.g9|.B b,v=>v=.B b|.I i,v=>v=.I i|.S x,v=>v=.S x|.T xs,v=>∃a vs,v=.A a/\gF Z.K H a vs/\aW xs vs|.L xs,v=>∃a vs,v=.A a/\(a∉M/\a∉Z.G)/\H a=O (.L vs)/\aW xs vs|.scr xs,v=>∃a vs,v=.A a/\((a∉M/\a∉Z.G)/\Rd H a (.L vs)\/gB Z.K (λ_=>ao) a vs)/\aW xs vs|.dct ks us,v=>∃a d,v=.A a/\(a∉M/\a∉Z.G)/\Rd H a (.dK d)/\aW ks (d.map λp=>kV p.1)/\aW us (d.map (·.2))|.obj C fs,v=>∃a D f,v=.A a/\(a∉M/\a∉Z.G)/\H a=O (.ins (Z.ca C) D f)/\f.map (·.1)=(Z.fl C).take (Á fs)/\aW fs (f.map (·.2))|.fn i,v=>∃a,Z.mg (Z.gh i)=O (.ref a)/\v=.A a|.ty c,v=>v=.ty (kF c)|.key ks,v=>∃a,v=.A a/\H a=O (.T (ks.map kV))|.wld xs,v=>∃a bs,v=.A a/\(a∉M/\a∉Z.G)/\H a=O (Ku a bs)/\aW xs (bs.map V.A)def aW:ϑ->ϕ->ß|[],[]=>æ|x::xs,v::vs=>eo x v/\aW xs vs|_,_=>ŧ
end
def eP:Dv->V->ß|.p x,v=>eo Z M H x v|.r i,v=>∃a,M[i]?=O a/\v=.A a
def cH:Ł Dv->ϕ->ß|[],[]=>æ|x::X,v::s=>eP Z M H x v/\cH X s|_,_=>ŧ
def uw(a:À):Ob->ß|.L x=>∃v,H a=O (.L v)/\aW Z M H x v|.D ds=>∃v,H a=O (.L v)/\cH Z M H ds v|.C s u=>∃A,H a=O (.dK A)/\aW Z M H s (A.map λp=>kV p.1)/\aW Z M H u (A.map (·.2))|.I C fs=>∃d f,H a=O (.ins (Z.ca C) d f)/\H d=O (.own a)/\f.map (·.1)=(Z.fl C).take (Á fs)/\cH Z M H fs (f.map (·.2))|.K s=>H a=O (.dT (s.map λk=>(k,.B J)))|.E s ds=>∃A,H a=O (.dK A)/\aW Z M H s (A.map λp=>kV p.1)/\cH Z M H ds (A.map (·.2))|.F o s u=>∃A,H a=O (.mE o (.dK A))/\aW Z M H s (A.map λp=>kV p.1)/\aW Z M H u (A.map (·.2))
structure bj(h:Hs):ß where
 nd:M.Nodup
 dj:∀a∈M,a∉Z.G
 ln:Á M=(Á h)gs:∀b∈Z.G,∃o,H b=O o
 ob:∀(i:Ń)a o,M[i]?=O a->h[i]?=O o->uw Z M H a o
structure dD(σ:Es)(τ:È):ß where ln:Á σ=(Á τ)at':∀(i:Ń)d,σ[i]?=O (O d)->∃v,τ[i]?=O (O v)/\eP Z M H d v
structure Ext(M:Ł À)(H:Hp)(M':Ł À)(H':Hp):ß where
 pre:∃l,M'=M++l
 keep:∀b o,b∉M->H b=O o->H' b=O o
 new:∀b∈M',b∉M->H b=ao
section
variable{Z:Tx}{M M' M₂:Ł À}{H H' H₂:Hp}{h h':Hs}
def Ext.refl:Ext M H M H:=(([],(aK M).symm),λ_ _ _ h=>h,λ_ h n=>Ă h n)
def Ext.trans(a:Ext M H M' H')(b:Ext M' H' M₂ H₂):Ext M H M₂ H₂:=by
 let(l,rfl):=a.pre;let(L,rfl):=b.pre;let k:∀c o,c∉M->H c=O o->c∉M++l:=λc o d h z=>by rw[a.new c z d]at h;cases h
 erw[((_,by rw[bL]),λc o d h=>b.keep c o (k c o d h) (a.keep c o d h),λc d hn=>?_)];by_cases z:c∈M++l;.rwa[a.new c z hn]
 .induction e:H c with|a=>rfl|c o=>let:=b.new c d z;rw[a.keep c o hn e]at this;cases this
def zk:HO->Þ|.L _=>J|.dK _=>J|.ins _ _ _=>J|.dT _=>J|.mE _ (.dK _)=>J|_=>bb
def bj.there(r:bj Z M H h)(f:a∈M):∃o,H a=O o/\zk o=true:=by
 let(i,d):=lO f;let l:i<Á h:=by rw[<-r.ln];exact(aw.mp d).1
 let b:=r.ob i a h[i] d (av l);induction c:h[i]with|L x=>rw[c]at b;let(_,e,_):=b;exact(_,e,Ŗ)|D x=>rw[c]at b;let(_,e,_):=b;exact(_,e,Ŗ)|C k v=>rw[c]at b;let(_,e,_):=b;exact(_,e,Ŗ)|I C fs=>rw[c]at b;let(_,_,e,_):=b;exact(_,e,Ŗ)|K k=>rw[c]at b;exact(_,b,Ŗ)|E k ds=>rw[c]at b;let(_,e,_):=b;exact(_,e,Ŗ)|F g k u=>rw[c]at b;let(_,e,_):=b;exact(_,e,Ŗ)
def bj.no(r:bj Z M H h){a:À}{o:HO}(e:H a=O o)(n:zk o=bb):a∉M:=λz=>by let(u,b,c):=r.there z;rw[e]at b;cases b;rw[n]at c;cases c
def bj.fresh(r:bj Z M H h)(a:H p=ao):p∉M:=λz=>by let(o,e,_):=r.there z;rw[a]at e;cases e
def bj.nj(r:bj Z M H h)(a:H p=ao):p∉M/\p∉Z.G:=(r.fresh a,λz=>by let(o,e):=r.gs p z;rw[a]at e;cases e)
def bj.M8(r:bj Z M H h)(b:a∈M):¬Rd H a (.T vs):=λz=>by
 rcases z with z|⟨q,z⟩;.rwa[r.no z Ŗ b]
 .rwa[r.no z Ŗ b]
structure Mv(M:Ł À)(H:Hp)(M':Ł À)(H':Hp):ß where
 nt:∀a∈M,∀vs,¬Rd H a (.T vs)keep:∀b o,b∉M->H b=O o->H' b=O o
 new:∀b∈M',b∉M->H b=ao
def Mv.rd(m:Mv M H M' H')(b:a∉M)(r:Rd H a u):Rd H' a u:=by
 rcases r with r|⟨q,r⟩;.rwa[.inl (m.keep _ _ b r)]
 .rwa[.inr (q,m.keep _ _ b r)]
def Mv.sqT(m:Mv M H M' H'){K:Å}(s:gF K H a vs):gF K H' a vs:=by
 rcases s with r|r;.rwa[.inl (m.rd (λz=>m.nt a z vs r) r)]
 .rwa[.inr r]
def Mv.ni(m:Mv M H M' H')(b:a∉M)(r:H a=O o):a∉M':=λz=>by rw[m.new a z b]at r;cases r
def ndO:HO->Þ|.dK _=>bb|.mE _ (.dK _)=>bb|_=>J
structure Tf(Z:Tx)(G' M:Ł À)(H:Hp)(M':Ł À)(H':Hp):ß where
 k:∀{a vs},H a=O (.T vs)->H' a=O (.T vs)t:∀{a vs},Rd H a (.T vs)->Rd H' a (.T vs)n:∀{a o},a∉M/\a∉Z.G->Rd H a o->a∉M'/\a∉G'
 h:∀{a o},a∉M/\a∉Z.G->ndO o->H a=O o->H' a=O o
 l:∀{a vs},a∉M/\a∉Z.G->Rd H a (.L vs)->Rd H' a (.L vs)d:∀{a ks},a∉M/\a∉Z.G->Rd H a (.dK ks)->Rd H' a (.dK ks)
mutual
theorem eo.tf{g:Ł À}(m:Tf Z g M H M' H'):∀{x:Pv}{v:V},eo Z M H x v->eo {Z with G:=g} M' H' x v|.N,_,h=>h|.B _,_,h=>h|.I _,_,h=>h|.S _,_,h=>h|.fn _,_,h=>h|.ty _,_,h=>h|.key ks,_,h=>by let(a,e,s):=h;exact(a,e,m.k s)|.T xs,_,h=>by let(a,vs,e,s,q):=h;exact(a,vs,e,s.imp m.t id,aW.tf m q)|.L xs,_,h=>by let(a,vs,e,n,s,q):=h;exact(a,vs,e,m.n n (.inl s),m.h n Ŗ s,aW.tf m q)|.wld xs,_,h=>by let(a,vs,e,n,s,q):=h;exact(a,vs,e,m.n n (.inl s),m.h n Ŗ s,aW.tf m q)|.scr xs,_,h=>by let(a,vs,e,s,q):=h;exact(a,vs,e,s.imp (λs=>(m.n s.1 s.2,m.l s.1 s.2)) id,aW.tf m q)|.dct ks us,_,h=>by let(a,A,e,n,s,q,Q):=h;exact(a,A,e,m.n n s,m.d n s,aW.tf m q,aW.tf m Q)|.obj C fs,_,h=>by let(a,D,f,e,n,s,l,q):=h;exact(a,D,f,e,m.n n (.inl s),m.h n Ŗ s,l,aW.tf m q)theorem aW.tf{g:Ł À}(m:Tf Z g M H M' H'):∀{xs:ϑ}{vs:ϕ},aW Z M H xs vs->aW {Z with G:=g} M' H' xs vs|[],[],h=>Ť|[],_::_,h=>h|_::_,[],h=>h|x::xs,v::vs,h=>(eo.tf m h.1,aW.tf m h.2)end
theorem Mv.tf(m:Mv M H M' H'):Tf Z Z.G M H M' H':=(λs=>m.keep _ _ (λz=>m.nt _ z _ (.inl s)) s,λs=>m.rd (λz=>m.nt _ z _ s) s,λn s=>(s.elim (m.ni n.1) λ(_,r)=>m.ni n.1 r,n.2),λn _ s=>m.keep _ _ n.1 s,λn s=>m.rd n.1 s,λn s=>m.rd n.1 s)
theorem eo.mv(m:Mv M H M' H')(h:eo Z M H x v):eo Z M' H' x v:=eo.tf m.tf h
theorem aW.mv(m:Mv M H M' H')(h:aW Z M H x v):aW Z M' H' x v:=aW.tf m.tf h
theorem Ext.mv(e:Ext M H M' H')(r:bj Z M H h):Mv M H M' H':=(λ_ a _=>r.M8 a,e.keep,e.new)
theorem Ext.at(e:Ext M H M' H'){i:Ń}(h:M[i]?=O a):M'[i]?=O a:=by let(l,rfl):=e.pre;rw[bt (aw.mp h).1];rwa[h]
theorem eP.mv(m:Mv M H M' H')(at':∀(i:Ń)a,M[i]?=O a->M'[i]?=O a)(h:eP Z M H d v):eP Z M' H' d v:=by induction d with|p x=>rwa[eo.mv m h]|r i=>let(a,b,c):=h;exact(a,at' i a b,c)
theorem cH.mv(m:Mv M H M' H')(at':∀(i:Ń)a,M[i]?=O a->M'[i]?=O a):∀{ds:Ł Dv}{vs:ϕ},cH Z M H ds vs->cH Z M' H' ds vs|[],[],_=>Ť|[],_::_,h=>h|_::_,[],h=>h|_::_,_::_,h=>(eP.mv m at' h.1,cH.mv m at' h.2)
theorem eP.ext(r:bj Z M H h)(e:Ext M H M' H')(q:eP Z M H d v):eP Z M' H' d v:=eP.mv (e.mv r) (λ_ _=>e.at) q
theorem cH.ext(r:bj Z M H h)(e:Ext M H M' H')(q:cH Z M H d v):cH Z M' H' d v:=cH.mv (e.mv r) (λ_ _=>e.at) q
theorem eo.ext(r:bj Z M H h)(e:Ext M H M' H')(q:eo Z M H d v):eo Z M' H' d v:=eo.mv (e.mv r) q
theorem aW.ext(r:bj Z M H h)(e:Ext M H M' H')(q:aW Z M H d v):aW Z M' H' d v:=aW.mv (e.mv r) q
theorem dD.ext(q:dD Z M H σ τ)(r:bj Z M H h)(e:Ext M H M' H'):dD Z M' H' σ τ:=(q.ln,λi d a=>let (v,b,q):=q.at' i d a;(v,b,q.ext r e))
theorem dD.set(q:dD Z M H σ τ)(c:eP Z M H d v):dD Z M H (σ.set i (O d)) (τ.set i (O v)):=(by rw[dJ,dJ];rwa[q.ln],λj e a=>by
 by_cases b:i=j
 .subst b;by_cases l:i<Á σ;.rw[dy l]at a;cases a;exact(v,by rw[dy (by rw[<-q.ln];rwa[l])],c)
  .left
 .rw[cK b]at a⊢;rwa[q.at' j e a])
theorem uw.mv(m:Mv M H M' H')(at':∀(i:Ń)a,M[i]?=O a->M'[i]?=O a)(k:∀u,H a=O u->H' a=O u)(x:∀d,H d=O (.own a)->H' d=O (.own a))(h:uw Z M H a o):uw Z M' H' a o:=by induction o with|L X=>let(v,e,q):=h;exact(v,k _ e,aW.mv m q)|D X=>let(v,e,q):=h;exact(v,k _ e,cH.mv m at' q)|C s U=>let(A,e,q,Q):=h;exact(A,k _ e,aW.mv m q,aW.mv m Q)|I C fs=>let(d,f,e,n,b,q):=h;exact(d,f,k _ e,x _ n,b,cH.mv m at' q)|K s=>rwa[k _ h]|E s ds=>let(A,e,q,Q):=h;exact(A,k _ e,aW.mv m q,cH.mv m at' Q)|F c s U=>let(A,e,q,Q):=h;exact(A,k _ e,aW.mv m q,aW.mv m Q)
theorem Ext.add(a:H p=ao):Ext M H M (de H p o):=(([],(aK M).symm),λb u _ h=>by rw[bw (b7 h a)];rwa[h],λb h n=>Ă h n)
theorem qG(h:∃q,H b=O q):∃q,de H p o b=O q:=by
 by_cases e:b=p;.subst e;exact(o,bA)
 .rw[bw e];rwa[h]
theorem bj.add(r:bj Z M H h)(c:H p=ao):bj Z M (de H p o) h:=(r.nd,r.dj,r.ln,λb d=>qG (r.gs b d),λi a u f g=>uw.mv ((Ext.add c).mv r) (λ_ _ z=>z) (λq e=>by rw[bw (b7 e c)];rwa[e]) (λD e=>by rw[bw (b7 e c)];rwa[e]) (r.ob i a u f g))
theorem Ext.push(r:bj Z M H h)(a:H p=ao):Ext M H (M++[p]) (de H p u):=(([p],Ŗ),λb o _ e=>by rw[bw (b7 e a)];rwa[e],λb c n=>by
 rcases eR.mp c with z|z;.done
 .rw[aG.mp z];rwa[a])
theorem bj.push(r:bj Z M H h)(c:H p=ao)(n:uw Z (M++[p]) (de H p u) p o):bj Z (M++[p]) (de H p u) (h++[o]):=by
 erw[(dF.mpr (r.nd,⋯,λa f b g z=>?_),λa f=>(eR.mp f).elim (r.dj a) λz=>by rw[aG.mp z];exact(r.nj c).2,by rw[ai,ai,r.ln];rfl,λb g=>qG (r.gs b g),λi a q d j=>?_)];.rw[aG.mp g]at z;subst z;rwa[r.fresh c f]
 .by_cases l:i<Á M;.rw[bt l]at d;rw[bt (by rw[<-r.ln];rwa[l])]at j;rwa[uw.mv ((Ext.push r c).mv r) (λ_ _=>(Ext.push (u:=u) r c).at) (λq e=>by rw[bw (b7 e c)];rwa[e]) (λD e=>by rw[bw (b7 e c)];rwa[e]) (r.ob i a q d j)]
  .rw[aI (dR.mp ‹_›)]at d;rw[aI (by rw[<-r.ln];rwa[dR.mp ‹_›]),<-r.ln]at j;induction m:i-Á M with|h=>left|j k=>rw[m]at d;cases d
theorem Ext.put(c:a∈M):Ext M H M (de H a u):=(([],(aK M).symm),λb o n e=>by rw[bw λz=>n (by rw[z];rwa[c])];rwa[e],λb h n=>Ă h n)
theorem bj.put(r:bj Z M H h)(c:M[i]?=O a)(l:uw Z M (de H a u) a o):bj Z M (de H a u) (h.set i o):=by
 let ha:=aP c;erw[(r.nd,r.dj,by rw[dJ];rwa[r.ln],λb g=>qG (r.gs b g),λj b q d f=>?_)];by_cases k:j=i
 .subst k;rw[c]at d;cases d;let m:j<Á h:=by rw[<-r.ln];exact(aw.mp c).1
  rw[dy m]at f;cases f;rwa[l]
 .rw[cK (cI k)]at f;let g:b≠a:=λz=>k (by let(L,E):=aw.mp d;let(p,n):=aw.mp c;exact(iG r.nd).mp (by rw[E,n,z]));rwa[uw.mv ((Ext.put ha).mv r) (λ_ _ z=>z) (λq e=>by rw[bw g];rwa[e]) (λD e=>by rw[bw λz=>by rw[z]at e;rwa[r.no e Ŗ ha]];rwa[e]) (r.ob j b q d f)]
def bD(k:Ń):Dv->Þ|.p _=>J|.r i=>Đ (i<k)
def Qz(k:Ń):Ł Dv->Þ|[]=>J|d::r=>bD k d&&Qz k r
def bO(k:Ń):Ob->Þ|.L _=>J|.D ds=>Qz k ds|.C _ _=>J|.I _ fs=>Qz k fs|.K _=>J|.E _ ds=>Qz k ds|.F _ _ _=>J
def bH(k:Ń):Hs->Þ|[]=>J|o::r=>bO k o&&bH k r
def Js(k:Ń):Ő Dv->Ő Dv|O d=>if bD k d then O d else ao|ao=>ao
def QN(k:Ń):Es->Es|[]=>[]|d::r=>Js k d::QN k r
theorem KA:∀{h:Hs},bH k h=J->∀o∈h,bO k o=J
 |[],_,o,a=>by grind|q::r,e,o,a=>by
  simp only[bH,aE]at e;rcases aB.mp a with z|z;.lia
  .rwa[KA e.2 o z]
theorem Mv.cut(r:bj Z M H h)(k:Ń):Mv M H (M.take k) H:=(λ_ a _=>r.M8 a,λ_ _ _ e=>e,λb c n=>Ă (iq c) n)
theorem eP.cut(r:bj Z M H h)(q:eP Z M H d v)(b:bD k d):eP Z (M.take k) H d v:=by induction d with|p x=>rwa[eo.mv (Mv.cut r k) q]|r i=>let(a,c,e):=q;exact(a,by rw[iX (bB b)];rwa[c],e)
theorem cH.cut(r:bj Z M H h){k:Ń}:∀{ds:Ł Dv}{vs:ϕ},cH Z M H ds vs->Qz k ds->cH Z (M.take k) H ds vs|[],[],_,_=>Ť|[],_::_,q,_=>q|_::_,[],q,_=>q|_::_,_::_,q,b=>by simp only[Qz,aE]at b;exact(q.1.cut r b.1,cH.cut r q.2 b.2)
theorem bj.cut(r:bj Z M H h)(k:Ń)(b:bH k (h.take k)):bj Z (M.take k) H (h.take k):=by
 erw[(r.nd.sublist (List.take_sublist k M),λa g=>r.dj a (iq g),by rw[dY,dY,r.ln],r.gs,λi a o f c=>?_)];let d:=KA b o (aP c);let j:i<k:=by let:=(aw.mp c).1;rw[dY]at this;lia
 rw[iX j]at f c;let q:=r.ob i a o f c;induction o with|L x=>let(v,e,q):=q;exact(v,e,aW.mv (Mv.cut r k) q)|D x=>let(v,e,q):=q;exact(v,e,q.cut r d)|C s u=>let(A,e,q,Q):=q;exact(A,e,aW.mv (Mv.cut r k) q,aW.mv (Mv.cut r k) Q)|I C fs=>let(m,p,e,n,l,q):=q;exact(m,p,e,n,l,q.cut r d)|K s=>rwa[q]|E s ds=>let(A,e,q,Q):=q;exact(A,e,aW.mv (Mv.cut r k) q,Q.cut r d)|F t s u=>let(A,e,q,Q):=q;exact(A,e,aW.mv (Mv.cut r k) q,aW.mv (Mv.cut r k) Q)
theorem Fp:∀{σ:Es}{i:Ń},(QN k σ)[i]?=O (O d)->σ[i]?=O (O d)/\bD k d=J
 |[],i,e=>by done|q::r,0,e=>by simp only[QN,List.getElem?_cons_zero,Option.some.injEq]at e;induction q with|a=>cases e|c q=>
   simp only[Js]at e;split at e;.grind
   .lia
 |q::r,i+1,e=>by simp only[QN,ĺ]at e⊢;rwa[Fp e]
theorem Fq(k:Ń):∀σ:Es,Á (QN k σ)=Á σ|[]=>Ŗ|_::r=>by simp only[QN,aJ,Fq k r]
theorem dD.cut(q:dD Z M H σ τ)(r:bj Z M H h)(k:Ń):dD Z (M.take k) H (QN k σ) τ:=((Fq k σ).trans q.ln,λi d a=>by let(b,c):=Fp a;let(v,e,q):=q.at' i d b;exact(v,e,q.cut r c))
theorem Ext.cut(e:Ext M H M' H')(a:Á M<=k):Ext M H (M'.take k) H':=by let(l,rfl):=e.pre;exact((_,by rw[List.take_append,jO a]),e.keep,λb c n=>e.new b (iq c) n)
end
end F
namespace F
open L2
def qL(C:Ń->À)(E:XK)(c:Ń)(H:Hp):ß:=match Ë 1000 c with|bb=>E (.ref (C c)) ao H|J=>∀d,H d=O (.xd [("number",.I (c-1000:Ń))])->E (.ref (C 999)) (O d) H
def qL.imp(h:qL C E c H)(i:∀c o H,E c o H->E1 c o H):qL C E1 c H:=by
 delta qL at h⊢;split at h;.rwa[i _ _ _ h]
 .rwa[λd e=>i _ _ _ (h d e)]
def qL.cls(h:qL C E c H)(a:Ë 1000 c=bb):E (.ref (C c)) ao H:=by simp only[qL,a]at h;rwa[h]
abbrev XP:=Ń->Hs->ß
abbrev KP:=Ł Dv->Hs->ß
abbrev Sm:=XP->Es->Hs->KP->ß
structure En where
 nx:Es->Hs->ß
 rt:Dv->Hs->ß
 bk:Es->Hs->ß
 ct:Es->Hs->ß
 xc:XP
abbrev Ss:=En->Es->Hs->ß
abbrev En.sq(N:En)(n:Ss):En:={N with nx:=λσ h=>n N σ h}
abbrev En.cu(N:En)(R:Es->Hs->ß):En:={N with nx:=R}
abbrev En.lp(N:En)(A B:Es->Hs->ß):En:={N with nx:=A,ct:=A,bk:=B}
structure Tb where
 gh:Ń->Æ
 ca:Ń->À
 fl:Ń->ϐ
structure T0 where
 K:Å
 mg:c4
 t:Tb
abbrev T0.z(Y:T0)(G:Ł À):Tx:=(Y.K,Y.mg,Y.t.gh,Y.t.ca,Y.t.fl,G)
abbrev yx(t:Tb)(X:Cx):T0:=(X.K,X.mg,t)
section
variable(Z:Tx)
structure Kn(E:XK)(τ:È)(H:Hp)(QV:VK)(M:Ł À)(σ:Es)(h:Hs)(xc:XP)(Q:KP):ß where
 rel:bj Z M H h
 env:dD Z M H σ τ
 out:∀d h' M' H' v,Ext M H M' H'->bj Z M' H' h'->eP Z M' H' d v->Q [d] h'->QV v H'
 exc:∀C h' M' H',Ext M H M' H'->bj Z M' H' h'->xc C h'->qL Z.ca E C H'
structure KnA(E:XK)(τ:È)(H:Hp)(QV:ϕ->Hp->ß)(M:Ł À)(σ:Es)(h:Hs)(xc:XP)(Q:KP):ß where
 rel:bj Z M H h
 env:dD Z M H σ τ
 out:∀d h' M' H' v,Ext M H M' H'->bj Z M' H' h'->cH Z M' H' d v->Q d h'->QV v H'
 exc:∀C h' M' H',Ext M H M' H'->bj Z M' H' h'->xc C h'->qL Z.ca E C H'
structure KnT(E:XK)(τ:È)(H:Hp)(QV:Þ->Hp->ß)(M:Ł À)(σ:Es)(h:Hs)(xc:XP)(Q:KP):ß where
 rel:bj Z M H h
 env:dD Z M H σ τ
 out:∀d h' M' H',Ext M H M' H'->bj Z M' H' h'->Q [d] h'->∃b,d=.p (.B b)/\QV b H'
 exc:∀C h' M' H',Ext M H M' H'->bj Z M' H' h'->xc C h'->qL Z.ca E C H'
structure XT(E:XK)(τ:È)(H:Hp)(D:Ö)(M:Ł À)(σ:Es)(h:Hs)(N:En):ß where
 rel:bj Z M H h
 env:dD Z M H σ τ
 nx:∀σ' h' M' H' τ',Ext M H M' H'->bj Z M' H' h'->dD Z M' H' σ' τ'->N.nx σ' h'->D.nx τ' H'
 rt:∀d h' M' H' v,Ext M H M' H'->bj Z M' H' h'->eP Z M' H' d v->N.rt d h'->D.rt v H'
 bk:∀σ' h' M' H' τ',Ext M H M' H'->bj Z M' H' h'->dD Z M' H' σ' τ'->N.bk σ' h'->D.bk τ' H'
 ct:∀σ' h' M' H' τ',Ext M H M' H'->bj Z M' H' h'->dD Z M' H' σ' τ'->N.ct σ' h'->D.ct τ' H'
 exc:∀C h' M' H',Ext M H M' H'->bj Z M' H' h'->N.xc C h'->qL Z.ca E C H'
inductive cL(Y:T0)(E:XK)(m:Sm)(τ:È)(H:Hp)(QV:VK):ß|mk(G M:Ł À)(σ:Es)(h:Hs)(xc:XP)(Q:KP)(k:Kn (Y.z G) E τ H QV M σ h xc Q)(q:m xc σ h Q):cL Y E m τ H QV
inductive fL(Y:T0)(E:XK)(m:Sm)(τ:È)(H:Hp)(QV:ϕ->Hp->ß):ß|mk(G M:Ł À)(σ:Es)(h:Hs)(xc:XP)(Q:KP)(k:KnA (Y.z G) E τ H QV M σ h xc Q)(q:m xc σ h Q):fL Y E m τ H QV
inductive j5(Y:T0)(E:XK)(m:Sm)(τ:È)(H:Hp)(QV:Þ->Hp->ß):ß|mk(G M:Ł À)(σ:Es)(h:Hs)(xc:XP)(Q:KP)(k:KnT (Y.z G) E τ H QV M σ h xc Q)(q:m xc σ h Q):j5 Y E m τ H QV
inductive eX(Y:T0)(E:XK)(m:Ss)(D:Ö)(τ:È)(H:Hp):ß|mk(G M:Ł À)(σ:Es)(h:Hs)(N:En)(k:XT (Y.z G) E τ H D M σ h N)(q:m N σ h):eX Y E m D τ H
end
def Kn.CZ{M M':Ł À}{σ:Es}{h:Hs}{xc:XP}{Q:KP}{b:VK}(k:Kn Z E τ H b M σ h xc Q)(e:Ext M H M' H'):∀C a m H1,Ext M' H' m H1->bj Z m H1 a->xc C a->qL Z.ca E C H1:=λC a m H1 x r q=>k.exc C a m H1 (e.trans x) r q
def Kn.on(k:Kn Z E τ H c M σ h xc Q)(e:Ext M H M' H')(r:bj Z M' H' h')(o:∀d b m a v,Ext M' H' m a->bj Z m a b->eP Z m a d v->Q' [d] b->q v a):Kn Z E τ H' q M' σ h' xc Q':=(r,k.env.ext k.rel e,o,k.CZ e)
def Kn.go(k:Kn Z E τ H q M σ h xc Q)(e:Ext M H M' H')(r:bj Z M' H' h'):Kn Z E τ H' q M' σ h' xc Q:=(r,k.env.ext k.rel e,λd a m b v x=>k.out d a m b v (e.trans x),k.CZ e)
def _root_.L2.PE.imp{X:Cx}{e:Ä}{t t':TE}(h:PE X e t')(i:∀σ H Q,t σ H Q->t' σ H Q):PE X e t:=λp s σ H Q I q=>h _ s σ H Q I (i σ H Q q)
def _root_.L2.PT.imp{X:Cx}{e:Ä}{t t':TT}(h:PT X e t')(i:∀σ H Q,t σ H Q->t' σ H Q):PT X e t:=λp s σ H Q I q=>h _ s σ H Q I (i σ H Q q)
def _root_.L2.PW.imp{X:Cx}{e:Ä}{t t':TT}(h:PW X e t')(i:∀σ H Q,t σ H Q->t' σ H Q):PW X e t:=λwh p s σ H Q I q=>h wh _ s σ H Q I (i σ H Q q)
def _root_.L2.PA.imp{X:Cx}{e:Ł _}{t t':TA}(h:PA X e t')(i:∀σ H Q,t σ H Q->t' σ H Q):PA X e t:=λpos p s σ H Q I q=>h pos _ s σ H Q I (i σ H Q q)
def _root_.L2.PS.imp{X:Cx}{e:É}{t t':TS}(h:PS X e t')(i:∀D σ H,t D σ H->t' D σ H):PS X e t:=λp s σ H D I q=>h _ s σ H D I (i D σ H q)
def _root_.L2.jZ.imp{X:Cx}{e:Ł _}{t t':TS}(h:jZ X e t')(i:∀D σ H,t D σ H->t' D σ H):jZ X e t:=λp s σ H D I q=>h _ s σ H D I (i D σ H q)
def gd(c:Þ)(A:ß):ß:=match c with|J=>A|bb=>ŧ
def bT{c:Þ}(h:c)(a:A):gd c A:=by subst h;rwa[a]
def cg(h:gd c A):c/\A:=by induction c with|d=>exact(Ŗ,h)|e=>rwa[h.elim]
def br(c:Þ)(A B:ß):ß:=match c with|J=>A|bb=>B
def sf{c:Þ}(a:c->A)(b:c=bb->B):br c A B:=by induction c with|d=>rwa[a Ŗ]|e=>rwa[b Ŗ]
def fH{α:Type}(o:Ő α)(A:α->ß)(B:ß):ß:=match o with|O x=>A x|ao=>B
def Ni(h:fH o A B)(e:o=O x):A x:=by subst e;rwa[h]
def Nh(h:fH o A B)(e:o=ao):B:=by subst e;rwa[h]
def bu{x:α}(e:o=O x)(a:A x):fH o A B:=by subst e;rwa[a]
def b9(h:fH o A ŧ):∃x,o=O x/\A x:=by induction o with|c x=>exact(x,Ŗ,h)|a=>rwa[h.elim]
def Xn:Ł Dv->Ő ϑ
 |[]=>O []|.p x::r=>match Xn r with|O X=>O (x::X)|ao=>ao
 |.r _::_=>ao
abbrev O1:=Dv->Hs->(Dv->Hs->ß)->ß
abbrev O2:=Dv->Dv->Hs->(Dv->Hs->ß)->ß
abbrev ON:=Ł Dv->Hs->(Dv->Hs->ß)->ß
def sV(i:Ń):Sm:=λ_ σ h Q=>match σ[i]? with|O (O d)=>Q [d] h|_=>ŧ
def sC(x:Pv):Sm:=λ_ _ h Q=>Q [.p x] h
def qD(Q:KP)(d:Dv)(h:Hs):ß:=Q [d] h
def m1(xs:Ł Dv)(k:Dv->ß):ß:=match xs with|[x]=>k x|_=>ŧ
def k1(o:O1)(Q:KP):KP:=λX h=>m1 X λx=>o x h (qD Q)
def s1(o:O1)(A:Sm):Sm:=λx σ h Q=>A x σ h (k1 o Q)
def k2'(o:O2)(Q:KP)(x:Dv):KP:=λY h=>m1 Y λy=>o x y h (qD Q)
def k2(o:O2)(B:Sm)(X:XP)(σ:Es)(Q:KP):KP:=λs h=>m1 s λx=>B X σ h (k2' o Q x)
def s2(o:O2)(A B:Sm):Sm:=λx σ h Q=>A x σ h (k2 o B x σ Q)
def kN(o:ON)(Q:KP):KP:=λx h=>o x h (qD Q)
def sN(o:ON)(A:Sm):Sm:=λx σ h Q=>A x σ h (kN o Q)
def Jt:Sm:=λ_ _ h Q=>Q [] h
def kC'(Q:KP)(x:Dv):KP:=λy h=>Q (x::y) h
def kC(R:Sm)(X:XP)(σ:Es)(Q:KP):KP:=λs h=>m1 s λx=>R X σ h (kC' Q x)
def vC(A R:Sm):Sm:=λx σ h Q=>A x σ h (kC R x σ Q)
def mB(xs:Ł Dv)(k:Þ->ß):ß:=match xs with|[.p (.B b)]=>k b|_=>ŧ
def Kd(q:mB [d] k):∃b,d=.p (.B b)/\k b:=by induction d with|r _=>rwa[q.elim]|p x=>cases x<;>first|exact(_,Ŗ,q)|rwa[q.elim]
def kB(Q:KP):KP:=λy h=>mB y λc=>Q [.p (.B c)] h
def kA(B:Sm)(x:XP)(σ:Es)(Q:KP):KP:=λX h=>mB X λb=>br b (B x σ h (kB Q)) (Q [.p (.B bb)] h)
def LW(A B:Sm):Sm:=λx σ h Q=>A x σ h (kA B x σ Q)
def kO(B:Sm)(x:XP)(σ:Es)(Q:KP):KP:=λX h=>mB X λb=>br b (Q [.p (.B J)] h) (B x σ h (kB Q))
def Zv(A B:Sm):Sm:=λx σ h Q=>A x σ h (kO B x σ Q)
def kNo(Q:KP):KP:=λx h=>mB x λb=>Q [.p (.B !b)] h
def ak6(A:Sm):Sm:=λx σ h Q=>A x σ h (kNo Q)
def kIe(A B:Sm)(x:XP)(σ:Es)(Q:KP):KP:=λX h=>mB X λb=>br b (A x σ h Q) (B x σ h Q)
def UW(T A B:Sm):Sm:=λx σ h Q=>T x σ h (kIe A B x σ Q)
def š(h:PE X e (BG i)):PE X e (cL 'X' E (sV i)):=h.imp λτ H j z=>by
 let(G,M,σ,s,x,Q,k,q):=z;delta sV at q;split at q;.ext d c;let(v,f,g):=k.env.at' i d c;exact(v,f,k.out d s M H v Ext.refl k.rel g q)
 .left
def D7(h:PE X e (tC v))(c:∀G M H,eo ('X'.z G) M H x v):PE X e (cL 'X' E (sC x)):=h.imp λτ H d Z=>by let(G,M,σ,s,f,Q,k,q):=Z;rwa[k.out (.p x) s M H v Ext.refl k.rel (c G M H) q]
def Qm(Y:T0)(r:V->Hp->VK->ß)(o:O1):ß:=∀G M h H x v Q q,bj (Y.z G) M H h->eP (Y.z G) M H x v->o x h Q->(∀d f m c w,Ext M H m c->bj (Y.z G) m c f->eP (Y.z G) m c d w->Q d f->q w c)->r v H q
def iC(Y:T0)(r:R2)(o:O2):ß:=∀G M h H x y v u Q q,bj (Y.z G) M H h->eP (Y.z G) M H x v->eP (Y.z G) M H y u->o x y h Q->(∀d f m c w,Ext M H m c->bj (Y.z G) m c f->eP (Y.z G) m c d w->Q d f->q w c)->r v u H q
def oW(Y:T0)(r:ϕ->Hp->VK->ß)(o:ON):ß:=∀G M h H x v Q q,bj (Y.z G) M H h->cH (Y.z G) M H x v->o x h Q->(∀d f m c w,Ext M H m c->bj (Y.z G) m c f->eP (Y.z G) m c d w->Q d f->q w c)->r v H q
def XB(c:Qm 'X' r o)(h:cL 'X' E (s1 o A) τ H QV):ŭ r (cL 'X' E A) τ H QV:=by let(G,M,σ,s,x,Q,k,q):=h;exact(G,M,σ,s,x,_,(k.rel,k.env,λd f m g v e R i j=>c G m f g d v _ _ R i j λd2 l M2 n w p u I y=>k.out d2 l M2 n w (e.trans p) u I y,k.exc),q)
def vG(f:iC 'X' r o)(h:cL 'X' E (s2 o A B) τ H QV):oa r (cL 'X' E A) (cL 'X' E B) τ H QV:=by let(G,M,σ,s,x,Q,k,q):=h;exact(G,M,σ,s,x,_,(k.rel,k.env,λd g m S v e R i j=>(G,m,σ,g,x,_,k.on e R λd2 l M2 n w c p I u=>f G M2 l n d d2 v w _ _ p (i.ext R c) I u λD y C F z K L N P=>k.out D y C F z (e.trans (c.trans K)) L N P,j),k.exc),q)
def ϥ(h:kZ X (binaryOp p) r)(H:iC 'X' r o)(c:PE X a (cL 'X' E A))(d:PE X b (cL 'X' E B)):PE X (.BinOp a p b pos) (cL 'X' E (s2 o A B)):=(ϴ h c d).imp λ_ _ _=>vG H
def aeR(h:vx X (unaryOp p) r)(H:Qm 'X' r o)(c:PE X a (cL 'X' E A)):PE X (.UnaryOp p a pos) (cL 'X' E (s1 o A)):=(Xg h c).imp λ_ _ _=>XB H
def M_(h:kZ X (compareOp p) r)(H:iC 'X' r o)(c:PE X a (cL 'X' E A))(d:PE X b (cL 'X' E B))(m:gn p b=bb):PE X (.Compare a [p] [b] pos) (cL 'X' E (s2 o A B)):=(Tu h c d m).imp λ_ _ _=>vG H
def GX(h:j5 'X' E m τ H f):cL 'X' E m τ H λx H'=>∃k,x=.B k/\f k H':=by let(G,M,σ,s,g,Q,k,q):=h;erw[(G,M,σ,s,g,Q,(k.rel,k.env,λd j l H' v e r i n=>?_,k.exc),q)];let(c,rfl,o):=k.out d j l H' e r n;exact(c,i,o)
def Ue(H:kZ X (compareOp p) r)(c:iC 'X' r o)(d:PE X a (cL 'X' E A))(f:PE X b (cL 'X' E B))(m:gn p b=bb):PT X (.Compare a [p] [b] pos) (j5 'X' E (s2 o A B)):=(GC H d f m).imp λ_ _ _ h=>vG c (GX h)
def Ug(h:PE X e (cL 'X' E A))(H:∀whole,isTrue e X.env whole=do let v<-whole;standAt e.pos;holding [v] (truthy v)):PT X e (j5 'X' E A):=(ι h H).imp λ_ _ _ h=>GX h
def O3(h:j5 'X' E (LW A B) τ H QB):Gc (j5 'X' E A) (j5 'X' E B) τ H QB:=by let(G,M,σ,s,m,Q,k,q):=h;erw[(G,M,σ,s,m,_,(k.rel,k.env,λd n o p e R i=>?_,k.exc),q)];let(b,j,i):=Kd i;erw[(b,j,?_)];induction b with|e=>let(c,f,g):=k.out _ n o p e R i;injection f with f;injection f with f;subst f;rwa[g]|d=>erw[(G,o,σ,n,m,_,(R,k.env.ext k.rel e,λd2 g M2 u v w l=>?_,λC f y z x r q=>k.exc C f y z (e.trans x) r q),i)];let(c,j,l):=Kd l;let(D,f,g):=k.out _ g M2 u (e.trans v) w l;injection f with f;injection f with f;subst f;exact(c,j,g)
def Vr(h:j5 'X' E (Zv A B) τ H QB):NE (j5 'X' E A) (j5 'X' E B) τ H QB:=by let(G,M,σ,s,m,Q,k,q):=h;erw[(G,M,σ,s,m,_,(k.rel,k.env,λd n o p e R i=>?_,k.exc),q)];let(b,j,i):=Kd i;erw[(b,j,?_)];induction b with|d=>let(c,f,g):=k.out _ n o p e R i;injection f with f;injection f with f;subst f;rwa[g]|e=>erw[(G,o,σ,n,m,_,(R,k.env.ext k.rel e,λd2 g M2 u v w l=>?_,λC f y z x r q=>k.exc C f y z (e.trans x) r q),i)];let(c,j,l):=Kd l;let(D,f,g):=k.out _ g M2 u (e.trans v) w l;injection f with f;injection f with f;subst f;exact(c,j,g)
def O4(h:j5 'X' E (ak6 A) τ H QB):M9 (j5 'X' E A) τ H QB:=by let(G,M,σ,s,x,Q,k,q):=h;erw[(G,M,σ,s,x,_,(k.rel,k.env,λd i m j e r g=>?_,k.exc),q)];let(b,l,g):=Kd g;let(c,f,n):=k.out _ i m j e r g;injection f with f;injection f with f;subst f;exact(b,l,n)
def Vs(h:cL 'X' E (LW A B) τ H QV):XC (cL 'X' E A) (cL 'X' E B) τ H QV:=by let(G,M,σ,s,x,Q,k,q):=h;erw[(G,M,σ,s,x,_,(k.rel,k.env,λd l m n v e r i f=>?_,k.exc),q)];let(b,g,f):=Kd f;subst g;erw[(b,i,?_)];induction b with|e=>rwa[k.out _ l m n _ e r (by rfl) f]|d=>erw[(G,m,σ,l,x,_,k.on e r λd2 o M2 p w u R I j=>?_,f)];let(c,g,j):=Kd j;subst g;rwa[k.out _ o M2 p w (e.trans u) R I j]
def aax(h:cL 'X' E (Zv A B) τ H QV):ŗ (cL 'X' E A) (cL 'X' E B) τ H QV:=by let(G,M,σ,s,x,Q,k,q):=h;erw[(G,M,σ,s,x,_,(k.rel,k.env,λd l m n v e r i f=>?_,k.exc),q)];let(b,g,f):=Kd f;subst g;erw[(b,i,?_)];induction b with|d=>rwa[k.out _ l m n _ e r (by rfl) f]|e=>erw[(G,m,σ,l,x,_,k.on e r λd2 o M2 p w u R I j=>?_,f)];let(c,g,j):=Kd j;subst g;rwa[k.out _ o M2 p w (e.trans u) R I j]
def Vt(h:cL 'X' E (UW T A B) τ H QV):F3 (j5 'X' E T) (cL 'X' E A) (cL 'X' E B) τ H QV:=by let(G,M,σ,s,x,Q,k,q):=h;erw[(G,M,σ,s,x,_,(k.rel,k.env,λd g m j e r f=>?_,k.exc),q)];let(b,i,f):=Kd f;erw[(b,i,?_)];induction b with|d=>exact(G,m,σ,g,x,_,k.go e r,f)|e=>exact(G,m,σ,g,x,_,k.go e r,f)
def Q_(h:PT X c (j5 'X' E T))(H:PE X a (cL 'X' E A))(d:PE X b (cL 'X' E B)):PE X (.IfExp c a b pos) (cL 'X' E (UW T A B)):=(Ny h H d).imp λ_ _ _=>Vt
def TX:PA X [] (fL 'X' E Jt):=kD.imp λτ H d z=>by let(G,M,σ,h,x,Q,k,q):=z;rwa[k.out [] h M H [] Ext.refl k.rel Ť q]
def NL(h:PE X a (cL 'X' E A))(j:PA X rest (fL 'X' E B))(p:bW a):PA X (a::rest) (fL 'X' E (vC A B)):=(Tn h j p).imp λτ H L z=>by let(G,M,σ,s,f,Q,k,q):=z;exact(G,M,σ,s,f,_,(k.rel,k.env,λd l m N v e R i n=>(G,m,σ,l,f,_,(R,k.env.ext k.rel e,λds o M2 u ws g w I y=>k.out (d::ds) o M2 u _ (e.trans g) w (i.ext R g,I) y,λC D F K x r q=>k.exc C D F K (e.trans x) r q),n),k.exc),q)
def XE(f:oW 'X' r o)(h:cL 'X' E (sN o A) τ H QV):fL 'X' E A τ H λvs g=>r vs g QV:=by let(G,M,σ,s,x,Q,k,q):=h;exact(G,M,σ,s,x,_,(k.rel,k.env,λd j m l v e R i n=>f G m j l d v _ _ R i n λd2 p M2 u w y z I C=>k.out d2 p M2 u w (e.trans y) z I C,k.exc),q)
def xE{id:String}(h:fi X (.builtin id) r)(H:oW 'X' r o)(g:Gl X x)(m:X.mg x=ao)(v:dN x=O (.builtin id))(d:PA X (a::rest) (fL 'X' E A))(hn:x≠"__name__")(j:(x=="__debug__")=bb)(D:(a::rest).all bW):PE X (.Call (.Name x p) (a::rest) [] pos) (cL 'X' E (sN o A)):=(Np h g m v d hn j D).imp λ_ _ _=>XE H
def xF{id:String}(h:fi X (.type id) r)(H:oW 'X' r o)(g:Gl X x)(m:X.mg x=ao)(v:dN x=O (.type id))(d:PA X (a::rest) (fL 'X' E A))(hn:x≠"__name__")(j:(x=="__debug__")=bb)(D:(a::rest).all bW):PE X (.Call (.Name x p) (a::rest) [] pos) (cL 'X' E (sN o A)):=(Nq h g m v d hn j D).imp λ_ _ _=>XE H
abbrev Ct:=Ł Dv->Hs->(Dv->Hs->ß)->XP->ß
inductive dB(Y:T0)(C:Ct)(vs:ϕ)(H:Hp)(QV:VK)(EV:XK):ß|mk(G M:Ł À)(h:Hs)(ds:Ł Dv)(Q:Dv->Hs->ß)(xc:XP)(r:bj (Y.z G) M H h)(i:cH (Y.z G) M H ds vs)(c:C ds h Q xc)(out:∀d h' M' H' v,Ext M H M' H'->bj (Y.z G) M' H' h'->eP (Y.z G) M' H' d v->Q d h'->QV v H')(exc:∀c h' M' H',Ext M H M' H'->bj (Y.z G) M' H' h'->xc c h'->qL Y.t.ca EV c H'):dB Y C vs H QV EV
def gX(i:Ń):Ϙ->Þ|[]=>bb|j::r=>Ì i j||gX i r
def sB:Ϙ->Þ|[]=>J|i::r=>!gX i r&&sB r
def SD(i:Ń):Ϙ->Ń|[]=>0|j::r=>match Ì i j with|J=>0|bb=>SD i r+1
def H0(ρ:Ϙ):Dv->Þ|.p _=>J|.r i=>gX i ρ
def DE(ρ:Ϙ):Ł Dv->Þ|[]=>J|d::r=>H0 ρ d&&DE ρ r
def ľ(ρ:Ϙ):Ob->Þ|.L _=>J|.D ds=>DE ρ ds|.C _ _=>J|.I _ fs=>DE ρ fs|.K _=>J|.E _ ds=>DE ρ ds|.F _ _ _=>J
def lq(ρ:Ϙ):Dv->Dv|.p x=>.p x|.r i=>.r (SD i ρ)
def R'(ρ:Ϙ):Ob->Ob|.L x=>.L x|.D ds=>.D (ds.map (lq ρ))|.C k v=>.C k v|.I C fs=>.I C (fs.map (lq ρ))|.K k=>.K k|.E k ds=>.E k (ds.map (lq ρ))|.F o k u=>.F o k u
def lh(ρ:Ϙ)(h:Hs):Ϙ->Ő Hs|[]=>O []|i::r=>match h[i]? with|ao=>ao|O o=>match ľ ρ o with|bb=>ao|J=>match lh ρ h r with|ao=>ao|O l=>O (R' ρ o::l)
def PY(ρ:Ϙ)(n:Ń):Dv->Dv|.p x=>.p x|.r k=>match ρ[k]? with|O i=>.r i|ao=>.r (n+(k-Á ρ))
def KD(ρ:Ϙ)(n:Ń):Ob->Ob|.L x=>.L x|.D ds=>.D (ds.map (PY ρ n))|.C k v=>.C k v|.I C fs=>.I C (fs.map (PY ρ n))|.K k=>.K k|.E k ds=>.E k (ds.map (PY ρ n))|.F o k u=>.F o k u
def Qd(ρ:Ϙ)(n:Ń):Ϙ->Hs->Hs->Hs|[],[],h=>h|[],o::os,h=>h++(o::os).map (KD ρ n)|_::_,[],h=>h|i::r,o::os,h=>Qd ρ n r os (h.set i (KD ρ n o))
def lfQ(ρ:Ϙ)(h:Hs)(Q:Dv->Hs->ß)(d:Dv)(l:Hs):ß:=Q (PY ρ (Á h) d) (Qd ρ (Á h) ρ l h)
def lfX(ρ:Ϙ)(h:Hs)(x:XP)(c:Ń)(l:Hs):ß:=x c (Qd ρ (Á h) ρ l h)
def Iy(ρ:Ϙ)(C:Ct):Ct:=λds h Q x=>gd (sB ρ&&DE ρ ds) (match lh ρ h ρ with|ao=>ŧ|O l=>C (ds.map (lq ρ)) l (lfQ ρ h Q) (lfX ρ h x))
theorem cy:∀{l:Ϙ},gX i l=J↔i∈l|[]=>by simp[gX]|j::r=>by simp only[gX,mr,aB,cy,Nat.beq_eq]
theorem Gq:∀{l:Ϙ},sB l=J->l.Nodup|[],_=>jN|i::r,h=>by simp only[sB,aE,Bool.not_eq_true']at h;erw[cR.mpr (λz=>?_,Gq h.2)];rw[cy.mpr z]at h;cases h.1
theorem Ga:∀{l:Ϙ},i∈l->l[SD i l]?=O i
 |[],h=>by grind|j::r,h=>by
  delta SD;split;.ext e;rw[aT e];rfl
  .rwa[Ga ((aB.mp h).resolve_left λz=>nofun)]
section
variable{Y:T0}{G M M':Ł À}{H H':Hp}{h l l':Hs}{ρ:Ϙ}
def mL(ρ:Ϙ)(M:Ł À):Ł À:=ρ.filterMap λi=>M[i]?
theorem MJ:∀{ρ:Ϙ}{l:Hs},lh c h ρ=O l->Á l=Á ρ/\∀(k:Ń)i,ρ[k]?=O i->∃o,h[i]?=O o/\ľ c o/\l[k]?=O (R' c o)
 |[],l,e=>by cases e;exact(Ŗ,λk i h=>by grind)|i::r,l,e=>by
  delta lh at e;split at e;.lia
  .split at e;.lia
   .split at e;.lia
    .ext l1 d;cases e;let(a,b):=MJ d;erw[(by grind,λk j f=>?_)];induction k with|h=>grind|j k=>rwa[b k j f]
def vh(f:∀i∈ρ,i<Á M):Á (mL ρ M)=Á ρ/\∀(k:Ń),(mL ρ M)[k]?=ρ[k]?.bind λi=>M[i]?:=by induction ρ with|f=>exact(Ŗ,λk=>Ŗ)|g i r I=>
  let(a,b):=I λj c=>f j (aH _ c);let e:M[i]?=O (M[i]'(f i aL)):=av _;let E:mL (i::r) M=M[i]'(f i aL)::mL r M:=by delta mL;rw[eW,e]
  rw[E];erw[(nofun,λk=>?_)];induction k with|h=>rwa[e.symm]|j k=>left
def zj(h:a∈mL ρ M):a∈M:=by let(i,_,e):=nY.mp h;rwa[aP e]
def ad1(e:M.Nodup)(a:ρ.Nodup):(mL ρ M).Nodup:=by erw[List.Pairwise.filterMap _ ?_ a];intro i j d b f c g z;subst z;erw[d ?_];let(l1,E):=aw.mp f;let(l2,k):=aw.mp g;exact(iG e).mp (E.trans k.symm)
def WH(n:∀a,a∈M'\/a∈g->a∈M\/a∈G\/H a=ao):Tf (Y.z G) g M H M' H:=by
 erw[(id,id,λ{a _}k s=>not_or.mp λz=>?_,λ_ _ s=>s,λ_ s=>s,λ_ s=>s)];rcases n a z with z|z|z;.rwa[k.1 z]
 .rwa[k.2 z]
 .rcases s with s|⟨_,s⟩<;>rw[z]at s<;>cases s
def eo.fr(n:∀a,a∈M'\/a∈g->a∈M\/a∈G\/H a=ao)(h:eo (Y.z G) M H x v):eo (Y.z g) M' H x v:=eo.tf (WH n) h
def aW.fr(n:∀a,a∈M'\/a∈g->a∈M\/a∈G\/H a=ao)(h:aW (Y.z G) M H x v):aW (Y.z g) M' H x v:=aW.tf (WH n) h
def eo.up(n:∀a,a∉M'->a∉g->a∉M/\a∉G)(h:eo (Y.z g) M' H x v):eo (Y.z G) M H x v:=eo.fr (λa b=>by
 by_cases z:a∈M';.rwa[.inl z]
 .by_cases y:a∈g;.rwa[.inr (.inl y)]
  .let(p,q):=n a z y;exact(b.elim p q).elim) h
def aW.up(n:∀a,a∉M'->a∉g->a∉M/\a∉G)(h:aW (Y.z g) M' H x v):aW (Y.z G) M H x v:=aW.fr (λa b=>by
 by_cases z:a∈M';.rwa[.inl z]
 .by_cases y:a∈g;.rwa[.inr (.inl y)]
  .let(p,q):=n a z y;exact(b.elim p q).elim) h
def gL(ρ:Ϙ)(M G:Ł À):Ł À:=G++M.filter λa=>!(mL ρ M).contains a
def o9:a∈gL ρ M G↔a∈G\/a∈M/\a∉mL ρ M:=by delta gL;simp
def uL:∀a,a∈mL ρ M\/a∈gL ρ M G->a∈M\/a∈G\/H a=none:=λa h=>h.elim (λz=>.inl (zj z)) λz=>(o9.mp z).elim (λz=>.inr (.inl z)) λz=>.inl z.1
def eP.dn(f:∀i∈ρ,i<Á M)(b:H0 ρ d)(q:eP (Y.z G) M H d v):eP (Y.z (gL ρ M G)) (mL ρ M) H (lq ρ d) v:=by induction d with|p x=>rwa[eo.fr uL q]|r i=>let(a,c,e):=q;erw[(a,?_,e)];rw[(vh f).2,Ga (cy.mp b)];rwa[c]
theorem cH.dn(f:∀i∈ρ,i<Á M):∀{ds:Ł Dv}{vs:ϕ},DE ρ ds=J->cH (Y.z G) M H ds vs->cH (Y.z (gL ρ M G)) (mL ρ M) H (ds.map (lq ρ)) vs|[],[],_,_=>Ť|[],_::_,_,q=>q|_::_,[],_,q=>q|_::_,_::_,hd,q=>by simp only[DE,aE]at hd;exact(q.1.dn f hd.1,cH.dn f hd.2 q.2)
theorem bj.dn(r:bj (Y.z G) M H h)(g:ρ.Nodup)(e:lh ρ h ρ=O l):bj (Y.z (gL ρ M G)) (mL ρ M) H l/\∀i∈ρ,i<Á M:=by
 let(y,t):=MJ e;let f:∀i∈ρ,i<Á M:=λi d=>by let(k,e):=lO d;let(o,j,_):=t k i e;rw[r.ln];exact(aw.mp j).1
 erw[((ad1 r.nd g,λa u z=>(o9.mp z).elim (r.dj a (zj u)) λz=>z.2 u,by rw[(vh f).1,y],λb B=>?_,λk a o m w=>?_),f)]
 .rcases o9.mp B with z|z;.rwa[r.gs b z]
  .let(o,e,_):=r.there z.1;exact(o,e)
 .rw[(vh f).2]at m;induction d:ρ[k]? with|a=>left|c i=>rw[d]at m;let(x,j,c,p):=t k i d;rw[p]at w;cases w;let q:=r.ob i a x m j;induction x with|L X=>let(v,e,q):=q;exact(v,e,aW.fr uL q)|D X=>let(v,e,q):=q;exact(v,e,q.dn f c)|C s U=>let(A,e,q,Q):=q;exact(A,e,aW.fr uL q,aW.fr uL Q)|I C fs=>let(N,P,e,n,R,q):=q;exact(N,P,e,n,by rw[af];rwa[R],q.dn f c)|K s=>rwa[q]|E s ds=>let(A,e,q,Q):=q;exact(A,e,aW.fr uL q,Q.dn f c)|F S s U=>let(A,e,q,Q):=q;exact(A,e,aW.fr uL q,aW.fr uL Q)
def vM:∀a,a∉mL ρ M++L->a∉gL ρ M G->a∉M++L/\a∉G:=λa b c=>(λz=>(eR.mp z).elim (λz=>c (o9.mpr (.inr (z,λy=>b (il _ y))))) λz=>b (bG _ z),λz=>c (o9.mpr (.inl z)))
theorem eP.up(f:∀i∈ρ,i<Á M)(q:eP (Y.z (gL ρ M G)) (mL ρ M++L) H d v):eP (Y.z G) (M++L) H (PY ρ (Á M) d) v:=by induction d with|p x=>rwa[eo.up vM q]|r k=>
  let(a,b,c):=q;let m:=vh f;let e:PY ρ (Á M) (.r k)=match ρ[k]? with|O i=>.r i|ao=>.r _:=Ŗ;rw[e];by_cases j:k<Á ρ;.rw[bt nofun,m.2]at b;induction g:ρ[k]? with|a=>left|c i=>rw[g]at b;exact(a,by rw[bt (aw.mp b).1];rwa[b],c)
  .rw[aI (by rw[m.1];rwa[dR.mp ‹_›]),m.1]at b;rw[er (dR.mp ‹_›)];erw[(a,?_,c)];rw[aI (bp _ _),show(Á M)+(k-Á ρ)-Á M=k-Á ρ by lia];rwa[b]
theorem cH.up(f:∀i∈ρ,i<Á M):∀{ds:Ł Dv}{vs:ϕ},cH (Y.z (gL ρ M G)) (mL ρ M++L) H ds vs->cH (Y.z G) (M++L) H (ds.map (PY ρ (Á M))) vs|[],[],_=>Ť|[],_::_,q=>q|_::_,[],q=>q|_::_,_::_,q=>(q.1.up f,cH.up f q.2)
theorem uw.up(f:∀i∈ρ,i<Á M)(q:uw (Y.z (gL ρ M G)) (mL ρ M++L) H a o):uw (Y.z G) (M++L) H a (KD ρ (Á M) o):=by induction o with|L x=>let(v,e,q):=q;exact(v,e,aW.up vM q)|D x=>let(v,e,q):=q;exact(v,e,q.up f)|C k u=>let(A,e,q,Q):=q;exact(A,e,aW.up vM q,aW.up vM Q)|I C fs=>let(d,b,e,n,c,q):=q;exact(d,b,e,n,by rw[af];rwa[c],q.up f)|K k=>rwa[q]|E k ds=>let(A,e,q,Q):=q;exact(A,e,aW.up vM q,Q.up f)|F g k u=>let(A,e,q,Q):=q;exact(A,e,aW.up vM q,aW.up vM Q)
def SS{ρ:Ϙ}:∀{os h:Hs},ρ.Nodup->Á ρ<=Á os->(∀i∈ρ,i<Á h)->Á (Qd c n ρ os h)=Á h+(Á os-Á ρ)/\∀(j:Ń)o,(Qd c n ρ os h)[j]?=O o->(∃(k:Ń)(o':Ob),ρ[k]?=O j/\os[k]?=O o'/\o=KD c n o')\/j∉ρ/\h[j]?=O o\/∃o':Ob,Á h<=j/\os[Á ρ+(j-Á h)]?=O o'/\o=KD c n o':=by induction ρ with
 |f=>
  intro os h _ _ _;let s:Qd c n [] os h=h++os.map (KD c n):=by induction os with|f=>rw[List.map_nil,aK];rfl|g _ _=>rfl
  rw[s];erw[(by rw[ai,af];rfl,λj o e=>?_)];by_cases f:j<Á h;.rw[bt f]at e;rwa[.inr (.inl (dZ,e))]
  .rw[aI (dR.mp ‹_›),aR]at e;induction q:os[j-Á h]? with|a=>rw[q]at e;cases e|c o'=>rw[q]at e;cases e;rwa[.inr (.inr (o',dR.mp ‹_›,by rw[List.length_nil,cP];rwa[q],Ŗ))]
 |g i r I=>intro os h hn p F;induction os with|f=>exact(Nat.not_succ_le_zero _ p).elim|g o1 os=>
   rw[cR]at hn;let(a,b):=I (os:=os) (h:=h.set i (KD c n o1)) hn.2 (Nat.le_of_succ_le_succ p) (λj f=>by rw[dJ];rwa[F j (aH _ f)]);rw[dJ]at a b;erw[(a.trans (by rw[aJ,aJ,Nat.add_sub_add_right]),λj o e=>?_)];rcases b j o e with ⟨k,o',g,d,m⟩|⟨g,d⟩|⟨o',g,d,m⟩;.rwa[.inl (k+1,o',g,d,m)]
   .by_cases f:i=j;.subst f;rw[dy (F i aL)]at d;cases d;rwa[.inl (0,o1,Ŗ,Ŗ,Ŗ)]
    .rw[cK f]at d;rwa[.inr (.inl (λz=>(aB.mp z).elim (λz=>f z.symm) g,d))]
   .rwa[.inr (.inr (o',g,by rw[aJ,Ai];rwa[d],m))]
theorem bj.up(r:bj (Y.z G) M H h)(p:ρ.Nodup)(f:∀i∈ρ,i<Á M)(e:Ext (mL ρ M) H (mL ρ M++L) H')(R:bj (Y.z (gL ρ M G)) (mL ρ M++L) H' l'):Ext M H (M++L) H'/\bj (Y.z G) (M++L) H' (Qd ρ (Á M) ρ l' h):=by
 let m:=vh f;let q:Á (mL ρ M++L)=Á l':=R.ln;rw[ai,m.1]at q;let ex:Ext M H (M++L) H':=by
  erw[((L,Ŗ),λb o n s=>e.keep b o (λz=>n (zj z)) s,λb s n=>?_)];rcases eR.mp s with z|z;.rwa[Ă z n]
  .rwa[e.new b (bG _ z) λz=>n (zj z)]
 let N:=λa w B=>by
  by_cases z:a∈mL ρ M;.exact(dF.mp R.nd).2.2 a z a w Ŗ
  .let h1:=e.new a (bG _ w) z;let(o,g,_):=r.there B;rw[h1]at g;cases g
 let(a,b):=SS (os:=l') p () (λi t=>by rw[<-r.ln];rwa[f i t]);erw[(ex,(dF.mpr (r.nd,(dF.mp R.nd).2.1,λx d y C z=>N y C (z▸d)),λx d=>(eR.mp d).elim (r.dj x) λy z=>R.dj x (bG _ y) (o9.mpr (.inl z)),by rw[a,ai,<-r.ln];lia,λx d=>R.gs x (o9.mpr (.inl d)),λj c o h1 g=>?_))];rcases b j o g with ⟨k,v,k1,k2,rfl⟩|⟨k1,k2⟩|⟨v,k1,k2,rfl⟩;.rw[bt (f j (aP k1))]at h1;exact(R.ob k c v (by rw[bt (by rw[m.1];exact(aw.mp k1).1),m.2,k1];rwa[h1]) k2).up f
 .let D:j<Á M:=by rw[r.ln];exact(aw.mp k2).1
  rw[bt D]at h1;rwa[uw.mv (ex.mv r) (λ_ _=>ex.at) (λu hu=>e.keep c u (λz=>by let(i,t,E):=nY.mp z;let(l1,F):=aw.mp h1;let(l2,E):=aw.mp E;let:=(iG r.nd).mp (F.trans E.symm);rwa[k1 (this▸t)]) hu) (λI A=>ex.keep I _ (r.no A Ŗ) A) (r.ob j c o h1 k2)]
 .rw[aI (by rw[r.ln];rwa[k1])]at h1;erw[(R.ob _ c v ?_ k2).up f];rw[aI nofun,m.1,show(Á ρ)+(j-Á h)-Á ρ=j-Á M by rw[r.ln];lia];rwa[h1]
end
def lE(r:bj (Y.z G) M H h)(i:cH (Y.z G) M H ds vs)(q:Iy ρ C ds h Q x)(out:∀d h' m H' v,Ext M H m H'->bj (Y.z G) m H' h'->eP (Y.z G) m H' d v->Q d h'->k v H')(E:∀c h' m H',Ext M H m H'->bj (Y.z G) m H' h'->x c h'->qL Y.t.ca EV c H'):dB Y C vs H k EV:=by
 let(c,q):=cg q;rw[aE]at c;let a:=Gq c.1;split at q;.left
 .ext l n;let(o,f):=r.dn a n;erw[(_,_,l,_,_,_,o,i.dn f c.2,q,λd h' m H' v e b I g=>?_,λc h' m H' e b g=>?_)];.let(L,rfl):=e.pre;let(j,R):=r.up a f e b;rw[r.ln]at R;let i2:=I.up f;rw[r.ln]at i2;rwa[out _ _ _ _ v j R i2 g]
  .let(L,rfl):=e.pre;let(j,R):=r.up a f e b;rw[r.ln]at R;rwa[E _ _ _ _ j R g]
def kCl(ρ:Ϙ)(C:Ct)(x:XP)(Q:KP):KP:=λds h=>Iy ρ C ds h (qD Q) x
def GI(ρ:Ϙ)(C:Ct)(A:Sm):Sm:=λx σ h Q=>A x σ h (kCl ρ C x Q)
def OW(h:cL 'X' E (GI ρ C A) τ H m):fL 'X' E A τ H λvs n=>dB 'X' C vs n m E:=by let(G,M,σ,s,o,Q,k,q):=h;exact(G,M,σ,s,o,_,(k.rel,k.env,λd y z D v e R i u=>lE R i u (λd2 f M2 g w j r I l=>k.out d2 f M2 g w (e.trans j) r I l) λc f M2 g j r l=>k.exc c f M2 g (e.trans j) r l,k.exc),q)
def IR:Ss:=λN σ h=>N.nx σ h
def U0(m n:Ss):Ss:=λN σ h=>m (N.sq n) σ h
def afl(m n:Ss):Ss:=λN σ h=>∃R:Es->Hs->ß,m (N.cu R) σ h/\∀a H,R a H->n N a H
def kEx(N:En)(σ:Es):KP:=λ_ h=>N.nx σ h
def zP(A:Sm):Ss:=λN σ h=>A N.xc σ h (kEx N σ)
def kR(N:En):KP:=λx h=>m1 x λd=>N.rt d h
def Ż(A:Sm):Ss:=λN σ h=>A N.xc σ h (kR N)
def kI(m n:Ss)(N:En)(σ:Es):KP:=λx h=>mB x λb=>br b (m N σ h) (n N σ h)
def sIf(T:Sm)(m n:Ss):Ss:=λN σ h=>T N.xc σ h (kI m n N σ)
def kS(i:Ń)(N:En)(σ:Es):KP:=λx h=>m1 x λd=>N.nx (σ.set i (O d)) h
def U1(i:Ń)(A:Sm):Ss:=λN σ h=>A N.xc σ h (kS i N σ)
def rY:Ϙ->ϑ->Es->Ő Es|[],[],σ=>O σ|i::I,x::X,σ=>rY I X (σ.set i (O (.p x)))|_,_,_=>ao
def kU(is:Ϙ)(N:En)(σ:Es):KP:=λx h=>match x with
 |[.p (.T y)]=>match rY is y σ with|O a=>N.nx a h|ao=>ŧ
 |_=>ŧ
def ϸ(is:Ϙ)(A:Sm):Ss:=λN σ h=>A N.xc σ h (kU is N σ)
def kRs(C:Ń)(N:En):KP:=λ_ h=>N.xc C h
def aaa(C:Ń)(A:Sm):Ss:=λN σ h=>A N.xc σ h (kRs C N)
def XT.CZ{Z:Tx}{τ:È}{H H':Hp}{D:Ö}{M g:Ł _}{σ:Es}{h:Hs}{N:En}(k:XT Z E τ H D M σ h N)(e:Ext M H g H'):∀C d f H1,Ext g H' f H1->bj Z f H1 d->N.xc C d->qL Z.ca E C H1:=λC d f H1 x r q=>k.exc C d f H1 (e.trans x) r q
def XT.go(k:XT Z E τ H D M σ h N)(e:Ext M H f H')(r:bj Z f H' h')(v:dD Z f H' σ' d):XT Z E d H' D f σ' h' N:=(r,v,λ_ _ _ _ _ x=>k.nx _ _ _ _ _ (e.trans x),λ_ _ _ _ _ x=>k.rt _ _ _ _ _ (e.trans x),λ_ _ _ _ _ x=>k.bk _ _ _ _ _ (e.trans x),λ_ _ _ _ _ x=>k.ct _ _ _ _ _ (e.trans x),k.CZ e)
def T8:jZ X [] (eX 'X' E IR):=Uz.imp λD τ H z=>by let(G,M,σ,h,N,k,q):=z;rwa[k.nx σ h M H τ Ext.refl k.rel k.env q]
def aag(h:eX 'X' E (U0 m n) D τ H):Bn (eX 'X' E m) (eX 'X' E n) D τ H:=by let(G,M,σ,h,N,k,q):=h;exact(G,M,σ,h,N.sq n,(k.rel,k.env,λd f g j i e r v q=>(G,g,d,f,N,k.go e r v,q),k.rt,k.bk,k.ct,k.exc),q)
def NP{st:É}(h:PS X st (eX 'X' E m))(H:jZ X rest (eX 'X' E n)):jZ X (st::rest) (eX 'X' E (U0 m n)):=(vq h H).imp λ_ _ _=>aag
def T7{st:É}(f:PS X st (eX 'X' E m))(g:jZ X rest (eX 'X' E n)):jZ X (st::rest) (eX 'X' E (afl m n)):=(vq f g).imp λD τ H z=>by let(G,M,σ,h,N,k,R,q,i):=z;exact(G,M,σ,h,N.cu R,(k.rel,k.env,λd j l s o e r v q=>(G,l,d,j,N,k.go e r v,i _ _ q),k.rt,k.bk,k.ct,k.exc),q)
def T9{st:É}(h:PS X st (eX 'X' E m)):jZ X [st] (eX 'X' E m):=GB h
def Z_(f:PE X e (cL 'X' E A))(s:g7 e ao pos.line X.env=pure bb):PS X (.Expr e pos) (eX 'X' E (zP A)):=(Ux f s).imp λD τ H z=>by let(G,M,σ,h,N,k,q):=z;exact(G,M,σ,h,_,_,(k.rel,k.env,λd g j l v e r i q=>k.nx σ g j l τ e r (k.env.ext k.rel e) q,k.exc),q)
def Ub(f:PE X e (cL 'X' E A)):PS X (.Return (O e) pos) (eX 'X' E (Ż A)):=(ζ f).imp λD τ H z=>by let(G,M,σ,h,N,k,q):=z;exact(G,M,σ,h,_,_,(k.rel,k.env,λd g j l v e r i q=>k.rt d g j l v e r i q,k.exc),q)
def B'(i:PT X c (j5 'X' E T))(j:jZ X sa (eX 'X' E m))(l:jZ X sb (eX 'X' E n)):PS X (.If c sa sb pos) (eX 'X' E (sIf T m n)):=(ϟ i j l).imp λD τ H z=>by let(G,M,σ,h,N,k,q):=z;erw[(G,M,σ,h,_,_,(k.rel,k.env,λd f g s e r Q=>?_,k.exc),q)];let(b,o,Q):=Kd Q;erw[(b,o,?_)];induction b with|d=>exact(G,g,σ,f,N,k.go e r (k.env.ext k.rel e),Q)|e=>exact(G,g,σ,f,N,k.go e r (k.env.ext k.rel e),Q)
def Uc{st:É}(s:∀f,PE X e f->PS X st (vH f (mm i)))(g:PE X e (cL 'X' E A)):PS X st (eX 'X' E (U1 i A)):=(s _ g).imp λD τ H z=>by let(G,M,σ,h,N,k,q):=z;exact(G,M,σ,h,_,_,(k.rel,k.env,λd j l o v e r i q=>k.nx _ j l o _ e r ((k.env.ext k.rel e).set i) q,k.exc),q)
def LI:Ϙ->Wn|[]=>Ĩ|i::I=>WI (mm i) (LI I)
theorem Cn:∀{is:Ϙ}{ys:ϑ}{vs:ϕ}{σ σ':Es}{τ:È},rY is ys σ=O σ'->aW Z M H ys vs->dD Z M H σ τ->(∀d,dD Z M H σ' d->R d H)->LI is vs τ H R|[],[],[],σ,σ',τ,e,_,v,q=>by cases e;exact(Ŗ,q τ v)|[],[],_::_,_,_,_,_,h,_,_=>by done|[],_::_,_,_,_,_,e,_,_,_=>by cases e|_::_,[],_,_,_,_,e,_,_,_=>by cases e|_::_,_::_,[],_,_,_,_,h,_,_=>by done|i::is,y::ys,w::vs,σ,σ',τ,e,h,v,q=>by exact(w,vs,Ŗ,Cn e h.2 (v.set h.1) q)
theorem aW.len:∀{ys:ϑ}{vs:ϕ},aW Z M H ys vs->Á ys=Á vs|[],[],_=>Ŗ|[],_::_,h=>by done|_::_,[],h=>by done|_::_,_::_,h=>by rw[aJ,aJ,aW.len h.2]
theorem pq:∀{is:Ϙ}{ys:ϑ}{σ σ':Es},rY is ys σ=O σ'->Á ys=Á is|[],[],_,_,_=>Ŗ|[],_::_,_,_,e=>by cases e|_::_,[],_,_,e=>by cases e|_::is,_::ys,_,_,e=>by rw[aJ,aJ,pq (is:=is) e]
def Ud{st:É}(u:∀o,PE X e o->PS X st (vH o (Zi X.K (Á is) (LI is))))(w:PE X e (cL 'X' E A)):PS X st (eX 'X' E (ϸ is A)):=(u _ w).imp λD τ H z=>by
 let(G,M,σ,h,N,k,q):=z;erw[(G,M,σ,h,_,_,(k.rel,k.env,λd x y C v e r i q=>?_,k.exc),q)];delta kU at q;split at q
 .ext Y g;injection g with g;subst g;split at q;.ext j f;let(a,F,rfl,s,i):=i;exact(a,F,Ŗ,s,by rw[<-i.len];rwa[pq f],Cn f i (k.env.ext k.rel e) λl v=>k.nx j x y C l e r v q)
  .left
 .left
def IQ{st:É}{C:Ń}(g:Ë 1000 C=bb)(s:∀f,PE X e f->PS X st (O5 E (t.ca C) f))(j:PE X e (cL 'X' E A)):PS X st (eX 'X' E (aaa C A)):=(s _ j).imp λD τ H z=>by let(G,M,σ,h,N,k,q):=z;exact(G,M,σ,h,_,_,(k.rel,k.env,λd l o u v e r i q=>(k.exc C l o u e r q).cls g,k.exc),q)
abbrev Im:=XP->Es->Hs->(ϑ->Hs->ß)->ß
inductive Tg where|one(i:Ń)|many(is:Ϙ)
def Qv:Tg->Pv->Es->Ő Es|.one i,x,σ=>O (σ.set i (O (.p x)))|.many I,.T y,σ=>rY I y σ|.many _,_,_=>ao
def RQ(K:Å):Tg->TG|.one i=>mm i|.many I=>Zi K (Á I) (LI I)
def RR(e:Qv tg x σ=O σ')(i:eo Z M H x v)(r:dD Z M H σ τ)(q:∀b,dD Z M H σ' b->R b H):RQ Z.K tg v τ H R:=by induction tg with|one j=>cases e;rwa[q _ (r.set i)]|many I=>cases x with|T y=>let(a,c,rfl,s,i):=i;exact(a,c,Ŗ,s,by rw[<-i.len];rwa[pq e],Cn e i r q)|_=>cases e
def Qo(Y:T0)(G:Ł À)(M:Ł À)(H:Hp)(j:It)(xs:ϑ):ß:=∀g m h a,(∀b∈g,b∈G\/H b=ao)->Ext M H m h->bj (Y.z g) m h a->(∀(i:Ń)x,xs[i]?=O x->j.go i h/\∀v o,j.yld i h v o->Ext m h m o/\bj (Y.z g) m o a/\eo (Y.z g) m o x v)/\j.stop (Á xs) h
structure KnI(Y:T0)(G:Ł À)(E:XK)(τ:È)(H:Hp)(R:It->Hp->ß)(M:Ł À)(σ:Es)(h:Hs)(xc:XP)(Q:ϑ->Hs->ß):ß where
 rel:bj (Y.z G) M H h
 env:dD (Y.z G) M H σ τ
 out:∀xs h' M' H' a,Ext M H M' H'->bj (Y.z G) M' H' h'->Qo Y G M' H' a xs->Á xs<=Ã->Q xs h'->R a H'
 exc:∀C h' M' H',Ext M H M' H'->bj (Y.z G) M' H' h'->xc C h'->qL Y.t.ca E C H'
inductive wR(Y:T0)(E:XK)(m:Im)(τ:È)(H:Hp)(R:It->Hp->ß):ß|mk(G M:Ł À)(σ:Es)(h:Hs)(xc:XP)(Q:_)(k:KnI Y G E τ H R M σ h xc Q)(q:m xc σ h Q):wR Y E m τ H R
def mD(k:Ń)(R:Es->Hs->ß):Es->Hs->ß:=λσ h=>gd (bH k (h.take k)) (R (QN k σ) (h.take k))
@[irreducible]def Dl(k:Ń)(xs:ϑ)(a:Pv->Es->Ő Es)(b:Ss)(N:En)(σ:Es)(h:Hs):ß:=∃W:Ń->Es->Hs->ß,W 0 σ h/\(∀(i:Ń)x c H,xs[i]?=O x->W i c H->match a x c with|O d=>b (N.lp (mD k (W (i+1))) (mD k N.nx)) d H|ao=>ŧ)/\∀c H,W (Á xs) c H->N.nx c H
def Zu(tg:Tg)(b:Ss)(N:En)(σ:Es)(xs:ϑ)(h:Hs):ß:=Dl (Á h) xs (Qv tg) b N σ h
def ϭ(tg:Tg)(I:Im)(b:Ss):Ss:=λN σ h=>I N.xc σ h (Zu tg b N σ)
def wLt(W:Ń->Es->Hs->ß)(m:Ń)(σ:Es)(h:Hs):ß:=∃M,M<m/\W M σ h
def ϳ(b:Ss)(N:En)(W:Ń->Es->Hs->ß)(m:Ń)(h:Hs)(σ':Es):KP:=λx H=>mB x λc=>br c (b (N.lp (mD (Á h) (wLt W m)) (mD (Á h) N.nx)) σ' H) (N.nx σ' H)
def aab(T:Sm)(b:Ss):Ss:=λN σ h=>∃W:Ń->Es->Hs->ß,(∃m,W m σ h)/\∀m a H,W m a H->T N.xc a H (ϳ b N W m h a)
section
variable{t:Tb}{X:Cx}{E:XK}{st:É}{A T:Sm}{I:Im}{b:Ss}{tg:Tg}
def mV(d:bj Z M H h)(e:Ext M H m H')(r:bj Z m H' h')(v:dD Z m H' σ τ)(q:mD (Á h) R σ h'):∃h2 a,Ext M H M H'/\bj Z M H' h2/\dD Z M H' a τ/\R a h2:=by
 let(c,q):=cg q;let f:m.take (Á h)=M:=by let(l,rfl):=e.pre;rw[<-d.ln,nZ]
 let e2:=e.cut (by rw[d.ln];rwa[aq _]);let r2:=r.cut _ c;let v2:=v.cut r (Á h);rw[f]at e2 r2 v2;exact(_,_,e2,r2,v2,q)
def Zd(h:eX 'X' E (ϭ tg I b) D τ H):JP (wR 'X' E I) (RQ X.K tg) (eX 'X' E b) D τ H:=by
 let(G,M,σ,h0,N,k,q):=h;erw[(G,M,σ,h0,N.xc,_,(k.rel,k.env,λx h1 c H1 j L r1 jo hz q=>?_,k.exc),q)];delta Zu Dl at q;erw[cps λR k0=>?_];let(W,w0,P,fin):=q;erw[k0 (λi m n u=>m=Á x-i/\i<=Á x/\∃a e,Ext c H1 c u/\bj ('X'.z G) c u e/\dD ('X'.z G) c u a n/\W i a e,(_,Ŗ,cw _,σ,h1,Ext.refl,r1,k.env.ext k.rel L,w0),?_)];erw[λi m n u z=>cps λR k1=>?_];let(rfl,hi,a,e,e2,r2,v2,w):=z;let(ja,jb):=jo G c u e (λ_ z=>.inl z) e2 r2;by_cases lK:i<Á x
 .let(g,y):=ja i x[i] (av lK);erw[k1 (.inr (g,λo H2=>∃m',m'<Á x-i/\m'=Á x-(i+1)/\i+1<=Á x/\∃a e,Ext c H1 c H2/\bj _ c H2 e/\dD _ c H2 a o/\W _ a e,λo H2 zz=>by let(m',hm,z):=zz;exact(m',hm,z),λv oF yl=>cps λR k2=>?_))];let(e3,r3,ip):=y v oF yl;let q:=P i _ a e (av lK) w;split at q
  .ext σ2 hσ;erw[k2 (RR hσ ip (v2.ext r2 e3) λo v4=>?_)];let S:=e2.trans e3;erw[(G,c,σ2,e,_,(r3,v4,?_,?_,?_,?_,?_),q)];.intro U B F p s l r Y Q;let(Z,f,e6,r6,v6,q6):=mV r1 (S.trans l) r Y Q;exact(_,(),Ŗ,da ‹_›,f,Z,e6,r6,v6,q6)
   .rwa[λd B F p v l r i5 Q=>k.rt d B F p v (L.trans (S.trans l)) r i5 Q]
   .intro U B F p s l r Y Q;let(Z,f,e6,r6,v6,q6):=mV r1 (S.trans l) r Y Q;rwa[k.nx f Z c p s (L.trans e6) r6 v6 q6]
   .intro U B F p s l r Y Q;let(Z,f,e6,r6,v6,q6):=mV r1 (S.trans l) r Y Q;exact(_,(),Ŗ,da ‹_›,f,Z,e6,r6,v6,q6)
   .rwa[λC B F p l r Q=>k.exc C B F p (L.trans (S.trans l)) r Q]
  .left
 .let hx:i=Á x:=()
  subst hx;rwa[k1 (.inl (jb,k.nx a e c u n (L.trans e2) r2 v2 (fin a e w)))]
def PH(h:eX 'X' E (aab T b) D τ H):O6 (j5 'X' E T) (eX 'X' E b) D τ H:=by
 obtain⟨G,M,σ,F,N,k,W,⟨m0,w0⟩,u⟩:=h;erw[(λm n K=>∃a h',Ext M H M K/\bj ('X'.z G) M K h'/\dD ('X'.z G) M K a n/\W m a h',(m0,σ,F,Ext.refl,k.rel,k.env,w0),?_)]
 rintro m n K ⟨a,h',e2,Y,Z,w⟩;erw[(G,M,a,h',N.xc,_,(Y,Z,λd L y P e1 r1 S=>?_,λC L y P x r q=>k.exc C L y P (e2.trans x) r q),u m a h' w)];let(c,hc,S):=Kd S;erw[(c,hc,?_)];let e3:=e2.trans e1;induction c with|d=>
  rw[bV Ŗ];erw[(λB U=>∃e,e<m/\∃a h',Ext M H M U/\bj ('X'.z G) M U h'/\dD ('X'.z G) M U a B/\W e a h',λB U z=>z,?_)];let nx:∀i l j f g,Ext y P j f->bj ('X'.z G) j f l->dD ('X'.z G) j f i g->mD (Á F) (λo h2=>∃e,e<m/\W e o h2) i l->∃e,e<m/\∃a h',Ext M H M f/\bj ('X'.z G) M f h'/\dD ('X'.z G) M f a g/\W e a h':=by intro i l j f g p R v5 Q;let(h6,s,e6,r6,v6,e,hm,q6):=mV k.rel (e3.trans p) R v5 Q;exact(e,hm,s,h6,e6,r6,v6,q6)
  erw[(G,y,a,L,N.lp (mD (Á F) λo h2=>∃e,e<m/\W e o h2) (mD (Á F) N.nx),(r1,Z.ext Y e1,nx,λd l j f v p R i5 Q=>k.rt d l j f v (e3.trans p) R i5 Q,?_,nx,λC l j f p R Q=>k.exc C l j f (e3.trans p) R Q),S)];intro i l j f g p R v5 Q;let(h6,s,e6,r6,v6,q6):=mV k.rel (e3.trans p) R v5 Q;rwa[k.nx s h6 M f g e6 r6 v6 q6]|e=>rw[bN aD];rwa[k.nx a L y P n e3 r1 (Z.ext Y e1) S]
theorem aW.get:∀{xs:ϑ}{vs:ϕ}{i:Ń}{x:Pv},aW Z M H xs vs->xs[i]?=O x->∃v,vs[i]?=O v/\eo Z M H x v|[],_,_,_,_,e=>by grind|_::_,[],_,_,h,_=>by done|_::_,v::_,0,_,h,e=>by cases e;exact(v,Ŗ,h.1)|_::_,_::_,i+1,_,h,e=>by let(w,c,a):=aW.get h.2 (by done);exact(w,by done,a)
def XH{G M:Ł À}{H:Hp}{g:Ł _}(c:∀b∈g,b∈G\/H b=ao):∀a,a∈M\/a∈g->a∈M\/a∈G\/H a=none:=λa h=>h.elim .inl λz=>.inr (c a z)
def eo.wk{Y:T0}(a:∀b∈g,b∈G\/H b=ao)(h:eo (Y.z G) M H x v):eo (Y.z g) M H x v:=eo.fr (XH a) h
def aW.wk{Y:T0}(a:∀b∈g,b∈G\/H b=ao)(h:aW (Y.z G) M H x v):aW (Y.z g) M H x v:=aW.fr (XH a) h
def adM(r:bj (Y.z G) M H h)(n:a∉M)(s:Rd H a (.L vs))(q:aW (Y.z G) M H xs vs):Qo Y G M H (Dy Y.K a) xs:=λl m d o g e R=>by let S:gB Y.K d a vs:=.inl ((e.mv r).rd n s);erw[(λi x f=>?_,(vs,S,by rw[q.len];rwa[aq _]))];let(v,c,j):=(aW.mv (e.mv r) (aW.wk g q)).get f;erw[((vs,v,S,c),λw F Z=>Z.elim λk y=>?_)];subst k;let hw:=y vs S;rw[c]at hw;cases hw;exact(Ext.refl,R,j)
def Ϭ(r:bj (Y.z G) M H h)(s:gF Y.K H a vs)(q:aW (Y.z G) M H xs vs):Qo Y G M H (EQ Y.K a) xs:=λk m l n g e R=>by let s':=(e.mv r).sqT s;erw[(λi x d=>?_,(vs,s',by rw[q.len];rwa[aq _]))];let(v,c,f):=(aW.mv (e.mv r) (aW.wk g q)).get d;erw[((vs,v,s',c),λw o Z=>Z.elim λj y=>?_)];subst j;let hw:=y vs s';rw[c]at hw;cases hw;exact(Ext.refl,R,f)
def vA(lo:Î)(n:Ń):ϑ:=(Ù n).map λ(i:Ń)=>.I (lo+i)
def ϒ{lo:Î}:Qo Y G M H (sY lo n) (vA lo n):=λg m d f j e r=>by
 erw[(λi x h=>?_,show n<=Á (vA lo n)by delta vA;rw[af,eN];rwa[aq _])];delta vA at h;rw[aR]at h;by_cases a:i<n;.rw[List.getElem?_range a]at h;cases h;erw[(a,λw o z=>z.elim λc y=>?_)];subst c y;exact(Ext.refl,r,by rfl)
 .left
def k9(n:Ń)(s:Ϙ)(σ:Es):Es:=Ð n ao++s.map λj=>σ[j]?.join
def Yu(k:Ń)(R:Hs->ß):Hs->ß:=λh=>gd (bH k (h.take k)) (R (h.take k))
def VA(n:Ń):Tg->Þ|.one i=>Đ (i<n)|.many is=>is.all λi=>Đ (i<n)
@[irreducible]def uG(H:Hs)(xs:ϑ)(e:Pv->Ő Es)(T A:Es->Hs->KP->ß)(Q:ϑ->Hs->ß):ß:=∃W:Ń->ϑ->Hs->ß,W 0 [] H/\(∀(i:Ń)y a h,xs[i]?=O y->W i a h->match e y with
  |O c=>T c h λbs d=>match bs with|[.p (.B b)]=>br b (A c d λY f=>match Y with|[.p y]=>Yu (Á H) (W (i+1) (a++[y])) f|_=>ŧ) (Yu (Á H) (W (i+1) a) d)|_=>ŧ
  |ao=>ŧ)/\∀a h,W (Á xs) a h->Q a h
def GJ(n:Ń)(j:Ϙ)(tg:Tg)(I:Im)(T A:Sm)(x:Þ):Sm:=λa σ h Q=>I a σ h λs H=>uG H s (λy=>Qv tg y (k9 n j σ)) (T λc h=>x=J/\a c h) (A λc h=>x=J/\a c h) λd e=>Q [.p (.L d)] e
theorem xO:∀{is:Ϙ}{ys:ϑ}{σ σ':Es},(is.all λi=>Đ (i<n))=J->rY is ys σ=O σ'->Á σ'=Á σ/\∀i,n<=i->σ'[i]?=σ[i]?|[],[],_,_,_,e=>by cases e;exact(Ŗ,λ_ _=>Ŗ)|[],_::_,_,_,_,e=>by cases e|_::_,[],_,_,_,e=>by cases e|j::is,y::ys,σ,σ',h,e=>by rw[bZ,aE]at h;let(a,b):=xO h.2 e;erw[(by grind,λi H=>?_)];rw[b i H,cK ()]
def X2(h:VA n tg)(e:Qv tg x σ=O σ'):Á σ'=Á σ/\∀i,n<=i->σ'[i]?=σ[i]?:=by induction tg with|one j=>cases e;let H:=bB h;exact(by rw[dJ],λi a=>by rw[cK ()])|many s=>cases x with|T y=>rwa[xO h e]|_=>cases e
def KS(v:dD Z M H σ τ)(n:Ń)(s:Ϙ):dD Z M H (k9 n s σ) (sg n s τ):=by
 erw[(by delta k9 sg;rw[ai,ai,af,af,cF,cF],λi d h=>?_)];delta k9 at h;delta sg;by_cases c:i<n;.rw[bt nofun,gm,bV c]at h;cases h
 .rw[aI (by rw[cF];rwa[dR.mp ‹_›]),cF,aR]at h⊢;induction e:s[i-n]? with|a=>left|c j=>rw[e]at h;induction a:σ[j]? with|a=>left|c o=>
    rw[Option.map_some,a]at h;let f:=by simpa using h
    subst f;let(w,k,g):=v.at' j d a;exact(w,nofun,g)
def HC{a:Es}(l:Á a=Á (k9 n j σ))(g:∀i,n<=i->a[i]?=(k9 n j σ)[i]?)(v:dD Z M H a τ2):dD Z M H (k9 n j σ) τ2:=by
 erw[(l▸v.ln,λi d h=>?_)];by_cases c:i<n;.delta k9 at h;rw[bt nofun,gm,bV c]at h;cases h
 .rwa[v.at' i d (by rw[g i (dR.mp ‹_›)];rwa[h])]
section
variable{Y:T0}{G M:Ł À}{H:Hp}{a:À}{h:Hs}
def Eo{b:À}(e:H a=O o)(c:b≠a)(r:Rd H b u):Rd (de H a d) b u:=by
 rcases r with r|⟨q,r⟩;.rwa[.inl (by rw[bw c];rwa[r])]
 .rwa[.inr (q,by rw[bw c];rwa[r])]
def KW(e:zk o)(d:a∈G)(c:H a=O o):Tf (Y.z G) G M H M (de H a f):=(λ{b _}s=>by rw[bw λz:b=a=>by rw[z,c]at s;cases s;cases e];rwa[s],λs=>Eo c (λz=>by subst z;rcases s with r|⟨o,r⟩<;>rw[c]at r<;>cases r<;>cases e) s,λn _=>n,λ{b _}n _ s=>by rw[bw λz:b=a=>n.2 (z▸d)];rwa[s],λn s=>Eo c (λz=>n.2 (z▸d)) s,λn s=>Eo c (λz=>n.2 (z▸d)) s)
def eo.chg(d:zk o)(e:a∈G)(f:H a=O o)(h:eo (Y.z G) M H x v):eo (Y.z G) M (de H a c) x v:=eo.tf (KW d e f) h
def aW.chg(d:zk o)(e:a∈G)(f:H a=O o)(h:aW (Y.z G) M H x v):aW (Y.z G) M (de H a c) x v:=aW.tf (KW d e f) h
theorem eP.chg(e:zk o)(f:a∈G)(g:H a=O o)(q:eP (Y.z G) M H d v):eP (Y.z G) M (de H a c) d v:=by induction d with|p x=>rwa[eo.chg e f g q]|r i=>rwa[q]
theorem cH.chg(c:zk o)(d:a∈G)(e:H a=O o):∀{ds:Ł Dv}{vs:ϕ},cH (Y.z G) M H ds vs->cH (Y.z G) M (de H a f) ds vs|[],[],_=>Ť|[],_::_,q=>q|_::_,[],q=>q|_::_,_::_,q=>(q.1.chg c d e,cH.chg c d e q.2)
theorem dD.chg(e:zk o)(f:a∈G)(g:H a=O o)(q:dD (Y.z G) M H σ τ):dD (Y.z G) M (de H a c) σ τ:=(q.ln,λi d j=>let (v,k,q):=q.at' i d j;(v,k,q.chg e f g))
theorem bj.chg(c:zk o)(f:a∈G)(d:H a=O o)(N:a∉M)(r:bj (Y.z G) M H h):bj (Y.z G) M (de H a m) h:=by erw[(r.nd,r.dj,r.ln,λb g=>qG (r.gs b g),λi b p s u=>?_)];let g:b≠a:=λz=>N (z▸aP s);let q:=r.ob i b p s u;induction p with|L x=>let(v,e,q):=q;exact(v,by rw[bw g];rwa[e],aW.chg c f d q)|D x=>let(v,e,q):=q;exact(v,by rw[bw g];rwa[e],q.chg c f d)|C k U=>let(j,e,q,Q):=q;exact(j,by rw[bw g];rwa[e],aW.chg c f d q,aW.chg c f d Q)|I C fs=>let(w,y,e,n,l,q):=q;exact(w,y,by rw[bw g];rwa[e],by rw[bw λz=>by rw[z,d]at n;cases n;cases c];rwa[n],l,q.chg c f d)|K k=>show de H a m b=_;rw[bw g];rwa[q]|E k ds=>let(j,e,q,Q):=q;exact(j,by rw[bw g];rwa[e],aW.chg c f d q,Q.chg c f d)|F B k U=>let(j,e,q,Q):=q;exact(j,by rw[bw g];rwa[e],aW.chg c f d q,aW.chg c f d Q)
theorem eP.wk(c:∀b∈g,b∈G\/H b=ao)(q:eP (Y.z G) M H d v):eP (Y.z g) M H d v:=by induction d with|p x=>rwa[eo.wk c q]|r i=>rwa[q]
theorem cH.wk(c:∀b∈g,b∈G\/H b=ao):∀{ds:Ł Dv}{vs:ϕ},cH (Y.z G) M H ds vs->cH (Y.z g) M H ds vs|[],[],_=>Ť|[],_::_,q=>q|_::_,[],q=>q|_::_,_::_,q=>(q.1.wk c,cH.wk c q.2)
theorem uw.wk(g:∀b∈d,b∈G\/H b=ao){b:À}(z:uw (Y.z G) M H b o):uw (Y.z d) M H b o:=by induction o with|L x=>let(v,e,q):=z;exact(v,e,aW.wk g q)|D x=>let(v,e,q):=z;exact(v,e,q.wk g)|C k u=>let(c,e,q,Q):=z;exact(c,e,aW.wk g q,aW.wk g Q)|I C fs=>let(f,i,e,n,l,q):=z;exact(f,i,e,n,l,q.wk g)|K k=>rwa[z]|E k ds=>let(c,e,q,Q):=z;exact(c,e,aW.wk g q,Q.wk g)|F j k u=>let(c,e,q,Q):=z;exact(c,e,aW.wk g q,aW.wk g Q)
def DG(hn:H a=ao):∀b∈a::G,b∈G\/H b=none:=λb c=>(aB.mp c).elim (λz=>.inr (z▸hn)) .inl
def L6:∀b∈G,b∈a::G\/H b=none:=λb c=>.inl (aH _ c)
def dD.beg(hn:H a=ao)(r:bj (Y.z G) M H h)(q:dD (Y.z G) M H σ τ):dD (Y.z (a::G)) M (de H a o) σ τ:=(q.ln,λi d c=>let (v,e,q):=q.at' i d c;(v,e,(q.wk (DG hn)).mv ((Ext.add hn).mv r) λ_ _ z=>z))
def bj.beg(hn:H a=ao)(r:bj (Y.z G) M H h):bj (Y.z (a::G)) M (de H a o) h:=by
 erw[(r.nd,λb c z=>(aB.mp z).elim (λz=>r.fresh hn (z▸c)) (r.dj b c),r.ln,λb c=>?_,λi b q d f=>?_)]
 .rcases aB.mp c with z|z;.subst z;exact(o,bA)
  .exact(r.add (o:=o) hn).gs b z
 .let k:∀{b u},H b=O u->de H a o b=O u:=λe=>by rw[bw (b7 e hn)];rwa[e]
  rwa[uw.mv ((Ext.add hn).mv r) (λ_ _ z=>z) (λ_=>k) (λ_=>k) ((r.ob i b q d f).wk (DG hn))]
def bj.dun(r:bj (Y.z (a::G)) M H h):bj (Y.z G) M H h:=(r.nd,λb c z=>r.dj b c (aH _ z),r.ln,λb c=>r.gs b (aH _ c),λi b q d e=>(r.ob i b q d e).wk L6)
theorem aW.app:∀{xs ys:ϑ}{vs ws:ϕ},aW Z M H xs vs->aW Z M H ys ws->aW Z M H (xs++ys) (vs++ws)|[],_,[],_,_,q=>q|[],_,_::_,_,h,_=>by done|_::_,_,[],_,h,_=>by done|_::_,_,_::_,_,h,q=>by exact(h.1,aW.app h.2 q)
def aW.one(h:eo Z M H x v):aW Z M H [x] [v]:=by done
end
def xf(v2:dD Z M e (k9 n s σ) c)(g:dD Z m H a τ4)(G:Á a=Á (k9 n s σ))(l:∀i,n<=i->a[i]?=(k9 n s σ)[i]?)(R:bj Z m H f)(o:k=Á M)(q:m.take k=M):dD Z M H (k9 n s σ) τ4:=by let v:=HC G l g;erw[(v.ln,λi d h=>?_)];let(w,y,B):=v.at' i d h;erw[(w,y,?_)];let(u,_,C):=v2.at' i d h;let z:=B.cut R (by induction d with|p x=>rfl|r j=>let(b,D,_):=C;rwa[cA (o▸(aw.mp D).1)]);rw[q]at z;rwa[z]
def yA(hE:∀c od H,x=J->E c od H->E1 c od H)(ht:VA n tg)(h:cL 'X' E (GJ n js tg I T A x) τ H QV):vI (wR 'X' E I) (RQ X.K tg) (j5 'X' E1 T) (cL 'X' E1 A) (sg n js) τ H QV:=by
 let(G,M,σ,h0,xc,Q,k,q):=h;erw[(G,M,σ,h0,xc,_,(k.rel,k.env,λF e M1 H1 j e1 s jo hz q=>?_,k.exc),q)];delta uG at q;erw[λa rC=>cps λR k0=>?_];let(W,w0,turn,fin):=q;let(N,naG):=s.nj rC;let ea:Ext M1 H1 M1 (de H1 a (.L [])):=Ext.add rC;let v1:=k.env.ext k.rel e1;let Z:Tx:='X'.z (a::G);let Y:a∈a::G:=aL;erw[k0 (λi m τ2 ys P=>m=Á F-i/\i<=Á F/\P a=O (.L ys)/\Á ys<=i/\∃ps S,Ext M1 H1 M1 P/\bj Z M1 P S/\dD Z M1 P (k9 n js σ) τ2/\aW Z M1 P ps ys/\W i ps S,(_,Ŗ,cw _,bA,cw _,[],e,ea,s.beg rC,(KS v1 n js).beg rC s,Ť,w0),?_)];erw[λi m τ2 ys P z=>cps λR k1=>?_];let(rfl,hi,ha,hly,ps,S,e2,r2,v2,p2,w):=z;let(ja,jb):=jo (a::G) M1 P S (DG rC) e2 r2;by_cases lK:i<Á F
 .let(g,y):=ja i F[i] (av lK);erw[k1 (ha,.inr (g,(),λv oF yl=>cps λR k2=>?_))];let(e3,r3,ip):=y v oF yl;let q:=turn i F[i] ps S (av lK) w;split at q
  .ext σ2 hσ;let(gl,gg):=X2 ht hσ;erw[k2 (RR (Z:=Z) hσ ip (v2.ext r2 e3) λτ4 v4=>?_)];let ex:∀{U H5},Ext M1 oF U H5->∀C xt u H1',Ext U H5 u H1'->bj Z u H1' xt->x/\xc C xt->qL t.ca E1 C H1':=λf C xt u H1' x' r q=>(k.exc C xt u H1' ((e1.trans (e2.trans e3)).trans (f.trans x')) r.dun q.2).imp λc od H z=>hE c od H q.1 z;let ka:∀{U H5},Ext M1 oF U H5->H5 a=O (.L ys):=λf=>f.keep a _ N (e3.keep a _ N ha);let p3:=p2.ext r2 e3;erw[(a::G,M1,σ2,S,_,_,(r3,v4,λd h5 U H5 f r5 q5=>?_,ex Ext.refl),q)];split at q5;.ext b hb;injection hb with hb;erw[(b,hb,?_)];induction b with
    |d=>
     rw[bV Ŗ];erw[(a::G,U,σ2,h5,_,_,(r5,v4.ext r3 f,λd6 h6 M6 H6 v6 e6 r6 i6 q6=>?_,ex f),q5)];split at q6
     .ext y hy;injection hy with hy;subst hy;let B:=f.trans e6;let D:=ka B;erw[(D,Á F-(i+1),(),Ŗ,da ‹_›,bA,by rw[ai];simp;lia,?_)];let p:=(e2.trans e3).trans B;let(c,q7):=cg q6;let hM:M6.take (Á e)=M1:=by let(l,rfl):=p.pre;rw[<-s.ln,nZ]
      let r7:=r6.cut (Á e) c;let i7:eo Z (M6.take (Á e)) H6 y v6:=eo.mv (Mv.cut r6 (Á e)) i6;let v7:=xf v2 (v4.ext r3 B) gl gg r6 s.ln.symm hM;let p7:aW Z (M6.take (Á e)) H6 ps ys:=aW.mv (Mv.cut r6 (Á e)) (p3.ext r3 B);rw[hM]at r7 i7 p7;let e7:=p.cut (k:=Á e) (by rw[s.ln];rwa[aq _]);rw[hM]at e7;erw[(ps++[y],_,(([],(aK M1).symm),λb o hb ho=>?_,λb hb hn=>Ă hb hn),r7.chg Ŗ Y D N,?_,(p7.app (aW.one i7)).chg Ŗ Y D,q7)];.rw[bw (b7 ho rC)];rwa[e7.keep b o hb ho]
      .rwa[v7.chg Ŗ Y D]
     .rwa[q6.elim]|e=>
     rw[bN aD];erw[(Á F-(i+1),(),Ŗ,da ‹_›,ka f,aU ‹_›,?_)];let p:=(e2.trans e3).trans f;let(c,q7):=cg q5;let hM:U.take (Á e)=M1:=by let(l,rfl):=p.pre;rw[<-s.ln,nZ]
     let r7:=r5.cut (Á e) c;let v7:=xf v2 (v4.ext r3 f) gl gg r5 s.ln.symm hM;let p7:aW Z (U.take (Á e)) H5 ps ys:=aW.mv (Mv.cut r5 (Á e)) (p3.ext r3 f);let e7:=p.cut (k:=Á e) (by rw[s.ln];rwa[aq _]);rw[hM]at r7 p7 e7;exact(ps,_,e7,r7,v7,p7,q7)
   .rwa[q5.elim]
  .left
 .let hx:i=Á F:=()
  subst hx;erw[k1 (ha,.inl (jb,k.out _ S M1 P _ (e1.trans e2) r2.dun ?_ (fin ps S w)))];exact(a,ys,Ŗ,(N,naG),ha,aW.wk L6 p2)
end
end F
namespace F
open L2 PySem.SeqAt
def zl:Ϙ->Ϙ->Þ|[],[]=>J|a::x,b::y=>Ì a b&&zl x y|_,_=>bb
def cQ(a b:Æ):Þ:=zl a.cps.toList b.cps.toList
theorem vj:∀{x y:Ϙ},zl x y=J↔x=y|[],[]=>(λ_=>Ŗ,λ_=>Ŗ)|[],_::_=>(λh=>(aD h).elim,λh=>nomatch h)|_::_,[]=>(λh=>(aD h).elim,λh=>nomatch h)|a::x,b::y=>by show(Ì a b&&zl x y)=J↔_;rw[aE,Nat.beq_eq,vj,List.cons.injEq]
def bX:cQ a b=J↔a=b:=by
 delta cQ;rw[vj];constructor;.intro h;induction a with|mk a=>left
 .intro h;rw[h]
def nL(a b:Æ):(a==b)=cQ a b:=by
 by_cases h:a=b;.rw[bX.mpr h,h];rwa[iJ b]
 .rw[bq.mpr λz=>h (bX.mp z)];rwa[cG.mpr h]
def ww(neg b:Þ):Þ:=match neg with|J=>!b|bb=>b
def DW(neg b:Þ):ww neg b=(neg !=b):=by induction neg<;>induction b<;>rfl
def lg:Î->Î->Þ|.ofNat a,.ofNat b=>Ì a b|.negSucc a,.negSucc b=>Ì a b|_,_=>bb
def qM:Î->Î->Þ|.ofNat a,.ofNat b=>Ë a b|.negSucc _,.ofNat _=>J|.negSucc a,.negSucc b=>Ë b a|.ofNat _,.negSucc _=>bb
def BW:Î->Î->Þ|.ofNat a,.ofNat b=>Ë (a+1) b|.negSucc _,.ofNat _=>J|.negSucc a,.negSucc b=>Ë (b+1) a|.ofNat _,.negSucc _=>bb
def cc{a b:Ń}:Ë a b=J↔a<=b:=(aj,aZ)
def ic:lg i j=J↔i=j:=by
 induction i<;>induction j;.exact(λh=>by rw[aT h],λh=>by rw[h];rwa[jP _])
 .exact(λh=>(by cases h),λh=>by cases h)
 .exact(λh=>(by cases h),λh=>by cases h)
 .exact(λh=>by rw[aT h],λh=>by rw[h];rwa[jP _])
def eD:qM i j=J↔i<=j:=by
 induction i<;>induction j;.rwa[cc.trans ⋯]
 .exact(λh=>(by cases h),λh=>by simp only[lL]at h;lia)
 .exact(λ_=>by simp only[lL];lia,λ_=>Ŗ)
 .rwa[cc.trans ()]
def fF:BW i j=J↔i<j:=by
 induction i<;>induction j;.rwa[cc.trans (by simp only[lL];lia)]
 .exact(λh=>(by cases h),λh=>by done)
 .exact(λ_=>by simp only[lL];lia,λ_=>Ŗ)
 .rwa[cc.trans ()]
def uQ(i j:Î):lg i j=Đ (i=j):=tD.mpr (by rw[g8];rwa[ic])
def MF(i j:Î):qM i j=Đ (i<=j):=tD.mpr (by rw[g8];rwa[eD])
def MQ(i j:Î):BW i j=Đ (i<j):=tD.mpr (by rw[g8];rwa[fF])
def b2(b:Þ):Î:=match b with|J=>1|bb=>0
def ia:Pv->Pv->Þ|.N,.N=>J|.B a,.B b=>a==b|.B a,.I b=>lg (b2 a) b|.I a,.B b=>lg a (b2 b)|.I a,.I b=>lg a b|.S a,.S b=>cQ a b|_,_=>bb
def P2(p q:Pv):Þ:=match p with|.L a=>a.isEmpty|_=>ia p q
def qc:Pv->Þ|.N=>J|.B _=>J|.I _=>J|.S _=>J|_=>bb
def Lu(h:qc x):ia x x=true:=by cases x with|N=>rfl|B b=>rwa[iJ b]|I i=>rwa[ic.mpr Ŗ]|S z=>rwa[bX.mpr Ŗ]|_=>cases h
section
variable{X:Cx}{be:c6}{σ:È}{s:am}{Y:T0}{G M:Ł À}{H:Hp}
inductive Kf:Pv->Â->ß|g9:Kf .N .none|bl(b:Þ):Kf (.B b) (.bool b)|int(i:Î)(t:Tok):Kf (.I i) (.int i t)|str(z:Æ)(t:Tok):Kf (.S z) (.str z t)
def Ge(k:qc p)(h:eo (Y.z G) M H p v)(r:RelV v v'):Kf p v':=by cases p with|N=>subst h;cases r;rwa[.g9]|B b=>subst h;cases r;rwa[.bl b]|I i=>subst h;let(t,rfl):=r;rwa[.int i t]|S z=>subst h;let(t,rfl):=r;rwa[.str z t]|_=>cases k
def Xt(b:Kf p v)(h:Kf q u):(RcAt A s v u (ia p q)/\RcNeAt A s v u !ia p q)/\EqAt A s v u (ia p q):=by induction b with
 |g9=>induction h with|g9=>exact((RcAt.none_none,RcNeAt.none_none),EqAt.same _)|bl d=>exact((RcAt.none_bool d,RcNeAt.none_bool d),EqAt.none_bool d)|int d t=>exact((RcAt.none_int d t,RcNeAt.none_int d t),EqAt.none_int d t)|str d t=>exact((RcAt.none_str d t,RcNeAt.none_str d t),EqAt.none_str d t)
 |bl c=>induction h with|g9=>exact((RcAt.bool_none c,RcNeAt.bool_none c),EqAt.bool_none c)|bl d=>exact((RcAt.bool_bool c d,RcNeAt.bool_bool c d),EqAt.bool_bool c d)|int d t=>show(RcAt A s _ _ (lg (b2 c) d)/\RcNeAt A s _ _ !lg (b2 c) d)/\EqAt A s _ _ (lg (b2 c) d);rw[uQ];let z:=RcAt.bool_int (A:=A) (s:=s) c d t;let Z:=RcNeAt.bool_int (A:=A) (s:=s) c d t;let a:=EqAt.bool_int (A:=A) (s:=s) c d t;rw[kG]at z Z a;induction c<;>exact((z,Z),a)|str d t=>exact((RcAt.bool_str c d t,RcNeAt.bool_str c d t),EqAt.bool_str c d t)
 |int c T=>induction h with|g9=>exact((RcAt.int_none c T,RcNeAt.int_none c T),EqAt.int_none c T)|bl d=>show(RcAt A s _ _ (lg c (b2 d))/\RcNeAt A s _ _ !lg c (b2 d))/\EqAt A s _ _ (lg c (b2 d));rw[uQ];let z:=RcAt.int_bool (A:=A) (s:=s) c T d;let Z:=RcNeAt.int_bool (A:=A) (s:=s) c T d;let a:=EqAt.int_bool (A:=A) (s:=s) c T d;rw[kG]at z Z a;induction d<;>exact((z,Z),a)|int d t=>show(RcAt A s _ _ (lg c d)/\RcNeAt A s _ _ !lg c d)/\EqAt A s _ _ (lg c d);rw[uQ,<-kG];exact((RcAt.int_int c T d t,RcNeAt.int_int c T d t),EqAt.int_int c T d t)|str d t=>exact((RcAt.int_str c T d t,RcNeAt.int_str c T d t),EqAt.int_str c T d t)
 |str c T=>induction h with|g9=>exact((RcAt.str_none c T,RcNeAt.str_none c T),EqAt.str_none c T)|bl d=>exact((RcAt.str_bool c T d,RcNeAt.str_bool c T d),EqAt.str_bool c T d)|int d t=>exact((RcAt.str_int c T d t,RcNeAt.str_int c T d t),EqAt.str_int c T d t)|str d t=>show(RcAt A s _ _ (cQ c d)/\RcNeAt A s _ _ !cQ c d)/\EqAt A s _ _ (cQ c d);rw[<-nL];exact((RcAt.str_str c T d t,RcNeAt.str_str c T d t),EqAt.str_str c T d t)
def Pp:Pv->Pv->Þ|.L _,.L []=>J|_,_=>bb
def Θ(I:Inv X be σ H s)(k:Pp p q)(e:eo (Y.z G) M H p v)(f:eo (Y.z G) M H q u)(R:RelV v c)(g:RelV u U)(hu:A.units<Ï):RcAt A s c U (P2 p q)/\RcNeAt A s c U !P2 p q:=by
 delta Pp at k;split at k;.ext m;let(a,y,rfl,_,S,n):=e;let(b,ws,rfl,_,o,w):=f;cases R;cases g;let(i,d,T,_):=I.list (.inl (.inl S));let(B,Z,t,_):=I.list (.inl (.inl o));let l1:=n.len.trans d.length;let l2:=w.len.trans Z.length;cases lM l2.symm;cases m with|f=>cases lM l1.symm;let z:∀j(e:j<([]:Ł Â).toArray.size)(f:j<([]:Ł Â).toArray.size),EqAt A.in1 s ([]:Ł Â).toArray[j] ([]:Ł Â).toArray[j] true:=λ_ h=>Ă h (Nat.not_lt_zero _);exact(RcAt.lists T.isList t.isList Ŗ hu z,RcNeAt.lists T.isList t.isList Ŗ hu z)|g x r=>
   let l:(i.toArray.size !=([]:Ł Â).toArray.size)=true:=by rw[aM,<-l1];rfl
   exact(RcAt.lists_lengths T.isList t.isList l hu,RcNeAt.lists_lengths T.isList t.isList l hu)
 .cases k
end
def xL(p q:Pv):Þ:=Pp p q||qc p&&qc q
def Y5(h:qc p):P2 p q=ia p q:=by cases p<;>first|rfl|cases h
def UQ(Y:T0)(n:Þ):R2:=λv u H Q=>∃G M p q,eo (Y.z G) M H p v/\eo (Y.z G) M H q u/\xL p q=J/\Q (.B (n !=P2 p q)) H
def Ot{P:Ł _}{σ:È}{Y:T0}(I:Inv X P σ H s)(k:xL p q)(h:eo (Y.z G) M H p v)(b:eo (Y.z G) M H q u)(r:RelV v a)(R:RelV u U)(hu:A.units+64<Ï):RcAt A s a U (P2 p q)/\RcNeAt A s a U !P2 p q:=by
 rcases(mr _ _).mp k with k|k;.rwa[Θ I k h b r R (dQ (bp _ _) ‹_›)]
 .rw[aE]at k;rw[Y5 k.1];exact(Xt (Ge k.1 h r) (Ge k.2 b R)).1
def w_(hu:X.A.units+64<Ï):kZ X (compareOp .Eq) (UQ 'X' bb):=by intro P s σ H x y v u Q I r R h;let(G,M,p,q,a,b,k1,h):=h;erw[(Ot I k1 a b r R hu).1 _ X.w _ _ (.B _,H,I,Ŗ,?_)];rw[nU]at h;rwa[h]
def B_(hu:X.A.units+64<Ï):kZ X (compareOp .NotEq) (UQ 'X' J):=by intro P s σ H x y v u Q I r R h;let(G,M,p,q,a,b,k1,h):=h;erw[(Ot I k1 a b r R hu).2 _ X.w _ _ (.B _,H,I,Ŗ,?_)];rw[pL]at h;rwa[h]
def ň:O2:=λx y h Q=>match x,y with|.p a,.p b=>gd (xL a b) (Q (.p (.B (P2 a b))) h)|_,_=>ŧ
def ŝ:O2:=λx y h Q=>match x,y with|.p a,.p b=>gd (xL a b) (Q (.p (.B !P2 a b)) h)|_,_=>ŧ
def ZP:iC Y (UQ Y bb) ň:=λG M h H x y v u Q d r i j q out=>by induction x with|r _=>rwa[q.elim]|p a=>induction y with|r _=>rwa[q.elim]|p b=>let(c,q):=cg q;exact(G,M,a,b,i,j,c,by rw[nU];rwa[out _ h M H _ Ext.refl r (by rfl) q])
def ZW:iC Y (UQ Y J) ŝ:=λG M h H x y v u Q d r i j q out=>by induction x with|r _=>rwa[q.elim]|p a=>induction y with|r _=>rwa[q.elim]|p b=>let(c,q):=cg q;exact(G,M,a,b,i,j,c,by rw[pL];rwa[out _ h M H _ Ext.refl r (by rfl) q])
end F
namespace F
open L2
section
variable{Y:T0}{G M:Ł À}{H:Hp}{h:Hs}{x y:Dv}{v u:V}
def lA(h:Hs):Dv->Ő ϑ
 |.p (.L X)=>O X|.r i=>match h[i]? with|O (.L X)=>O X|_=>ao
 |_=>ao
def bj.at'(r:bj Z M H h){i:Ń}(b:M[i]?=O a)(c:h[i]?=O o):uw Z M H a o:=r.ob i a o b c
def fX(r:bj (Y.z G) M H h)(i:eP (Y.z G) M H x v)(e:lA h x=O xs):∃a vs,v=.A a/\H a=O (.L vs)/\aW (Y.z G) M H xs vs:=by
 delta lA at e;split at e;.cases e;let(a,vs,b,_,c,d):=i;exact(a,vs,b,c,d)
 .split at e;.ext o;cases e;let(a,b,c):=i;let(vs,d,f):=r.at' b o;exact(a,vs,c,d,f)
  .cases e
 .cases e
def jI(r:bj (Y.z G) M H h)(a:H p=ao)(i:aW (Y.z G) M H xs vs):eP (Y.z G) M (de H p (.L vs)) (.p (.L xs)) (.A p):=by exact(p,vs,Ŗ,r.nj a,bA,i.ext r (Ext.add a))
def qk(r:bj (Y.z G) M H h)(a:H p=ao)(i:aW (Y.z G) M H xs vs):eP (Y.z G) M (de H p (.T vs)) (.p (.T xs)) (.A p):=by exact(p,vs,Ŗ,gF.of bA,i.ext r (Ext.add a))
def jE(s:rb H H'):Ext M H M H':=(([],(aK M).symm),λb o _ e=>s b o e,λb h n=>Ă h n)
def vt(r:bj (Y.z G) M H h)(s:rb H H'):bj (Y.z G) M H' h:=(r.nd,r.dj,r.ln,λb c=>let (o,e):=r.gs b c;(o,s _ _ e),λi a o d f=>uw.mv ((jE s).mv r) (λ_ _ z=>z) (λ_ e=>s _ _ e) (λ_ e=>s _ _ e) (r.ob i a o d f))
def fE:eP (Y.z G) M H (.p (.I i)) (.I i):=rfl
def jH:eP (Y.z G) M H (.p (.B b)) (.B b):=rfl
def F8:eP (Y.z G) M H (.p (.S z)) (.S z):=rfl
def tZ:eP (Y.z G) M H (.p .N) .g9:=rfl
def fJ(q:eP (Y.z G) M H (.p (.I i)) v):v=.I i:=by done
def Kq(q:eP (Y.z G) M H (.p (.B b)) v):v=.B b:=by done
def jA(q:eP (Y.z G) M H (.p (.S z)) v):v=.S z:=by done
def Wj(q:eP (Y.z G) M H (.p .N) v):v=.g9:=by done
def mP(q:eP (Y.z G) M H (.p (.T xs)) v):∃a vs,v=.A a/\gF Y.K H a vs/\aW (Y.z G) M H xs vs:=by done
def iO:Dv->Ő Î|.p (.I i)=>O i|_=>ao
def sO:Dv->Ő Æ|.p (.S i)=>O i|_=>ao
def tO:Dv->Ő ϑ|.p (.T i)=>O i|_=>ao
def qj(e:iO x=O i):x=.p (.I i):=by induction x with
 |p a=>cases a<;>first|(cases e;rfl)|cases e
 |r _=>cases e
def GL(e:sO x=O i):x=.p (.S i):=by induction x with
 |p a=>cases a<;>first|(cases e;rfl)|cases e
 |r _=>cases e
def BF(e:tO x=O i):x=.p (.T i):=by induction x with
 |p a=>cases a<;>first|(cases e;rfl)|cases e
 |r _=>cases e
def d2(ds:Ł Dv)(k:Dv->Dv->ß):ß:=match ds with|[x,y]=>k x y|_=>ŧ
def WA(q:d2 ds k):∃x y,ds=[x,y]/\k x y:=by rcases ds with _|⟨x,_|⟨y,_|_⟩⟩<;>first|exact(x,y,Ŗ,q)|rwa[q.elim]
def d1(ds:Ł Dv)(k:Dv->ß):ß:=match ds with|[x]=>k x|_=>ŧ
def Wz(q:d1 ds k):∃x,ds=[x]/\k x:=by rcases ds with _|⟨x,_|_⟩<;>first|exact(x,Ŗ,q)|rwa[q.elim]
def zu(h:fH o A B):(∃x,o=O x/\A x)\/B:=by induction o with|c x=>rwa[.inl (x,Ŗ,h)]|a=>rwa[.inr h]
def iI(x y:Dv)(k:Î->Î->ß):ß:=fH (iO x) (λi=>fH (iO y) (k i) ŧ) ŧ
def LZ(q:iI x y k):∃i j,x=.p (.I i)/\y=.p (.I j)/\k i j:=by let(i,e,q):=b9 q;let(j,f,q):=b9 q;exact(i,j,qj e,qj f,q)
def oI(c:Î->Î->Þ)(g:Î->Î->Î):O2:=λx y h Q=>iI x y λi j=>gd (c i j) (Q (.p (.I (g i j))) h)
def oB(g:Î->Î->Þ):O2:=λx y h Q=>iI x y λi j=>Q (.p (.B (g i j))) h
def WR(d:∀i j,c i j=J->C i j):iC Y (rI C λi j=>.I (g i j)) (oI c g):=λG M h H x y v u Q e r i j q out=>by let(a,b,rfl,rfl,q):=LZ q;let(k,q):=cg q;exact(_,_,fJ i,fJ j,d _ _ k,out _ h M H _ Ext.refl r fE q)
def F9:iC Y (Ek λi j=>.B (g i j)) (oB g):=λG M h H x y v u Q c r i j q out=>by let(a,b,rfl,rfl,q):=LZ q;exact(_,_,fJ i,fJ j,out _ h M H _ Ext.refl r jH q)
def cT:Î->Î->Þ:=λ_ _=>J
def akF:O2:=oI cT λi j=>i-j
def Su:iC Y (Ek λi j=>.I (i-j)) akF:=λG M h H x y v u Q c r i j q out=>by let(a,b,rfl,rfl,q):=LZ q;exact(_,_,fJ i,fJ j,out _ h M H _ Ext.refl r fE q)
def iy(i:Î):Þ:=Ë i.natAbs 18446744073709551615
def ym(i j:Î):Þ:=iy j||iy i
def QG(h:ym i j):Ko i j:=by
 delta ym iy at h;simp only[mr,jj]at h;rcases h with h|h;.rwa[.inr ((),())]
 .rwa[.inl ((),())]
def QD(_ j:Î):Þ:=Đ (0<j)&&Đ (j<1073741824)
def FT:O2:=oI QD λi j=>i/j
def Se:iC Y (rI ĵ λi j=>.I (i/j)) FT:=WR λi j h=>by delta QD at h;simp only[aE,g8]at h;rwa[h]
def aio(_ j:Î):Þ:=Đ (0<j)
def BY:O2:=oI aio λi j=>i%j
def Sn:iC Y (rI (λ_ j=>0<j) λi j=>.I (i%j)) BY:=WR λi j h=>bB h
def T2:O1:=λx h Q=>match x with|.p (.I i)=>Q (.p (.I (-i))) h|_=>ŧ
def Sq:Qm Y (rU λi=>.I (-i)) T2:=λG M h H x v Q a r i q out=>by
 delta T2 at q;split at q;.exact(_,fJ i,out _ h M H _ Ext.refl r fE q)
 .left
def qC(n:Ń):Þ:=Ë n Ã
def fU(h:qC n):n<=Ã:=aj h
def aar(h:n<=Ã):qC n=true:=aZ h
def aku:O2:=λx y h Q=>fH (iO x) (λi=>fH (iO y) (λj=>Q (.p (.I (i+j))) h) ŧ) (fH (sO x) (λa=>fH (sO y) (λb=>gd (qC (a.length+b.length)) (Q (.p (.S (a++b))) h)) ŧ) (fH (tO x) (λa=>fH (tO y) (λb=>gd (qC (Á a+Á b)) (Q (.p (.T (a++b))) h)) ŧ) (fH (lA h x) (λa=>fH (lA h y) (λb=>gd (qC (Á a+Á b)) (Q (.p (.L (a++b))) h)) ŧ) ŧ)))
def Xo(K:Å):R2:=λx y H Q=>Ek (λi j=>.I (i+j)) x y H Q\/(∃i j,x=.S i/\y=.S j/\i.length+j.length<=Ã/\Q (.S (i++j)) H)\/Oh K x y H Q\/PP x y H Q
def Te:kZ X (binaryOp .Add) (Xo X.K):=t_.or (D3.or (Nj.or u_))
def R9:iC Y (Xo Y.K) aku:=λG M h H x y v u Q B r i j q out=>by
 rcases zu q with ⟨n,e,q⟩|q;.let(o,f,q):=b9 q;cases qj e;cases qj f;rwa[.inl (_,_,fJ i,fJ j,out _ h M H _ Ext.refl r fE q)]
 rcases zu q with ⟨n,e,q⟩|q;.let(o,f,q):=b9 q;cases GL e;cases GL f;let(k,q):=cg q;rwa[.inr (.inl (_,_,jA i,jA j,fU k,out _ h M H _ Ext.refl r F8 q))]
 rcases zu q with ⟨n,e,q⟩|q;.let(o,f,q):=b9 q;cases BF e;cases BF f;let(k,q):=cg q;let(a,s,E,s1,I):=mP i;let(b,ws,l,s2,g):=mP j;erw[.inr (.inr (.inl (a,b,s,ws,E,l,s1,s2,by rw[<-I.len,<-g.len];rwa[fU k],λp t S w=>?_)))];erw[out _ h M t _ (jE S) (vt r S) ?_ q];exact(p,_,Ŗ,w,(I.app g).ext r (jE S))
 .let(a,z,q):=b9 q;let(b,A,q):=b9 q;let(k,q):=cg q;let(c,s,E,s1,I):=fX r i z;let(d,ws,l,s2,g):=fX r j A;rwa[.inr (.inr (.inr (c,d,s,ws,E,l,s1,s2,by rw[<-I.len,<-g.len];rwa[fU k],λp m=>out _ h M _ _ (Ext.add m) (r.add m) (jI r m (I.app g)) q)))]
def L1:O2:=oB BW
def RY:O2:=oB λi j=>BW j i
def F2:O2:=oB λi j=>qM j i
def ZV:iC Y (Ek λi j=>.B (Đ (i<j))) L1:=by rw[show(λi j:Î=>V.B _)=λi j=>.B (BW i j)by funext i j;rw[MQ]];rwa[F9]
def ZR:iC Y (Ek λi j=>.B (Đ (j<i))) RY:=by rw[show(λi j:Î=>V.B _)=λi j=>.B (BW j i)by funext i j;rw[MQ]];rwa[F9]
def ZQ:iC Y (Ek λi j=>.B (Đ (j<=i))) F2:=by rw[show(λi j:Î=>V.B (Đ (j<=i)))=λi j=>.B (qM j i)by funext i j;rw[MF]];rwa[F9 (g:=λi j=>qM j i)]
def Zy:O2:=oB qM
def ZU:iC Y (Ek λi j=>.B (Đ (i<=j))) Zy:=by rw[show(λi j:Î=>V.B (Đ (i<=j)))=λi j=>.B (qM i j)by funext i j;rw[MF]];rwa[F9]
def WQ:Pv->Þ|.N=>J|_=>bb
def Kb(x:Pv):ϑ->Þ|[]=>bb|y::r=>P2 y x||Kb x r
def uS:ϑ->Þ|[]=>J|x::r=>qc x&&uS r
def Ey(h:Hs):Dv->Ő ϑ|.p (.T X)=>O X|d=>lA h d
def qx(r:bj (Y.z G) M H h)(i:eP (Y.z G) M H x v)(e:Ey h x=O xs):∃a vs,v=.A a/\(gB Y.K H a vs\/gF Y.K H a vs)/\aW (Y.z G) M H xs vs:=by
 delta Ey at e;split at e;.cases e;let(a,vs,E,s1,I):=mP i;exact(a,vs,E,.inr s1,I)
 .let(a,vs,E,s1,I):=fX r i e;exact(a,vs,E,.inl (gB.of s1),I)
def X7(a b:Î):(a==b)=lg a b:=by rw[uQ];rwa[kG ..]
def De(f:qc p)(i:eo (Y.z G) M H p v):oM v/\∀{q:Pv}{u:V},qc q=J->eo (Y.z G) M H q u->Ru u v=P2 q p:=by
 cases p<;>first|done|skip
 all_goals(subst i;erw[(Ŗ,λ{q u}g j=>?_)])
 all_goals(cases q<;>first|done|(subst j;first|rfl|rwa[nL _ _]|(rwa[X7 _ _])|(ext b;induction b<;>rwa[X7 _ _])|(ext b _;induction b<;>rwa[X7 _ _])))
theorem WP{v:V}(f:qc p)(i:eo (Y.z G) M H p v):∀{xs:ϑ}{vs:ϕ},uS xs=J->aW (Y.z G) M H xs vs->vs.all oM/\ox v vs=Kb p xs|[],[],_,_=>(Ŗ,Ŗ)|[],_::_,_,h=>by done|_::_,[],_,h=>by rwa[h.elim]|x::xs,w::vs,g,h=>by simp only[uS,aE]at g;let(a,b):=WP f i g.2 h.2;erw[(by rw[bZ,(De g.1 h.1).1,a];rfl,?_)];delta ox at b⊢;rw[pM,b,(De f i).2 g.1 h.1];rfl
def ĸ(neg:Þ):O2:=λx y h Q=>match x with
 |.p a=>match Ey h y with|O X=>gd (qc a&&uS X) (Q (.p (.B (ww neg (Kb a X)))) h)|ao=>ŧ
 |_=>ŧ
def ZS:iC Y (Ř Y.K neg) (ĸ neg):=λG M h H x y v u Q c r i j q out=>by
 delta ĸ at q;simp only[DW]at q;split at q
 .split at q
  .ext X e;let(k,q):=cg q;rw[aE]at k;let(b,s,E,s1,I):=qx r j e;let(k2,a):=WP k.1 i k.2 I;erw[(b,s,E,s1,(De k.1 i).1,k2,?_)];erw[out _ h M H _ Ext.refl r ?_ q];rw[a];induction neg;.rw[nU];rwa[jH]
   .rw[pL];rwa[jH]
  .rwa[q.elim]
 .left
def Cp{α:Type}(xs:Ł α):Î->Ő α|.ofNat n=>xs[n]?|.negSucc n=>match Ë (n+1) (Á xs)with|J=>xs[Á xs-(n+1)]?|bb=>ao
def tL{α:Type}(xs:Ł α)(n:Ń):Cp xs (.negSucc n)=match Ë (n+1) (Á xs)with|J=>xs[Á xs-(n+1)]?|bb=>ao:=rfl
def Cq(xs:Ł α)(i:Î):Cp xs i=BR xs i:=by
 delta BR SA;induction i with|ofNat n=>
  show xs[n]?=_;rw[bV (show(0)<=Int.ofNat n from Int.natCast_nonneg n)];by_cases hn:n<Á xs;.rw[bV (show Int.ofNat n<Á xs by left)];rfl
  .rw[bN (show ¬Int.ofNat n<Á xs by left),er (dR.mp ‹_›)];rfl|negSucc n=>
  rw[bN (),tL];by_cases hn:n+1<=Á xs;.rw[bV (),aZ hn];show xs[Á xs-(n+1)]?=xs[(Int.negSucc n+Á xs).toNat]?;rw[show(Int.negSucc n+Á xs).toNat=Á xs-(n+1)by lia]
  .rw[bN (),bq.mpr λz=>hn (aj z)];rfl
def ze(h:Hs):Dv->Ő (Ł Dv)
 |.r i=>match h[i]? with|O (.D ds)=>O ds|_=>ao
 |_=>ao
def Ds:O2:=λx y h Q=>match y with
 |.p (.I i)=>match Ey h x with|O X=>fH (Cp X i) (λz=>Q (.p z) h) ŧ|ao=>match x with|.p (.S z)=>gd (qC z.length) (fH (Cp z.cps.toList i) (λc=>Q (.p (.S ⟨#[c]⟩)) h) ŧ)|.p (.scr X)=>fH (Cp X i) (λz=>Q (.p z) h) ŧ|x=>match ze h x with|O ds=>fH (Cp ds i) (λd=>Q d h) ŧ|ao=>ŧ
 |_=>ŧ
theorem aW.BR(q:aW (Y.z G) M H xs vs)(e:Cp xs i=O z):∃v,L2.BR vs i=O v/\eo (Y.z G) M H z v:=by rw[<-Cq];induction i with|ofNat n=>rwa[q.get e]|negSucc n=>
  rw[tL]at e⊢;rw[<-q.len];split at e;.rwa[q.get e]
  .cases e
theorem cH.len:∀{ds:Ł Dv}{vs:ϕ},cH Z M H ds vs->Á ds=Á vs|[],[],_=>Ŗ|[],_::_,h=>h.elim|_::_,[],h=>h.elim|_::_,_::_,h=>by rw[aJ,aJ,cH.len h.2]
def dB.ln(t:dB Y C vs H q E)(k:∀ds h Q X,C ds h Q X->Á ds=n):Á vs=n:=by let(G,M,h,ds,a,X,r,i,c,_,_):=t;rw[<-i.len];rwa[k _ _ _ _ c]
theorem cH.get{M:Ł _}{H:Hp}:∀{xs:Ł Dv}{vs:ϕ}{i:Ń}{x:Dv},cH Z M H xs vs->xs[i]?=O x->∃v,vs[i]?=O v/\eP Z M H x v|[],_,_,_,_,e=>by grind|_::_,[],_,_,h,_=>h.elim|_::_,v::_,0,_,h,e=>by cases e;exact(v,Ŗ,h.1)|_::_,_::_,i+1,_,h,e=>by let(w,b,a):=cH.get h.2 (by done);exact(w,by done,a)
theorem cH.BR(q:cH (Y.z G) M H xs vs)(e:Cp xs i=O z):∃v,L2.BR vs i=O v/\eP (Y.z G) M H z v:=by rw[<-Cq];induction i with|ofNat n=>rwa[q.get e]|negSucc n=>
  rw[tL]at e⊢;rw[<-q.len];split at e;.rwa[q.get e]
  .cases e
def ZT:iC Y (W3 Y.K) Ds:=λG M h H x y v u Q D r i j q out=>by
 delta Ds fH at q;split at q
 .split at q
  .ext X e;split at q
   .ext z g;let(a,s,E,s1,I):=qx r i e;let(w,b,f):=I.BR g;let o:=out (.p z) h M H w Ext.refl r f q;rcases s1 with s1|s1;.rwa[.inl (a,s,_,w,E,fJ j,s1,b,o)]
    .rwa[.inr (.inl (a,s,_,w,E,fJ j,s1,b,o))]
   .left
  .split at q
   .let(k,q):=cg q;split at q;.ext c l;rw[Cq]at l;rwa[.inr (.inr (_,_,c,jA i,fJ j,fU k,l,out _ h M H _ Ext.refl r F8 q))]
    .left
   .split at q;.ext z g;let(a,s,E,s1,I):=i;let(w,b,f):=I.BR g;rwa[.inl (a,s,_,w,E,fJ j,OE s1,b,out (.p z) h M H w Ext.refl r f q)]
    .left
   .split at q
    .ext ds e;split at q
     .ext d m;delta ze at e;split at e
      .split at e;.ext n;cases e;let(a,b,f):=i;let(s,t,A):=r.at' b n;let(w,B,C):=A.BR m;rwa[.inl (a,s,_,w,f,fJ j,gB.of t,B,out _ h M H w Ext.refl r C q)]
       .cases e
      .cases e
     .left
    .left
 .left
def s0(n:Ń):Ő Î->Ń|ao=>0|O (.ofNat k)=>k|O (.negSucc k)=>n-(k+1)
def og{α:Type}(xs:Ł α)(lo i:Ő Î):Ł α:=match i with|ao=>xs.drop (s0 (Á xs) lo)|O (.ofNat k)=>(xs.take k).drop (s0 (Á xs) lo)|O (.negSucc k)=>(xs.take (Á xs-(k+1))).drop (s0 (Á xs) lo)
def xN(n d k:Ń):HT.lC n d (O (.ofNat k))=min k n:=HT.UY n d k
def GK(n d k:Ń):HT.lC n d (O (.negSucc k))=n-(k+1):=by let h:=HT.yu (.negSucc k) n d;rw[bV ()]at h;lia
def yM{α:Type}(xs:Ł α)(n:Ń)(hn:Á xs<=n)(lo:Ő Î):xs.drop (HT.lC n 0 lo)=xs.drop (s0 n lo):=by induction lo with|a=>rfl|c i=>induction i with
  |ofNat k=>
   rw[xN];show xs.drop _=xs.drop k;by_cases h:k<=n;.rw[Nat.min_eq_left h]
   .left|negSucc k=>rw[GK];rfl
def QT(xs:ϕ)(lo hi:Ő Î):rk xs lo hi=og xs lo hi:=by
 delta rk;rw[<-List.drop_take];let e:xs.take (HT.lC (Á xs) (Á xs) hi)=match hi with|ao=>xs|O (.ofNat k)=>xs.take k|O (.negSucc k)=>xs.take (Á xs-(k+1)):=by induction hi with|a=>rw[HT.OB,kM]|c i=>induction i with
   |ofNat k=>
    rw[xN];by_cases h:k<=Á xs;.simp
    .simp|negSucc k=>rw[GK]
 rw[e];induction hi with|a=>rwa[yM xs _ (aq _) lo]|c i=>induction i with|ofNat k=>rwa[yM _ _ (by rw[dY];rwa[Nat.min_le_right ..]) lo]|negSucc k=>rwa[yM _ _ (by rw[dY];rwa[Nat.min_le_right ..]) lo]
theorem aW.drop:∀{xs:ϑ}{vs:ϕ}(n:Ń),aW Z M H xs vs->aW Z M H (xs.drop n) (vs.drop n)|_,_,0,q=>q|[],[],n+1,q=>q|[],_::_,_+1,q=>by done|_::_,[],_+1,q=>by done|_::_,_::_,n+1,q=>by rwa[aW.drop n q.2]
theorem aW.take:∀{xs:ϑ}{vs:ϕ}(n:Ń),aW Z M H xs vs->aW Z M H (xs.take n) (vs.take n)|xs,vs,0,q=>by done|[],[],n+1,q=>q|[],_::_,_+1,q=>by done|_::_,[],_+1,q=>by assumption|_::_,_::_,n+1,q=>by exact(q.1,aW.take n q.2)
theorem aW.rev:∀{xs:ϑ}{vs:ϕ},aW Z M H xs vs->aW Z M H xs.reverse vs.reverse|[],[],q=>q|[],_::_,q=>q.elim|_::_,[],q=>q.elim|_::_,_::_,q=>by rw[pC,pC];exact(aW.rev q.2).app (aW.one q.1)
theorem aW.rk(q:aW (Y.z G) M H xs vs)(lo a:Ő Î):aW (Y.z G) M H (og xs lo a) (L2.rk vs lo a):=by rw[QT];delta og;rw[q.len];induction a with|a=>rwa[q.drop _]|c i=>induction i with|ofNat k=>exact(q.take k).drop _|negSucc k=>exact(q.take _).drop _
end
def sP(m:Ő Sm)(x:XP)(σ:Es)(h:Hs)(Q:Ő Î->Hs->ß):ß:=match m with|ao=>Q ao h|O L=>L x σ h λX H=>match X with|[.p (.I i)]=>Q (O i) H|_=>ŧ
def ot(x:Dv)(lo H:Ő Î)(h:Hs)(Q:Dv->Hs->ß):ß:=match x with|.p (.T X)=>Q (.p (.T (og X lo H))) h|x=>match lA h x with|O X=>Q (.p (.L (og X lo H))) h|ao=>ŧ
def ϙ(A:Sm)(L U:Ő Sm):Sm:=λX σ h Q=>A X σ h λs H=>match s with|[x]=>sP L X σ H λlo a=>sP U X σ a λi b=>ot x lo i b λd c=>Q [d] c|_=>ŧ
def Ō(K:Å):V->Ő Î->Ő Î->Hp->VK->ß:=λx lo h H Q=>Xs K x lo h H Q\/Ġ K x lo h H Q
def ald:Qp X (Ō X.K):=U7.or U6
def ZX{Y:T0}{lo:Ő Î}(r:bj (Y.z G) M H h)(i:eP (Y.z G) M H x v)(q:ot x lo b h Q)(out:∀d h' m H' w,Ext M H m H'->bj (Y.z G) m H' h'->eP (Y.z G) m H' d w->Q d h'->QV w H'):Ō Y.K v lo b H QV:=by
 delta ot at q;split at q;.let(a,s,E,s1,I):=mP i;erw[.inl (a,s,E,s1,λp H' S f=>?_)];erw[out _ h M H' _ (jE S) (vt r S) ?_ q];exact(p,_,Ŗ,f,(I.rk lo b).ext r (jE S))
 .split at q;.ext X e;let(a,s,E,s1,I):=fX r i e;rwa[.inr (a,s,E,gB.of s1,λp c=>out _ h M _ _ (Ext.add c) (r.add c) (jI r c (I.rk lo b)) q)]
  .left
structure KnO(Z:Tx)(E:XK)(τ:È)(H:Hp)(R:Ő Î->Hp->ß)(M:Ł À)(σ:Es)(h:Hs)(xc:XP)(Q:Ő Î->Hs->ß):ß where
 rel:bj Z M H h
 env:dD Z M H σ τ
 out:∀o h' M' H',Ext M H M' H'->bj Z M' H' h'->Q o h'->R o H'
 exc:∀C h' M' H',Ext M H M' H'->bj Z M' H' h'->xc C h'->qL Z.ca E C H'
inductive JR(Y:T0)(E:XK)(m:Ő Sm)(τ:È)(H:Hp)(R:Ő Î->Hp->ß):ß|mk(G M:Ł À)(σ:Es)(h:Hs)(xc:XP)(Q:_)(k:KnO (Y.z G) E τ H R M σ h xc Q)(q:sP m xc σ h Q):JR Y E m τ H R
def _root_.L2.PO.imp{X:Cx}{e:Ő _}{t t':TO}(h:PO X e t')(i:∀σ H Q,t σ H Q->t' σ H Q):PO X e t:=λp s σ H Q I q=>h _ s σ H Q I (i σ H Q q)
def NN:PO X ao (JR 'X' E ao):=Ur.imp λτ H R z=>by let(G,M,σ,h,x,Q,k,q):=z;rwa[k.out _ h M H Ext.refl k.rel q]
def NO(g:PE X e (cL 'X' E A)):PO X (O e) (JR 'X' E (O A)):=(Us g).imp λτ H R z=>by
 let(G,M,σ,h,x,Q,k,q):=z;erw[(G,M,σ,h,x,_,(k.rel,k.env,λd l m n v e r i q=>?_,k.exc),q)];split at q;.ext j f;injection f with f;subst f;exact(j,fJ i,k.out _ l m n e r q)
 .left
def aeQ{lo:Ő Ä}(j:PE X e (cL 'X' E A))(l:PO X lo (JR 'X' E L))(hu:PO X hi (JR 'X' E U)):PE X (.Subscript e (.Slice lo hi ao p2) pos) (cL 'X' E (ϙ A L U)):=(NC ald j l hu).imp λτ H Y z=>by let(G,M,σ,h,x,Q,k,q):=z;exact(G,M,σ,h,x,_,(k.rel,k.env,λd m n Z v f r I o=>(G,n,σ,m,x,_,(r,k.env.ext k.rel f,λol p M2 H2 g R s=>(G,M2,σ,p,x,_,(R,k.env.ext k.rel (f.trans g),λou h3 M3 H3 i u y=>ZX u ((I.ext r g).ext R i) y λD C F K w N P S W=>k.out D C F K w (f.trans (g.trans (i.trans N))) P S W,k.CZ (f.trans g)),s),k.CZ f),o),k.exc),q)
def q_:O1:=λx h Q=>match x with|.p (.T s)=>Q (.p (.T s.reverse)) h|_=>ŧ
def W_{st:Ä}(j:PE X e (cL 'X' E A))(w:PE X st (tC (.I (-1)))):PE X (.Subscript e (.Slice ao ao (O st) p2) pos) (cL 'X' E (s1 q_ A)):=(TF j w).imp λτ H y z=>by
  let(G,M,σ,h,x,Q,k,q):=z;erw[(G,M,σ,h,x,_,(k.rel,k.env,λd i m C v l r n f=>?_,k.exc),q)];change q_ d i _ at f;delta q_ at f;split at f;.let(a,s,o,s1,u):=mP n;exact(a,s,o,s1,λp g=>k.out _ i m _ _ (l.trans (Ext.add g)) (r.add g) (qk r g u.rev) f)
  .rwa[f.elim]
def s_:ON:=λds h Q=>match Xn ds with|O x=>gd (qC (Á x)) (Q (.p (.T x)) h)|ao=>ŧ
def p_:ON:=λds h Q=>match Xn ds with|O x=>gd (qC (Á x)) (Q (.p (.L x)) h)|ao=>ŧ
def o_:ON:=λds h Q=>match Xn ds with|O x=>gd (qC (Á x)) (Q (.r (Á h)) (h++[.L x]))|ao=>ŧ
theorem rS{Y:T0}{G M:Ł _}{H:Hp}:∀{ds:Ł Dv}{vs:ϕ}{xs:ϑ},Xn ds=O xs->cH (Y.z G) M H ds vs->aW (Y.z G) M H xs vs
 |[],[],_,e,_=>by cases e;done|[],_::_,_,_,q=>q.elim|_::_,[],_,_,q=>q.elim|.r _::_,_::_,_,e,_=>by cases e|.p x::ds,v::vs,xs,e,q=>by
  delta Xn at e;split at e;.ext s y;cases e;exact(q.1,rS y q.2)
  .lia
def Vu(h:cL 'X' E (sN s_ A) τ H QV):Ţ (fL 'X' E A) τ H QV:=by
 let(G,M,σ,h,x,Q,k,q):=h;erw[(G,M,σ,h,x,_,(k.rel,k.env,λd i m l v j r I f=>?_,k.exc),q)];delta kN s_ at f;split at f;.ext s ex;let(c,f):=cg f;let i2:=rS ex I;exact(by rw[<-i2.len];rwa[fU c],λp g=>k.out _ i m _ _ (j.trans (Ext.add g)) (r.add g) (qk r g i2) f)
 .left
def Y_{k1:Ń}(h:PA X rest (fL 'X' E A)):PE X (.Tuple rest k1 pos) (cL 'X' E (sN s_ A)):=(NG h).imp λ_ _ _=>Vu
def Vp(h:cL 'X' E (sN p_ A) τ H QV):CF (fL 'X' E A) τ H QV:=by
 let(G,M,σ,h,x,Q,k,q):=h;erw[(G,M,σ,h,x,_,(k.rel,k.env,λd i m l v j r I f=>?_,k.exc),q)];delta kN p_ at f;split at f;.ext s ex;let(c,f):=cg f;let i2:=rS ex I;exact(by rw[<-i2.len];rwa[fU c],λp g=>k.out _ i m _ _ (j.trans (Ext.add g)) (r.add g) (jI r g i2) f)
 .left
def U_(h:PA X rest (fL 'X' E A)):PE X (.List rest pos) (cL 'X' E (sN p_ A)):=(D6 h).imp λ_ _ _=>Vp
def nz{h:Hs}(e:Á M=Á h):eP Z (M++[p]) H (.r (Á h)) (.A p):=(p,by rw[<-e,aI (aq _),eZ];rfl,Ŗ)
def Vo(h:cL 'X' E (sN o_ A) τ H QV):CF (fL 'X' E A) τ H QV:=by
 let(G,M,σ,h,x,Q,k,q):=h;erw[(G,M,σ,h,x,_,(k.rel,k.env,λd j m l v i r I f=>?_,k.exc),q)];delta kN o_ at f;split at f;.ext s ex;let(c,f):=cg f;let i2:=rS ex I;exact(by rw[<-i2.len];rwa[fU c],λp g=>k.out _ _ _ _ _ (i.trans (Ext.push r g)) (r.push (o:=.L s) g (v,bA,i2.ext r (Ext.push r g))) (nz r.ln) f)
 .left
def T_(h:PA X rest (fL 'X' E A)):PE X (.List rest pos) (cL 'X' E (sN o_ A)):=(D6 h).imp λ_ _ _=>Vo
section
variable{Y:T0}{X:Cx}{t:Tb}
def cH.oz(q:cH Z M H [d] vs):∃v,vs=[v]/\eP Z M H d v:=by cases vs with|f=>rwa[q.elim]|g v r=>induction r with|f=>exact(v,Ŗ,q.1)|g _ _=>rwa[q.2.elim]
def cH.two'(q:cH Z M H [d,e] vs):∃v u,vs=[v,u]/\eP Z M H d v/\eP Z M H e u:=by cases vs with|f=>rwa[q.elim]|g v r=>let(u,rfl,i):=cH.oz q.2;exact(v,u,Ŗ,q.1,i)
def Œ:ON:=λds h Q=>match ds with
 |[x]=>match Ey h x with|O s=>Q (.p (.I (Á s))) h|ao=>match x with|.p (.scr s)=>Q (.p (.I (Á s))) h|.p (.dct k _)=>Q (.p (.I (Á k))) h|x=>match ze h x with|O ds=>Q (.p (.I (Á ds))) h|ao=>ŧ
 |_=>ŧ
def Xp(K:Å):ϕ->Hp->VK->ß:=λx H Q=>(∃p y,x=[.A p]/\(gB K H p y\/gF K H p y)/\Q (.I (Á y)) H)\/∃a b,x=[V.A a]/\Rd H a (.dK b)/\Q (.I (Á b)) H
def Hx:fi X (.builtin "len") λxs H Q=>∃a b,xs=[V.A a]/\Rd H a (.dK b)/\Q (.I (Á b)) H:=by intro p s σ H xs U Q I r h;let(a,b,rfl,c,q):=h;let(u,rfl,R):=B8 r;cases R;rwa[acz I c λt S i=>(.I _,H,i,(t,Ŗ),q)]
def Hw:fi X (.builtin "len") (Xp X.K):=yo.or Hx
def Sl:oW Y (Xp Y.K) Œ:=λG M h H x s Q j r b q out=>by
 delta Œ at q;split at q
 .let(v,rfl,i):=b.oz;split at q;.ext y e;let(a,ws,E,s1,I):=qx r i e;rwa[.inl (a,ws,by rw[E],s1,out _ h M H _ Ext.refl r (by rw[<-I.len];rwa[fE]) q)]
  .split at q;.let(a,ws,E,s1,I):=i;rwa[.inl (a,ws,by rw[E],.inl (OE s1),out _ h M H _ Ext.refl r (by rw[<-I.len];rwa[fE]) q)]
   .let(a,A,E,_,s1,I,_):=i;rwa[.inr (a,A,by rw[E],s1,out _ h M H _ Ext.refl r (by rw[I.len,af];rwa[fE]) q)]
   .split at q
    .ext ds e;delta ze at e;split at e
     .split at e;.ext o;cases e;let(a,c,d):=i;let(ws,f,g):=r.at' c o;rwa[.inl (a,ws,by rw[d],.inl (gB.of f),out _ h M H _ Ext.refl r (by rw[<-g.len];rwa[fE]) q)]
      .cases e
     .cases e
    .left
 .left
def ϧ(c:Ń):Pv->Ő Þ|.S _=>O (Ì c 0)|.I _=>O (Ì c 1)|.B _=>O (Ì c 2||Ì c 1)|.T _=>O (Ì c 3)|.L _=>O (Ì c 4)|.N=>O bb|_=>ao
def J':ON:=λds h Q=>match ds with|[x,.p (.ty c)]=>gd (Ë c 4) (match x with
  |.p a=>match ϧ c a with|O b=>Q (.p (.B b)) h|ao=>ŧ
  |.r i=>match h[i]? with|O (.L _)=>Q (.p (.B (Ì c 4))) h|O (.D _)=>Q (.p (.B (Ì c 4))) h|_=>ŧ)|_=>ŧ
def Ĥ(K:Å)(H:Hp)(x:V)(n:String):ß:=Pk H x=O n\/n="tuple"/\∃a s,x=.A a/\gF K H a s
def UR(K:Å):ϕ->Hp->VK->ß:=λs H Q=>∃x c n,s=[x,.ty c]/\Ĥ K H x n/\c ∈["str","int","bool","tuple","list"]/\Q (.B (wC n c)) H
def Hv:fi X (.builtin "isinstance") (UR X.K):=by
 intro p s σ H j U Q I r h;let(x,c,n,rfl,b,d,q):=h;rcases b with b|⟨rfl,a,y,rfl,sq⟩;.rwa[KR _ s σ H _ U Q I r (x,c,n,Ŗ,b,d,q)]
 .let(u,v,rfl,R,e):=r.two;obtain rfl:v=â c:=e;cases R;obtain⟨i,_,⟨o,f,g,_⟩,_⟩:=I.tuple sq;rwa[dq PySem.W.kitx_tuple I.kr (o,f,g) (Mz (.tail _ (.tail _ (.tail _ (.tail _ (.tail _ (.head _)))))) d) (λz=>nomatch z) λT=>(.B _,H,I.tok T,Ŗ,q)]
def Zt{P:Ń->ß}(H:P 0)(a:P 1)(b:P 2)(d:P 3)(e:P 4):∀{c:Ń},Ë c 4=J->P c|0,_=>H|1,_=>a|2,_=>b|3,_=>d|4,_=>e|_+5,h=>(aD h).elim
def Pl{c:Ń}:Ë c 4=J->kF c ∈["str","int","bool","tuple","list"]:=Zt (P:=λc=>kF c ∈["str","int","bool","tuple","list"]) (.head _) (.tail _ (.head _)) (.tail _ (.tail _ (.head _))) (.tail _ (.tail _ (.tail _ (.head _)))) (.tail _ (.tail _ (.tail _ (.tail _ (.head _)))))
def Si:oW Y (UR Y.K) J':=λG M h H w U Q QV r y q out=>by
 delta J' at q;split at q;.ext x c;let(v,u,rfl,i,j):=y.two';let A:u=.ty (kF c):=j;subst A;let(k,q):=cg q;let f:∀{n:String}{g:Ń->Þ},Ĥ Y.K H v n->Q (.p (.B (g c))) h->wC n (kF 0)=g 0->wC n (kF 1)=g 1->wC n (kF 2)=g 2->wC n (kF 3)=g 3->wC n (kF 4)=g 4->UR Y.K [v,.ty (kF c)] H QV:=λ{n g}C q F b d l m=>(v,kF c,n,Ŗ,C,Pl k,by rw[Zt (P:=λc=>wC n (kF c)=g c) F b d l m k];rwa[out _ h M H _ Ext.refl r jH q]);let s:Pk H v=O "list"->Q (.p (.B (Ì c 4))) h->UR Y.K [v,.ty (kF c)] H QV:=λe q=>f (n:="list") (g:=λc=>Ì c 4) (.inl e) q rfl rfl rfl rfl rfl;induction x with
  |p a=>cases a with|S z=>rwa[f (g:=λc=>Ì c 0) (.inl (by rw[jA i];rfl)) q rfl rfl rfl rfl rfl]|I z=>rwa[f (g:=λc=>Ì c 1) (.inl (by rw[fJ i];rfl)) q rfl rfl rfl rfl rfl]|B z=>rwa[f (g:=λc=>Ì c 2||Ì c 1) (.inl (by rw[Kq i];rfl)) q rfl rfl rfl rfl rfl]|N=>rwa[f (g:=λ_=>bb) (.inl (by rw[Wj i];rfl)) q rfl rfl rfl rfl rfl]|T w=>let(a,ws,E,s1,R):=mP i;rwa[f (g:=λc=>Ì c 3) (.inr (Ŗ,a,ws,E,s1)) q rfl rfl rfl rfl rfl]|L w=>let(a,ws,E,_,s1,R):=i;rwa[s (by rw[E];simp only[Pk,s1]) q]|_=>rwa[q.elim]
  |r n=>
   change match h[n]? with|O (.L _)=>Q _ h|O (.D _)=>Q _ h|_=>ŧ at q;split at q;.ext o;let(a,b,d):=i;let(ws,l,m):=r.at' b o;rwa[s (by rw[d];simp only[Pk,l]) q]
   .ext o;let(a,b,d):=i;let(ws,l,m):=r.at' b o;rwa[s (by rw[d];simp only[Pk,l]) q]
   .left
 .left
def uA:ϑ->Ő (Ł Þ)
 |[]=>O []|.B b::r=>match uA r with|O bs=>O (b::bs)|ao=>ao
 |_::_=>ao
def Ģ(q:aW Z M H (x::xs) (v::vs)):eP Z M H (.p x) v/\aW Z M H xs vs:=by done
def pv{α:Type}{a:α}{p:ß}(h:ao=O a):p:=nomatch h
def X9{xs:ϑ}:∀{bs:Ł _}{vs:ϕ},uA xs=O bs->aW (Y.z G) M H xs vs->vs=bs.map V.B:=by induction xs with
 |f=>intro bs vs e q;cases e;induction vs with|f=>rfl|g _ _=>done
 |g x xs i=>intro bs vs e q;cases vs with|f=>done|g v vs=>let q2:=Ģ q;let Q:=q2.1;replace q2:=q2.2;clear q;cases x with
   |B b=>change(match uA xs with|O bs=>O _|ao=>ao)=O bs at e;induction E:uA xs with|a=>rw[E]at e;rwa[pv e]|c y=>rw[E]at e;cases e;rw[Kq Q,i E q2];rfl
   |_=>rwa[pv e]
@[irreducible]def SY:ON:=λds h Q=>match ds with
 |[x]=>match lA h x with|O s=>fH (uA s) (λbs=>Q (.p (.B (bs.all id))) h) ŧ|ao=>ŧ
 |_=>ŧ
def Sa:oW Y (λxs H Q=>∃(l:À)(bs:Ł _),xs=[.A l]/\gB Y.K H l (bs.map V.B)/\Q (.B (bs.all id)) H) SY:=λG M h H xs s Q d r I q out=>by
 delta SY fH at q;split at q
 .let(v,rfl,i):=I.oz;split at q
  .ext y e;split at q;.ext bs E;let(a,ws,b,s1,c):=fX r i e;rw[X9 E c]at s1;exact(a,bs,by rw[b],gB.of s1,out _ h M H _ Ext.refl r jH q)
   .left
  .left
 .left
def Xd:ON:=λds h Q=>match ds with
 |[x]=>match Ey h x with|O s=>Q (.p (.T s)) h|ao=>ŧ
 |_=>ŧ
def Mo:oW Y (λxs H Q=>∃p ys,xs=[.A p]/\((gB Y.K H p ys/\∀l,H l=ao->Q (.A l) (de H l (.T ys)))\/gF Y.K H p ys/\Q (.A p) H)) Xd:=λG M h H xs s Q d r c q out=>by
 delta Xd at q;split at q
 .let(v,rfl,i):=c.oz;split at q
  .ext ys e;let(a,ws,rfl,s1,I):=qx r i e;erw[(a,ws,Ŗ,?_)];rcases s1 with s1|s1;.rwa[.inl (s1,λp b=>out _ h M _ _ (Ext.add b) (r.add b) (qk r b I) q)]
   .rwa[.inr (s1,out _ h M H _ Ext.refl r (by exact(a,ws,Ŗ,s1,I)) q)]
  .left
 .left
def Xa:ON:=λds h Q=>match ds with
 |[x]=>match Ey h x with|O s=>Q (.p (.L s)) h|ao=>ŧ
 |_=>ŧ
def Mi:oW Y (λxs H Q=>∃p ys,xs=[.A p]/\(gB Y.K H p ys\/gF Y.K H p ys)/\∀l,H l=ao->Q (.A l) (de H l (.L ys))) Xa:=λG M h H xs s Q d r I q out=>by
 delta Xa at q;split at q
 .let(v,rfl,i):=I.oz;split at q;.ext ys e;let(a,ws,rfl,s1,c):=qx r i e;exact(a,ws,Ŗ,s1,λp b=>out _ h M _ _ (Ext.add b) (r.add b) (jI r b c) q)
  .left
 .left
def W8:ON:=λds h Q=>match ds with|[.p (.I i)]=>Q (.p (.I i)) h|[.p (.B b)]=>Q (.p (.I (b2 b))) h|_=>ŧ
def Mg:oW Y (λxs H Q=>(∃i,xs=[.I i]/\Q (.I i) H)\/∃k,xs=[.B k]/\Q (.I (if k then 1 else 0)) H) W8:=λG M h H xs s Q c r a q out=>by
 delta W8 at q;split at q;.let(v,rfl,i):=a.oz;rwa[.inl (_,by rw[fJ i],out _ h M H _ Ext.refl r fE q)]
 .let(v,rfl,i):=a.oz;ext b;rwa[.inr (b,by rw[Kq i],out _ h M H _ Ext.refl r (by induction b<;>rwa[fE]) q)]
 .left
end
def j3:Pv->Ő cs|.S x=>O (.inr x)|.I i=>O (.inl i)|_=>ao
def lz:Pv->Pv->Þ|.S a,.S b=>cQ a b|.I a,.I b=>lg a b|_,_=>bb
def hW(k:Pv):ϑ->ϑ->Ő Pv
 |K::s,u::U=>match lz K k with|J=>O u|bb=>hW k s U
 |_,_=>ao
def om(k:Pv):ϑ->Þ|[]=>bb|K::s=>lz K k||om k s
def CY(k v:Pv):ϑ->ϑ->ϑ|K::s,u::U=>(match lz K k with|J=>v|bb=>u)::CY k v s U|_,U=>U
def oK(k v:Pv)(ks us:ϑ):ϑ:=match om k ks with|J=>CY k v ks us|bb=>us++[v]
def oJ(k:Pv)(ks:ϑ):ϑ:=match om k ks with|J=>ks|bb=>ks++[k]
def DO{Y:T0}(e:j3 k=O κ)(i:eo (Y.z G) M H k v):v=kV κ:=by
 cases k<;>first|done|skip
 .cases e;rwa[i]
 .cases e;rwa[i]
def MC{Y:T0}(i:eo (Y.z G) M H k (kV κ)):j3 k=O κ:=by cases k with|S x=>cases κ<;>cases i;rfl|I x=>cases κ<;>cases i;rfl|N=>induction κ<;>cases i|B _=>cases κ<;>cases i|ty _=>cases κ<;>cases i|obj _ _=>let(_,_,_,e,_):=i;induction κ<;>cases e|key _=>let(_,e,_):=i;cases κ<;>cases e|fn _=>let(_,_,e):=i;cases κ<;>cases e|_=>let(_,_,e,_):=i;induction κ<;>cases e
def ve(h:j3 a=O κ)(d:j3 b=O c):lz a b=Đ (κ=c):=by
 cases a<;>first|done|skip
 all_goals(cases b<;>first|done|skip)
 all_goals(cases h;cases d)
 .ext x y;show lg x y=_;rw[uQ];by_cases e:x=y;.simp
  .simp
 .rfl
 .rfl
 .ext x y;show cQ x y=_;by_cases e:x=y;.rw[bX.mpr e,cA (by rw[e])]
  .rw[bq.mpr λz=>e (bX.mp z),cn λz=>e ()]
def jz(Y:T0)(G M:Ł À)(H:Hp)(ks us:ϑ)(a:Ł (cs×V)):ß:=aW (Y.z G) M H ks (a.map λp=>kV p.1)/\aW (Y.z G) M H us (a.map (·.2))
def jz.cons{ks us:ϑ}{p:cs×V}{aO:Ł _}:jz Y G M H (k::ks) (u::us) (p::aO)↔(j3 k=O p.1/\eo (Y.z G) M H u p.2)/\jz Y G M H ks us aO:=by
 constructor;.rintro⟨a,b⟩;exact((MC a.1,b.1),a.2,b.2)
 .rintro⟨⟨a,b⟩,c,d⟩;erw[((?_,c),b,d)];cases k<;>first|done|skip
  .ext n;let:kV p.1=V.I n:=by injection a with a;rw[<-a];rfl
   rwa[this]
  .ext n;let:kV p.1=V.S n:=by injection a with a;rw[<-a];rfl
   rwa[this]
theorem jz.ind{P:ϑ->ϑ->Ł _->ß}(d:P [] [] [])(e:∀k u ks us p A,j3 k=O p.1->eo (Y.z G) M H u p.2->jz Y G M H ks us A->P ks us A->P (k::ks) (u::us) (p::A)):∀{ks us:ϑ}{A:Ł _},jz Y G M H ks us A->P ks us A|[],[],[],_=>d|k::ks,u::us,p::A,h=>by obtain⟨⟨a,b⟩,c⟩:=jz.cons.mp h;rwa[e k u ks us p A a b c (jz.ind d e c)]|[],_::_,A,h=>by let:=h.1.len.trans (by rw[af]);let:=h.2.len.trans (by rw[af]);simp at*;lia|_::_,[],A,h=>by let:=h.1.len.trans (by rw[af]);let:=h.2.len.trans (by rw[af]);simp at*;lia|[],[],_::_,h=>by let:=h.1.len;simp at this|_::_,_::_,[],h=>by let:=h.1.len;simp at this
def yI(h:j3 k=O κ)(d:jz Y G M H ks us a):(∃p v,hW k ks us=O p/\jh a κ=O v/\eo (Y.z G) M H p v)\/hW k ks us=ao/\jh a κ=ao:=by
 erw[jz.ind (P:=λks us a=>(∃p v,hW k ks us=O p/\jh a κ=O v/\eo _ M H p v)\/hW k ks us=ao/\jh a κ=ao) (.inr (Ŗ,Ŗ)) (λK u ks us p a b c f i=>?_) d];let e:=ve b h;by_cases z:p.1=κ;.rw[cA z]at e;rwa[.inl (u,p.2,by rw[hW,e],lH z,c)]
 .rw[cn z]at e;let E:hW k (K::ks) (u::us)=hW k ks us:=by show(match lz K k with|J=>O u|bb=>hW k ks us)=_;rw[e]
  rw[E,lG z];rwa[i]
def HU(h:j3 k=O κ)(d:jz Y G M H ks us a)(e:hW k ks us=O p):∃v,jh a κ=O v/\eo (Y.z G) M H p v:=by
 rcases yI h d with ⟨q,v,b,c,f⟩|⟨b,_⟩;.left
 .left
theorem jz.app(a:jz Y G M H ks us c)(b:jz Y G M H A P D):jz Y G M H (ks++A) (us++P) (c++D):=by delta jz;rw[aN,aN];exact(a.1.app b.1,a.2.app b.2)
def jz.nil:jz Y G M H [] [] []:=by done
def FJ(c:j3 k=O κ)(f:eo (Y.z G) M H w v)(d:jz Y G M H ks us a):jz Y G M H (oJ k ks) (oK k w ks us) (jK a κ v):=by
 let h:(a.any λK=>Đ (K.1=κ))=om k ks/\jz Y G M H ks (CY k w ks us) (a.map λK=>if K.1=κ then(K.1,v)else K):=by
  erw[jz.ind (P:=λks us a=>a.any _=om k ks/\jz Y G M H ks (CY k w ks us) (a.map _)) (Ŗ,jz.nil) (λg u ks us p a b j l i=>?_) d];let e:=ve b c;erw[(by rw[pM,i.1,<-e];rfl,?_)];rw[cq];show jz Y G M H _ ((match lz g k with|J=>w|bb=>u)::CY k w ks us) _;by_cases z:p.1=κ;.rw[bV z,e,cA z];rwa[jz.cons.mpr ((b,f),i.2)]
  .rw[bN z,e,cn z];rwa[jz.cons.mpr ((b,j),i.2)]
 delta oJ oK;delta jK;rw[h.1];induction m:om k ks with|d=>rwa[h.2]|e=>rwa[d.app (jz.cons.mpr ((c,f),jz.nil))]
def Lg(h:Hs):Dv->Ő (ϑ×ϑ)
 |.p (.dct k u)=>O (k,u)|.r i=>match h[i]? with|O (.C k u)=>O (k,u)|O (.F o k u)=>O (k,u)|_=>ao
 |_=>ao
def tQ(r:bj (Y.z G) M H h)(i:eP (Y.z G) M H x v)(e:Lg h x=O (ks,us)):∃a aO,v=.A a/\Rd H a (.dK aO)/\jz Y G M H ks us aO:=by
 delta Lg at e;split at e;.cases e;let(a,aO,b,_,c,d):=i;exact(a,aO,b,c,d)
 .split at e;.ext o;cases e;let(a,b,c):=i;let(aO,d,f):=r.at' b o;exact(a,aO,c,.inl d,f)
  .ext o;cases e;let(a,b,c):=i;let(aO,d,f):=r.at' b o;exact(a,aO,c,.inr (_,d),f)
  .cases e
 .cases e
def WM:O2:=λx y h Q=>match y with
 |.p k=>match j3 k with
  |O _=>match Lg h x with|O (K,u)=>fH (hW k K u) (λp=>Q (.p p) h) ŧ|ao=>ŧ
  |ao=>ŧ
 |_=>ŧ
def DZ(neg:Þ):O2:=λy x h Q=>match y with
 |.p k=>match j3 k with
  |O _=>match Lg h x with|O (K,u)=>Q (.p (.B (ww neg (hW k K u).isSome))) h|ao=>ŧ
  |ao=>ŧ
 |_=>ŧ
def N_(hu:X.A.units+1<Ï)(f:PE X a (cL 'X' E A))(l:PE X b (cL 'X' E B))(s:XU b):PE X (.Subscript a b pos) (cL 'X' E (s2 WM A B)):=(TB hu f l s).imp λτ H m h=>by
  erw[vG (r:=λx y d Q=>∃a v,x=.A a/\qX d a y (O v)/\Q v d) (λG M h H x y v u Q m r i j q out=>?_) h];delta WM fH at q;split at q
  .split at q
   .ext κ k;split at q
    .ext K U n;split at q;.ext p o;let(a,z,D,s1,d1):=tQ r i n;let(w,F,I):=HU k d1 o;let g:qX H a _ _:=.inl (z,κ,s1,Ŗ,Ŗ);rw[F,<-DO k j]at g;exact(a,w,D,g,out (.p p) h M H w Ext.refl r I q)
     .left
    .left
   .left
  .left
def Lj:iC 'X' (λy x d Q=>∃a o,x=.A a/\qX d a y o/\Q (.B (neg !=o.isSome)) d) (DZ neg):=λG M h H x y v u Q D r i j q out=>by
 delta DZ at q;simp only[DW]at q;split at q
 .ext K;split at q
  .ext κ k;split at q
   .ext s U n;let(a,f,z,s1,d1):=tQ r j n;let g:qX H a _ _:=.inl (f,κ,s1,Ŗ,Ŗ);rw[<-DO k i]at g;erw[(a,_,z,g,out _ h M H _ Ext.refl r ?_ q)];let e:(hW K s U).isSome=(jh f κ).isSome:=by rcases yI k d1 with ⟨p,w,l,m,_⟩|⟨l,m⟩<;>rw[l,m]<;>rfl
    rw[e];rwa[jH]
   .left
  .left
 .left
def Tp(hu:X.A.units+1<Ï)(h:PE X a (cL 'X' E A))(d:PE X b (cL 'X' E B)):PC X .In a b (cL 'X' E (s2 (DZ bb) A B)):=λp s σ H Q I q=>by erw[zx hu h d _ s σ H Q I ?_];let z:=vG Lj q;simp only[nU]at z;rwa[z]
def D5(hu:X.A.units+1<Ï)(h:PE X a (cL 'X' E A))(d:PE X b (cL 'X' E B)):PC X .NotIn a b (cL 'X' E (s2 (DZ J) A B)):=λp s σ H Q I q=>by erw[II hu h d _ s σ H Q I ?_];let z:=vG Lj q;simp only[pL]at z;rwa[z]
def aeP(h:PC X o a b (cL 'X' E A))(d:gn o b=bb):PE X (.Compare a [o] [b] pos) (cL 'X' E A):=H_ h d
def NQ(h:PC X o a b (cL 'X' E A))(d:gn o b=bb):PT X (.Compare a [o] [b] pos) (j5 'X' E A):=(η h d).imp λ_ _ _ q=>GX q
def Ϟ:Sm:=λ_ _ h Q=>Q [.r (Á h)] (h++[.C [] []])
def TK:PE X (.Dict [] [] pos) (cL 'X' E Ϟ):=vo.imp λτ H f (G,M,σ,h,x,Q,k,q) p d=>k.out _ _ _ _ _ (Ext.push k.rel d) (k.rel.push (o:=.C [] []) d ([],bA,jz.nil.1,jz.nil.2)) (nz k.rel.ln) q
def OA:Sm:=λ_ _ h Q=>Q [.p (.dct [] [])] h
def NK:PE X (.Dict [] [] pos) (cL 'X' E OA):=vo.imp λτ H f (G,M,σ,h,x,Q,k,q) p d=>k.out _ h M _ _ (Ext.add d) (k.rel.add d) (by exact(p,[],Ŗ,k.rel.nj d,.inl bA,jz.nil.1,jz.nil.2)) q
def Ik(A:Sm):Im:=λx σ h Q=>A x σ h λds H=>match ds with|[.p (.L X)]=>Q X H|_=>ŧ
def akz:O1:=λx h Q=>match x with|.p (.L X)=>Q (.p (.L X)) h|.p (.T X)=>Q (.p (.L X)) h|_=>ŧ
def Jw(z:Æ):ϑ:=z.cps.toList.map λc=>.S ⟨#[c]⟩
def akx:O1:=λx h Q=>match x with|.p (.S z)=>gd (qC z.length) (Q (.p (.L (Jw z))) h)|_=>ŧ
def TD:ON:=λds h Q=>match ds with|[.p (.I n)]=>gd (qC n.toNat&&Đ (-4611686018427387904<=n)) (Q (.p (.L (vA 0 n.toNat))) h)|_=>ŧ
def Ac:ϑ->ϑ->ϑ|x::X,y::Y=>.T [x,y]::Ac X Y|_,_=>[]
def akA(v:Dv->Ő ϑ):ON:=λds h Q=>d2 ds λx y=>fH (v x) (λX=>fH (v y) (λY=>Q (.p (.L (Ac X Y))) h) ŧ) ŧ
def _root_.L2.PI.imp{X:Cx}{tg e:Ä}{t t':TI}(h:PI X tg e t')(i:∀σ H Q,t σ H Q->t' σ H Q):PI X tg e t:=λP s σ H Q I q=>h _ s σ H Q I (i σ H Q q)
def ajL(K:Å)(l:TE):TI:=λσ H R=>l σ H λx d=>∃a,x=.A a/\((∃s,gB K d a s)/\R (Dy K a) d\/(∃s,gF K d a s)/\R (EQ K a) d)
def K'(k:PE X l j):PI X tg l (ajL X.K j):=by
 intro P s σ H R I h;erw[jf (k _ s σ H _ I h) λv s1 x d i r Q=>?_];let(a,e,q):=Q;subst e;cases r;let F:∀b ∈[s1.heap.objs.size],kY X _ d b:=λb m=>by
  let e:=by simpa using m
  subst e;rwa[i.AX (aq _) (i.cV.fresh (aq _))]
 rcases q with ⟨⟨n,f⟩,q⟩|⟨⟨n,f⟩,q⟩;.let(g,u,p,z):=i.list f;rwa[jX p.isList (_,_,_,_,d,Ŗ,i.kept λb o e=>ae _ e,JW a _,(_,ar _ Ŗ,Ŗ,Ŗ),F,q)]
 .let(g,u,p,z):=i.tuple f;rwa[gK p (_,_,_,_,d,Ŗ,i.kept λb o e=>ae _ e,EN a _,(_,ar _ Ŗ,Ŗ,Ŗ),F,q)]
def XS(X:Cx)(H:Hp):ß:=∃P σ s,Inv X P σ H s
def XS.len(I:XS X H)(h:gB X.K H a vs\/gF X.K H a vs):Á vs<=Ã:=by
 let(_,_,_,I):=I;rcases h with h|h;.let(_,_,_,z):=I.list h;rwa[z]
 .let(_,_,_,z):=I.tuple h;rwa[z]
def zB(h:PI X tg e wi):PI X tg e λσ H R=>wi σ H λj d=>XS X d->R j d:=λP s σ H R I q=>iD (h _ s σ H _ I q) λv s1 g=>iD g λk s2 z=>by let(l,F,n,j,m,e,i,T,st,f,r):=z;exact(l,F,n,j,m,e,i,T,st,f,r (_,_,_,i))
def TZ(o:PE X e (cL 'X' E A)):PI X tg e (wR 'X' E (Ik (s1 akz A))):=(zB (K' o)).imp λτ H R z=>by let(G,M,σ,h,u,Q,k,q):=z;erw[(G,M,σ,h,u,_,(k.rel,k.env,λd j m l v n f I g=>?_,k.exc),q)];induction d with|r _=>rwa[g.elim]|p d=>cases d with|L x=>let(a,s,rfl,N,s1,i):=I;exact(a,Ŗ,.inl ((s,gB.of s1),λhd=>k.out x j m l _ n f (adM f N.1 (.inl s1) i) (by rw[i.len];rwa[hd.len (.inl (gB.of s1))]) g))|T x=>let(a,s,rfl,s1,i):=mP I;exact(a,Ŗ,.inr ((s,s1),λhd=>k.out x j m l _ n f (Ϭ f s1 i) (by rw[i.len];rwa[hd.len (.inr s1)]) g))|_=>rwa[g.elim]
def adP:Qo Y G M H (A' z) (Jw z):=λk m l n o e r=>by erw[(λi x d=>?_,show(Á _)=z.cps.size by delta Jw;rw[af,bS])];delta Jw at d;rw[aR]at d;induction f:z.cps.toList[i]? with|a=>left|c c=>
  rw[f]at d;cases d;let R:z.cps[i]?=O c:=by rw[<-cM];rwa[f]
  erw[((d9.mp R).1,λw F j=>?_)];let(j,C,g,q):=j;subst j;rw[R]at g;cases g;exact(Ext.refl,r,by done)
def T5(g:PE X e (cL 'X' E A)):PI X (.Name y P) e (wR 'X' E (Ik (s1 akx A))):=(L' g).imp λτ H R Z=>by let(G,M,σ,h,x,Q,k,q):=Z;erw[(G,M,σ,h,x,_,(k.rel,k.env,λd i m j v l n I f=>?_,k.exc),q)];induction d with|r _=>rwa[f.elim]|p d=>cases d with|S z=>let(c,f):=cg f;exact(z,jA I,k.out _ i m j _ l n adP (by delta Jw;rw[af];rwa[fU c]) f)|_=>rwa[f.elim]
def TY(g:Gl X "range")(m:X.mg "range"=ao)(i:PA X [x] (fL 'X' E A))(D:bW x):PI X tg (.Call (.Name "range" p) [x] [] pos) (wR 'X' E (Ik (sN TD A))):=(IS g m i (cx D)).imp λτ H R z=>by
  let(G,M,σ,h,j,Q,k,q):=z;erw[(G,M,σ,h,j,_,(k.rel,k.env,λd l o r v s u I f=>?_,k.exc),q)];delta kN TD at f;split at f
  .ext n;let(c,f):=cg f;rw[aE]at c;let(w,rfl,y):=I.oz;let hn:=fU c.1;let L:Ã<2^62:=∅
   erw[(n,by rw[fJ y],(),?_,k.out _ l o r _ s u ϒ (by delta vA;rw[af,eN];rwa[hn]) f)];let:(n.toNat:Î)<2^62:=by let:=dQ hn L;exact_mod_cast this
   lia
  .left
theorem BM:∀{xs ys:ϑ}{i:Ń}{z:Pv},(Ac xs ys)[i]?=O z->∃x y,xs[i]?=O x/\ys[i]?=O y/\z=.T [x,y]|[],_,_,_,e=>by done|_::_,[],_,_,e=>by done|x::_,y::_,0,_,e=>by cases e;exact(x,y,Ŗ,Ŗ,Ŗ)|_::_,_::_,i+1,_,e=>by let(x,y,f,g,d):=BM (i:=i) (by done);exact(x,y,by done,by done,d)
theorem vN:∀(xs ys:ϑ),Á (Ac xs ys)=min (Á xs) (Á ys)|[],_=>Ŗ|_::_,[]=>Ŗ|_::xs,_::ys=>by simp[Ac,vN xs ys]
def A3{Y:T0}(r:bj (Y.z G) M H h)(d:H T=ao)(i:eo (Y.z G) M H x v)(j:eo (Y.z G) M H y w):eo (Y.z G) M (de H T (.T [v,w])) (.T [x,y]) (.A T):=qk r d ((aW.one i).app (aW.one j))
def adR(r:bj (Y.z G) M H h)(s1:∀{m H'},Ext M H m H'->sq H' f vs)(s2:∀{m H'},Ext M H m H'->sq H' g ws)(I:aW (Y.z G) M H xs vs)(j:aW (Y.z G) M H ys ws):Qo Y G M H (wp sq f g) (Ac xs ys):=λF m H' K k e R=>by erw[(λi z o=>?_,(vs,ws,s1 e,s2 e,by rw[vN,I.len,j.len];lia))];let(x,y,q,s,rfl):=BM o;let(v,l,P):=(aW.mv (e.mv r) (aW.wk k I)).get q;let(w,n,C):=(aW.mv (e.mv r) (aW.wk k j)).get s;erw[((vs,ws,v,w,s1 e,s2 e,l,n),λu L T=>?_)];let(T,d,hu,D):=T;let e2:=D vs ws v w (s1 e) (s2 e) l n;subst e2 hu;exact(Ext.add d,R.add d,A3 R d P C)
def T6(i:∀{G M H h x xs u},bj ('X'.z G) M H h->c x=O xs->eP ('X'.z G) M H x u->∃a vs,u=.A a/\(∀{m H'},Ext M H m H'->sq H' a vs)/\aW ('X'.z G) M H xs vs)(l:∀{H a vs},sq H a vs->gB X.K H a vs\/gF X.K H a vs)(j:PI X tg x (ZI sq (fL 'X' E A))):PI X tg x (wR 'X' E (Ik (sN (akA c) A))):=(zB j).imp λτ H R Z=>by let(G,M,σ,h,n,Q,k,q):=Z;erw[(G,M,σ,h,n,_,(k.rel,k.env,λd o s C v D r F g=>?_,k.exc),q)];let(x,y,rfl,g):=WA g;let(xs,e,g):=b9 g;let(U,f,g):=b9 g;let(w,u,rfl,L,N):=F.two';let(a1,vs,rfl,s1,I):=i r e L;let(P,ws,rfl,s2,S):=i r f N;erw[(a1,P,Ŗ,(vs,s1 .refl),(ws,s2 .refl),λhd=>k.out _ o s C _ D r (adR r s1 s2 I S) ?_ g)];rw[vN,I.len];rwa[aA (Nat.min_le_left ..) (hd.len (l (s1 .refl)))]
abbrev OM:=Dv->Ł Dv->Hs->(Dv->Hs->ß)->ß
def Qn(Y:T0)(r:V->ϕ->Hp->VK->ß)(o:OM):ß:=∀G M h H x X v s Q q,bj (Y.z G) M H h->eP (Y.z G) M H x v->cH (Y.z G) M H X s->o x X h Q->(∀d b m a w,Ext M H m a->bj (Y.z G) m a b->eP (Y.z G) m a d w->Q d b->q w a)->r v s H q
def SJ(c:Ń)(h:Hs)(x:Dv):Þ:=match c with
 |0=>match x with|.p (.S _)=>J|_=>bb
 |4=>(lA h x).isSome||(ze h x).isSome|_=>bb
def ϡ(o:OM)(Q:KP)(x:Dv):KP:=λds h=>o x ds h (qD Q)
def kMt(c:Ń)(o:OM)(R:Sm)(X:XP)(σ:Es)(Q:KP):KP:=λs h=>m1 s λx=>gd (SJ c h x) (R X σ h (ϡ o Q x))
def oi(c:Ń)(o:OM)(A R:Sm):Sm:=λx σ h Q=>A x σ h (kMt c o R x σ Q)
section
variable{t:Tb}{X:Cx}{E:XK}{e a b o:Ä}{rest:Ł Ä}{A B C R T:Sm}{pos p cr dg:Ó}{Y:T0}{G M:Ł À}{H:Hp}{h:Hs}
def Gn(r:bj (Y.z G) M H h)(i:eP (Y.z G) M H x v)(e:ze h x=O ds):∃n a vs,x=.r n/\M[n]?=O a/\v=.A a/\H a=O (.L vs)/\cH (Y.z G) M H ds vs:=by
 delta ze at e;split at e
 .split at e;.ext d;cases e;let(a,c,f):=i;let(vs,g,j):=r.at' c d;exact(_,a,vs,Ŗ,c,f,g,j)
  .cases e
 .cases e
def adV(r:bj (Y.z G) M H h)(i:eP (Y.z G) M H x v)(e:SJ c h x):Dz Y.K (kF c) v H:=by
 delta SJ at e;split at e
 .split at e;.rw[jA i];exact(Ŗ)
  .cases e
 .rw[mr]at e;rcases e with e|e;.let(f,ex):=fY.mp e;let(a,s,d,s1,I):=fX r i ex;rw[d];rwa[.inl (Ŗ,s,gB.of s1)]
  .let(f,ex):=fY.mp e;let(n,a,s,_,_,d,s1,I):=Gn r i ex;rw[d];rwa[.inl (Ŗ,s,gB.of s1)]
 .cases e
def aas{o:OM}(l:Qn 'X' r o)(h:cL 'X' E (oi c o A R) τ H QV):SH X.K (kF c) r (cL 'X' E A) (fL 'X' E R) τ H QV:=by let(G,M,σ,h,x,Q,k,q):=h;erw[(G,M,σ,h,x,_,(k.rel,k.env,λd m n H1 v f g I i=>?_,k.exc),q)];let(s,i):=cg i;exact(adV g I s,G,n,σ,m,x,_,(g,k.env.ext k.rel f,λds u M2 y z j D F L=>l G M2 u y d ds v z _ _ D (I.ext g j) F L λN P S U w W Z i3 q3=>k.out N P S U w (f.trans (j.trans W)) Z i3 q3,k.CZ f),i)
def uR(d:(e::es).all bW)(l:Á (e::es)<30):((em dg (c7 (e::es) X.env)).all (λx=>!x.1)&&(backToKw dg (hA [] X.env)).all (λx=>x.1.isSome)&&Đ (Á (e::es)+Á ([]:Ł fm)+(if([]:Ł fm).isEmpty then 0 else 1)<30))=true:=by
 let h1:=eV (env:=X.env) (pos:=dg) d;let c:(em dg (c7 (e::es) X.env)).all (λx=>!x.1)=true:=by rw[aS];intro x f;rw[B1]at h1;let:=h1 x f;simpa using this
 rw[c,Bool.true_and];simp only[aE];exact(Ŗ,cA (by done))
def Xi{id:String}(pa:PlainAttrs (kF c))(slot:Slot (kF c) name id)(y:typeOf (.builtin id)=pure (.type "method_descriptor"))(f:y8 X id r)(m:Qn 'X' r d)(g:PE X o (cL 'X' E A))(i:PA X (a::rest) (fL 'X' E R))(n:ft o name X.env (Ê o X.env)=Ê o X.env)(D:(a::rest).all bW)(l:Á (a::rest)<30)(q:(cr.endLine==dg.line)):PE X (.Call (.Attribute o name cr) (a::rest) [] dg) (cL 'X' E (oi c d A R)):=by let hp:=D;rw[bZ,aE]at hp;exact(aeJ pa slot y f g i n (uR D l) q (cx hp.1) (eV hp.2)).imp λ_ _ _=>aas m
def ϋ:OM:=λx ds h Q=>match x,ds with
 |.r i,[d]=>match h[i]? with
  |O (.L s)=>match d with|.p y=>gd (qC (Á s+1)) (Q (.p .N) (h.set i (.L (s++[y]))))|.r _=>ŧ
  |O (.D s)=>gd (qC (Á s+1)) (Q (.p .N) (h.set i (.D (s++[d]))))|_=>ŧ
 |_,_=>ŧ
theorem cH.app:∀{xs ys:Ł Dv}{vs ws:ϕ},cH Z M H xs vs->cH Z M H ys ws->cH Z M H (xs++ys) (vs++ws)|[],_,[],_,_,q=>q|[],_,_::_,_,h,_=>h.elim|_::_,_,[],_,h,_=>h.elim|_::_,_,_::_,_,h,q=>(h.1,cH.app h.2 q)
def cH.one(h:eP Z M H d v):cH Z M H [d] [v]:=(h,Ť)
def Sb:Qn Y GF ϋ:=λG M h H x F v I Q K r i u q out=>by
 delta ϋ at q;split at q
 .ext n d;let(w,rfl,j):=u.oz;let(a,f,s):=i;let ha:=aP f;split at q;.ext z l;induction d with|r _=>left|p y=>let(c,q):=cg q;let(ws,m,g):=r.at' f l;let k:=fU c;exact(a,ws,w,s,Ŗ,m,by rw[g.len]at k;rwa[k],out _ _ M _ _ (Ext.put ha) (r.put (o:=.L _) f (_,bA,(g.app (aW.one j)).ext r (Ext.put ha))) tZ q)
  .ext z l;let(c,q):=cg q;let(ws,m,g):=r.at' f l;let k:=fU c;exact(a,ws,w,s,Ŗ,m,by rw[g.len]at k;rwa[k],out _ _ M _ _ (Ext.put ha) (r.put (o:=.D _) f (_,bA,(g.app (cH.one j)).ext r (Ext.put ha))) tZ q)
  .left
 .left
def alc(xs:ϑ)(v:Pv):Î->Ő ϑ
 |.ofNat n=>match Ë (n+1) (Á xs)with|J=>O (xs.set n v)|bb=>ao
 |_=>ao
def ϣ(A B C:Sm):Ss:=λN σ h=>A N.xc σ h λs d=>match s with
 |[.p v]=>B N.xc σ d λx f=>match x with
  |[.r i]=>C N.xc σ f λy c=>match y with
   |[.p (.I k)]=>match c[i]? with
    |O (.L Z)=>match alc Z v k with|O z=>N.nx σ (c.set i (.L z))|ao=>ŧ
    |_=>ŧ
   |_=>ŧ
  |_=>ŧ
 |_=>ŧ
theorem aW.set(i:eo Z M H x v):∀{xs:ϑ}{vs:ϕ}(n:Ń),aW Z M H xs vs->aW Z M H (xs.set n x) (vs.set n v)|[],[],_,q=>q|[],_::_,_,q=>by done|_::_,[],_,q=>by done|_::_,_::_,0,q=>by exact(i,q.2)|_::_,_::_,n+1,q=>by exact(q.1,aW.set i n q.2)
def ν(h:eX 'X' E (ϣ A B C) D τ H):vH (cL 'X' E A) (WG (cL 'X' E B) (cL 'X' E C) Xr) D τ H:=by let(G,M,σ,h,N,k,q):=h;let ex:∀{F I},Ext M H F I->∀C f g H1,Ext F I g H1->bj _ g H1 f->N.xc C f->qL t.ca E C H1:=λe C f g H1 x r q=>k.exc C f g H1 (e.trans x) r q;erw[(G,M,σ,h,_,_,(k.rel,k.env,λd f g H1 v i K S U=>?_,k.exc),q)];induction d with|r _=>left|p x=>erw[(G,g,σ,f,_,_,(K,k.env.ext k.rel i,λd2 W M2 H2 v2 j s Z q2=>?_,ex i),U)];induction d2 with|p _=>left|r n=>
   erw[(G,M2,σ,W,_,_,(s,k.env.ext k.rel (i.trans j),λd3 h3 M3 H3 v3 l u i3 Q=>?_,ex (i.trans j)),q2)];split at Q
   .ext kk c;injection c with c;subst c;split at Q
    .ext zs ho;split at Q;.ext z w;let(a,y,g2):=Z.ext s l;let(ws,g3,P):=u.at' y ho;let ha:=aP y;induction kk with|negSucc m=>done|ofNat m=>
       change(match Ë _ _ with|J=>O _|bb=>ao)=O z at w;split at w;.ext hb;cases w;let hm:=aj hb;erw[(a,ws,m,m,g2,fJ i3,g3,?_,k.nx σ _ M3 _ τ ((i.trans (j.trans l)).trans (Ext.put ha)) (u.put (o:=.L _) y (_,bA,(P.set (((S).ext K j).ext s l) m).ext u (Ext.put ha))) (k.env.ext k.rel ((i.trans (j.trans l)).trans (Ext.put ha))) Q)];.delta SA;rw[bV (Int.natCast_nonneg m),bV (by rw[<-P.len];lia)];rfl
       .done
     .left
    .left
   .left
def oQ(A B C:Sm):Ss:=λN σ h=>A N.xc σ h λs d=>match s with
 |[.p v]=>B N.xc σ d λx f=>match x with
  |[.r i]=>C N.xc σ f λy c=>match y with
   |[.p k]=>match c[i]?,j3 k with|O (.C K u),O _=>gd (qC (Á K+1)) (N.nx σ (c.set i (.C (oJ k K) (oK k v K u))))|_,_=>ŧ
   |_=>ŧ
  |_=>ŧ
 |_=>ŧ
def Rt(h:eX 'X' E (oQ A B C) D τ H):Oy (cL 'X' E B) (cL 'X' E C) (cL 'X' E A) D τ H:=by let(G,M,σ,h,N,k,q):=h;let ex:∀{F I},Ext M H F I->∀C f m H1,Ext F I m H1->bj ('X'.z G) m H1 f->N.xc C f->qL t.ca E C H1:=λe C f m H1 x r q=>k.exc C f m H1 (e.trans x) r q;erw[(G,M,σ,h,N.xc,_,(k.rel,k.env,λd f m H1 v g L i1 P=>?_,k.exc),q)];induction d with|r _=>rwa[P.elim]|p x=>erw[(G,m,σ,f,N.xc,_,(L,k.env.ext k.rel g,λd2 h2 M2 H2 v2 i w i2 S=>?_,ex g),P)];induction d2 with|p _=>rwa[S.elim]|r n=>erw[(G,M2,σ,h2,N.xc,_,(w,k.env.ext k.rel (g.trans i),λd3 W M3 H3 v3 j l i3 Q=>?_,ex (g.trans i)),S)];induction d3 with|r _=>rwa[Q.elim]|p K=>
    change match W[n]?,j3 K with|O (.C s U),O _=>gd (qC (Á s+1)) (N.nx σ (W.set n (.C (oJ K s) (oK K x s U))))|_,_=>ŧ at Q;split at Q
    .ext s U κ ho Z;let(c,Q):=cg Q;let(a,y,g2):=i2.ext w j;let(aO,g3,g4):=l.at' y ho;let u:a∈M3:=aP y;let ix:=((show eo ('X'.z G) m H1 x v from i1).ext L i).ext w j;let hv:=DO Z (show eo ('X'.z G) M3 H3 K v3 from i3);let c2:=fU c;let hl:Á aO<Ã:=by let:=g4.1.len;rw[af]at this;lia
     erw[(a,_,g2,by rw[hv];rwa[Ar.k g3 hl],?_)];let d:=FJ (Y:=yx t X) Z ix g4;erw[k.nx σ _ M3 _ τ ((g.trans (i.trans j)).trans (Ext.put u)) (l.put (o:=.C (oJ K s) (oK K x s U)) y (_,bA,d.1.ext l (Ext.put u),d.2.ext l (Ext.put u))) (k.env.ext k.rel ((g.trans (i.trans j)).trans (Ext.put u))) Q]
    .rwa[Q.elim]
structure sd(K:Å)(t:Tb)(c:Ń):ß where
 cl:J7 K (t.ca c)na:∀f∈t.fl c,mQ K (t.ca c) f
 nd:(t.fl c).Nodup
def acW(c j:Ń)(h:Hs):Dv->Ő Dv
 |.p (.obj d fs)=>match Ì d c with
  |J=>match fs[j]? with|O x=>O (.p x)|ao=>ao
  |bb=>ao
 |.r i=>match h[i]? with
  |O (.I d fs)=>match Ì d c with|J=>fs[j]?|bb=>ao
  |_=>ao
 |_=>ao
def IC(c j:Ń):O1:=λx h Q=>match acW c j h x with|O d=>Q d h|ao=>ŧ
theorem rJ:∀{F:Ł _}{l:ϐ}{j:Ń}{v:V},l.Nodup->F.map (·.1)=l.take (Á F)->l[j]?=O f->(F.map (·.2))[j]?=O v->F.lookup f=O v|[],_,_,_,_,_,_,e=>by grind|(g,w)::F,[],_,_,_,e,_,_=>by grind|(g,w)::F,x::l,0,v,n,e,c,d=>by grind|(g,w)::F,x::l,j+1,v,n,e,c,d=>by injection e with k i;rw[cR]at n;let m:f∈l:=aP (by done);rw[iH,cG.mpr λz=>n.1 ()];rwa[rJ n.2 i (by done) (by grind)]
def O_(i:sd X.K t c)(s:(t.fl c)[j]?=O f)(ha:PE X a (cL 'X' E A))(hb:ft a f X.env (Ê a X.env)=Ê a X.env):PE X (.Attribute a f pos) (cL 'X' E (s1 (IC c j) A)):=(I_ ha hb).imp λτ H QV zz=>by
  let(G,M,σ,h,xc,Q,k,q):=zz;erw[(G,M,σ,h,xc,_,(k.rel,k.env,λd u S U v W z Z l=>?_,k.exc),q)];change IC c j d u _ at l;delta IC at l;split at l;.ext d2 g;induction d with
   |p d=>cases d with
    |obj y fs=>
     change(match Ì y c with
      |J=>match fs[j]? with|O x=>O _|ao=>ao
      |bb=>ao)=O d2 at g;split at g
     .ext D;split at g
      .ext x ex;cases g;obtain rfl:=aT D;let(a,F,L,rfl,_,s1,l1,m):=Z;let(w,N,P):=m.get ex;let ln:=by let:=m.len;rw[af]at this;rwa[this]
       rw[ln]at l1;exact(a,_,F,L,w,Ŗ,s1,i.cl,i.na f (aP s),rJ i.nd l1 s N,k.out (.p x) u S U w W z P l)
      .done
     .done|_=>done
   |r n=>
    change(match u[n]? with
     |O (.I y fs)=>match Ì y c with|J=>fs[j]?|bb=>ao
     |_=>ao)=O d2 at g;split at g
    .ext y fs ho;split at g
     .ext D;obtain rfl:=aT D;let(a,g0,rfl):=Z;let(F,L,s1,_,l1,m):=z.at' g0 ho;let(w,N,P):=m.get g;let ln:=by let:=m.len;rw[af]at this;rwa[this]
      rw[ln]at l1;exact(a,_,F,L,w,Ŗ,s1,i.cl,i.na f (aP s),rJ i.nd l1 s N,k.out d2 u S U w W z P l)
     .done
    .done
  .left
def A4(j:Ń)(d:Dv)(fs:Ł Dv):Ő (Ł Dv):=match Ì j (Á fs)with|J=>O (fs++[d])|bb=>match Ë (j+1) (Á fs)with|J=>O (fs.set j d)|bb=>ao
def Ϫ(c j i:Ń)(d:Dv)(h:Hs)(K:Hs->ß):ß:=match h[i]? with|O (.I f fs)=>gd (Ì f c&&Ë (Á fs+1) 1000) (match A4 j d fs with|O P=>K (h.set i (.I c P))|ao=>ŧ)|_=>ŧ
def ajU(c j:Ń)(N:En)(σ:Es)(d:Dv):KP:=λx f=>match x with|[.r i]=>Ϫ c j i d f λg=>N.nx σ g|_=>ŧ
def kFp(c j:Ń)(B:Sm)(N:En)(σ:Es):KP:=λv f=>m1 v λd=>B N.xc σ f (ajU c j N σ d)
def Xy(c j:Ń)(A B:Sm):Ss:=λN σ h=>A N.xc σ h (kFp c j B N σ)
theorem GD:∀{fv:Ł _}{l:ϐ}{j:Ń},l.Nodup->fv.map (·.1)=l.take (Á fv)->l[j]?=O f->j<Á fv->(jr f v fv).map (·.1)=fv.map (·.1)/\(jr f v fv).map (·.2)=(fv.map (·.2)).set j v/\Á (jr f v fv)=Á fv|[],_,_,_,_,_,h=>by grind|(g,w)::fv,[],_,_,e,_,_=>by grind|(g,w)::fv,x::l,0,n,e,d,_=>by injection e with i k;cases d;let:jr f v ((g,w)::fv)=(g,v)::fv:=bV i;rw[this];exact(Ŗ,Ŗ,Ŗ)|(g,w)::fv,x::l,j+1,n,e,d,m=>by injection e with i k;rw[cR]at n;let q:f∈l:=aP (by done);let:jr f v ((g,w)::fv)=(g,w)::jr f v fv:=bN λz=>n.1 ();let(a,b,c):=GD (v:=v) n.2 k (by done) (by grind);exact(by grind,by grind,by grind)
theorem Bp:∀{fv:Ł _}{l:ϐ},l.Nodup->fv.map (·.1)=l.take (Á fv)->l[Á fv]?=O f->jr f v fv=fv++[(f,v)]|[],_,_,_,_=>Ŗ|(g,w)::fv,[],_,e,_=>by grind|(g,w)::fv,x::l,n,e,d=>by injection e with i c;rw[cR]at n;let:jr f v ((g,w)::fv)=(g,w)::jr f v fv:=bN λz=>n.1 (by grind);rw[this,Bp n.2 c (by done)];rfl
theorem cH.set(i:eP Z M H x v):∀{xs:Ł Dv}{vs:ϕ}(n:Ń),cH Z M H xs vs->cH Z M H (xs.set n x) (vs.set n v)|[],[],_,q=>q|[],_::_,_,q=>q.elim|_::_,[],_,q=>q.elim|_::_,_::_,0,q=>(i,q.2)|_::_,_::_,n+1,q=>(q.1,cH.set i n q.2)
def RN(m:sd X.K t c)(g:(t.fl c)[j]?=O f)(h:eX 'X' E (Xy c j A B) D τ H):ţ X.K (cL 'X' E B) (cL 'X' E A) f D τ H:=by let(G,M,σ,h,N,k,q):=h;erw[(G,M,σ,h,_,_,(k.rel,k.env,λd w y H1 v u r1 i1 q1=>?_,k.exc),q)];erw[(G,y,σ,w,_,_,(r1,k.env.ext k.rel u,λd2 h2 M2 H2 v2 L P i2 Q=>?_,λC w y H1 x r q=>k.exc C w y H1 (u.trans x) r q),q1)];induction d2 with|p _=>rwa[Q.elim]|r n=>
  change match h2[n]? with|O (.I S fs)=>gd _ (match A4 j d fs with|O U=>N.nx σ _|ao=>ŧ)|_=>ŧ at Q;split at Q
  .ext S fs ho;let(W,Q):=cg Q;rw[aE]at W;obtain rfl:=aT W.1;let hl:=aj W.2;split at Q
   .ext U s;let(a,Z,rfl):=i2;let ha:=aP Z;let(dx,fv,s1,s2,l1,i3):=P.at' Z ho;let ln:=by let:=i3.len;rw[af]at this;rwa[this]
    rw[ln]at l1;let i:=i1.ext r1 L;erw[(a,_,dx,fv,Ŗ,s1,m.cl,m.na f (aP g),(),?_)];let l:∀F,F.map (·.1)=(t.fl S).take _->cH _ M2 H2 U _->D.nx τ (de H2 a (.ins _ dx F)):=λF xt J9=>k.nx σ _ M2 _ τ ((u.trans L).trans (Ext.put ha)) (P.put (o:=.I S U) Z (dx,F,bA,by rw[bw λz=>()];rwa[s2],xt,J9.ext P (Ext.put ha))) (k.env.ext k.rel ((u.trans L).trans (Ext.put ha))) Q;delta A4 at s;split at s
    .ext ej;cases s;let ej:=aT ej;subst ej;rw[ln]at g;rw[Bp m.nd l1 g];erw[l _ ?_ ?_];.rw[aN,l1,ai,ln];show List.take _ _++[f]=List.take (Á fv+1) _;rw[List.take_succ,g];rfl
     .rw[aN];rwa[i3.app (cH.one i)]
    .split at s
     .ext eb;cases s;let(p1,p2,p3):=GD (v:=v) m.nd l1 g (by rw[<-ln];rwa[aj eb]);erw[l _ ?_ ?_];.left
      .rw[p2];rwa[i3.set i j]
     .done
   .left
  .left
def Md:Dv->Þ|.p .N=>J|_=>bb
def Vm(P:ci)(w:ce)(K:Å)(m:c4)(c:Ç)(k:Ń)(E:XK)(x:TE)(t:TA):TE:=λσ H Q=>x σ H λv d=>∃(f:À)(F:c')(ps:ϐ)(s:Sp),v=.A f/\iB P w K m c (qI P w) k f F ps s/\keepIn K (.ref f)=J/\Binds K F ps []/\t σ d λg i=>s g i Q E
def IJ{t:TA}(j:PE X (.Name x p) c)(l:fe k X.A)(m:f9 (qI X.prog X.w) X E)(n:PA X (e::es) t)(d:(e::es).all bW):PE X (.Call (.Name x p) (e::es) [] pos) (Vm X.prog X.w X.K X.mg X.base k E c t):=by intro P s σ H Q I h;rw[bZ,aE]at d;erw[fB (jf (j _ s σ H _ I h) λv s1 y u i r f=>?_)];let(f,U,ps,W,z,F,D,L,q):=f;subst z;cases r;rwa[fA i.ok.mod.DL D (iD (n pos _ s1 σ u _ i q) λus s2 Z=>by let(vs,H2,g,N,S):=Z;exact(g.kr,zO F l L .nil m g N (by rw[aK];rwa[S]))) (cx d.1) (eV d.2)]
def zQ(fn:Ń->Ct)(fok:Ϙ)(ρ:Ϙ)(A R:Sm):Sm:=λx σ h Q=>A x σ h λs c=>match s with|[.p (.fn i)]=>gd (gX i fok) (R x σ c λds f=>Iy ρ (fn i) ds f (λd g=>Q [d] g) x)|_=>ŧ
def NJ(D:∀i∈fok,∃ps,kX X.prog X.w X.K X.mg X.base k (t.gh i) ps (dB 'X' (fn i)))(N:fe k X.A)(P:f9 (qI X.prog X.w) X E)(S:PE X (.Name x p) (cL 'X' E A))(U:PA X (a::rest) (fL 'X' E R))(W:(a::rest).all bW):PE X (.Call (.Name x p) (a::rest) [] pos) (cL 'X' E (zQ fn fok ρ A R)):=(IJ S N P U W).imp λτ H QV Z=>by let(G,M,σ,h,I,Q,k,q):=Z;erw[(G,M,σ,h,I,_,(k.rel,k.env,λd h1 M1 H1 v g r1 i1 l=>?_,k.exc),q)];induction d with|r _=>left|p d=>cases d with|fn i=>let(c,l):=cg l;let(ps,f,fd,F,hm,hk,hb):=D i (cy.mp c);let(a,j,rfl):=i1;change X.mg _=O _ at j;rw[hm]at j;cases j;exact(f,fd,ps,_,Ŗ,F,hk,hb,G,M1,σ,h1,I,_,(r1,k.env.ext k.rel g,λds j M2 H2 vs L r2 i2 q2=>lE r2 i2 q2 (λd3 m n s w u y i3 z=>k.out d3 m n s w (g.trans (L.trans u)) y i3 z) λc m n s u y z=>k.exc c m n s (g.trans (L.trans u)) y z,k.CZ g),l)|_=>left
def Ų(ks:ϐ):Pv:=.T (ks.map .S)
theorem va:∀{ks:ϐ},aW (Y.z G) M H (ks.map .S) (ks.map V.S)|[]=>by done|k::ks=>by exact(Ŗ,va)
def Ng(c:Æ->Ő ϐ):O1:=λx h Q=>match x with|.p (.S z)=>fH (c z) (λk=>Q (.p (Ų k)) h) (Q (.p .N) h)|_=>ŧ
def r_(c:Æ->Ő ϐ):O1:=λx h Q=>match x with|.p (.S z)=>fH (c z) (λk=>Q (.p (Ų k)) h) ŧ|_=>ŧ
def OP(h:bW e):c7 [e] env=[(bb,Ê e env)]:=by rw[cx h];rfl
def TU{ad:À}(T:uy X.w X.K ad c)(s:Gl X n)(u:X.mg n=O (.ref ad))(x:PE X e (cL 'X' E A))(y:(n=="__debug__")=bb)(D:bW e)(F:(cr.endLine==dg.line)):PE X (.Call (.Attribute (.Name n p) "get" cr) [e] [] dg) (cL 'X' E (s1 (Ng c) A)):=(IP T s u x y rfl (uR nofun (show 1<30 by simp)) F (OP D)).imp λτ H N Z=>by
  let(G,M,σ,h,I,Q,k,q):=Z;erw[(G,M,σ,h,I,_,(k.rel,k.env,λd g m j v l r L f=>?_,k.exc),q)];change Ng c d g _ at f;delta Ng fH at f;split at f
  .ext z;erw[(z,jA L,?_)];split at f;.ext P i;rw[i];rwa[λb sq=>k.out _ g m j _ l r (by exact(b,_,Ŗ,sq,va)) f]
   .ext i;rw[i];rwa[k.out _ g m j _ l r tZ f]
  .left
def X_{ad:À}(T:uy X.w X.K ad c)(i:Gl X n)(m:X.mg n=O (.ref ad))(j:PE X e (cL 'X' E A))(l:(n=="__debug__")=bb)(s:lS e):PE X (.Subscript (.Name n p) e pos) (cL 'X' E (s1 (r_ c) A)):=(Gu (Z1 T) (qm (v:=.A ad) i m Ŗ l) j s).imp λτ H N Z=>by
  let(G,M,σ,h,x,Q,k,q):=Z;erw[(G,M,σ,h,x,_,(k.rel,k.env,λd g r u v y D I f=>?_,k.exc),q)];change r_ c d g _ at f;delta r_ fH at f;split at f
  .ext z;split at f;.ext F L;exact(Ŗ,z,F,jA I,L,λb sq=>k.out _ g r u _ y D (by exact(b,_,Ŗ,sq,va)) f)
   .left
  .left
def fT:ϑ->Ő ϐ
 |[]=>O []|.S x::r=>match fT r with|O s=>O (x::s)|ao=>ao
 |_::_=>ao
def nN:∀{ws:ϐ}{vs:ϕ},fT xs=O ws->aW (Y.z G) M H xs vs->vs=ws.map V.S:=by induction xs with
 |f=>intro ws vs e q;cases e;induction vs with|f=>rfl|g _ _=>done
 |g x xs i=>intro ws vs e q;cases vs with|f=>done|g v vs=>let q2:=Ģ q;let Q:=q2.1;replace q2:=q2.2;clear q;cases x with
   |S z=>change(match fT xs with|O s=>O _|ao=>ao)=O ws at e;induction y:fT xs with|a=>rw[y]at e;rwa[pv e]|c s=>rw[y]at e;cases e;rw[jA Q,i y q2];rfl
   |_=>rwa[pv e]
def Nf:O1:=λx h Q=>match lA h x with|O s=>fH (fT s) (λws=>gd (Ë (Á (dW ws)+1) 64) (Q (.p (.I (Á (dW ws)))) h)) ŧ|ao=>ŧ
def TQ(j:X.calm)(l:Gl X "len")(m:X.mg "len"=ao)(I:Gl X "set")(s:X.mg "set"=ao)(u:PE X e (cL 'X' E A))(D:bW e):PE X (.Call (.Name "len" p) [.Call (.Name "set" p2) [e] [] n] [] pos) (cL 'X' E (s1 Nf A)):=(Np Hy l m Cy (Tn (Nq (mU j) I s KH (Tn u kD D) ∅ rfl nofun) kD Ŗ) ∅ rfl rfl).imp λτ H N z=>by
  let(G,M,σ,h,x,Q,k,q):=z;erw[(G,M,σ,h,x,_,(k.rel,k.env,λd g w P v y r F f=>?_,k.exc),q)];change Nf d g _ at f;delta Nf fH at f;split at f
  .ext S ex;split at f;.ext ws K;let(c,f):=cg f;let(a,U,rfl,s1,L):=fX r F ex;rw[nN K L]at s1;exact(a,ws,Ŗ,gB.of s1,aj c,λb i=>(b,_,Ŗ,bA,k.out _ g w _ _ (y.trans (Ext.add i)) (r.add i) fE f))
   .left
  .left
def ϲ:O2:=λx y h Q=>fH (iO y) (λk=>fH (iO x) (λi=>gd (ym i k) (Q (.p (.I (i*k))) h)) (fH (lA h x) (λs=>gd (qC (Á s*k.toNat)&&Đ (-2^63<=k)&&Đ (k<2^63)) (Q (.p (.L (Ð k.toNat s).flatten)) h)) ŧ)) ŧ
def Xq:R2:=λx y H Q=>rI Ko (λi j=>.I (i*j)) x y H Q\/ŷ x y H Q
def Tj:kZ X (binaryOp .Mult) Xq:=z_.or C_
theorem aW.rep(q:aW (Y.z G) M H xs vs):∀n:Ń,aW (Y.z G) M H (Ð n xs).flatten (Ð n vs).flatten|0=>by done|n+1=>by rwa[q.app (aW.rep q n)]
def Mj:iC Y Xq ϲ:=λG M h H x y v u Q m r i j q out=>by
 let(K,f,q):=b9 q;rcases zu q with ⟨a,e,q⟩|q;.let(k,d):=cg q;cases qj f;cases qj e;rwa[.inl (_,_,fJ i,fJ j,QG k,out _ h M H _ Ext.refl r fE d)]
 .let(n,ex,q):=b9 q;let(c,d):=cg q;cases qj f;simp only[aE,g8]at c;let(a,s,l,s1,I):=fX r i ex;rwa[.inr (a,_,s,l,fJ j,s1,c.1.2,c.2,by rw[<-I.len];rwa[fU c.1.1],λp g=>out _ h M _ _ (Ext.add g) (r.add g) (jI r g (I.rep _)) d)]
def oP:ϑ->Ő (ϑ×ϑ)
 |[]=>O ([],[])|.T [k,v]::r=>match j3 k,oP r with|O _,O (K,s)=>O (k::K,v::s)|_,_=>ao
 |_::_=>ao
def oj:ϑ->ϑ->ϑ×ϑ->ϑ×ϑ|k::K,v::s,(f,c)=>oj K s (oJ k f,oK k v f c)|_,_,r=>r
def J8:ON:=λds h Q=>match ds with
 |[x]=>match lA h x with|O s=>fH (oP s) (λp=>gd (Ë (Á p.1) 100) (Q (.p (.dct (oj p.1 p.2 ([],[])).1 (oj p.1 p.2 ([],[])).2)) h)) ŧ|ao=>ŧ
 |_=>ŧ
def Uw(e:oP (x::xs)=O (ks,us)):∃k w κ f Pq,j3 k=O κ/\oP xs=O (f,Pq)/\x=.T [k,w]/\ks=k::f/\us=w::Pq:=by
 delta oP at e;split at e;.done
 .grind
 .cases e
def D9:∀{ks us:ϑ}{vs:ϕ},oP xs=O (ks,us)->aW (Y.z G) M H xs vs->∃aO:Ł _,jz Y G M H ks us aO/\Paired (λt c=>∃b,t=V.A b/\gF Y.K H b [kV c.1,c.2]) vs aO:=by induction xs with
 |f=>intro ks us vs e q;cases e;induction vs with|f=>exact([],jz.nil,.nil)|g _ _=>done
 |g x xs I=>intro ks us vs e q;cases vs with|f=>rwa[q.elim]|g v vs=>let(k,w,κ,g,P,f,r,rfl,rfl,rfl):=Uw e;let(aO,d,pp):=I r q.2;let(b,ws,rfl,sq,i):=mP q.1;cases ws with|f=>rwa[i.elim]|g u ws=>let i1:=i.1;replace i:=i.2;cases ws with|f=>rwa[i.elim]|g u2 ws=>let i2:=i.1;replace i:=i.2;induction ws with|g _ _=>rwa[i.elim]|f=>cases DO f i1;exact((κ,u2)::aO,jz.cons.mpr ((f,i2),d),.cons (b,Ŗ,sq) pp)
theorem qa:∀{ks us g P:ϑ}{m f:Ł _},jz Y G M H ks us m->jz Y G M H g P f->jz Y G M H (oj ks us (g,P)).1 (oj ks us (g,P)).2 (jd f m)|[],[],_,_,[],_,_,d=>d|k::ks,u::us,g,P,p::m,f,d,d2=>by obtain⟨⟨a,b⟩,c⟩:=jz.cons.mp d;show jz Y G M H (oj ks us _).1 _ (jd (jK f p.1 p.2) _);rwa[qa c (FJ a b d2)]|[],_::_,_,_,f,_,h,_=>by let:=h.1.len;let:=h.2.len;simp at*;lia|_::_,[],_,_,f,_,h,_=>by let:=h.1.len;let:=h.2.len;simp at*;lia|[],[],_,_,_::_,_,h,_=>by let:=h.1.len;simp at this|_::_,_::_,_,_,[],_,h,_=>by let:=h.1.len;simp at this
def Sd:oW Y (λxs H Q=>∃(l:À)(ts:ϕ)(f:Ł _),xs=[.A l]/\gB Y.K H l ts/\Á f<=100/\Paired (λt k=>∃b,t=V.A b/\gF Y.K H b [kV k.1,k.2]) ts f/\∀a,H a=ao->Q (.A a) (de H a (.dK (jd [] f)))) J8:=λG M h H xs s Q n r I q out=>by
 delta J8 fH at q;split at q
 .let(v,rfl,i):=I.oz;split at q
  .ext xs ex;split at q
   .ext P j;let(c,q):=cg q;let(a,ws,rfl,s1,m):=fX r i ex;let(f,d,pp):=D9 j m;let hl:=by let:=d.1.len;rw[af]at this;rwa[this.symm]
    erw[(a,ws,f,Ŗ,gB.of s1,by rw[hl];rwa[aj c],pp,λb g=>?_)];let d2:=qa d jz.nil;erw[out _ h M _ _ (Ext.add g) (r.add g) ?_ q];exact(b,_,Ŗ,r.nj g,.inl bA,d2.1.ext r (Ext.add g),d2.2.ext r (Ext.add g))
   .left
  .left
 .left
theorem ql:∀{ws:ϐ}{d:Ł (cs×V)},d.map (λp=>kV p.1)=ws.map V.S->d.map (·.1)=ws.map à|[],[],_=>Ŗ|[],_::_,e=>by simp at e|_::_,[],e=>by simp at e|w::ws,p::d,e=>by rw[cq,cq]at e;injection e with c g;rw[cq,cq,ql g];induction f:p.1 with|inl i=>rw[f]at c;cases c|inr x=>rw[f]at c;cases c;rfl
end
set_option genInjectivity false
structure Gm where
 fn:Ń->Ct
 fok:Ϙ
 gl:Ń->Pv
 Zn:Ϙ
 kK:Ń->Ct
 iok:Ϙ
 tab:Ń->Æ->Ő (Ł Æ)tok:Ϙ
 JX:Ϙ
structure Sx where
 N:ϐ
 sc:Í
 gh:Ń->Æ
 gnm:Ń->Æ
 tnm:Ń->Æ
 rj:Ń->Æ
 fl:Ń->ϐ
 bok:ϐ
 cok:Ϙ
 xok:Ϙ
 fr:Þ
 cm:Þ
def Ch(s:Í)(x:Æ):Þ:=match s.names.lookup x with|O .local=>J|O .cell=>J|O .free=>J|_=>bb
def SQ(s:Í)(x:Æ):Þ:=match s.names.lookup x with|O .local=>J|O .cell=>J|_=>bb
def wI(s:Í)(x:Æ):Þ:=match s.names.lookup x with|O .local=>J|_=>bb
def Zl(s:Í)(x:Æ):Þ:=match s.names.lookup x with|O .globalImplicit=>J|_=>bb
def Ta(x:Æ):Þ:=cQ x "__debug__"||cQ x "__classdict__"||cQ x "__name__"
def lZ(x:Æ):ϐ->Þ|[]=>bb|y::r=>cQ x y||lZ x r
def Bf(x:Æ):Ń->ϐ->Þ|0,y::_=>cQ x y|n+1,_::r=>Bf x n r|_,[]=>bb
theorem gv:∀{l:ϐ},lZ x l=J->x∈l
 |[],h=>by cases h|y::r,h=>by
  rcases(mr _ _).mp h with h|h;.rw[bX.mp h];rwa[aL]
  .rwa[aH _ (gv h)]
theorem ig:∀{n:Ń}{l:ϐ},Bf x n l=J->l[n]?=O x|0,y::_,h=>by rw[bX.mp h];rfl|n+1,_::r,h=>by rw[ĺ];rwa[ig h]|0,[],h=>by cases h|_+1,[],h=>by cases h
def iU{α:Type}(o:Ő α)(f:α->Þ):Þ:=match o with|O a=>f a|ao=>bb
def b8(h:iU o f):∃a,o=O a/\f a=true:=by induction o with|a=>cases h|c a=>exact(a,Ŗ,h)
def ag(h:(a&&b)):a/\b=true:=(aE _ _).mp h
def fG(h:(!a)):a=false:=()
def l1{α:Type}:Ł α->Ő α|[a]=>O a|_=>ao
def eG:∀{l:Ł α}{a:α},l1 l=O a->l=[a]|[],_,h=>by cases h|[_],_,h=>by cases h;rfl|_::_::_,_,h=>by cases h
def l2{α:Type}:Ł α->Ő (α×α)|[a,b]=>O (a,b)|_=>ao
def mn:∀{l:Ł α}{p:α×α},l2 l=O p->l=[p.1,p.2]|[],_,h=>by cases h|[_],_,h=>by cases h|[_,_],_,h=>by cases h;rfl|_::_::_::_,_,h=>by cases h
def lc{α:Type}:Ł α->Ő (α×Ł α)|a::r=>O (a,r)|[]=>ao
def Gj:∀{l:Ł α}{p:α×Ł α},lc l=O p->l=p.1::p.2|[],_,h=>by cases h|_::_,_,h=>by cases h;rfl
def u0{α:Type}:Ł α->Þ|[]=>J|_=>bb
def gD(h:u0 l):l=[]:=by induction l<;>first|rfl|cases h
def sx(n m:Ń)(k:n=m->Þ):Þ:=match h:Ì n m with|J=>k (aT h)|bb=>bb
def eE(h:sx n m k):∃e,k e=true:=by
 delta sx at h;split at h;.exact(_,h)
 .cases h
def oR(f:Æ->Ó->Þ)(x:Ä):Þ:=sx _ 23 λe=>Expr.Name.elim x e f
@[elab_as_elim]def fM{P:Ä->ß}(h:oR f x)(q:∀n p,f n p=J->P (.Name n p)):P x:=(eE h).elim λe h=>Expr.Name.elim x e (λn p _ h=>q n p h) e h
def ό(f:Ä->Operator->Ä->Ó->Þ)(x:Ä):Þ:=sx _ 2 λe=>Expr.BinOp.elim x e f
@[elab_as_elim]def VQ{P:Ä->ß}(h:ό f x)(q:∀a o b p,f a o b p=J->P (.BinOp a o b p)):P x:=(eE h).elim λe h=>Expr.BinOp.elim x e (λa o b p _ h=>q a o b p h) e h
def wP(f:UnaryOp->Ä->Ó->Þ)(x:Ä):Þ:=sx _ 3 λe=>Expr.UnaryOp.elim x e f
@[elab_as_elim]def ES{P:Ä->ß}(h:wP f x)(q:∀o a p,f o a p=J->P (.UnaryOp o a p)):P x:=(eE h).elim λe h=>Expr.UnaryOp.elim x e (λo a p _ h=>q o a p h) e h
def Pt(f:Ä->Ł CmpOp->Ł Ä->Ó->Þ)(x:Ä):Þ:=sx _ 15 λe=>Expr.Compare.elim x e f
@[elab_as_elim]def ui{P:Ä->ß}(h:Pt f x)(q:∀a o b p,f a o b p=J->P (.Compare a o b p)):P x:=(eE h).elim λe h=>Expr.Compare.elim x e (λa o b p _ h=>q a o b p h) e h
def Pr(f:BoolOp->Ł Ä->Ó->Þ)(x:Ä):Þ:=sx _ 0 λe=>Expr.BoolOp.elim x e f
@[elab_as_elim]def BJ{P:Ä->ß}(h:Pr f x)(q:∀o es p,f o es p=J->P (.BoolOp o es p)):P x:=(eE h).elim λe h=>Expr.BoolOp.elim x e (λo es p _ h=>q o es p h) e h
def Ŕ(f:Ä->Ä->Ä->Ó->Þ)(x:Ä):Þ:=sx _ 5 λe=>Expr.IfExp.elim x e f
@[elab_as_elim]def VT{P:Ä->ß}(h:Ŕ f x)(q:∀a b c p,f a b c p=J->P (.IfExp a b c p)):P x:=(eE h).elim λe h=>Expr.IfExp.elim x e (λa b c p _ h=>q a b c p h) e h
def Ab(f:Ł Ä->Ń->Ó->Þ)(x:Ä):Þ:=sx _ 25 λe=>Expr.Tuple.elim x e f
@[elab_as_elim]def jt{P:Ä->ß}(h:Ab f x)(q:∀es k p,f es k p=J->P (.Tuple es k p)):P x:=(eE h).elim λe h=>Expr.Tuple.elim x e (λes k p _ h=>q es k p h) e h
def A1(f:Ł Ä->Ó->Þ)(x:Ä):Þ:=sx _ 24 λe=>Expr.List.elim x e f
@[elab_as_elim]def zZ{P:Ä->ß}(h:A1 f x)(q:∀es p,f es p=J->P (.List es p)):P x:=(eE h).elim λe h=>Expr.List.elim x e (λes p _ h=>q es p h) e h
def Aa(f:Ä->Ä->Ó->Þ)(x:Ä):Þ:=sx _ 21 λe=>Expr.Subscript.elim x e f
@[elab_as_elim]def kh{P:Ä->ß}(h:Aa f x)(q:∀a i p,f a i p=J->P (.Subscript a i p)):P x:=(eE h).elim λe h=>Expr.Subscript.elim x e (λa i p _ h=>q a i p h) e h
def Db(f:Ő Ä->Ő Ä->Ő Ä->Ó->Þ)(x:Ä):Þ:=sx _ 26 λe=>Expr.Slice.elim x e f
@[elab_as_elim]def GZ{P:Ä->ß}(h:Db f x)(q:∀a b c p,f a b c p=J->P (.Slice a b c p)):P x:=(eE h).elim λe h=>Expr.Slice.elim x e (λa b c p _ h=>q a b c p h) e h
def gz(f:Ä->Ł Ä->Ł fm->Ó->Þ)(x:Ä):Þ:=sx _ 16 λe=>Expr.Call.elim x e f
@[elab_as_elim]def dC{P:Ä->ß}(h:gz F x)(q:∀f es ks p,F f es ks p=J->P (.Call f es ks p)):P x:=(eE h).elim λe h=>Expr.Call.elim x e (λf es ks p _ h=>q f es ks p h) e h
def ER(f:Ä->Æ->Ó->Þ)(x:Ä):Þ:=sx _ 20 λe=>Expr.Attribute.elim x e f
@[elab_as_elim]def nR{P:Ä->ß}(h:ER F x)(q:∀o f p,F o f p=J->P (.Attribute o f p)):P x:=(eE h).elim λe h=>Expr.Attribute.elim x e (λo f p _ h=>q o f p h) e h
def Pu(f:Ä->Ł Comprehension->Í->Ó->Þ)(x:Ä):Þ:=sx _ 8 λe=>Expr.ListComp.elim x e f
@[elab_as_elim]def Px{P:Ä->ß}(h:Pu f x)(q:∀e g s p,f e g s p=J->P (.ListComp e g s p)):P x:=(eE h).elim λe h=>Expr.ListComp.elim x e (λe g s p _ h=>q e g s p h) e h
def P5(f:Ł (Ő Ä)->Ł Ä->Ó->Þ)(x:Ä):Þ:=sx _ 6 λe=>Expr.Dict.elim x e f
@[elab_as_elim]def uj{P:Ä->ß}(h:P5 f x)(q:∀ks vs p,f ks vs p=J->P (.Dict ks vs p)):P x:=(eE h).elim λe h=>Expr.Dict.elim x e (λks vs p _ h=>q ks vs p h) e h
def J1(f:Ĵ->Ń->Ó->Þ)(x:Ä):Þ:=sx _ 19 λe=>Expr.Constant.elim x e f
@[elab_as_elim]def nS{P:Ä->ß}(h:J1 f x)(q:∀c k p,f c k p=J->P (.Constant c k p)):P x:=(eE h).elim λe h=>Expr.Constant.elim x e (λc k p _ h=>q c k p h) e h
def Sy(S:Sx)(i:Ń):Ä->Þ:=oR λx _=>Bf x i S.N&&(Ch S.sc x&&!Ta x)
def ua(S:Sx)(n:Æ):Ä->Þ:=oR λx _=>cQ x n&&(Zl S.sc x&&!Ta x)
def X3:Pv->Ĵ->Þ
 |.I i,c=>match c with|.int j=>Đ (i=j)|_=>bb
 |.B i,c=>match c with|.bool j=>i==j|_=>bb
 |.S i,c=>match c with|.str j=>cQ i j|_=>bb
 |.N,c=>match c with|.none=>J|_=>bb
 |_,_=>bb
def Ys(p:Pv):Ä->Þ:=J1 λc _ _=>X3 p c
def ma(x:Ä):Þ:=!Nat.beq x.ctorIdx 7
def Be(x:Ä):Þ:=!(Ì x.ctorIdx 26||Ì x.ctorIdx 25)
def Nb(x:Ä):Þ:=!gz (λ_ e _ _=>u0 e) x
def alC(x:Ä):Þ:=!(Ì x.ctorIdx 0||(Ì x.ctorIdx 3||(Ì x.ctorIdx 15||Ì x.ctorIdx 5)))
def XY(w:ce)(K:Å)(i:Ń)(ad:À)(t:Æ->Ő ϐ):ß:=match Ë 50 i with|bb=>uy w K ad t|J=>Hk w K ad t
def yd(w:ce)(K:Å)(m:c4)(g:Ń->Æ)(i:Ń)(ad:À)(t:Æ->Ő ϐ):ß:=match Ë 100 i with|bb=>XY w K i ad t|J=>sL w K m g ad t
def Ŧ(c:Þ)(P:ci)(w:ce)(K:Å)(m:c4)(b:Ç)(k:Ń)(x:Æ)(ps:ϐ)(sp:Sp):ß:=match c with|J=>kX P w K m b k x ps sp|bb=>sJ P w K m b k x ps sp
def Kr(c:Þ)(P:ci)(w:ce)(K:Å)(m:c4)(b:Ç)(k:Ń)(C:À)(x:Æ)(ps:ϐ)(sp:Sp):ß:=match c with|J=>ya P w K m b (qI P w) k C x ps sp|bb=>qY P w K m b k C x ps sp
def wa(P:ci)(w:ce)(K:Å)(m:c4)(b:Ç)(k:Ń)(nm:Æ)(C:Ń->À)(c:Ń)(ps:ϐ)(sp:Sp):ß:=match Ë 80 c with|bb=>lR P w K m b k nm (C c) ps sp|J=>match Ë 90 c with|bb=>lR P w K m b k nm (C (c-80)) ps sp|J=>v9 P w K m b k nm sp
def jm(a:Þ)(P:ci)(w:ce)(K:Å)(m:c4)(b:Ç)(k:Ń)(nm:Æ)(C:Ń->À)(c:Ń)(ps:ϐ)(sp:Sp):ß:=match Ë 100 c with|bb=>wa P w K m b k nm C c ps sp|J=>Kr a P w K m b k (C (c/100-1)) nm ps sp
def acb{i:Ń}(h:Ë 50 i=bb):Ë 100 i=false:=by rw[bq]at h⊢;rwa[λz=>h (jj.mpr (aA ⋯ (jj.mp z)))]
def O8{K:Å}{m:Æ->Ő _}{i:Ń}{ad:À}(h:Ë 50 i=bb)(T:yd w K m g i ad tab):uy w K ad tab:=by delta yd XY at T;rw[acb h,h]at T;rwa[T]
def aaz{K:Å}{m:Æ->Ő _}{i:Ń}{ad:À}(h:Ë 50 i)(H:Ë 100 i=bb)(T:yd w K m g i ad tab):Hk w K ad tab:=by delta yd XY at T;rw[H,h]at T;rwa[T]
def O7{K:Å}{m:Æ->Ő _}{i:Ń}{ad:À}(h:Ë 100 i)(T:yd w K m g i ad tab):sL w K m g ad tab:=by simp only[yd,h]at T;rwa[T]
def Cw{b i:Ń}(ab:a<=b)(h:Ë a i=bb):Ë b i=false:=by rw[bq]at h⊢;rwa[λz=>h (jj.mpr (aA ab (jj.mp z)))]
def L7{K:Å}{c:Ń}(h:Ë 80 c=bb)(T:jm cm P w K mg base k nm ca c ps sp):lR P w K mg base k nm (ca c) ps sp:=by delta jm wa at T;rw[Cw ⋯ h,h]at T;rwa[T]
def ZK{K:Å}{c:Ń}(h:Ë 90 c)(H:Ë 100 c=bb)(T:jm cm P w K mg base k nm ca c ps sp):v9 P w K mg base k nm sp:=by delta jm wa at T;rw[H,jj.mpr (aA ⋯ (jj.mp h)),h]at T;rwa[T]
def FZ{K:Å}{c:Ń}(h:Ë 80 c=bb)(T:lR P w K mg base k nm (ca c) ps sp):jm cm P w K mg base k nm ca c ps sp:=by delta jm wa;rw[Cw ⋯ h,h];rwa[T]
def ZL{K:Å}{c:Ń}(h:Ë 100 c)(T:jm cm P w K mg base k nm ca c ps sp):Kr cm P w K mg base k (ca (c/100-1)) nm ps sp:=by simp only[jm,h]at T;rwa[T]
theorem Kr.mono{K:Å}(T:Kr cm P w K mg base j C nm ps sp)(h:j<=k):Kr cm P w K mg base k C nm ps sp:=by induction cm with|d=>rwa[ya.mono T h]|e=>rwa[qY.mono T h]
theorem wa.mono{K:Å}(T:wa P w K mg base j nm ca c ps sp)(h:j<=k):wa P w K mg base k nm ca c ps sp:=by
 delta wa at*;split at T;.rwa[T.mono h]
 .split at T;.rwa[T.mono h]
  .rwa[T.mono h]
theorem jm.mono{K:Å}(T:jm cm P w K mg base j nm ca c ps sp)(h:j<=k):jm cm P w K mg base k nm ca c ps sp:=by
 delta jm at*;split at T;.rwa[T.mono h]
 .rwa[T.mono h]
def Ks(K:Å)(c:Ń)(C:À):ß:=match Ì c 999 with|bb=>As K C|J=>Hi K C
def Y6{K:Å}{c:Ń}(h:Ë 999 c=bb)(T:Ks K c C):As K C:=by
 let e:Ì c 999=false:=by induction q:Ì c 999 with|e=>rfl|d=>left
 simp only[Ks,e]at T;rwa[T]
structure mj(Γ:Gm)(t:Tb)(k:Ń)(S:Sx)(X:Cx)(E:XK):ß where
 hN:X.N=S.N
 hs:X.env.scope=S.sc
 hc:S.cm=J->X.calm/\X.A.handled=ao
 hq:Hq X
 hp:f9 (qI X.prog X.w) X E
 hr:gZ (k+1) X.A
 bl:∀x∈S.bok,X.mg x=ao
 gh:S.gh=t.gh
 fn:∀i∈Γ.fok,∃ps,Ŧ S.cm X.prog X.w X.K X.mg X.base (k+1) (t.gh i) ps (dB 'X' (Γ.fn i))gl:∀i∈Γ.Zn,∃u v,X.mg (S.gnm i)=O u/\RelV v u/\∀G M H,eo ('X'.z G) M H (Γ.gl i) v
 tab:∀i∈Γ.tok,∃ad,X.mg (S.tnm i)=O (.ref ad)/\yd X.w X.K X.mg t.gh i ad (Γ.tab i)cls:∀c∈S.cok,sd X.K t c/\t.fl c=S.fl c
 kK:∀c∈Γ.iok,∃ps,jm S.cm X.prog X.w X.K X.mg X.base k (S.rj c) t.ca c ps (dB 'X' (Γ.kK c))fx:S.fr=J->Cd X/\gM X E
 fu:∀i∈Γ.JX,∃ps,sJ X.prog X.w X.K X.mg X.base (k+1) (t.gh i) ps (dB 'X' (Γ.fn i))
def mj.hu(o:mj Γ t k S X E):X.A.units+64<Ï:=o.hr.units
def mj.P9(o:mj Γ t k S X E):X.A.units+1<Ï:=o.hr.aaO
theorem mj.room(o:mj Γ t k S X E)(h:S.cm):fe (k+1) X.A:=o.hr.room (o.hc h).2
def mj.fnX(o:mj Γ t k S X E)(h:S.cm):∀i∈Γ.fok,∃ps,kX X.prog X.w X.K X.mg X.base (k+1) (t.gh i) ps (dB 'X' (Γ.fn i)):=λi H=>by let(ps,D):=o.fn i H;rw[h]at D;exact(ps,D)
theorem mj.runs(o:mj Γ t k S X E)(h:i∈Γ.fok):∃f,X.mg (t.gh i)=O (.ref f)/\keepIn X.K (.ref f)/\gA X f (dB 'X' (Γ.fn i)) [] E:=by let(ps,D):=o.fn i h;induction H:S.cm with|d=>rw[H]at D;let(f,d,F,m,a,b):=kX.ex D;exact(f,m,a,F.runs (o.room H) b .nil o.hp)|e=>rw[H]at D;let(f,d,F,m,a,b):=sJ.ex D;exact(f,m,a,F.runs o.hr o.hq b .nil)
def mj.g_(o:mj Γ t k S X E)(h:c∈Γ.iok)(H:Ë 100 c):∃f,yc X.K (t.ca (c/100-1)) (S.rj c) f/\gA X f (dB 'X' (Γ.kK c)) [] E:=by let(ps,D):=o.kK c h;replace D:=(ZL H D).mono (dG k);induction a:S.cm with|d=>rw[a]at D;let(f,d,F,m,H):=ya.ex D;exact(f,m,F.runs (o.room a) H .nil o.hp)|e=>rw[a]at D;let(f,d,F,m,H):=qY.ex D;exact(f,m,F.runs o.hr o.hq H .nil)
def D1(h:Ta x=bb):(x=="__debug__")=bb/\(x=="__classdict__")=bb/\x≠"__name__":=by delta Ta at h;simp only[Bool.or_eq_false_iff]at h;rw[nL,nL];exact(h.1.1,h.1.2,λz=>by rw[bX.mpr z]at h;rwa[ą h.2])
def Pz(h:Ch s x):XZ s x:=by
 delta Ch at h;split at h;.ext e;rwa[.inl e]
 .ext e;rwa[.inr (.inl e)]
 .ext e;rwa[.inr (.inr e)]
 .cases h
def zh(h:SQ s x):L2.Loc s x:=by
 delta SQ at h;split at h;.ext e;rwa[.inl e]
 .ext e;rwa[.inr e]
 .cases h
def rR(h:wI s x):s.names.lookup x=O .local:=by
 delta wI at h;split at h;.done
 .cases h
def Zm(o:mj Γ t k S X E)(h:Zl S.sc x):Gl X x:=by
 delta Zl at h;split at h;.ext e;show X.env.scope.names.lookup x=_;rw[o.hs];rwa[e]
 .cases h
def eL(o:mj Γ t k S X E)(h:ua S n x):∃pos,x=.Name n pos/\Gl X n/\(n=="__debug__")=bb/\n≠"__name__":=by erw[fM h λy p h=>?_];let(H,h):=ag h;let(a,b):=ag h;let e1:=bX.mp H;subst e1;let z:=D1 (fG b);exact(p,Ŗ,Zm o a,z.1,z.2.2)
def Mp(o:mj Γ t k S X E)(h:Sy S i x):PE X x (BG i):=by erw[fM h λy p h=>?_];let(H,h):=ag h;let(a,b):=ag h;let z:=D1 (fG b);rwa[zA (by rw[o.hN];rwa[ig H]) (by rw[o.hs];rwa[Pz a]) z.1 z.2.1]
def Yt(h:Ys p x):PE X x (cL 'X' E (sC p)):=by
 erw[nS h λc j q h=>?_];cases p<;>first|done|skip
 case N=>induction c<;>first|done|rwa[D7 J_ λ_ _ _=>by rfl]
 case B=>induction c<;>first|done|(rw[wW h];rwa[D7 aeI λ_ _ _=>by rfl])
 case I=>induction c<;>first|done|(rw[bB h];rwa[D7 zy λ_ _ _=>by rfl])
 case S=>induction c<;>first|done|(rw[bX.mp h];rwa[D7 ND λ_ _ _=>by rfl])
def ue(h:ma b):gn o b=false:=by cases b<;>first|rfl|cases h
def za(h:Be b):lS b:=by intro o i;cases b<;>first|rfl|cases h
def lV(h:Nb a):ft a f env w=w:=by
 cases a<;>first|rfl|skip
 ext F args K pos;cases args with|f=>cases h|g _ _=>cases F<;>rfl
def aaT(h:alC e)(H:PE X e (cL 'X' E A)):PT X e (j5 'X' E A):=by cases e<;>first|rwa[Ug H λ_=>Ŗ]|cases h
variable(Γ:Gm)(t:Tb)
structure Em where
 m:Sm
 ck:Sx->Ä->Þ
 pe:∀{k S X E x},mj Γ t k S X E->ck S x->PE X x (cL 'X' E m)
structure Tm where
 m:Sm
 ck:Sx->Ä->Þ
 pt:∀{k S X E x},mj Γ t k S X E->ck S x->PT X x (j5 'X' E m)
structure Bm(op:BoolOp)where
 m:Sm
 ck:Sx->Ł Ä->Þ
 pe:∀{k S X E xs},mj Γ t k S X E->ck S xs->∀pos,PE X (.BoolOp op xs pos) (cL 'X' E m)
structure Wm(op:BoolOp)where
 m:Sm
 ck:Sx->Ł Ä->Þ
 pw:∀{k S X E xs},mj Γ t k S X E->ck S xs->∀pos,PW X (.BoolOp op xs pos) (j5 'X' E m)
structure Am where
 m:Sm
 ck:Sx->Ł Ä->Þ
 pa:∀{k S X E xs},mj Γ t k S X E->ck S xs->PA X xs (fL 'X' E m)/\xs.all bW=J
structure Jm where
 m:Sm
 ck:Sx->Ä->Ä->Þ
 pi:∀{k S X E tx x},mj Γ t k S X E->ck S tx x->PI X tx x (wR 'X' E (Ik m))
end F
namespace F
open L2
def Nd(n:Þ):O1:=λx h Q=>match x with|.p a=>Q (.p (.B (ww n (WQ a)))) h|.r _=>Q (.p (.B n)) h
def sCh(o1 o:O2)(A B C:Sm):Sm:=λX σ h Q=>A X σ h λs a=>match s with
 |[x]=>B X σ a λY c=>match Y with
  |[y]=>o1 x y c λd H=>match d with|.p (.B b)=>br b (C X σ H λZ e=>match Z with|[z]=>o y z e λd f=>Q [d] f|_=>ŧ) (Q [.p (.B bb)] H)|_=>ŧ
  |_=>ŧ
 |_=>ŧ
structure Bo where
 o:O2
 op:Operator
 ok:∀t X,∃r,kZ X (binaryOp op) r/\iC 'X' r o
def gf:Bo:=(_,_,λ_ _=>(_,Te,R9))
def Cs:Bo:=(_,_,λ_ _=>(_,D_,Su))
def yi:Bo:=(_,_,λ_ _=>(_,Tj,Mj))
def Qu:Bo:=(_,_,λ_ _=>(_,Ti,Se))
def we:Bo:=(_,_,λ_ _=>(_,y_,Sn))
structure Co where
 o:O2
 op:CmpOp
 ok:∀t X,X.A.units+64<Ï->∃r,kZ X (compareOp op) r/\iC 'X' r o
def kJ:Co:=(ň,.Eq,λ_ _ hu=>(_,w_ hu,ZP))
def Ww:Co:=(ŝ,_,λ_ _ hu=>(_,B_ hu,ZW))
def j2:Co:=(L1,.Lt,λ_ _ _=>(_,Ϛ,ZV))
def ie:Co:=(Zy,_,λ_ _ _=>(_,aeE,ZU))
def PZ:Co:=(RY,.Gt,λ_ _ _=>(_,aeD,ZR))
def C2:Co:=(F2,_,λ_ _ _=>(_,aeC,ZQ))
def ng:Co:=(_,.In,λ_ _ _=>(_,IF,ZS))
def VN{c:Ń}(h:Ë c 4):dN (kF c)=O (.type (kF c)):=by match c,aj h with|0,_=>rwa[Ye]|1,_=>rwa[KG]|2,_=>rwa[QC]|3,_=>rwa[AB]|4,_=>rwa[Fe]
section
variable{Γ:Gm}{t:Tb}
namespace Em
def v(i:Ń):Em Γ t:=(_,λS x=>Sy S i x,λo h=>š (Mp o h))
def c(p:Pv):Em Γ t:=(_,λ_ x=>Ys p x,λ_ h=>Yt h)
abbrev i(n:Î):Em Γ t:=c (.I n)
abbrev s(z:Æ):Em Γ t:=c (.S z)
instance ox{n:Ń}:OfNat (Em Γ t) n:=⟨.v n⟩
def ofV:(OfNat.ofNat n:Em Γ t)=.v n:=rfl
def g(i:Ń):Em Γ t:=(_,λS x=>gX i Γ.Zn&&ua S (S.gnm i) x,λo h=>by let(H,h):=ag h;let(pos,rfl,a,d,_):=eL o h;let(u,v,m,r,I):=o.gl i (cy.mp H);rwa[D7 (qm a m r d) I])
def f(i:Ń):Em Γ t:=(sC (.fn i),λS x=>gX i Γ.fok&&ua S (S.gh i) x,λo h=>by let(a,h):=ag h;let(pos,rfl,g,d,_):=eL o h;let(f,H,_):=o.runs (cy.mp a);rw[<-o.gh]at H;rwa[D7 (qm (v:=.A f) g H Ŗ d) λ_ _ _=>by rw[o.gh]at H;exact(f,H,Ŗ)])
def ty(c:Ń):Em Γ t:=(sC (.ty c),λS x=>Ë c 4&&(ua S (kF c) x&&lZ (kF c) S.bok),λo h=>by let(H,h):=ag h;let(a,b):=ag h;let(pos,rfl,g,d,hn):=eL o a;rwa[D7 (aeM (o.bl _ (gv b)) (VN H) g hn d) λ_ _ _=>Ŗ])
def b2(p:Bo)(A B:Em Γ t):Em Γ t:=(_,λS=>ό λa o b _=>Đ (o=p.op)&&(A.ck S a&&B.ck S b),λ{k S X E x}o h=>by erw[VQ h λa f b q h=>?_];let(H,h):=ag h;let(c,d):=ag h;rw[bB H];let(r,R,e):=p.ok t X;rwa[ϥ R e (A.pe o c) (B.pe o d)])
def neg(A:Em Γ t):Em Γ t:=(_,λS=>wP λo a _=>Đ (o=.USub)&&A.ck S a,λo h=>by erw[ES h λp a q h=>?_];let(H,h):=ag h;rw[bB H];rwa[aeR Po Sq (A.pe o h)])
end Em
def nk(S:Sx)(p:CmpOp)(A B:Em Γ t):Ä->Þ:=Pt λa os bs _=>iU (l1 os) λo=>iU (l1 bs) λb=>Đ (o=p)&&(ma b&&(A.ck S a&&B.ck S b))
@[elab_as_elim]def yw{B:Em Γ t}{P:Ä->ß}(h:nk S o A B x)(k:∀a b p,gn o b=bb->A.ck S a->B.ck S b->P (.Compare a [o] [b] p)):P x:=by erw[ui h λa os bs q h=>?_];let(c,e,h):=b8 h;let(b,E,h):=b8 h;let(H,h):=ag h;let(d,h):=ag h;let(f,g):=ag h;let e3:=bB H;subst e3;rw[eG e,eG E];rwa[k a b q (ue d) f g]
def C5(n:Þ):CmpOp:=bif n then .IsNot else .Is
def ŕ(S:Sx)(n:Þ)(A:Em Γ t):Ä->Þ:=Pt λa os bs _=>iU (l1 os) λo=>iU (l1 bs) λb=>Đ (o=C5 n)&&(J1 (λc _ _=>X3 .N c) b&&A.ck S a)
def Qx(h:X3 .N c):c=.none:=by induction c<;>first|rfl|cases h
@[elab_as_elim]def Sz{A:Em Γ t}{P:Ä->ß}(h:ŕ S n A x)(k:∀a j p q,A.ck S a=J->P (.Compare a [C5 n] [.Constant .none j p] q)):P x:=by erw[ui h λa os bs q h=>?_];let(o,e,h):=b8 h;let(b,E,h):=b8 h;let(d,h):=ag h;let(H,f):=ag h;rw[eG e,eG E,bB d];erw[nS H λc j p H=>?_];rw[Qx H];rwa[k a j p q f]
def ZO(c:PE X x (cL 'X' E A)):PC X (C5 g) x (.Constant .none j p) (cL 'X' E (s1 (Nd g) A)):=by
 let key:∀{τ H b},cL 'X' E (s1 (Nd g) A) τ H b->cL 'X' E A τ H λv H1=>b (.B (g !=Đ (v=.g9))) H1:=by intro τ H b (G,M,σ,h,l,Q,k,q);erw[(G,M,σ,h,l,_,(k.rel,k.env,λd h1 m H1 v f R i a=>?_,k.exc),q)];induction d with|r n=>let(ad,_,rfl):=i;erw[k.out _ h1 m H1 _ f R ?_ a];rw[cn (λz=>by cases z),Bool.bne_false];rwa[jH]|p d=>
   let a:Q _ h1:=a;rw[DW]at a;erw[k.out _ h1 m H1 _ f R ?_ a];let:WQ d=Đ (v=.g9):=by
    cases d;case N=>cases i;rfl
    case B=>cases i;rfl
    case I=>cases i;rfl
    case S=>cases i;rfl
    case ty=>cases i;rfl
    case T=>let(_,_,e,_):=i;rw[e];rfl
    case L=>let(_,_,e,_):=i;rw[e];rfl
    case scr=>let(_,_,e,_):=i;rw[e];rfl
    case dct=>let(_,_,e,_):=i;rw[e];rfl
    case obj=>let(_,_,_,e,_):=i;rw[e];rfl
    case fn=>let(_,_,e):=i;rw[e];rfl
    case key=>let(_,e,_):=i;rw[e];rfl
    case wld=>let(_,_,e,_):=i;rw[e];rfl
   rw[this];rwa[jH]
 induction g with|d=>rwa[λP s σ H Q I q=>Tq c _ s σ H Q I (by let:=key q;simp only[pL]at this;rwa[this])]|e=>rwa[λP s σ H Q I q=>F_ c _ s σ H Q I (by let:=key q;simp only[nU]at this;rwa[this])]
def acr(u:iC 'X' r o)(D:iC 'X' g i)(h:cL 'X' E (sCh o i A B C) τ H QV):OX r g (cL 'X' E A) (cL 'X' E B) (cL 'X' E C) τ H QV:=by
 let(G,M,σ,h,c,Q,k,q):=h;erw[(G,M,σ,h,c,_,(k.rel,k.env,λx F K H1 L e j N P=>?_,k.exc),q)];erw[(G,K,σ,F,c,_,k.on e j λy S M2 T v a l I U=>?_,P)];erw[u G M2 S T x y L v _ _ l (N.ext j a) I U λd m n W w b R Y f=>?_];split at f;.ext p;erw[(p,Kq Y,?_)];induction p with|d=>erw[(G,n,σ,m,c,_,k.on (e.trans (a.trans b)) R λz Z M4 H4 vz s r4 i4 q4=>?_,f)];rwa[D G M4 Z H4 y z v vz _ _ r4 ((I.ext l b).ext R s) i4 q4 λd5 h5 M5 H5 w5 e5 r5 i5 q5=>k.out d5 h5 M5 H5 w5 (e.trans (a.trans (b.trans (s.trans e5)))) r5 i5 q5]|e=>rwa[k.out _ m n W _ (e.trans (a.trans b)) R jH f]
 .left
def YT(S:Sx)(p q:CmpOp)(A B C:Em Γ t):Ä->Þ:=Pt λa os bs _=>iU (l2 os) λo=>iU (l2 bs) λb=>Đ (o.1=p)&&Đ (o.2=q)&&(ma b.2&&(A.ck S a&&(B.ck S b.1&&C.ck S b.2)))
@[elab_as_elim]def Yp{C:Em Γ t}{P:Ä->ß}(h:YT S p q A B C x)(k:∀a b c ps,gn q c=bb->A.ck S a->B.ck S b->C.ck S c->P (.Compare a [p,q] [b,c] ps)):P x:=by erw[ui h λa os bs ps h=>?_];let(o,e,h):=b8 h;let(b,E,h):=b8 h;let(f,h):=ag h;let(H,d):=ag f;let(g,h):=ag h;let(i,h):=ag h;let(j,l):=ag h;rw[mn e,mn E,bB H,bB d];rwa[k a b.1 b.2 ps (ue g) i j l]
def zx(hu:X.A.units+1<Ï)(h:PE X x (cL 'X' E A))(H:PE X y (cL 'X' E B)):PC X (bif neg then .NotIn else .In) x y (cL 'X' E (s2 (DZ neg) A B)):=by induction neg with|d=>rwa[D5 hu h H]|e=>rwa[Tp hu h H]
namespace Em
def cmp(c:Co)(A B:Em Γ t):Em Γ t:=(_,λS=>nk S _ A B,λ{k S X E x}o h=>by erw[yw h λa b p H d e=>?_];let(r,R,f):=c.ok t X o.hu;rwa[M_ R f (A.pe o d) (B.pe o e) H])
def din(n:Þ)(A B:Em Γ t):Em Γ t:=(s2 (DZ n) A.m B.m,λS=>nk S _ A B,λo h=>by rwa[yw h λa b p H c d=>aeP (zx o.P9 (A.pe o c) (B.pe o d)) H])
def ch(c d:Co)(A B C:Em Γ t):Em Γ t:=(_,λS=>YT S _ _ A B C,λ{k S X E x}o h=>by erw[Yp h λa b m p H e f g=>?_];let(r,R,i):=c.ok t X o.hu;let(n,j,l):=d.ok t X o.hu;exact(Nt R j (A.pe o e) (B.pe o f) (C.pe o g) H).imp λ_ _ _=>acr i l)
end Em
namespace Tm
def val(A:Em Γ t):Tm Γ t:=(A.m,_,λo h=>aaT (ag h).1 (A.pe o (ag h).2))
def cmp(c:Co)(A B:Em Γ t):Tm Γ t:=(_,λS=>nk S _ A B,λ{k S X E x}o h=>by erw[yw h λa b p H d e=>?_];let(r,R,f):=c.ok t X o.hu;rwa[Ue R f (A.pe o d) (B.pe o e) H])
def R8(n:Þ)(A:Em Γ t):Tm Γ t:=(_,λS=>ŕ S n A,λo h=>by rwa[Sz h λa j p q H=>NQ (ZO (A.pe o H)) (ue Ŗ)])
def din(n:Þ)(A B:Em Γ t):Tm Γ t:=(s2 (DZ n) A.m B.m,λS=>nk S _ A B,λo h=>by rwa[yw h λa b p H c d=>NQ (zx o.P9 (A.pe o c) (B.pe o d)) H])
def not(A:Tm Γ t):Tm Γ t:=(_,λS=>wP λo a _=>Đ (o=.Not)&&A.ck S a,λo h=>by erw[ES h λp a q h=>?_];let(H,h):=ag h;rw[bB H];exact(θ (A.pt o h)).imp λ_ _ _=>O4)
end Tm
namespace Wm
def a1(A:Tm Γ t):Wm Γ t .And:=(A.m,λS x=>iU (l1 x) _,λo h pos=>by let(a,e,h):=b8 h;rw[eG e];rwa[UB (A.pt o h)])
def o1(A:Tm Γ t):Wm Γ t .Or:=(A.m,λS x=>iU (l1 x) _,λo h pos=>by let(a,e,h):=b8 h;rw[eG e];rwa[ο (A.pt o h)])
def l2c(xs:Ł Ä)(f:Ä->Ł Ä->Þ):Þ:=iU (lc xs) λp=>!u0 p.2&&f p.1 p.2
@[elab_as_elim]def zd{P:Ł _->ß}(h:l2c xs f)(k:∀a b r,f a (b::r)=J->P (a::b::r)):P xs:=by obtain⟨⟨a,r⟩,e,h⟩:=b8 h;rw[Gj e];induction r with|f=>done|g b r=>rwa[k a b r h]
def ac(A:Tm Γ t)(B:Wm Γ t .And):Wm Γ t .And:=(_,λS x=>l2c x λa r=>A.ck S a&&B.ck S r,λo h pos=>by rwa[zd h λa b r h=>(ξ (A.pt o (ag h).1) (B.pw o (ag h).2 pos)).imp λ_ _ _=>O3])
def oc(A:Tm Γ t)(B:Wm Γ t .Or):Wm Γ t .Or:=(_,λS x=>l2c x λa r=>A.ck S a&&B.ck S r,λo h pos=>by rwa[zd h λa b r h=>(aeY (A.pt o (ag h).1) (B.pw o (ag h).2 pos)).imp λ_ _ _=>Vr])
end Wm
def Tm.bo{a:BoolOp}(B:Wm Γ t a):Tm Γ t:=(B.m,λS=>Pr λo x _=>Đ (o=a)&&B.ck S x,λo h=>by erw[BJ h λb x p h=>?_];let(H,h):=ag h;rw[bB H];exact(B.pw o h p).pt)
namespace Bm
def a1(A:Em Γ t):Bm Γ t .And:=(A.m,λS x=>iU (l1 x) _,λo h pos=>by let(a,e,h):=b8 h;rw[eG e];rwa[NB (A.pe o h)])
def o1(A:Em Γ t):Bm Γ t .Or:=(A.m,λS x=>iU (l1 x) _,λo h pos=>by let(a,e,h):=b8 h;rw[eG e];rwa[NB (A.pe o h)])
def ac(A:Em Γ t)(B:Bm Γ t .And):Bm Γ t .And:=(_,λS x=>Wm.l2c x λa r=>A.ck S a&&B.ck S r,λo h pos=>by rwa[Wm.zd h λa b r h=>(G_ (A.pe o (ag h).1) (B.pe o (ag h).2 pos)).imp λ_ _ _=>Vs])
def oc(A:Em Γ t)(B:Bm Γ t .Or):Bm Γ t .Or:=(_,λS x=>Wm.l2c x λa r=>A.ck S a&&B.ck S r,λo h pos=>by rwa[Wm.zd h λa b r h=>(Ϡ (A.pe o (ag h).1) (B.pe o (ag h).2 pos)).imp λ_ _ _=>aax])
end Bm
namespace Em
def bo{a:BoolOp}(B:Bm Γ t a):Em Γ t:=(B.m,λS=>Pr λo x _=>Đ (o=a)&&B.ck S x,λo h=>by erw[BJ h λb x p h=>?_];let(H,h):=ag h;rw[bB H];rwa[B.pe o h p])
def L0(T:Tm Γ t)(A B:Em Γ t):Em Γ t:=(_,λS=>Ŕ _,λo h=>by erw[VT h λa b c p h=>?_];let(H,h):=ag h;let(d,e):=ag h;rwa[Q_ (T.pt o H) (A.pe o d) (B.pe o e)])
end Em
namespace Am
def nil:Am Γ t:=(_,λ_ x=>u0 x,λ_ h=>by rw[gD h];exact(TX,Ŗ))
def cons(A:Em Γ t)(B:Am Γ t):Am Γ t:=(_,λS x=>iU (lc x) λp=>bW p.1&&(A.ck S p.1&&B.ck S p.2),λo h=>by obtain⟨⟨a,r⟩,e,h⟩:=b8 h;let(H,h):=ag h;let(b,c):=ag h;rw[Gj e];let(p,q):=B.pa o c;exact(NL (A.pe o b) p H,by grind))
abbrev u(A:Em Γ t):Am Γ t:=cons A nil
abbrev u2(A B:Em Γ t):Am Γ t:=cons A (u B)
abbrev u3(A B C:Em Γ t):Am Γ t:=cons A (u2 B C)
abbrev u4(A B C D:Em Γ t):Am Γ t:=cons A (u3 B C D)
abbrev u5(A B C D E:Em Γ t):Am Γ t:=cons A (u4 B C D E)
end Am
end
end F
namespace F
open L2
def yj:dN "dict"=O (.type "dict"):=rfl
def ϓ:PE X (.UnaryOp .USub (.Constant (.int 1) j p) q) (tC (.I (-1))):=(Xg Po zy).imp λ_ _ _ h=>(1,Ŗ,h)
def Bl(R:gA X f (dB 'X' C) [] E)(m:X.mg x=O (.ref f))(k:keepIn X.K (.ref f))(g:Gl X x)(b:PA X (a::r) (fL 'X' E A))(j:(x=="__debug__")=bb)(d:(a::r).all bW):PE X (.Call (.Name x p) (a::r) [] pos) (cL 'X' E (GI ρ C A)):=by
 rw[bZ,aE]at d;erw[(Bj R g m k b j (cx d.1) (eV d.2)).imp λτ H Q h=>?_];let e:xS (dB 'X' C) [] E (fL 'X' E A)=BE (dB 'X' C) E (fL 'X' E A):=by delta xS BE;simp only[aK]
 rw[e];rwa[OW h]
structure Bi where
 o:ON
 nm:Æ
 cm:Þ
 ok:∀{t X E A e es p pos},(cm=J->X.calm=J)->Gl X nm->X.mg nm=ao->PA X (e::es) (fL 'X' E A)->nm≠"__name__"->(nm==("__debug__":Æ))=bb->(e::es).all bW->PE X (.Call (.Name nm p) (e::es) [] pos) (cL 'X' E (sN o A))
def gC:Bi:=(_,_,bb,λ_ h H a hn j d=>xE Hw Sl h H Cy a hn j d)
def rq:Bi:=(_,_,bb,λ_ h H a hn j d=>xE Hv Si h H wg a hn j d)
def HY:Bi:=(_,_,_,λh H m a hn j d=>xE (AF (h Ŗ)) Sa H m Yd a hn j d)
def AV:Bi:=(_,_,bb,λ_ h H a hn j d=>xF wj Mo h H AB a hn j d)
def Y8:Bi:=(_,_,bb,λ_ h H a hn j d=>xF yr Mi h H Fe a hn j d)
def Y7:Bi:=(_,_,bb,λ_ h H a hn j d=>xF Hu Mg h H KG a hn j d)
def J0:Bi:=(_,_,_,λh H m a hn j d=>xF (k6 (h Ŗ)) Sd H m yj a hn j d)
structure Mt where
 c:Ń
 o:OM
 nm:Æ
 ok:∀{t X E A R ob a rest cr dg},PE X ob (cL 'X' E A)->PA X (a::rest) (fL 'X' E R)->ft ob nm X.env (Ê ob X.env)=Ê ob X.env->(a::rest).all bW->Á (a::rest)<30->(cr.endLine==dg.line)->PE X (.Call (.Attribute ob nm cr) (a::rest) [] dg) (cL 'X' E (oi c o A R))
def DS:Mt:=(4,_,_,λh H b p l hn=>Xi ő PySem.F.slot_list_append PySem.F.type_list_append xC Sb h H b p l hn)
section
variable{Γ:Gm}{t:Tb}
def ϯ(h:PE X x (cL 'X' E A))(H:PE X y (cL 'X' E B))(s:lS y):PE X (.Subscript x y pos) (cL 'X' E (s2 Ds A B)):=(Gu ZZ h H s).imp λ_ _ _=>vG ZT
structure Pm(Γ:Gm)(t:Tb)where
 m:Ő Sm
 ck:Sx->Ő Ä->Þ
 po:∀{k S X E x},mj Γ t k S X E->ck S x->PO X x (JR 'X' E m)
def Pm.no:Pm Γ t:=(_,λ_ x=>x.isNone,λ{k S X E x}_ h=>by induction x with|a=>rwa[NN]|c x=>grind)
def Pm.of(A:Em Γ t):Pm Γ t:=(_,λS x=>iU x _,λo h=>by let(a,e,h):=b8 h;rw[e];rwa[NO (A.pe o h)])
def wD:Ł fm->Þ|[]=>J|_=>bb
def fk(h:wD l):l=[]:=by induction l<;>first|rfl|cases h
def Wy(S:Sx)(n:Æ)(A:Am Γ t):Ä->Þ:=gz λf e k _=>wD k&&(ua S n f&&(!u0 e&&A.ck S e))
@[elab_as_elim]def oZ{k S X E}{A:Am Γ t}{P:Ä->ß}(o:mj Γ t k S X E)(h:Wy S n A x)(q:∀p pos e es,Gl X n->(n=="__debug__")=bb->n≠"__name__"->PA X (e::es) (fL 'X' E A.m)->(e::es).all bW->P (.Call (.Name n p) (e::es) [] pos)):P x:=by erw[dC h λf es K pos h=>?_];let(H,h):=ag h;let(b,h):=ag h;let(p,e,g,d,hn):=eL o b;rw[fk H,e];induction es with|f=>done|g a es=>let(pa,l):=A.pa o h;rwa[q p pos a es g d hn pa l]
def ķ(S:Sx)(A:Am Γ t):Ä->Þ:=A1 λe _=>A.ck S e
def Cc(S:Sx)(A B:Em Γ t):Ä->Þ:=Aa λa i _=>Be i&&(A.ck S a&&B.ck S i)
@[elab_as_elim]def OD{B:Em Γ t}{P:Ä->ß}(h:Cc S A B x)(q:∀a i p,lS i->A.ck S a->B.ck S i->P (.Subscript a i p)):P x:=by erw[kh h λa i p h=>?_];let(H,h):=ag h;let(b,c):=ag h;rwa[q a i p (za H) b c]
def yf(h:X3 (.I i) c):c=.int i:=by induction c<;>first|(rw[bB h])|cases h
def ů:Ä->Þ:=wP λo a _=>Đ (o=.USub)&&J1 (λc _ _=>X3 (.I 1) c) a
@[elab_as_elim]def SU{P:Ä->ß}(h:ů x)(q:∀j p r,P (.UnaryOp .USub (.Constant (.int 1) j p) r)):P x:=by erw[ES h λo a r h=>?_];let(H,h):=ag h;rw[bB H];erw[nS h λc j p h=>?_];rw[yf h];rwa[q j p r]
def im(S:Sx)(nm:Æ)(o:Em Γ t)(f:Ł Ä->Þ):Ä->Þ:=gz λg e k q=>wD k&&(f e&&ER (λb m p=>cQ m nm&&(p.endLine==q.line&&(Nb b&&o.ck S b))) g)
@[elab_as_elim]def rM{o:Em Γ t}{P:Ä->ß}(h:im S nm o f x)(q:∀b es cr d,f es=J->o.ck S b->Nb b->(cr.endLine==d.line)->P (.Call (.Attribute b nm cr) es [] d)):P x:=by erw[dC h λg es k r h=>?_];let(H,h):=ag h;let(a,h):=ag h;rw[fk H];erw[nR h λb m p h=>?_];let(c,h):=ag h;let(e,h):=ag h;let(i,j):=ag h;rw[bX.mp c];rwa[q b es p r a j i e]
namespace Em
def tup(A:Am Γ t):Em Γ t:=(_,λS=>Ab _,λo h=>jt h λ_ _ _ h=>Y_ (A.pa o h).1)
def lst(A:Am Γ t):Em Γ t:=(_,λS=>ķ S A,λo h=>zZ h λ_ _ h=>U_ (A.pa o h).1)
def lsm(A:Am Γ t):Em Γ t:=(_,λS=>ķ S A,λo h=>zZ h λ_ _ h=>T_ (A.pa o h).1)
def ix(A B:Em Γ t):Em Γ t:=(_,λS=>Cc S A B,λo h=>OD h λ_ _ _ H a b=>ϯ (A.pe o a) (B.pe o b) H)
def qK(A B:Em Γ t):Em Γ t:=(_,λS=>Cc S A B,λo h=>OD h λ_ _ _ H a b=>N_ o.P9 (A.pe o a) (B.pe o b) H)
def sl(A:Em Γ t)(L U:Pm Γ t):Em Γ t:=(_,λS=>Aa λa i _=>A.ck S a&&Db (λl u s _=>s.isNone&&(L.ck S l&&U.ck S u)) i,λo h=>by erw[kh h λa i p h=>?_];let(H,h):=ag h;erw[GZ h λl u s q h=>?_];let(d,h):=ag h;let(b,c):=ag h;induction s with|a=>rwa[aeQ (A.pe o H) (L.po o b) (U.po o c)]|c s=>grind)
def rev(A:Em Γ t):Em Γ t:=(_,λS=>Aa λa i _=>A.ck S a&&Db (λl u s _=>l.isNone&&(u.isNone&&iU s ů)) i,λo h=>by erw[kh h λa i p h=>?_];let(b,h):=ag h;erw[GZ h λl u s q h=>?_];let(c,h):=ag h;let(d,H):=ag h;let(f,e,H):=b8 H;rw[e];induction l with|c _=>done|a=>induction u with|c _=>done|a=>rwa[SU H λ_ _ _=>W_ (A.pe o b) ϓ])
def bi(b:Bi)(A:Am Γ t):Em Γ t:=(_,λS x=>(S.cm||!b.cm)&&(lZ _ _&&Wy S _ A x),λo h=>oZ o (ag (ag h).2).2 λ_ _ _ _ H d hn pa p=>b.ok (λz=>(o.hc ()).1) H (o.bl _ (gv (ag (ag h).2).1)) pa hn d p)
def b_(A:Em Γ t):Em Γ t:=(_,λS=>gz λf e k _=>S.cm&&wD k&&(ua S _ f&&(lZ _ _&&(lZ _ _&&iU (l1 e) (gz λg X l _=>wD l&&(ua S _ g&&iU (l1 X) _))))),λo h=>by erw[dC h λf e k p h=>?_];let(H,h):=ag h;let(a,h):=ag h;let(b,h):=ag h;let(c,h):=ag h;let(x,E,h):=b8 h;let(P,d,i,u,hn):=eL o a;rw[fk (ag H).2,eG E,d];erw[dC h λg X l q h=>?_];let(j,h):=ag h;let(m,h):=ag h;let(x,n,h):=b8 h;let(v,r,I,s,Z):=eL o m;rw[fk j,eG n,r];rwa[TQ (o.hc (ag H).1).1 i (o.bl _ (gv b)) I (o.bl _ (gv c)) (A.pe o (ag h).2) (ag h).1])
def mt(m:Mt)(b:Em Γ t)(A:Am Γ t):Em Γ t:=(_,λS=>im S _ b λe=>Ñ _ 30&&(!u0 e&&A.ck S e),λo h=>rM h λi e s D H c d f=>by let(G,g):=ag H;induction e with|f=>done|g a e=>let(pa,p):=A.pa o g;rwa[m.ok (b.pe o c) pa (lV d) p (aj G) f])
def cl(i:Ń)(ρ:Ϙ)(A:Am Γ t):Em Γ t:=(GI ρ _ A.m,λS x=>gX i _&&Wy S _ A x,λ{k S X E x}o h=>by let(f,H,a,R):=o.runs (cy.mp (ag h).1);rw[<-o.gh]at H;rwa[oZ o (ag h).2 λ_ _ _ _ g d hn pa p=>Bl R H a g pa d p])
def clv(ρ:Ϙ)(i:Ń)(A:Am Γ t):Em Γ t:=(zQ _ _ ρ _ A.m,λS=>gz λf e k _=>S.cm&&wD k&&(Sy S i f&&(!u0 e&&A.ck S e)),λo h=>by erw[dC h λf e k p h=>?_];let(H,h):=ag h;let(b,h):=ag h;rw[fk (ag H).2];induction e with|f=>done|g a e=>let(pa,P):=A.pa o h;let z:=Mp o b;revert z;rwa[fM b λx q _=>λz=>NJ (o.fnX (ag H).1) (o.room (ag H).1) o.hp (š z) pa P])
def tg(i:Ń)(A:Em Γ t):Em Γ t:=(_,λS=>gz λg E k q=>wD k&&(!Nat.ble 50 i&&gX i _&&ER (λf m p=>ua S _ f&&(cQ m _&&(p.endLine==q.line&&iU (l1 E) _))) g),λo h=>by erw[dC h λg E k q h=>?_];let(a,h):=ag h;let(H,h):=ag h;rw[fk a];erw[nR h λf m p h=>?_];let(b,h):=ag h;let(c,h):=ag h;let(d,h):=ag h;let(e,j,h):=b8 h;let(P,l,n,r,hn):=eL o b;let(ad,s,T):=o.tab i (cy.mp (ag H).2);replace T:=O8 (fG (ag H).1) T;rw[bX.mp c,eG j,l];rwa[TU T n s (A.pe o (ag h).2) r (ag h).1 d])
def ti(i:Ń)(A:Em Γ t):Em Γ t:=(_,λS=>Aa λf e _=>!Nat.ble 50 i&&gX i _&&(ua S _ f&&(Be e&&A.ck S e)),λo h=>by erw[kh h λf e p h=>?_];let(H,h):=ag h;let(a,h):=ag h;let(b,h):=ag h;let(P,E,g,d,hn):=eL o a;let(ad,m,T):=o.tab i (cy.mp (ag H).2);replace T:=O8 (fG (ag H).1) T;rw[E];rwa[X_ T g m (A.pe o h) d (za b)])
def fld(c j:Ń)(A:Em Γ t):Em Γ t:=(s1 (IC c j) A.m,λS=>ER _,λo h=>by erw[nR h λa f p h=>?_];let(H,h):=ag h;let(b,h):=ag h;let(d,h):=ag h;let(C,e):=o.cls c (cy.mp H);rwa[O_ C (by rw[e];rwa[ig b]) (A.pe o h) (lV d)])
def Rq:Ä->Þ:=P5 λk v _=>u0 k&&u0 v
def AU:Em Γ t:=(_,λ_=>Rq,λo h=>by erw[uj h λk v p h=>?_];rw[gD (ag h).1];rwa[TK])
def FG:Em Γ t:=(_,λ_=>Rq,λo h=>by erw[uj h λk v p h=>?_];rw[gD (ag h).1];rwa[NK])
end Em
namespace Jm
def s(A:Em Γ t):Jm Γ t:=(_,λS _ x=>A.ck S x,λo h=>TZ (A.pe o h))
def c(A:Em Γ t):Jm Γ t:=(_,λS T x=>oR _ T,λo h=>by rwa[fM h λn p h=>T5 (A.pe o h)])
def r(A:Am Γ t):Jm Γ t:=(_,λS _ x=>lZ _ _&&gz (λf E k _=>wD k&&(ua S _ f&&iU (l1 E) λ_=>A.ck S E)) x,λo h=>by let(H,h):=ag h;erw[dC h λf E k q h=>?_];let(b,h):=ag h;let(c,h):=ag h;let(e,a,h):=b8 h;let(p,d,g,i,hn):=eL o c;rw[eG a]at h;rw[fk b,eG a,d];let(p,q):=A.pa o h;rw[bZ,aE]at q;rwa[TY g (o.bl _ (gv H)) p q.1])
def TW(S:Sx)(A:Am Γ t)(T x:Ä):Þ:=Ab (λ_ _ _=>lZ "zip" S.bok&&gz (λf e k _=>wD k&&(ua S "zip" f&&iU (l2 e) λ_=>A.ck S e)) x) T
@[elab_as_elim]def aa0{k S X E}{A:Am Γ t}{P:Ä->Ä->ß}{c:Ä}(o:mj Γ t k S X E)(h:TW S A c x)(q:∀es k0 T p pos a b,Gl X "zip"->X.mg "zip"=ao->PA X [a,b] (fL 'X' E A.m)->bW a->bW b->P (.Tuple es k0 T) (.Call (.Name "zip" p) [a,b] [] pos)):P c x:=by erw[jt h λes k0 T h=>?_];let(H,h):=ag h;erw[dC h λf s K pos h=>?_];let(g,h):=ag h;let(i,h):=ag h;let(e,d,h):=b8 h;let(p,j,n,r,hn):=eL o i;rw[mn d]at h;rw[fk g,mn d,j];let(pa,l):=A.pa o h;rw[bZ,bZ,aE,aE]at l;rwa[q es k0 T p pos e.1 e.2 n (o.bl _ (gv H)) pa l.1 l.2.1]
def z(A:Am Γ t):Jm Γ t:=(_,λS T x=>TW S A T x,λo h=>aa0 o h λ_ _ _ _ _ _ _ g m pa b H=>T6 (c:=tO) (λr e i=>by cases BF e;let(a,v,h,s,i):=mP i;exact(a,v,h,λe=>(e.mv r).sqT s,i)) .inr (Um g m pa (by rw[cx b,cx H];rfl) (by rw[cx H];rfl)))
end Jm
end
end F
namespace F
open L2
def _root_.L2.qZ.imp{X:Cx}{e:Ł _}{t t':TT}(h:qZ X e t')(i:∀σ H Q,t σ H Q->t' σ H Q):qZ X e t:=λp s σ H Q I q=>h _ s σ H Q I (i σ H Q q)
structure Fm(Γ:Gm)(t:Tb)where
 m:Sm
 ck:Sx->Ł Ä->Þ
 pf:∀{k S X E xs},mj Γ t k S X E->ck S xs->qZ X xs (j5 'X' E m)
def Bw(S s:Í):Í:={s with names:=s.names.map λ(n,k)=>if k==.free&&S.kind==.function&&S.names.lookup n==O .cell then(n,.cell)else(n,k)}
def akq(x:Ä):Ő Æ:=if h:x.ctorIdx=23 then Expr.Name.elim x h λn _=>O n else ao
def EG(x:Ä):ϐ:=match x with|.Name n _=>[n]|.Tuple e _ _=>e.filterMap akq|_=>[]
def xz:ϐ->Þ|[]=>J|x::r=>!lZ x r&&xz r
theorem qg:∀{l:ϐ},x∈l->lZ x l=J
 |[],h=>by grind|y::r,h=>by
  delta lZ;rcases aB.mp h with h|h;.rw[bX.mpr h];rfl
  .rw[qg h,B0]
theorem l9:∀{l:ϐ},xz l=J->l.Nodup|[],_=>jN|x::r,h=>by erw[cR.mpr (λz=>?_,l9 (ag h).2)];let:=fG (ag h).1;rw[qg z]at this;cases this
def j'(S:Sx)(x:Æ):Þ:=SQ S.sc x&&(S.fr||wI S.sc x)
def vl(S:Sx)(i:Ń):Ä->Þ:=oR λx _=>Bf x i S.N&&j' S x
def FN(S:Sx):Ϙ->Ł Ä->Þ|[],[]=>J|i::I,e::E=>vl S i e&&FN S I E|_,_=>bb
def hO(S:Sx):Tg->Ä->Þ|.one i=>vl S i|.many I=>Ab λe _ _=>FN S I e
def Xk(a:X.N=S.N)(s:X.env.scope=S.sc)(d:X.N.Nodup)(f:∀y,j' S y=J->X.fn y\/X.env.scope.names.lookup y=O .local)(h:vl S i x):PG X x (mm i)/\∀env,f6 [x] env=[(bb,assign x env)]:=by erw[fM h λn p h=>?_];let(b,H):=ag h;exact(Uh d (by rw[a];rwa[ig b]) (by rw[s];rwa[zh (ag H).1]) (f n H),λ_=>Ŗ)
def Hm(h:bW x):f6 (x::es) env=(bb,assign x env)::f6 es env:=by cases x<;>first|rfl|cases h
def Pc(h:vl S i x):bW x=true:=fM h λ_ _ _=>Ŗ
theorem NR(H:X.N=S.N)(s:X.env.scope=S.sc)(n:X.N.Nodup)(f:∀y,j' S y=J->X.fn y\/X.env.scope.names.lookup y=O .local):∀{is:Ϙ}{es:Ł _},FN S is es=J->ml X es (LI is)/\Á (f6 es X.env)=Á is/\(f6 es X.env).findIdx? (·.1)=ao|[],[],_=>(Uj,Ŗ,Ŗ)|[],_::_,h=>by cases h|_::_,[],h=>by cases h|i::is,e::es,h=>by let(d,g):=ag h;let(a,b,c):=NR H s n f g;let z:=Hm (es:=es) (env:=X.env) (Pc d);erw[(NS (Xk H s n f d).1 a (by grind),by grind,?_)];rw[z,List.findIdx?_cons,c];rfl
def xG(d:Hq X)(H:X.N=S.N)(s:X.env.scope=S.sc)(n:X.N.Nodup)(f:∀y,j' S y=J->X.fn y\/X.env.scope.names.lookup y=O .local)(h:hO S tg x):PG X x (RQ X.K tg):=by induction tg with|one i=>exact(Xk H s n f h).1|many I=>erw[jt h λe k p h=>?_];let(a,b,c):=NR H s n f h;rwa[Ui d a b c]
def qd(h:ma e):hB e env x=pure x:=by cases e<;>first|rfl|cases h
section
variable{Γ:Gm}{t:Tb}
def Fm.no:Fm Γ t:=(sC (.B J),λ_ x=>u0 x,λo h=>by rw[gD h];erw[NU.imp λτ H a G=>?_];let(G,M,σ,h,X,Q,k,q):=G;let(b,e,z):=k.out _ h M H Ext.refl k.rel q;cases e;rwa[z])
def Fm.one(T:Tm Γ t):Fm Γ t:=(T.m,λS x=>iU (l1 x) _,λo h=>by let(a,e,h):=b8 h;rw[eG e];rwa[NV (T.pt o h)])
def sU(s:Ϙ)(N:ϐ):ϐ:=s.map λj=>N[j]?.getD ""
def QS(h:s.all (λj=>Ñ j (Á N))):s.map (λj=>N[j]?)=(sU s N).map some:=by delta sU;rw[aV];erw[mH λj H=>?_];rw[Function.comp_apply,av (aj (aS.mp h j H))];rfl
def J5(N:ϐ)(S s:Í):Þ:=Đ (s.kind=.function)&&(xz N&&(s.names.all (λy=>y.2 !=.cell)&&(s.names.all (λy=>y.2 !=.local||wI s y.1)&&s.names.all λy=>y.2 !=.free||Đ (S.names.lookup y.1=O .cell)&&!wI (Bw S s) y.1)))
def lU{α:Type}{f:α->Þ}{l:Ł α}(h:l.all f):∀y∈l,f y=true:=aS.mp h
def U2(d:X.env.scope=s)(h:J5 N s scope):fj X N scope:=by
 let(g,h):=ag h;let(i,h):=ag h;let(j,h):=ag h;let(k,f):=ag h;let n:∀{a b:NameKind}{c:Þ},(a !=b||c)=J->a=b->c=true:=λ{a b c}z e=>nofun
 erw[CJ s d (bB g) (l9 i) (λy H z=>?_) (λy H z=>rR (n (lU k y H) z)) (λy H z=>bB (ag (n (lU f y H) z)).1) λy H z=>?_];.let:=lU j y H;rw[z]at this;cases this
 .let q:=fG (ag (n (lU f y H) z)).2;delta wI at q;intro w;rw[show(Bw s _).names.lookup y.1=O _ from w]at q;cases q
def Rs(a:Ϙ)(S:Sx)(s:Í):Þ:=a.all (λj=>Ñ j (Á S.N))&&(sU a S.N).all λy=>s.names.any λz=>cQ z.1 y&&z.2==.free
def QK(h:Rs a S s):a.map (λj=>S.N[j]?)=(sU a S.N).map O/\∀y∈sU a S.N,(y,ç)∈s.names:=by let(H,b):=ag h;erw[(QS H,λy c=>?_)];let(z,d,q):=G5.mp (lU b y c);let(Z,f):=z;let(Q,e):=ag q;let E:Z=y:=bX.mp Q;let e2:=wW e;subst E e2;rwa[d]
def XA(S:Sx)(n:ϐ)(s:Í):Sx:={S with N:=n,sc:=Bw S.sc s,fr:=bb}
def D2(o:mj Γ t k S X E)(f:S.cm)(N:ϐ)(b:Í)(F:Ł _)(c:am)(d:Hp):mj Γ t k (XA S N b) (jC X N b F c d) λ_ _ _=>ŧ where
 hN:=Ŗ;hs:=by show relabel _ _=Bw _ _;rw[<-o.hs];rfl
 hc:=o.hc;hq:=.inl (o.hc f).2;hp:=λp σ H s e g I h=>by let(a,C,_,i,_,_,q):=h;rwa[q.elim]
 hr:=o.hr;bl:=o.bl;gh:=o.gh;fn:=o.fn;gl:=o.gl;tab:=o.tab;cls:=o.cls;kK:=o.kK;fx:=λh=>by cases h
 fu:=o.fu
def IE(o:mj Γ t k S X E)(b:S.cm)(N:ϐ)(s:Í)(f:Ł _)(a:am)(H:Hp):mj Γ t k (XA S N s) (c8 X N s f a H E) E where
 hN:=Ŗ;hs:=by show relabel _ _=Bw _ _;rw[<-o.hs];rfl
 hc:=o.hc;hq:=.inl (o.hc b).2;hp:=CI;hr:=o.hr;bl:=o.bl;gh:=o.gh;fn:=o.fn;gl:=o.gl;tab:=o.tab;cls:=o.cls;kK:=o.kK;fx:=λh=>by cases h
 fu:=o.fu
def QO(S:Sx)(n:Ń)(s:Ϙ)(tg:Tg)(j:Sx->Ä->Ä->Þ)(F:Fm Γ t)(A:Sx->Ä->Þ):Ä->Þ:=Pu λe G c _=>iU (l1 G) λg=>S.cm&&Đ (g.is_async=0)&&(ma g.iter&&(Ì (Á (EG g.target)) n&&(VA n tg&&(Rs s S c&&(J5 (EG g.target++sU s S.N) S.sc c&&(hO (XA S (EG g.target++sU s S.N) c) tg g.target&&(j S g.target g.iter&&(F.ck (XA S (EG g.target++sU s S.N) c) g.ifs&&A (XA S (EG g.target++sU s S.N) c) e))))))))
@[elab_as_elim]def yy{F:Fm Γ t}{P:Ä->ß}(o:mj Γ t k S X E)(h:QO S n a tg j F A x)(q:∀b T ix i e s p,fj X b s->(∀σ:È,Á σ=Á X.N->lQ X b s σ (sg n a σ))->j S T ix->VA n tg->(∀{c f},mj Γ t k (XA S b s) c f->PG c T (RQ c.K tg))->F.ck (XA S b s) i->A (XA S b s) e->(∀v,hB ix X.env v=pure v)->S.cm->P (.ListComp e [(T,ix,i,0)] s p)):P x:=by
 erw[Px h λe Q s p h=>?_];obtain⟨⟨T,ix,i,R⟩,r,h⟩:=b8 h;rw[eG r];let(g,h):=ag h;let(u,h):=ag h;let(w,h):=ag h;let(z,h):=ag h;let(B,h):=ag h;let(l,h):=ag h;let(C,h):=ag h;let(G,h):=ag h;let(H,d):=ag h;let e0:=bB (ag g).2;subst e0;let m:Á (EG T)=n:=aT w;let(I,L):=QK B;let D:(EG T++sU a S.N).drop n=sU a S.N:=by rw[<-m,List.drop_left]
 rwa[q _ T ix i e s p (U2 o.hs l) (aiw n a (by rw[ai,m];delta sU;rw[af]) (by rw[D,o.hN];rwa[I]) (by rw[D];rwa[L])) G z (λ{c f}oc=>xG oc.hq oc.hN oc.hs (by rw[oc.hN];rwa[l9 (ag (ag l).2).1]) (λy M=>.inr (by rw[oc.hs];rwa[rR (ag M).2])) C) H d (λ_=>qd u) (ag g).1]
def Em.comp(n:Ń)(b:Ϙ)(tg:Tg)(j:Jm Γ t)(F:Fm Γ t)(A:Em Γ t):Em Γ t:=(GJ n b tg _ F.m A.m bb,λS x=>S.fr&&QO S n b tg _ F _ x,λo h=>yy o (ag h).2 λN T ix i e v p c d g k l q r u a=>(Nu (o.fx (ag h).1).1 (o.fx (ag h).1).2 c (o.hc a).1 d (j.pi o g) (λf s H=>l (IE o a _ _ f _ _)) (λf s H=>F.pf (IE o a _ _ f _ _) q) (λf s H=>A.pe (IE o a _ _ f _ _) r) u).imp λ_ _ _=>yA λ_ _ _ z=>by lia k)
def Ŭ(f:Ő Ä->Ó->Þ)(x:É):Þ:=sx _ 3 λe=>Stmt.Return.elim x e f
@[elab_as_elim]def VU{P:É->ß}(h:Ŭ f x)(q:∀e p,f e p=J->P (.Return e p)):P x:=(eE h).elim λe h=>Stmt.Return.elim x e (λe p _ h=>q e p h) e h
def JZ(f:Ł Ä->Ä->Ó->Þ)(x:É):Þ:=sx _ 5 λe=>Stmt.Assign.elim x e f
@[elab_as_elim]def qH{P:É->ß}(h:JZ f x)(q:∀ts e p,f ts e p=J->P (.Assign ts e p)):P x:=(eE h).elim λe h=>Stmt.Assign.elim x e (λts e p _ h=>q ts e p h) e h
def Py(f:Ä->Ä->Ł É->Ł É->Ó->Þ)(x:É):Þ:=sx _ 9 λe=>Stmt.For.elim x e f
@[elab_as_elim]def uk{P:É->ß}(h:Py f x)(q:∀a b c d p,f a b c d p=J->P (.For a b c d p)):P x:=(eE h).elim λe h=>Stmt.For.elim x e (λa b c d p _ h=>q a b c d p h) e h
def ύ(f:Ä->Ł É->Ł É->Ó->Þ)(x:É):Þ:=sx _ 11 λe=>Stmt.While.elim x e f
@[elab_as_elim]def VW{P:É->ß}(h:ύ f x)(q:∀a b c p,f a b c p=J->P (.While a b c p)):P x:=(eE h).elim λe h=>Stmt.While.elim x e (λa b c p _ h=>q a b c p h) e h
def ť(f:Ä->Ł É->Ł É->Ó->Þ)(x:É):Þ:=sx _ 12 λe=>Stmt.If.elim x e f
@[elab_as_elim]def VS{P:É->ß}(h:ť f x)(q:∀a b c p,f a b c p=J->P (.If a b c p)):P x:=(eE h).elim λe h=>Stmt.If.elim x e (λa b c p _ h=>q a b c p h) e h
def Cf(f:Ő Ä->Ő Ä->Ó->Þ)(x:É):Þ:=sx _ 16 λe=>Stmt.Raise.elim x e f
@[elab_as_elim]def GY{P:É->ß}(h:Cf f x)(q:∀a b p,f a b p=J->P (.Raise a b p)):P x:=(eE h).elim λe h=>Stmt.Raise.elim x e (λa b p _ h=>q a b p h) e h
def G2(f:Ä->Ó->Þ)(x:É):Þ:=sx _ 24 λe=>Stmt.Expr.elim x e f
@[elab_as_elim]def VR{P:É->ß}(h:G2 f x)(q:∀a p,f a p=J->P (.Expr a p)):P x:=(eE h).elim λe h=>Stmt.Expr.elim x e (λa p _ h=>q a p h) e h
def UF(f:Ä->Operator->Ä->Ó->Þ)(x:É):Þ:=sx _ 7 λe=>Stmt.AugAssign.elim x e f
@[elab_as_elim]def VO{P:É->ß}(h:UF f x)(q:∀a o b p,f a o b p=J->P (.AugAssign a o b p)):P x:=(eE h).elim λe h=>Stmt.AugAssign.elim x e (λa o b p _ h=>q a o b p h) e h
structure ċ(Γ:Gm)(t:Tb)(k:Ń)(S:Sx)(X:Cx)(E:XK):ß where
 x:mj Γ t k S X E
 nd:X.N.Nodup
 hf:∀y,j' S y=J->X.fn y\/X.env.scope.names.lookup y=O .local
 po:PassesOwn (b' X.prog X.w) X.A X.env X.xe
 kd:X.env.scope.kind=.function
 exc:∀c∈S.xok,X.mg (S.rj c)=O (.ref (t.ca c))/\Ks X.K c (t.ca c)
structure Mm(Γ:Gm)(t:Tb)where
 m:Ss
 ck:Sx->É->Þ
 ps:∀{k S X E st},ċ Γ t k S X E->ck S st->PS X st (eX 'X' E m)
structure Ms(Γ:Gm)(t:Tb)where
 m:Ss
 ck:Sx->Ł É->Þ
 ps:∀{k S X E st},ċ Γ t k S X E->ck S st->jZ X st (eX 'X' E m)
def oy(f:Dv->Ő Pv):Ł Dv->Ő ϑ|[]=>O []|d::r=>match f d with
  |O x=>match oy f r with|O X=>O (x::X)|ao=>ao
  |ao=>ao
def o8(h:Hs)(k:Ń):Ń->Dv->Ő Pv|_,.p x=>O x|0,.r _=>ao|n+1,.r i=>match Ë k i with|bb=>ao|J=>match h[i]? with|O (.L X)=>O (.L X)|O (.C K u)=>O (.dct K u)|O (.D ds)=>(oy (o8 h k n) ds).map .L|O (.E K ds)=>(oy (o8 h k n) ds).map (.dct K)|O (.I C fs)=>(oy (o8 h k n) fs).map (.obj C)|_=>ao
def LF(h:Hs)(k:Ń):Dv->Ő Dv|.p x=>O (.p x)|.r i=>match Ë k i with|bb=>O (.r i)|J=>(o8 h k 6 (.r i)).map .p
def LY(e:Ä):Þ:=!(Ì e.ctorIdx 8||(Ì e.ctorIdx 9||Ì e.ctorIdx 10))
def W0(h:LY e):g7 e o l env=pure false:=by cases e<;>first|rfl|cases h
def EE:g7 e (O (.Subscript a i p)) l env=pure false:=by cases e<;>rfl
def X5:g7 e (O (.Attribute a f p)) l env=pure false:=by cases e<;>rfl
def œ(e:Ä):Þ:=!Nat.beq e.ctorIdx 25&&LY e
def W6(h:œ e):swapsWithSole [.Tuple es j p] e l env=pure bb/\jp [.Tuple es j p] e env=pure none:=by cases e<;>first|done|rfl
theorem ud{H:Hp}{f:Dv->Ő Pv}(h:∀d x v,eP Z M H d v->f d=O x->eo Z m H x v):∀{ds:Ł Dv}{xs:ϑ}{vs:ϕ},cH Z M H ds vs->oy f ds=O xs->aW Z m H xs vs
 |[],xs,vs,q,e=>by cases e;induction vs with|f=>done|g _ _=>rwa[q]
 |d::r,xs,vs,q,e=>by
  delta oy at e;split at e
  .ext x a;split at e;.ext Y y;cases e;induction vs with|f=>rwa[q]|g v vs=>exact(h d x v q.1 a,ud h q.2 y)
   .lia
  .lia
def Zf{k n:Ń}(r:bj Z M H h)(c:M[n]?=O a)(e:Ë k n):a∉M.take k/\a∉Z.G:=by
 erw[(λz=>?_,r.dj a (aP c))];let(j,d):=lO z;let b:j<k:=by grind
 rw[iX b]at d;let(l1,E):=aw.mp c;let(l2,f):=aw.mp d;let:=(iG r.nd).mp (E.trans f.symm);let:=aj e;lia
theorem tV(r:bj Z M H h):∀(n:Ń)(d:Dv)(x:Pv)(v:V),eP Z M H d v->o8 h k n d=O x->eo Z (M.take k) H x v
 |n,.p y,x,v,i,e=>by
  let e:O y=O x:=by induction n<;>rwa[e]
  cases e;rwa[eo.mv (Mv.cut r k) i]|0,.r _,x,v,i,e=>by cases e|n+1,.r j,x,v,i,e=>by
  delta o8 at e;split at e;.lia
  ext l;let(a,f,rfl):=i;let na:=Zf r f l;split at e;.ext o;cases e;let(s,b,c):=r.ob j a _ f o;exact(a,s,Ŗ,na,b,aW.mv (Mv.cut r k) c)
  .ext o;cases e;let(A,b,c,g):=r.ob j a _ f o;exact(a,A,Ŗ,na,.inl b,aW.mv (Mv.cut r k) c,aW.mv (Mv.cut r k) g)
  .ext o;let(X,E,rfl):=cZ.mp e;let(s,b,c):=r.ob j a _ f o;exact(a,s,Ŗ,na,b,ud (tV r n) c E)
  .ext o;let(X,E,rfl):=cZ.mp e;let(A,b,c,g):=r.ob j a _ f o;exact(a,A,Ŗ,na,.inl b,aW.mv (Mv.cut r k) c,ud (tV r n) g E)
  .ext o;let(X,E,rfl):=cZ.mp e;let(D,F,b,_,c,g):=r.ob j a _ f o;let q:=ud (tV r n) g E;erw[(a,D,F,Ŗ,na,b,?_,q)];rw[c,q.len,<-g.len]
  .lia
def LH(r:bj Z M H h)(i:eP Z M H d v)(e:LF h k d=O x):eP Z (M.take k) H x v:=by
 delta LF at e;split at e;.cases e;rwa[eo.mv (Mv.cut r k) i]
 .split at e;.ext a;cases e;rwa[i.cut r (cA (Nat.lt_of_not_le λz=>by rw[aZ z]at a;cases a))]
  .let(y,E,rfl):=cZ.mp e;rwa[tV r 6 _ _ _ i E]
def Jv(S:Sx)(i:Ń)(f:Æ->Ó->Ä->Þ):É->Þ:=JZ λT e _=>iU (l1 T) (oR λx p=>Bf x i S.N&&(j' S x&&f x p e))
@[elab_as_elim]def qv{k S X E}{P:É->ß}{st:É}(o:ċ Γ t k S X E)(h:Jv S i f st)(q:∀x p e pos,X.N[i]?=O x->L2.Loc X.env.scope x->X.fn x\/X.env.scope.names.lookup x=O .local->f x p e->P (.Assign [.Name x p] e pos)):P st:=by erw[qH h λT e pos h=>?_];let(c,a,h):=b8 h;rw[eG a];erw[fM h λx p h=>?_];let(b,h):=ag h;let(H,h):=ag h;rwa[q x p e pos (by rw[o.x.hN];rwa[ig b]) (by rw[o.x.hs];rwa[zh (ag H).1]) (o.hf x H) h]
def ri(f:Ä->Ä->Ä->Þ):É->Þ:=JZ λT e _=>iU (l1 T) (Aa λa i _=>f a i e)
@[elab_as_elim]def ED{P:É->ß}{st:É}(h:ri f st)(q:∀a i p e pos,f a i e=J->P (.Assign [.Subscript a i p] e pos)):P st:=by erw[qH h λT e pos h=>?_];let(x,E,h):=b8 h;rw[eG E];rwa[kh h λa i p h=>q a i p e pos h]
def Qw(h:Be i):∀v,assign (.Subscript o i p) env v=(do
   let a<-holding [v] (Ê o env)let I<-holding [v,a] (Ê i env)standAt p
   holding [v,a,I] (setItem a I v)release [v,a,I] []):=by intro v;cases i<;>first|rfl|cases h
def Vg:swapsWithSole [.Subscript a i p] e l env=pure false:=EE (a:=a) (i:=i) (p:=p) (l:=l) (env:=env)
def aaq:jp [.Subscript a i p] e env=pure none:=rfl
namespace Mm
def ex(A:Em Γ t):Mm Γ t:=(_,λS=>G2 _,λo h=>VR h λe p h=>Z_ (A.pe o.x (ag h).2) (W0 (ag h).1))
def ret(A:Em Γ t):Mm Γ t:=(_,λS=>Ŭ λe _=>iU e _,λo h=>by erw[VU h λe p h=>?_];let(a,E,h):=b8 h;rw[E];rwa[Ub (A.pe o.x h)])
def set(i:Ń)(A:Em Γ t):Mm Γ t:=(_,λS=>Jv S i _,λo h=>qv o h λx p e pos a b c H=>Uc (λT d=>zD o.nd a b d (W0 (ag H).1) c) (A.pe o.x (ag H).2))
def Qg(is:Ϙ)(A:Em Γ t):Mm Γ t:=(_,λS=>JZ λT e _=>œ e&&(A.ck S e&&iU (l1 T) (hO S (.many is))),λo h=>by erw[qH h λT e pos h=>?_];let(H,h):=ag h;let(a,h):=ag h;let(c,E,h):=b8 h;rw[eG E];let g:=xG o.x.hq o.x.hN o.x.hs o.nd o.hf h;revert g;rwa[jt h λs j p _ g=>Ud (λd b=>N1 b g (W6 H).1 (W6 (l:=0) H).2 Ŗ) (A.pe o.x a)])
def put(A B C:Em Γ t):Mm Γ t:=(_,λS=>ri _,λo h=>by erw[ED h λa i p e pos h=>?_];let(H,h):=ag h;let(b,h):=ag h;let(c,d):=ag h;exact(N1 (A.pe o.x b) (D' (B.pe o.x c) (C.pe o.x d) OJ (Qw H)) Vg aaq Ŗ).imp λ_ _ _=>ν)
def dput(A B C:Em Γ t):Mm Γ t:=(_,λS=>ri _,λo h=>by erw[ED h λa i p e pos h=>?_];let(H,h):=ag h;let(b,c):=ag h;exact(Gz o.x.P9 (B.pe o.x b) (C.pe o.x c) (A.pe o.x H) EE).imp λ_ _ _=>Rt)
def fC(c j:Ń)(A B:Em Γ t):Mm Γ t:=(Xy c j A.m B.m,λS=>JZ λT e _=>iU (l1 T) (ER _),λo h=>by erw[qH h λT e pos h=>?_];let(k,E,h):=b8 h;rw[eG E];erw[nR h λa f p h=>?_];let(H,h):=ag h;let(b,h):=ag h;let(d,g):=ag h;let(C,i):=o.x.cls c (cy.mp H);exact(δ (B.pe o.x g) (A.pe o.x d) X5).imp λ_ _ _=>RN C (by rw[i];rwa[ig b]))
def raise(c:Ń)(A:Em Γ t):Mm Γ t:=(_,λS=>Cf λe b _=>S.cm&&b.isNone&&(S.fr&&(gX c S.xok&&!Nat.ble 999 c&&iU e (gz λf E k _=>wD k&&(ua S (S.rj c) f&&iU (l1 E) λe0=>bW e0&&A.ck S e0)))),λo h=>by erw[GY h λe b pos h=>?_];let(a,h):=ag h;let(i,h):=ag h;let(d,h):=ag h;let(y,j,g):=b8 h;rw[j];induction b with|c _=>simp at a|a=>erw[dC g λf E k C h=>?_];let(l,h):=ag h;let(m,h):=ag h;let(e0,n,h):=b8 h;let(p,q,r,s,hn):=eL o.x m;rw[fk l,eG n,q];let(fr,u):=o.x.fx i;let(v,K):=o.exc c (cy.mp (ag d).1);let H:=fG (ag d).2;rwa[IQ (bq.mpr λz=>by rw[aZ (aA (dG 999) (aj z))]at H;cases H) (λT w=>N4 fr u (o.x.hc (ag a).1).1 r v (Y6 H K) w (ag h).1 s) (A.pe o.x (ag h).2)])
def iff(T:Tm Γ t)(A B:Ms Γ t):Mm Γ t:=(_,λS=>ť _,λo h=>by erw[VS h λc a b p h=>?_];let(H,h):=ag h;let(d,e):=ag h;rwa[B' (T.pt o.x H) (A.ps o d) (B.ps o e)])
def fo(tg:Tg)(j:Jm Γ t)(B:Ms Γ t):Mm Γ t:=(_,λS=>Py λT ix b e _=>S.cm&&u0 e&&(ma ix&&(hO S tg T&&(j.ck S T ix&&B.ck S b))),λo h=>by erw[uk h λT ix b e p h=>?_];let(H,h):=ag h;let(a,h):=ag h;let(c,h):=ag h;let(d,f):=ag h;rw[gD (ag H).2];exact(Ea o.po (o.x.hc (ag H).1).1 (j.pi o.x d) (xG o.x.hq o.x.hN o.x.hs o.nd o.hf c) (B.ps o f) λ_=>qd a).imp λ_ _ _=>Zd)
def wh(T:Tm Γ t)(B:Ms Γ t):Mm Γ t:=(_,λS=>ύ λc b e _=>u0 e&&(T.ck S c&&B.ck S b),λo h=>by erw[VW h λc b e p h=>?_];let(H,h):=ag h;let(a,d):=ag h;rw[gD H];exact(N5 o.po (T.pt o.x a) (B.ps o d)).imp λ_ _ _=>PH)
end Mm
namespace Ms
def nil:Ms Γ t:=(IR,λ_ l=>u0 l,λo h=>by rw[gD h];rwa[T8])
def one(A:Mm Γ t):Ms Γ t:=(A.m,λS l=>iU (l1 l) _,λo h=>by let(a,e,h):=b8 h;rw[eG e];rwa[T9 (A.ps o h)])
abbrev re(A:Em Γ t):Ms Γ t:=one (.ret A)
def seq(A:Mm Γ t)(B:Ms Γ t):Ms Γ t:=(_,λS l=>iU (lc l) λp=>A.ck S p.1&&B.ck S p.2,λo h=>by obtain⟨⟨a,r⟩,e,h⟩:=b8 h;rw[Gj e];rwa[NP (A.ps o (ag h).1) (B.ps o (ag h).2)])
def cut(A:Mm Γ t)(B:Ms Γ t):Ms Γ t:=(_,λS l=>iU (lc l) λp=>A.ck S p.1&&B.ck S p.2,λo h=>by obtain⟨⟨a,r⟩,e,h⟩:=b8 h;rw[Gj e];rwa[T7 (A.ps o (ag h).1) (B.ps o (ag h).2)])
end Ms
end
end F
namespace F
open L2
section
variable{Γ:Gm}{t:Tb}
def aai(h:eX 'X' E (U1 i A) D τ H):vH (cL 'X' E A) (mm i) D τ H:=by let(G,M,σ,h,N,k,q):=h;exact(G,M,σ,h,_,_,(k.rel,k.env,λd a m b v e r i q=>k.nx _ a m b _ e r ((k.env.ext k.rel e).set i) q,k.exc),q)
def swB(x:Æ)(p:Ó):Ä->Þ:=Pu λ_ _ s c=>p.line==c.line&&!s.names.any λ(n,k)=>n==x&&(k==.local||k==.cell)
def Z5{env:Û}(h:env.scope.kind=.function):(env.blockKind==ScopeKind.function)=true:=by delta Env.blockKind;rw[h];rfl
structure Gk(cm:Þ)(Γ:Gm)(t:Tb)(k:Ń)(S:Sx)(P:ci)(w:ce)(K:Å)(mg:c4)(base:Ç):ß where
 bl:∀x∈S.bok,mg x=ao
 gh:S.gh=t.gh
 fn:∀i∈Γ.fok,∃ps,Ŧ cm P w K mg base (k+1) (t.gh i) ps (dB (K,mg,t) (Γ.fn i))gl:∀i∈Γ.Zn,∃u v,mg (S.gnm i)=O u/\RelV v u/\∀G M H,eo (((K,mg,t):T0).z G) M H (Γ.gl i) v
 tab:∀i∈Γ.tok,∃ad,mg (S.tnm i)=O (.ref ad)/\yd w K mg t.gh i ad (Γ.tab i)cls:∀c∈S.cok,sd K t c/\t.fl c=S.fl c
 kK:∀c∈Γ.iok,∃ps,jm cm P w K mg base k (S.rj c) t.ca c ps (dB (K,mg,t) (Γ.kK c))exc:∀c∈S.xok,mg (S.rj c)=O (.ref (t.ca c))/\Ks K c (t.ca c)fu:∀i∈Γ.JX,∃ps,sJ P w K mg base (k+1) (t.gh i) ps (dB (K,mg,t) (Γ.fn i))
def rx(z:Þ)(k:Ń)(Q:Dv->Hs->ß)(d:Dv)(h:Hs):ß:=match z with|bb=>Q d h|J=>match LF h k d with|O x=>gd (bH k (h.take k)) (Q x (h.take k))|ao=>ŧ
def x1(z:Þ)(k:Ń)(x:XP):XP:=λc h=>match z with|bb=>x c h|J=>gd (bH k (h.take k)) (x c (h.take k))
def hZ(z:Þ)(k:Ń)(Q:Dv->Hs->ß)(x:XP):En:=(λ_ h=>rx z k Q (.p .N) h,rx z k Q,λ_ _=>ŧ,λ_ _=>ŧ,x1 z k x)
def pK(n:Ń)(ds:Ł Dv):Es:=ds.map O++Ð (n-Á ds) ao
def nD(N:ϐ)(i:cH Z M H ds vs):dD Z M H (pK (Á N) ds) (L2.start N vs):=by
 erw[(by delta pK L2.start;rw[ai,ai,af,af,cF,cF,i.len],λj d h=>?_)];delta pK at h;delta L2.start;by_cases a:j<Á ds;.rw[bt nofun,aR]at h;rw[bt (by rw[af,<-i.len];rwa[a]),aR];induction e:ds[j]? with|a=>rw[e]at h;cases h|c D=>rw[e]at h;cases h;let(v,b,c):=i.get e;exact(v,by rw[b];rfl,c)
 .rw[aI nofun,gm]at h;split at h<;>cases h
def Xx{a:VK}(R:bj Z M H h)(out:∀d h' m H' v,Ext M H m H'->bj Z m H' h'->eP Z m H' d v->Q d h'->a v H')(e:Ext M H m H')(r:bj Z m H' h')(i:eP Z m H' d v)(q:rx z (Á h) Q d h'):a v H':=by
 delta rx at q;split at q;.rwa[out d h' m H' v e r i q]
 .split at q;.ext x b;let(c,q):=cg q;rwa[out x _ _ H' v (e.cut (by rw[R.ln];rwa[aq _])) (r.cut _ c) (LH r i b) q]
  .left
def agd{E:Hp->ß}(R:bj Z M H h)(out:∀h' m H',Ext M H m H'->bj Z m H' h'->x c h'->E H')(e:Ext M H m H')(r:bj Z m H' h')(q:x1 z (Á h) x c h'):E H':=by
 delta x1 at q;split at q;.rwa[out h' m H' e r q]
 .let(C,q):=cg q;rwa[out _ _ _ (e.cut (by rw[R.ln];rwa[aq _])) (r.cut _ C) q]
def Sx.at(S:Sx)(N:ϐ)(sc:Í)(fr:Þ):Sx:={S with N:=N,sc:=sc,fr:=fr,cm:=J}
def Sx.au(S:Sx)(N:ϐ)(sc:Í):Sx:={S with N:=N,sc:=sc,fr:=bb,cm:=bb}
def nc(r:bj ('X'.z G) M H h)(v:dD ('X'.z G) M H σ τ)(out:∀d h' m H' v,Ext M H m H'->bj ('X'.z G) m H' h'->eP ('X'.z G) m H' d v->Q d h'->a v H')(b:∀c h' m H',Ext M H m H'->bj ('X'.z G) m H' h'->x c h'->qL t.ca E c H'):XT ('X'.z G) E τ H {nx:=λ_ H'=>a .g9 H',rt:=a} M σ h (hZ z (Á h) Q x):=(r,v,λf h' m H' g e R j q=>Xx r out e R tZ q,λd h' m H' v e R i q=>Xx r out e R i q,λ_ _ _ _ _ _ _ _ q=>q.elim,λ_ _ _ _ _ _ _ _ q=>q.elim,λc h' m H' e R q=>agd r (b c) e R q)
variable{P:ci}{w:ce}{K:Å}{mg:c4}{base:Ç}{x:Æ}{st:É}{ps N:ϐ}{k:Ń}{C:Ct}{S:Sx}
def Gk.Kh{fr:Þ}(g:Gk J Γ t k S X.prog X.w X.K X.mg X.base)(H:X.N=N)(a:X.env.scope=s)(c:X.calm)(p:f9 (qI X.prog X.w) X E)(h:fe (k+1) X.A)(f:fr->Cd X/\gM X E):mj Γ t k (S.at N s fr) X E:=(H,a,λ_=>(c,h.hd),.inl h.hd,p,h.u,g.bl,g.gh,g.fn,g.gl,g.tab,g.cls,g.kK,f,g.fu)
def Ms.aiG(B:Ms Γ t)(z:Þ)(b:Src K mg x st ps)(F:cU N ps (ay st))(g:Gk J Γ t k S P w K mg base)(d:B.ck (S.at N (ay st) J) (bR st)=J)(a:∀ds h Q X,C ds h Q X->Á ds=Á ps/\B.m (hZ z (Á h) Q X) (pK (Á N) ds) h):kX P w K mg base (k+2) x ps (dB (K,mg,t) C):=by rwa[b.okX F (λv H Q E t=>t.ln λ_ _ _ _ c=>(a _ _ _ _ c).1) λf l A o s H v Q E j Z=>by let(G,M,h,ds,q,X,r,i,c,out,e):=Z;exact(_,B.ps (Gk.Kh g rfl rfl rfl (gM.pass nq nB) j λ_=>(nq,nB),F.nd,λy _=>.inl Ŗ,pD,F.kind,g.exc) d,(G,M,_,h,_,nc r (nD N i) out e,(a _ _ _ _ c).2))]
def Ms.aiD(B:Ms Γ t)(z:Þ)(d:n9 K (t.ca a) l st ps)(j:mg x=O (.ref (t.ca a)))(F:cU N ps (ay st))(g:Gk J Γ t k S P w K mg base)(n:B.ck (S.at N (ay st) bb) (bR st)=J)(b:∀ds h Q X,C ds h Q X->Á ds=Á ps/\B.m (hZ z (Á h) Q λ_ _=>ŧ) (pK (Á N) ds) h):lR P w K mg base (k+2) x (t.ca a) ps (dB (K,mg,t) C):=by rwa[d.ok j F (λv H Q E t=>t.ln λ_ _ _ _ c=>(b _ _ _ _ c).1) λf L A o s H v Q E u Z=>by let(G,M,h,ds,R,X,r,i,c,out,D):=Z;exact(_,B.ps (E:=λ_ _ _=>ŧ) (Gk.Kh g rfl rfl rfl (λp σ H s e T I Z=>by let(_,_,_,_,_,_,q):=Z;rwa[q.elim]) u (λh=>by cases h),F.nd,λy _=>.inl Ŗ,tI,F.kind,g.exc) n,(G,M,_,h,_,nc r (nD N i) out λ_ _ _ _ _ _ q=>q.elim,(b _ _ _ _ c).2))]
def Ms.acD(B:Ms Γ t)(z:Þ)(d:gW K a x q st ps)(F:cU N ps (ay st))(g:Gk J Γ t k S P w K mg base)(j:B.ck (S.at N (ay st) J) (bR st)=J)(b:∀ds h Q X,C ds h Q X->Á ds=Á ps/\B.m (hZ z (Á h) Q X) (pK (Á N) ds) h):ya P w K mg base (qI P w) (k+2) a x ps (dB (K,mg,t) C):=by rwa[d.okX F (λv H Q E t=>t.ln λ_ _ _ _ c=>(b _ _ _ _ c).1) λf n A o s H v Q E l (G,M,h,ds,p,X,r,i,c,out,e)=>(_,B.ps (Gk.Kh g rfl rfl rfl (gM.pass nq nB) l λ_=>(nq,nB),F.nd,λy _=>.inl Ŗ,pD,F.kind,g.exc) j,(G,M,_,h,_,nc r (nD N i) out e,(b _ _ _ _ c).2))]
def Gk.oku(g:Gk bb Γ t k S X.prog X.w X.K X.mg X.base)(H:X.N=N)(a:X.env.scope=s)(q:Hq X)(p:f9 (qI X.prog X.w) X E)(r:gZ (k+1) X.A):mj Γ t k (S.au N s) X E:=(H,a,λh=>(by cases h),q,p,r,g.bl,g.gh,g.fn,g.gl,g.tab,g.cls,g.kK,(λh=>by cases h),g.fu)
def Ms.aiE(B:Ms Γ t)(z:Þ)(b:Src K mg x st ps)(F:cU N ps (ay st))(g:Gk bb Γ t k S P w K mg base)(d:B.ck (S.au N (ay st)) (bR st))(a:∀ds h Q X,C ds h Q X->Á ds=Á ps/\B.m (hZ z (Á h) Q λ_ _=>ŧ) (pK (Á N) ds) h):sJ P w K mg base (k+2) x ps (dB (K,mg,t) C):=b.okU F (λv H Q E t=>t.ln λ_ _ _ _ c=>(a _ _ _ _ c).1) λf u A o s H v Q E pn j (G,M,h,ds,D,X,r,i,c,out,l) n=>(_,B.ps (E:=λ_ _ _=>ŧ) (Gk.oku g rfl rfl n (λp σ H s e L I Z=>by let(_,_,_,_,_,_,q):=Z;rwa[q.elim]) j,F.nd,λy _=>.inl Ŗ,tI,F.kind,g.exc) d,(G,M,_,h,_,nc r (nD N i) out λ_ _ _ _ _ _ q=>q.elim,(a _ _ _ _ c).2))
def Ms.aiF(B:Ms Γ t)(z:Þ)(d:gW K a x l st ps)(F:cU N ps (ay st))(g:Gk bb Γ t k S P w K mg base)(j:B.ck (S.au N (ay st)) (bR st))(b:∀ds h Q X,C ds h Q X->Á ds=Á ps/\B.m (hZ z (Á h) Q λ_ _=>ŧ) (pK (Á N) ds) h):qY P w K mg base (k+2) a x ps (dB (K,mg,t) C):=d.okU F (λv H Q E t=>t.ln λ_ _ _ _ c=>(b _ _ _ _ c).1) λf L A o s H v Q E pn n (G,M,h,ds,R,X,r,i,c,out,u) D=>(_,B.ps (E:=λ_ _ _=>ŧ) (Gk.oku g rfl rfl D (λp σ H s e T I Z=>by let(_,_,_,_,_,_,q):=Z;rwa[q.elim]) n,F.nd,λy _=>.inl Ŗ,tI,F.kind,g.exc) j,(G,M,_,h,_,nc r (nD N i) out λ_ _ _ _ _ _ q=>q.elim,(b _ _ _ _ c).2))
end
structure Wd where
 P:ci
 w:ce
 K:Å
 mg:c4
 base:Ç
structure Lw where
 S:Sx
 ca:Ń->À
 gl:Ń->Pv
 Zn:Ϙ
 tab:Ń->Æ->Ő (Ł Æ)tok:Ϙ
 kK:Ń->Ct
abbrev Lw.t(L:Lw):Tb:=(L.S.gh,L.ca,L.S.fl)
abbrev Lw.g(L:Lw)(fn:Ń->Ct)(fok iok:Ϙ):Gm:=(fn,fok,L.gl,L.Zn,L.kK,iok,L.tab,L.tok,[])
abbrev Lw.y(L:Lw)(W:Wd):T0:=(W.K,W.mg,L.t)
structure Lk(L:Lw)(W:Wd):ß where
 bl:∀x∈L.S.bok,W.mg x=ao
 gl:∀i∈L.Zn,∃u v,W.mg (L.S.gnm i)=O u/\RelV v u/\∀G M H,eo ((L.y W).z G) M H (L.gl i) v
 tab:∀i∈L.tok,∃ad,W.mg (L.S.tnm i)=O (.ref ad)/\yd W.w W.K W.mg L.S.gh i ad (L.tab i)cls:∀c∈L.S.cok,sd W.K L.t c
 exc:∀c∈L.S.xok,W.mg (L.S.rj c)=O (.ref (L.ca c))/\Ks W.K c (L.ca c)
def Dt(L:Lw)(W:Wd)(i k:Ń)(C:Ct):ß:=∃ps,kX W.P W.w W.K W.mg W.base k (L.S.gh i) ps (dB (L.y W) C)
def Di(L:Lw)(W:Wd)(c k:Ń):ß:=∃ps,jm J W.P W.w W.K W.mg W.base k (L.S.rj c) L.ca c ps (dB (L.y W) (L.kK c))
def wY(L:Lw)(W:Wd)(fn:Ń->Ct)(k:Ń):Ϙ->ß|[]=>æ|i::r=>Dt L W i k (fn i)/\wY L W fn k r
def vP(L:Lw)(W:Wd)(k:Ń):Ϙ->ß|[]=>æ|i::r=>Di L W i k/\vP L W k r
theorem wY.at{fn:Ń->Ct}:∀{l:Ϙ},wY L W fn k l->∀i∈l,Dt L W i k (fn i)|[],_,i,h=>by grind|j::r,f,i,h=>(aB.mp h).elim (λz=>by rw[z];rwa[f.1]) λz=>wY.at f.2 i z
theorem vP.at:∀{l:Ϙ},vP L W k l->∀i∈l,Di L W i k|[],_,i,h=>by grind|j::r,f,i,h=>(aB.mp h).elim (λz=>by rw[z];rwa[f.1]) λz=>vP.at f.2 i z
def Dt.up{k:Ń}(D:Dt L W i j C)(h:Ë j k):Dt L W i k C:=let (ps,d):=D;(ps,d.mono (aj h))
def Dt.le(D:Dt L W i j C)(h:j<=k):Dt L W i k C:=let (ps,d):=D;(ps,d.mono h)
def Di.le(D:Di L W i j)(h:j<=k):Di L W i k:=let (ps,d):=D;(ps,d.mono h)
theorem Dt.imp(D:Dt L W i k C)(h:∀ds h Q x,C' ds h Q x->C ds h Q x):Dt L W i k C':=let (ps,d):=D;(ps,d.imp λv H Q E z=>by let(G,M,a,ds,q,x,r,i,c,o,b):=z;exact(G,M,a,ds,q,x,r,i,h _ _ _ _ c,o,b))
def Lk.gk(B:Lk L W)(H:wY L W fn (k+1) fok)(h:vP L W k iok):Gk J (L.g fn fok iok) L.t k L.S W.P W.w W.K W.mg W.base:=(B.bl,Ŗ,H.at,B.gl,B.tab,λc a=>(B.cls c a,Ŗ),h.at,B.exc,λi h=>by cases h)
def Lk.d{C:Ct}{st:É}(N ps:ϐ)(z:Þ)(B:Lk L W)(b:Ms (L.g fn fok iok) L.t)(s:Src W.K W.mg (L.S.gh i) st ps)(F:cU N ps (ay st))(G:b.ck (L.S.at N (ay st) J) (bR st)=J)(H:wY L W fn (k+1) fok)(a:vP L W k iok)(e:∀ds h Q x,C ds h Q x->Á ds=Á ps/\b.m (hZ z (Á h) Q x) (pK (Á N) ds) h):Dt L W i (k+2) C:=(ps,b.aiG z s F (B.gk H a) G e)
def Lk.mk1{st:É}(N ps:ϐ)(z:Þ)(B:Lk L W)(b:Ms (L.g fn fok iok) L.t)(s:n9 W.K (L.ca c) q st ps)(H:W.mg (L.S.rj c)=O (.ref (L.ca c)))(F:cU N ps (ay st))(a:Ë 80 c=bb)(G:b.ck (L.S.at N (ay st) bb) (bR st)=J)(f:wY L W fn (k+1) fok)(d:vP L W k iok)(e:∀ds h Q x,L.kK c ds h Q x->Á ds=Á ps/\b.m (hZ z (Á h) Q λ_ _=>ŧ) (pK (Á N) ds) h):Di L W c (k+2):=(ps,by rwa[FZ a (b.aiD z s H F (B.gk f d) G e)])
def Lk.akn{st:É}(N ps:ϐ)(z:Þ)(B:Lk L W)(b:Ms (L.g fn fok iok) L.t)(s:gW W.K (L.ca (c/100-1)) (L.S.rj c) q st ps)(F:cU N ps (ay st))(H:Ë 100 c)(G:b.ck (L.S.at N (ay st) J) (bR st)=J)(f:wY L W fn (k+1) fok)(a:vP L W k iok)(d:∀ds h Q x,L.kK c ds h Q x->Á ds=Á ps/\b.m (hZ z (Á h) Q x) (pK (Á N) ds) h):Di L W c (k+2):=(ps,by delta jm;rw[H];rwa[b.acD z s F (B.gk f a) G d])
end F
namespace F
open L2
def Fu(H:bH k (h.take k))(q:R (h.take k)):Yu k R h:=bT H q
def qE{α:Type}(h:Ł α):h.take (Á h)=h:=jO (aq _)
def rB{α:Type}{xs:Ł α}{x:α}(h:xs[i]?=O x):xs=xs.take i++x::xs.drop (i+1):=by let(H,e):=aw.mp h;rw[<-e,jM,OC]
def wX{α:Type}{xs:Ł α}{x:α}(h:xs[i]?=O x):xs.take (i+1)=xs.take i++[x]:=by let(H,e):=aw.mp h;rw[<-e,List.take_append_getElem]
def nG{h:Hs}{xs:ϑ}{e:Pv->Ő Es}{T A:Es->Hs->KP->ß}{Q:ϑ->Hs->ß}(g:Pv->Þ)(f:Pv->Pv)(d:bH (Á h) h)(step:∀y∈xs,match e y with|O a=>(∀R:KP,R [.p (.B (g y))] h->T a h R)/\(g y=J->∀R:KP,R [.p (f y)] h->A a h R)|ao=>ŧ)(q:Q ((xs.filter g).map f) h):uG h xs e T A Q:=by
 delta uG;erw[(λi c j=>j=h/\c=((xs.take i).filter g).map f,(Ŗ,by rfl),?_,?_)];.rintro i y c j b ⟨rfl,rfl⟩;let z:=step y (aP b);induction k:e y with|a=>rw[k]at z;rwa[z]|c a=>rw[k]at z;rwa[z.1 _ (sf (λH=>z.2 H _ (Fu (by rw[qE];rwa[d]) (qE _,by rw[wX b,List.filter_append,aN,List.filter_cons_of_pos H];rfl))) λH=>Fu (by rw[qE];rwa[d]) (qE _,by rw[wX b,List.filter_append,List.filter_cons_of_neg (by rw[H];rwa[aD])];simp))]
 .left
def fh{H:Hs}{xs:ϑ}{e:Pv->Ő Es}{A:Es->Hs->KP->ß}{Q:ϑ->Hs->ß}(f:Pv->Pv)(c:bH (Á H) H)(step:∀y∈xs,match e y with|O a=>∀R:KP,R [.p (f y)] H->A a H R|ao=>ŧ)(q:Q (xs.map f) H):uG H xs e (λ_ h R=>R [.p (.B J)] h) A Q:=by erw[nG _ f c (λy d=>?_) (by rw[List.filter_eq_self.mpr λ_ _=>Ŗ];rwa[q])];let z:=step y d;induction b:e y with|a=>rw[b]at z;rwa[z]|c a=>rw[b]at z;exact(λR q=>q,λ_=>z)
def kn{k:Ń}{xs:ϑ}{a:Pv->Es->Ő Es}{b:Ss}{N:En}{σ:Es}{h:Hs}(c:ϑ->ϑ->Es->Hs->ß)(g:c [] xs σ h)(step:∀pre x post σ' h',xs=pre++x::post->c pre (x::post) σ' h'->match a x σ' with|O d=>b (N.lp (mD k (c (pre++[x]) post)) (mD k N.nx)) d h'|ao=>ŧ)(f:∀σ' h',c xs [] σ' h'->N.nx σ' h'):Dl k xs a b N σ h:=by
 delta Dl;erw[(λi σ' h'=>c (xs.take i) (xs.drop i) σ' h',by done,λi x σ' h' H j=>?_,λσ' h' j=>f σ' h' (by dsimp only at j;rw[kM,List.drop_length]at j;rwa[j]))];let(l,e):=aw.mp H;let E:xs.drop i=x::xs.drop (i+1):=by rw[<-e,jM]
 let z:=step _ x _ σ' h' (rB H) (E▸j);rw[<-wX H]at z;rwa[z]
def Yb{Q:Dv->Hs->ß}(q:Q (.p (.B (a&&b))) h)(k:a->Q (.p (.B b)) h->X):br a X (Q (.p (.B bb)) h):=by induction a with|d=>rwa[k Ŗ q]|e=>rwa[q]
def jB{c:Þ}(h:c)(a:A):br c A B:=by subst h;rwa[a]
def uB(h:c=bb)(b:B):br c A B:=by subst h;rwa[b]
theorem Fd:∀{xs:ϑ},uA (xs.map λy=>.B (g y))=O (xs.map g)|[]=>Ŗ|x::r=>by rw[cq,cq,uA,Fd]
def mR{xs:ϑ}(q:Q (.p (.B (xs.all g))) h):SY [.p (.L (xs.map λy=>.B (g y)))] h Q:=by delta SY;erw[bu Fd ?_];rw[List.all_map];rwa[q]
def isInt:Pv->Þ|.I _=>J|_=>bb
def Kg{p:ß}(h:bb):p:=ą h
def iY(z:(a&&(b&&c))):a/\b/\c=true:=((ag z).1,ag (ag z).2)
def mS(z:(a&&(b&&(c&&d)))):a/\b/\c/\d=true:=((ag z).1,iY (ag z).2)
def Qt(z:(a&&(b&&(c&&(d&&e))))):a/\b/\c/\d/\e=true:=((ag z).1,mS (ag z).2)
abbrev mC(h:Hs)(k:Î->Hs->ß):ß:=match h with|.L [.I x]::r=>k x r|_=>ŧ
def lm:Ct:=λ_ _ _ _=>ŧ
theorem Dt.no{st:É}{ps:ϐ}(r:Src W.K W.mg (L.S.gh i) st ps):Dt L W i k lm:=by let(f,F,a,h,b):=r.ex;let no:∀v H Q E,¬dB (L.y W) lm v H Q E:=λv H Q E z=>(by let(_,_,_,_,_,_,_,_,c,_,_):=z;rwa[c]);exact(ps,f,F,(λv H Q E q=>Ă q (no v H Q E),λA o s H args u v Q E _ _ _ _ q=>Ă q (no v H Q E)),h,a.kp,b)
def vR:Ł (Ń×Ct)->Ń->Ct|[],_=>lm|(j,c)::r,i=>match Ì i j with|J=>c|bb=>vR r i
def All(L:Lw)(W:Wd)(k:Ń):Ł (Ń×Ct)->ß|[]=>æ|(i,c)::r=>Dt L W i k c/\All L W k r
theorem All.at:∀{l:Ł _},All L W k l->∀i∈l.map (·.1),Dt L W i k (vR l i)|[],_,i,h=>by grind|(j,c)::r,f,i,h=>by induction e:Ì i j with
  |d=>
   let E:vR ((j,c)::r) i=c:=by show(match Ì i j with|J=>c|bb=>vR r i)=c;rw[e]
   rw[E,aT e];rwa[f.1]|e=>
   let E:vR ((j,c)::r) i=vR r i:=by show(match Ì i j with|J=>c|bb=>vR r i)=_;rw[e]
   rw[E];erw[All.at f.2 i ((aB.mp h).resolve_left λz=>?_)];rw[show i=j from z,jP]at e;cases e
theorem wY.of:∀{l:Ϙ},(∀i∈l,Dt L W i k (fn i))->wY L W fn k l|[],_=>Ť|_::_,h=>(h _ aL,wY.of λi H=>h i (aH _ H))
abbrev Lw.G(L:Lw)(l:Ł (Ń×Ct))(iok:Ϙ):Gm:=L.g (vR l) (l.map (·.1)) iok
def EC:ϐ->ϐ->Þ|[],[]=>J|x::r,y::q=>cQ x y&&EC r q|_,_=>bb
theorem xQ:∀{l m:ϐ},EC l m=J->l=m|[],[],_=>Ŗ|[],_::_,h=>by cases h|_::_,[],h=>by cases h|x::r,y::q,h=>by rw[bX.mp (ag h).1,xQ (ag h).2]
def Ie(N ps:ϐ)(s:Í):Þ:=s.kind==.function&&(!s.isCoroutine&&(!s.isGenerator&&(xz N&&(EC (N.take (Á ps)) ps&&(ps.all (SQ s)&&s.names.all λy=>y.2 !=.free)))))
def ko(h:Ie N ps sc):cU N ps sc:=by let(H,h):=ag h;let(a,h):=ag h;let(b,h):=ag h;let(c,h):=ag h;let(d,h):=ag h;let(e,f):=ag h;exact(wW H,fG a,fG b,l9 c,xQ d,λx g=>zh (lU e x g),λy i z=>by let:=lU f y i;rw[z]at this;cases this)
def uc(s:Í):ϐ:=(s.names.filter λp=>match p.2 with|.local=>J|.cell=>J|_=>bb).map (·.1)
def Lk.eN0{C:Ct}{st:É}(N:ϐ)(z:Þ)(l:Ł _)(iok:Ϙ)(B:Lk L W)(b:Ms (L.G l iok) L.t)(s:Src W.K W.mg (L.S.gh i) st ps)(g:(Ie N ps (ay st)&&b.ck (L.S.at N (ay st) J) (bR st))=J)(H:All L W (k+1) l)(a:vP L W k iok)(c:∀ds h Q x,C ds h Q x->Á ds=Á ps/\b.m (hZ z (Á h) Q x) (pK (Á N) ds) h):Dt L W i (k+2) C:=B.d N ps z b s (ko (ag g).1) (ag g).2 (wY.of H.at) a c
def Lk.e0{C:Ct}{st:É}(n:Ń)(z:Þ)(l:Ł _)(iok:Ϙ)(B:Lk L W)(b:Ms (L.G l iok) L.t)(s:Src W.K W.mg (L.S.gh i) st ps)(g:(Ì (Á (uc (ay st))) n&&(Ie (uc (ay st)) ps (ay st)&&b.ck (L.S.at (uc (ay st)) (ay st) J) (bR st)))=J)(H:All L W (k+1) l)(a:vP L W k iok)(c:∀ds h Q x,C ds h Q x->Á ds=Á ps/\b.m (hZ z (Á h) Q x) (pK n ds) h):Dt L W i (k+2) C:=by let h:=aT (ag g).1;subst h;rwa[B.eN0 _ z l iok b s (ag g).2 H a c]
def Lk.ajP{st:É}(N ps:ϐ)(z:Þ)(l:Ł _)(iok:Ϙ)(B:Lk L W)(b:Ms (L.G l iok) L.t)(s:n9 W.K (L.ca c) q st ps)(H:W.mg (L.S.rj c)=O (.ref (L.ca c)))(g:(!Nat.ble 80 c&&(Ie N ps (ay st)&&b.ck (L.S.at N (ay st) bb) (bR st)))=J)(f:All L W (k+1) l)(i:vP L W k iok)(C:∀ds h Q x,L.kK c ds h Q x->Á ds=Á ps/\b.m (hZ z (Á h) Q λ_ _=>ŧ) (pK (Á N) ds) h):Di L W c (k+2):=B.mk1 N ps z b s H (ko (ag (ag g).2).1) (fG (ag g).1) (ag (ag g).2).2 (wY.of f.at) i C
def Lk.akm{st:É}(n:Ń)(z:Þ)(l:Ł _)(iok:Ϙ)(B:Lk L W)(b:Ms (L.G l iok) L.t)(s:gW W.K (L.ca (c/100-1)) (L.S.rj c) q st ps)(g:(Ë 100 c&&(Ì (Á (uc (ay st))) n&&(Ie (uc (ay st)) ps (ay st)&&b.ck (L.S.at (uc (ay st)) (ay st) J) (bR st))))=J)(H:All L W (k+1) l)(i:vP L W k iok)(C:∀ds h Q x,L.kK c ds h Q x->Á ds=Á ps/\b.m (hZ z (Á h) Q x) (pK n ds) h):Di L W c (k+2):=by let e:=aT (ag (ag g).2).1;subst e;rwa[B.akn _ ps z b s (ko (ag (ag (ag g).2).2).1) (ag g).1 (ag (ag (ag g).2).2).2 (wY.of H.at) i C]
end F
namespace F
open L2
def kW(C:Ct)(x:XP)(Q:KP):KP:=λds h=>C ds h (qD Q) x
def Ω(C:Ct)(A:Sm):Sm:=λx σ h Q=>A x σ h (kW C x Q)
abbrev Pw:=Hs->Ł Dv->ß
abbrev Ig:=XP->Es->Hs->(Pw->Hs->ß)->ß
def JG(Y:T0)(G M:Ł À)(H:Hp)(j:It)(P:Pw):ß:=∀g m h a X,(∀b∈g,b∈G\/H b=ao)->Ext M H m h->bj (Y.z g) m h a->P a X->(∀(i:Ń)x,X[i]?=O x->j.go i h/\∀v o,j.yld i h v o->Ext m h m o/\bj (Y.z g) m o a/\eP (Y.z g) m o x v)/\j.stop (Á X) h
structure KnG(Y:T0)(G:Ł À)(E:XK)(τ:È)(H:Hp)(R:It->Hp->ß)(M:Ł À)(σ:Es)(h:Hs)(xc:XP)(Q:Pw->Hs->ß):ß where
 rel:bj (Y.z G) M H h
 env:dD (Y.z G) M H σ τ
 out:∀P h' M' H' a,Ext M H M' H'->bj (Y.z G) M' H' h'->JG Y G M' H' a P->Q P h'->R a H'
 exc:∀C h' M' H',Ext M H M' H'->bj (Y.z G) M' H' h'->xc C h'->qL Y.t.ca E C H'
inductive O0(Y:T0)(E:XK)(m:Ig)(τ:È)(H:Hp)(R:It->Hp->ß):ß|mk(G M:Ł À)(σ:Es)(h:Hs)(xc:XP)(Q:_)(k:KnG Y G E τ H R M σ h xc Q)(q:m xc σ h Q):O0 Y E m τ H R
def JN(h:cL 'X' E (Ω C A) τ H l):fL 'X' E A τ H λvs m=>dB 'X' C vs m l E:=by let(G,M,σ,s,x,Q,k,q):=h;exact(G,M,σ,s,x,_,(k.rel,k.env,λd n o y v e R i p=>(G,o,n,d,_,x,R,i,p,λd2 a M2 f w g r u j=>k.out d2 a M2 f w (e.trans g) r u j,λc a M2 f g r j=>k.exc c a M2 f (e.trans g) r j),k.exc),q)
def ajN(I:Im):Ig:=λx σ h Q=>I x σ h λy a=>Q (λ_ s=>s=y.map .p) a
def Qo.jg(j:Qo Y G M H c ys):JG Y G M H c λ_ xs=>xs=ys.map .p:=λl m n o xs q e r p=>by subst p;let(a,b):=j l m n o q e r;erw[(λi x d=>?_,by rw[af];rwa[b])];rw[aR]at d;induction f:ys[i]? with|a=>left|c y=>rw[f]at d;cases d;let(g,k):=a i y f;exact(g,λv F s=>k v F s)
def adE(h:O0 'X' E (ajN I) τ H R):wR 'X' E I τ H R:=by let(G,M,σ,h,x,Q,k,q):=h;exact(G,M,σ,h,x,_,(k.rel,k.env,λs c m d a e r j _ q=>k.out _ c m d a e r j.jg q,k.exc),q)
def ϝ(h:Hs)(Q:KP)(d:Dv)(H:Hs):ß:=gd (Md d) (Q [.r (Á h)] H)
def kNw(c:Ń)(C:Ct)(Q:KP):KP:=λds h=>C (.r (Á h)::ds) (h++[.I c []]) (ϝ h Q) λ_ _=>ŧ
def sNw(c:Ń)(C:Ct)(A:Sm):Sm:=λx σ h Q=>A x σ h (kNw c C Q)
theorem rL:∀{F:Ł (Æ×V)},f∉F.map (·.1)->F.lookup f=ao|[],_=>Ŗ|(g,w)::F,h=>by rw[cq,aB,not_or]at h;rw[iH,cG.mpr h.1];rwa[rL h.2]
def aeg{Q:KP}{k:VK}(r:bj (Y.z G) M H h)(i:cH (Y.z G) M H d vs)(q:C (.r (Á h)::d) (h++[.I c []]) (λd e=>gd (Md d) (Q [.r (Á h)] e)) λ_ _=>ŧ)(out:∀d h' m H' v,Ext M H m H'->bj (Y.z G) m H' h'->eP (Y.z G) m H' d v->Q [d] h'->k v H')(nx:H x=ao)(l:H D=ao)(n:D≠x):dB Y C (.A x::(vs++[])) (de (de H D (.own x)) x (.ins (Y.t.ca c) D [])) (λv f=>v=.g9/\k (.A x) f) E0:=by
 let b:de H D (.own x) x=none:=by rw[bw (cI n)];rwa[nx]
 let R:bj _ M (de H D (.own x)) h:=r.add l;let s:Ext M H _ (de _ x (.ins (Y.t.ca c) D [])):=(Ext.add l).trans (Ext.push R b);let u:(M++[x])[Á h]?=O x:=by rw[<-r.ln,aI (aq _),eZ];rfl
 rw[aK];erw[(G,_,_,.r _::d,_,_,bj.push (o:=.I c []) R b (D,[],bA,by rw[bw n];rwa[bA],Ŗ,Ť),((x,u,Ŗ),i.ext r s),q,λd2 e M2 f w g y F j=>?_,λc e M2 f g y j=>j.elim)];let dn:d2=.p .N:=by induction d2 with|r _=>done|p d=>cases d<;>first|rfl|done
 subst dn;exact(Wj F,out (.r _) e M2 f _ (s.trans g) y (x,g.at u,Ŗ) j)
def Xj(D:lR X.prog X.w X.K X.mg X.base k0 x (t.ca c) ps (dB 'X' C))(r:fe (k0+1) X.A)(g:Gl X x)(b:PA X (a::rest) (fL 'X' E A))(j:(x=="__debug__")=bb)(e:(a::rest).all bW):PE X (.Call (.Name x p) (a::rest) [] pos) (cL 'X' E (sNw c C A)):=(Nz D r g b j e).imp λτ H P z=>by let(G,M,σ,h,f,Q,k,q):=z;exact(G,M,σ,h,f,_,(k.rel,k.env,λd S T U v i R I l=>λx W N m n=>aeg R I l (λd2 o M2 s w u y F L=>k.out d2 o M2 s w (i.trans u) y F L) N m n,k.exc),q)
end F
namespace L2
end L2
namespace F
open L2
def Iv(h:Hs)(d:Dv):Ő (Ł Dv):=match lA h d with|O x=>O (x.map .p)|ao=>ze h d
theorem aW.ds:∀{xs:ϑ}{vs:ϕ},aW Z M H xs vs->cH Z M H (xs.map .p) vs|[],[],_=>Ť|[],_::_,q=>by assumption|_::_,[],q=>by done|_::_,_::_,q=>by exact(q.1,aW.ds q.2)
def Gh{Y:T0}(r:bj (Y.z G) M H h)(i:eP (Y.z G) M H x v)(e:Iv h x=O xs):∃a vs,v=.A a/\H a=O (.L vs)/\cH (Y.z G) M H xs vs:=by
 delta Iv at e;split at e;.ext s y;cases e;let(a,vs,E,s1,I):=fX r i y;exact(a,vs,E,s1,I.ds)
 .let(_,a,vs,_,_,E,s1,I):=Gn r i e;exact(a,vs,E,s1,I)
structure Jg(Γ:Gm)(t:Tb)where
 m:Ig
 ck:Sx->Ä->Ä->Þ
 pi:∀{k S X E tx x},mj Γ t k S X E->ck S tx x->PI X tx x (O0 'X' E m)
def Ψ(t:Æ->Ő ϐ)(fn:Ń->Ct)(fok:Ϙ)(A R:Sm):Sm:=λx σ h Q=>A x σ h λX H=>match X with|[.p (.S z)]=>fH (t z) (λk=>gd (gX (Á k) fok) (R x σ H λds a=>fn (Á k) ds a (λd b=>Q [d] b) x)) ŧ|_=>ŧ
def ϗ(t:Æ->Ő ϐ):O1:=λx h Q=>match x with|.p (.S z)=>Q (.p (.B (t z).isSome)) h|_=>ŧ
section
variable{Γ:Gm}{t:Tb}
def Jg.p(j:Jm Γ t):Jg Γ t:=(_,j.ck,λo h=>(j.pi o h).imp λ_ _ _=>adE)
def NI{ad:À}(T:sL X.w X.K X.mg t.gh ad g)(D:∀i∈fok,∃ps,kX X.prog X.w X.K X.mg X.base k (t.gh i) ps (dB 'X' (fn i)))(P:fe k X.A)(U:f9 (qI X.prog X.w) X E)(W:Gl X n)(Y:X.mg n=O (.ref ad))(Z:(n=="__debug__")=bb)(he:PE X e (cL 'X' E A))(hs:lS e)(ha:PA X (a::b) (fL 'X' E R))(dH:(a::b).all bW):PE X (.Call (.Subscript (.Name n p) e q) (a::b) [] pos) (cL 'X' E (Ψ g fn fok A R)):=(Bk (Gu (SG T) (qm (v:=.A ad) W Y Ŗ Z) he hs) P U ha dH).imp λτ H QV zz=>by let(G,M,σ,h,x,Q,k,q):=zz;erw[(G,M,σ,h,x,_,(k.rel,k.env,λd h1 M1 H1 v l r1 i1 q1=>?_,k.exc),q)];induction d with|r _=>done|p d=>cases d with|S z=>let(ks,hk,m):=b9 q1;let(c,j):=cg m;let(ps,f,fd,F,o,s,hb):=D _ (cy.mp c);erw[(Ŗ,z,ks,jA i1,hk,λf' L=>?_)];rw[o]at L;cases L;exact(f,fd,ps,_,Ŗ,F,s,hb,G,M1,σ,h1,x,_,(r1,k.env.ext k.rel l,λds h2 M2 H2 vs N r2 i2 m=>(G,M2,h2,ds,_,x,r2,i2,m,λd3 u y B w C I i3 j=>k.out d3 u y B w (l.trans (N.trans C)) I i3 j,λc u y B C I j=>k.exc c u y B (l.trans (N.trans C)) I j),k.CZ l),j)|_=>left
namespace Em
def vQ(i:Ń)(A:Am Γ t):Em Γ t:=(_,λS x=>gX i _&&(S.cm&&Wy S _ A x),λ{k S X E x}o h=>by let(ps,D):=o.fnX (ag (ag h).2).1 i (cy.mp (ag h).1);rw[<-o.gh]at D;rwa[oZ o (ag (ag h).2).2 λ_ _ _ _ H d hn pa p=>(Tw D (o.room (ag (ag h).2).1) o.hp H pa d p).imp λ_ _ _=>JN])
def nw(c:Ń)(A:Am Γ t):Em Γ t:=(_,λS x=>!Nat.ble 80 c&&gX c _&&(S.cm&&Wy S _ A x),λ{k S X E x}o h=>by let(ps,D):=o.kK c (cy.mp (ag (ag h).1).2);replace D:=L7 (fG (ag (ag h).1).1) D;rwa[oZ o (ag (ag h).2).2 λ_ _ _ _ H d hn pa p=>Xj D (o.room (ag (ag h).2).1) H pa d p])
def clf(i:Ń)(A:Em Γ t)(R:Am Γ t):Em Γ t:=(_,λS=>gz λf s K _=>Ë 100 i&&gX i _&&(S.cm&&wD K&&(!u0 s&&R.ck S s&&Aa (λa e _=>ua S (S.tnm i) a&&(Be e&&A.ck S e)) f)),λ{k S X E x}o h=>by erw[dC h λf s K q h=>?_];let(d,h):=ag h;let(H,g,j):=iY h;let(l,c):=ag g;rw[fk (ag H).2];erw[kh j λa e p h=>?_];let(m,n,r):=iY h;let(z,u,v,w,hn):=eL o m;let(ad,y,T):=o.tab i (cy.mp (ag d).2);replace T:=O7 (ag d).1 T;rw[u];induction s with|f=>done|g b s=>let(pa,P):=R.pa o c;rwa[NI T (o.fnX (ag H).1) (o.room (ag H).1) o.hp v y w (A.pe o r) (za n) pa P])
end Em
def Tm.tin(i:Ń)(A:Em Γ t):Tm Γ t:=(s1 (ϗ _) A.m,λS=>Pt λa os bs _=>iU (l1 os) λo=>iU (l1 bs) λb=>Đ (o=.In)&&(Ë 100 i&&gX i _&&(ua S _ b&&A.ck S a)),λ{k S X E x}o h=>by erw[ui h λa os bs q h=>?_];let(F,e,h):=b8 h;let(b,j,h):=b8 h;let(c,g,l,n):=mS h;let(P,s,u,w,hn):=eL o l;let(ad,y,T):=o.tab i (cy.mp (ag g).2);replace T:=O7 (ag g).1 T;rw[eG e,eG j,bB c,s];erw[(GC (x_ T) (A.pe o n) (qm (v:=.A ad) u y Ŗ w) (ue Ŗ)).imp λτ H K h=>?_];let(G,M,σ,h,B,Q,k,q):=GX h;erw[(G,M,σ,h,B,_,(k.rel,k.env,λd c C D v e R I f=>?_,k.exc),q)];induction d with|r _=>rwa[f.elim]|p d=>cases d with|S z=>exact(Ŗ,z,jA I,k.out _ c C D _ e R jH f)|_=>rwa[f.elim])
namespace Mm
end Mm
end
end F
namespace L2
end L2
namespace F
open L2
end F
namespace F
open L2
def d_(e:h[l]?=O (.L xs)):lA h (.r l)=O xs:=by show(match h[l]? with|O (.L xs)=>O xs|_=>ao)=_;rw[e]
end F
namespace F
open L2
section
variable{Γ:Gm}{t:Tb}
namespace E1
end E1
end
end F
namespace F
open L2
variable{Γ:Gm}{t:Tb}
end F
namespace F
open L2
@[irreducible]def LD(tg:Tg)(P:Pw)(b:Ss)(N:En)(σ:Es)(h:Hs):ß:=∃(X:Ł Dv)(W:Ń->Es->Hs->ß),W 0 σ h/\(∀i a H,W i a H->P H X)/\(∀(i:Ń)x a H,X[i]?=O x->W i a H->match x with
  |.p y=>match Qv tg y a with|O c=>b (N.lp (W (i+1)) N.nx) c H|ao=>ŧ
  |_=>ŧ)/\∀a H,W (Á X) a H->N.nx a H
def afr(tg:Tg)(I:Ig)(b:Ss):Ss:=λN σ h=>I N.xc σ h λP H=>LD tg P b N σ H
def RL(h:eX 'X' E (afr tg I b) D τ H):JP (O0 'X' E I) (RQ X.K tg) (eX 'X' E b) D τ H:=by
 let(G,M,σ,h0,N,k,q):=h;erw[(G,M,σ,h0,_,_,(k.rel,k.env,λP h1 F H1 j A r1 jo q=>?_,k.exc),q)];delta LD at q;erw[cps λR k0=>?_];let(x,W,w0,hP,T,L):=q;erw[k0 (λi m p u=>m=Á x-i/\i<=Á x/\∃f a h',Ext F H1 f u/\bj _ f u h'/\dD _ f u a p/\W i a h',(_,Ŗ,cw _,F,σ,h1,Ext.refl,r1,k.env.ext k.rel A,w0),?_)];erw[λi m p u z=>cps λR k1=>?_];let(rfl,hi,f,a,h',S,U,v2,w):=z;let(ja,jb):=jo G f u h' x (λ_ z=>.inl z) S U (hP _ _ _ w);by_cases lK:i<Á x
 .let(g,y):=ja i _ (av lK);erw[k1 (.inr (g,_,λτ2 H2 zz=>by done,λv oF yl=>cps λR k2=>?_))];let(e3,r3,ip):=y v oF yl;let q:=T i _ a h' (av lK) w;let B:=S.trans e3;let nx:∀c o l e n,Ext f oF l e->bj ('X'.z G) l e o->dD ('X'.z G) l e c n->W (i+1) c o->∃m',m'<Á x-i/\m'=Á x-(i+1)/\i+1<=Á x/\∃f a h',Ext F H1 f e/\bj _ f e h'/\dD _ f e a n/\W _ a h':=λc o l e n r s Z Q=>(_,(),Ŗ,da ‹_›,l,c,o,B.trans r,s,Z,Q);split at q
  .ext y ey;split at q;.ext σ4 e4;rw[ey]at ip;rwa[k2 (RR e4 ip (v2.ext U e3) λτ4 v4=>(G,f,_,h',N.lp _ _,(r3,v4,nx,λd o l e v r s i5 Q=>k.rt d o l e v (A.trans (B.trans r)) s i5 Q,λc o l e n r s Z Q=>k.nx c o l e n (A.trans (B.trans r)) s Z Q,nx,λC o l e r s Q=>k.exc C o l e (A.trans (B.trans r)) s Q),q))]
   .rwa[q.elim]
  .left
 .let hx:i=Á x:=()
  subst hx;rwa[k1 (.inl (jb,k.nx a h' f u p (A.trans S) U v2 (L a h' w)))]
variable{Γ:Gm}{t:Tb}
def Mm.foT(tg:Tg)(j:Jg Γ t)(B:Ms Γ t):Mm Γ t:=(_,λS=>Py λT ix b e _=>S.cm&&u0 e&&(ma ix&&(hO S tg T&&(j.ck S T ix&&B.ck S b))),λo h=>by erw[uk h λT ix b e p h=>?_];let(H,h):=ag h;let(a,h):=ag h;let(c,h):=ag h;let(d,f):=ag h;rw[gD (ag H).2];exact(Ea o.po (o.x.hc (ag H).1).1 (j.pi o.x d) (xG o.x.hq o.x.hN o.x.hs o.nd o.hf c) (B.ps o f) λ_=>qd a).imp λ_ _ _=>RL)
def FQ{tg:Tg}{P:Pw}{b:Ss}{N:En}{σ:Es}{h:Hs}(xs:ϑ)(a:ϑ->ϑ->Es->Hs->ß)(k:a [] xs σ h)(g:∀pre post σ' h',a pre post σ' h'->P h' (xs.map .p))(step:∀pre x post σ' h',xs=pre++x::post->a pre (x::post) σ' h'->match Qv tg x σ' with|O c=>b (N.lp (a (pre++[x]) post) N.nx) c h'|ao=>ŧ)(f:∀σ' h',a xs [] σ' h'->N.nx σ' h'):LD tg P b N σ h:=by delta LD;erw[(_,λi σ' h'=>a (xs.take i) (xs.drop i) σ' h',by done,λi σ' h' j=>g _ _ _ _ j,λi x σ' h' d j=>?_,λσ' h' j=>f σ' h' nofun)];rw[aR]at d;induction H:xs[i]? with|a=>left|c y=>
 rw[H]at d;cases d;let(l,e):=aw.mp H;let E:xs.drop i=y::xs.drop (i+1):=by rw[<-e,jM]
 let z:=step _ y _ σ' h' (rB H) (E▸j);rw[<-wX H]at z;rwa[z]
end F
namespace F
open L2
def Em.Ft{Γ:Gm}{t:Tb}(n:Ń)(b:Ϙ)(tg:Tg)(j:Jm Γ t)(F:Fm Γ t)(A:Em Γ t):Em Γ t:=(GJ n b tg _ F.m A.m bb,λS x=>QO S n b tg _ F _ x,λo h=>yy o h λN T ix i e v p c d g k l q r u a=>(Tv c (o.hc a).1 d (j.pi o g) (λf s H=>l (D2 o a _ _ f _ _)) (λf s H=>F.pf (D2 o a _ _ f _ _) q) (λf s H=>A.pe (D2 o a _ _ f _ _) r) u).imp λ_ _ _=>yA λ_ _ _ z=>by lia k)
end F
namespace F
open L2 PySem.SeqAt
def vb{Y:T0}(r:Vals vs us)(R:Vals ws Z)(ix:aW (Y.z G) M H xs vs)(i:aW (Y.z G) M H xs ws)(I:∀{p:Pv}{v u:V}{b U:Â},p∈xs->eo (Y.z G) M H p v->eo (Y.z G) M H p u->RelV v b->RelV u U->EqAt A s b U J):∀j(h:j<us.toArray.size)(a:j<Z.toArray.size),EqAt A s us.toArray[j] Z.toArray[j] ((λ_=>J) j):=by
 intro j h a;let l1:=r.length;let l3:=ix.len;simp only[aM]at h a;let e:xs[j]?=O (xs[j]'()):=av _;let(v,d,P):=ix.get e;let(w,f,g):=i.get e;let(u,hu,k):=r.get d;let(z,c,l):=R.get f;let E:us.toArray[j]=u:=by rw[av h]at hu;simpa using hu
 let m:Z.toArray[j]=z:=by rw[av a]at c;simpa using c
 rw[E,m];rwa[I (kL _) P g k l]
def Pf{σ:È}{Y:T0}{A:cp}(I:Inv X be σ H s)(d:gF X.K H a vs)(f:gF X.K H b ws)(ix:aW (Y.z G) M H xs vs)(i:aW (Y.z G) M H xs ws)(h:∀{p:Pv}{v u:V}{c U:Â},p∈xs->eo (Y.z G) M H p v->eo (Y.z G) M H p u->RelV v c->RelV u U->EqAt A.in1 s c U J):∃(its S:Array _)(e:Ń->Þ),s.heap.IsTuple a its/\s.heap.IsTuple b S/\(∀j(g:j<its.size)(k:j<S.size),EqAt A.in1 s its[j] S[j] (e j))/\((Ù (min its.size S.size)).all e&&its.size==S.size)=true:=by let(its,r,t,_):=I.tuple d;let(S,R,T,_):=I.tuple f;erw[(_,_,_,t,T,vb r R ix i h,?_)];rw[aM,aM,<-r.length,<-R.length,<-ix.len,<-i.len,iJ,Bool.and_true];rwa[aS.mpr λ_ _=>Ŗ]
end F
namespace L2
open PySem.SeqAt PySem.MeetsSeq PySem.Builtin PySem.Builtin.Str
end L2
namespace F
open L2
section
variable{Γ:Gm}{t:Tb}
namespace E1
end E1
end
end F
namespace F
open L2
end F
namespace L2
def Bb{o:Ä}{m:Æ}{cr pos:Ó}{args:Ł _}{env:Û}(n:ft o m env (Ê o env)=Ê o env)(a:methodCallForm (Á args+0) (em pos (c7 args env)) (backToKw pos (hA [] env)))(h:(cr.endLine==pos.line)):∃p,Ê (.Call (.Attribute o m cr) args [] pos) env=(do
   let v<-Ê o env
   standAt cr.atName let(f,first)<-holding [v] (getMethod v m p)callWith pos f first (em pos (c7 args env)) (backToKw pos (hA [] env))):=by
 let e:methodCallPos J o env cr pos=pure pos:=by delta methodCallPos;rw[h];rfl
 erw[(do return(<-importBound o env).getD J,?_)];let H:methodCallForm (Á _+Á ([]:Ł fm)) _ _=true:=a;rw[arm_eval_Call,n];delta methodCall;rw[H,e];rfl
end L2
namespace F
open L2
def kFz(h:Hs)(Q:KP):KP:=λds H=>m1 ds λd=>fH (LF H (Á h) d) (λx=>gd (bH (Á h) (H.take (Á h))) (Q [x] (H.take (Á h)))) ŧ
def ak4(A:Sm):Sm:=λx σ h Q=>A x σ h (kFz h Q)
def afs:Sm:=λ_ _ h Q=>Q [.r (Á h)] (h++[.K []])
def ϩ:Sm:=λ_ _ h Q=>Q [.r (Á h)] (h++[.E [] []])
def Gg:ϑ->Ő (Ł cs)|[]=>O []|x::r=>match j3 x with
  |O κ=>match Gg r with|O l=>O (κ::l)|ao=>ao
  |ao=>ao
def xu:cs->Pv|.inl i=>.I i|.inr x=>.S x
def akC:ON:=λx h Q=>fH (Xn x) (λps=>fH (Gg ps) (λk=>gd (qC (Á k)) (Q (.p (.key k)) h)) ŧ) ŧ
def n_(n:Ń):O1:=λx h Q=>match x with|.p (.key k)=>fH k[n]? (λκ=>Q (.p (xu κ)) h) ŧ|_=>ŧ
def isC(c:Ń)(h:Hs):Dv->Þ
 |.r i=>match h[i]? with|O (.I C _)=>Ì C c|_=>bb
 |.p (.obj C _)=>Ì C c|_=>bb
def ajV(C:Ct)(X:XP)(Q:KP)(x:Dv):KP:=λds h=>C (x::ds) h (qD Q) X
def kMe(c:Ń)(C:Ct)(A:Sm)(X:XP)(σ:Es)(Q:KP):KP:=λs h=>m1 s λx=>gd (isC c h x) (A X σ h (ajV C X Q x))
def rl(c:Ń)(C:Ct)(o A:Sm):Sm:=λx σ h Q=>o x σ h (kMe c C A x σ Q)
def My(κ:Ł cs)(ks:Ł (Ł cs)):Ł (Ł cs):=bif ks.any λk=>Đ (k=κ)then ks else ks++[κ]
def lw:Ő Ob->Ő (Ł (Ł cs))|O (.K k)=>O k|_=>ao
def adI:Dv->Þ|.p (.B J)=>J|_=>bb
def Ϩ(A B C:Sm):Ss:=λN σ h=>A N.xc σ h λs a=>match s with
 |[v]=>gd (adI v) (B N.xc σ a λx b=>match x with
  |[.r i]=>C N.xc σ b λy H=>match y with|[.p (.key κ)]=>fH (lw H[i]?) (λk=>gd (qC (Á k+1)) (N.nx σ (H.set i (.K (My κ k))))) ŧ|_=>ŧ
  |_=>ŧ)|_=>ŧ
def P_(f:PE X a (cL 'X' E A)):PE X a (cL 'X' E (ak4 A)):=f.imp λτ H l z=>by let(G,M,σ,h,g,Q,k,q):=z;erw[(G,M,σ,h,g,_,(k.rel,k.env,λd m n i v e r I b=>?_,k.exc),q)];let(x,j,b):=b9 b;let(c,b):=cg b;rwa[k.out x _ _ i v (e.cut (by rw[k.rel.ln];rwa[aq _])) (r.cut _ c) (LH r I j) b]
def TN:PE X (.Dict [] [] pos) (cL 'X' E afs):=Nw.imp λτ H c (G,M,σ,h,x,Q,k,q) p b=>k.out _ _ _ _ _ (Ext.push k.rel b) (k.rel.push (o:=.K []) b bA) (nz k.rel.ln) q
def TM:PE X (.Dict [] [] pos) (cL 'X' E ϩ):=vo.imp λτ H c (G,M,σ,h,x,Q,k,q) p b=>k.out _ _ _ _ _ (Ext.push k.rel b) (k.rel.push (o:=.E [] []) b ([],bA,Ť,Ť)) (nz k.rel.ln) q
theorem WT{Y:T0}{G M:Ł À}{H:Hp}:∀{ps:ϑ}{ks:Ł cs}{vs:ϕ},Gg ps=O ks->aW (Y.z G) M H ps vs->vs=ks.map kV
 |[],ks,vs,e,i=>by cases e;induction vs with|f=>rfl|g _ _=>rwa[i.elim]
 |x::r,ks,vs,e,i=>by
  delta Gg at e;split at e
  .ext κ b;split at e;.ext l c;cases e;cases vs with|f=>rwa[i.elim]|g v vs=>rw[DO b i.1,WT c i.2];rfl
   .lia
  .lia
def R_{k1:Ń}(h:PA X rest (fL 'X' E A)):PE X (.Tuple rest k1 pos) (cL 'X' E (sN akC A)):=(NG h).imp λτ H n h=>by let(G,M,σ,h,x,Q,k,q):=h;erw[(G,M,σ,h,x,_,(k.rel,k.env,λd g m s v i r I b=>?_,k.exc),q)];let(ps,e,b):=b9 b;let(K,j,b):=b9 b;let(c,b):=cg b;let l:=WT j (rS e I);subst l;exact(by rw[af];rwa[fU c],λp f=>k.out (.p (.key K)) g m _ _ (i.trans (Ext.add f)) (r.add f) (p,Ŗ,bA) b)
def MB{Y:T0}:eo (Y.z G) M H (xu κ) (kV κ):=by induction κ<;>rwa[Ŗ]
def Sj{n:Ń}:Qm Y (λx H Q=>Δ Y.K x (.I n) H Q) (n_ n):=λG M h H x v Q c r i q out=>by induction x with|r _=>rwa[q.elim]|p x=>cases x with|key k=>let(κ,e,q):=b9 q;let(a,rfl,b):=i;exact(a,_,n,_,Ŗ,Ŗ,.inl (.inl b),Qy nofun,out (.p _) h M H _ Ext.refl r MB q)|_=>rwa[q.elim]
def S_{n:Ń}(c:PE X a (cL 'X' E A))(d:PE X b (tC (.I n)))(s:lS b):PE X (.Subscript a b pos) (cL 'X' E (s1 (n_ n) A)):=(Gu Mw c d s).imp λτ H Q h=>XB Sj h
def WZ(hc:sd X.K t c)(Z:m∉t.fl c)(h:cL 'X' E (rl c W Oo A) τ H QV):cL 'X' E Oo τ H λx b=>∃a D fs,x=.A a/\b a=O (.ins (t.ca c) D fs)/\fs.lookup m=ao/\fL 'X' E A τ b λvs H2=>dB 'X' W (x::(vs++[])) H2 QV E:=by
 let(G,M,σ,h,j,Q,k,q):=h;erw[(G,M,σ,h,j,_,(k.rel,k.env,λd h1 M1 b v e l n s=>?_,k.exc),q)];let(g,s):=cg s;let F:∃a D fs,v=.A a/\b a=O (.ins (t.ca c) D fs)/\fs.lookup m=none:=by induction d with
  |r i=>
   change(match h1[i]? with|O (.I u _)=>Ì u c|_=>bb)=J at g;split at g;.ext u fs ho;obtain rfl:=aT g;let(a,g0,rfl):=n;let(D,f,s1,_,l1,i2):=l.at' g0 ho;exact(a,D,f,Ŗ,s1,rL λz=>Z (by rw[l1]at z;rwa[iq z]))
   .done|p x=>cases x with|obj u fs=>obtain rfl:=aT g;let(a,D,f,rfl,_,s1,l1,_):=n;exact(a,D,f,Ŗ,s1,rL λz=>Z (by rw[l1]at z;rwa[iq z]))|_=>done
 let(a,D,f,rfl,s1,l1):=F;erw[(a,D,f,Ŗ,s1,l1,G,M1,σ,h1,j,_,(l,k.env.ext k.rel e,λds h2 M2 H2 vs y r2 i2 q2=>?_,k.CZ e),s)];rw[aK];exact(G,M2,h2,d::ds,_,j,r2,(n.ext l y,i2),q2,λd3 L N P w S T i3 U=>k.out d3 L N P w (e.trans (y.trans S)) T i3 U,λc L N P S T U=>k.exc c L N P (e.trans (y.trans S)) T U)
def RM{X:Cx}(d:(e::es).all bW)(l:Á (e::es)<30):methodCallForm (Á (e::es)+0) (em dg (c7 (e::es) X.env)) (backToKw dg (hA [] X.env))=true:=uR d l
def Xh(e:PE X o (cL 'X' E Oo))(d:sd X.K t c)(g:m∉t.fl c)(M:yc X.K (t.ca c) m f)(Rn:gA X f (dB 'X' b) [] E)(i:PA X (a::rest) (fL 'X' E A))(j:ft o m X.env (Ê o X.env)=Ê o X.env)(D:(a::rest).all bW)(l:Á (a::rest)<30)(n:(cr.endLine==dg.line)):PE X (.Call (.Attribute o m cr) (a::rest) [] dg) (cL 'X' E (rl c b Oo A)):=by let(P,k):=Bb j (RM D l) n;let hp:=D;rw[bZ,aE]at hp;exact(NA e d.cl M Rn i (cx hp.1) (eV hp.2) k).imp λτ H Q h=>WZ d g h
def V_(r:PE X o (cL 'X' E Oo))(g:sd X.K t c)(u:m∉t.fl c)(M:yc X.K (t.ca c) m f)(Rn:gA X f (dB 'X' b) [] E)(w:ft o m X.env (Ê o X.env)=Ê o X.env)(n:(cr.endLine==dg.line)):PE X (.Call (.Attribute o m cr) [] [] dg) (cL 'X' E (rl c b Oo Jt)):=by let(pl,x):=Bb (args:=[]) w Ŗ n;erw[(IM r g.cl M Rn x).imp λτ H QV h=>?_];let(G,M,σ,h,y,Q,k,q):=WZ g u h;erw[(G,M,σ,h,y,Q,(k.rel,k.env,λd z D i v F I L N=>?_,k.exc),q)];let(a,P,fs,e,s,l,G',S,T,U,W,Q',j,Z):=k.out d z D i v F I L N;exact(a,P,fs,e,s,l,j.out [] U S i [] Ext.refl j.rel Ť Z)
def N6:jK (ks.map λk=>(k,V.B J)) κ (.B J)=(My κ ks).map λk=>(k,V.B J):=by
 delta jK My;let e:(ks.map λk=>á k (V.B J)).any (λK=>Đ (K.1=κ))=ks.any λk=>Đ (k=κ):=by rw[List.any_map];rfl
 rw[e];induction ks.any _ with|d=>rw[aV];rwa[mH λk _=>⋯]|e=>rw[cond_false,aN];rfl
def SM(h:eX 'X' E (Ϩ A B C) D τ H):Oy (cL 'X' E B) (cL 'X' E C) (cL 'X' E A) D τ H:=by
 let(G,M,σ,h,N,k,q):=h;let ex:∀{w y},Ext M H w y->∀C f m H1,Ext w y m H1->bj _ m H1 f->N.xc C f->qL t.ca E C H1:=λe C f m H1 x r q=>k.exc C f m H1 (e.trans x) r q;erw[(G,M,σ,h,_,_,(k.rel,k.env,λd f m H1 v g P i1 l=>?_,k.exc),q)];let(z,l):=cg l;let S:v=.B true:=by induction d with|r _=>done|p x=>cases x with
   |B b=>induction b with|d=>done|e=>cases z
   |_=>cases z
 subst S;erw[(G,m,σ,f,_,_,(P,k.env.ext k.rel g,λd2 T M2 H2 v2 i F U I=>?_,ex g),l)]
 induction d2 with|p _=>rwa[I.elim]|r n=>erw[(G,M2,σ,T,_,_,(F,k.env.ext k.rel (g.trans i),λW Z M3 H3 v3 s L i3 Q=>?_,ex (g.trans i)),I)];induction W with|r _=>rwa[Q.elim]|p kk=>cases kk with|key κ=>
    let(ks,j,Q):=b9 Q;let(c,Q):=cg Q;let(a,u,g2):=U.ext F s;let(b,rfl,hb):=i3;let j:Z[n]?=O (.K ks):=by
     delta lw at j;split at j;.left
     .done
    let ha:=aP u;let c2:=fU c;erw[(a,_,g2,Ar.t (L.at' u j) hb (by rw[af];rwa[‹_›]),?_)];rw[N6];rwa[k.nx σ _ M3 _ τ ((g.trans (i.trans s)).trans (Ext.put ha)) (L.put (o:=.K _) u bA) (k.env.ext k.rel ((g.trans (i.trans s)).trans (Ext.put ha))) Q]|_=>left
section
variable{Γ:Gm}{t:Tb}
namespace Em
def mE(A:Em Γ t):Em Γ t:=(_,_,λo h=>P_ (A.pe o h))
def SK:Em Γ t:=(_,λ_=>Rq,λo h=>by erw[uj h λk v p h=>?_];rw[gD (ag h).1];rwa[TN])
def Y3:Em Γ t:=(_,λ_=>Rq,λo h=>by erw[uj h λk v p h=>?_];rw[gD (ag h).1];rwa[TM])
def key(A:Am Γ t):Em Γ t:=(_,λS=>Ab _,λo h=>jt h λ_ _ _ h=>R_ (A.pa o h).1)
def kix(n:Ń)(A:Em Γ t):Em Γ t:=(s1 (n_ n) A.m,λS=>Aa λa i _=>A.ck S a&&J1 (λc _ _=>X3 _ c) i,λo h=>by erw[kh h λa i p h=>?_];let(H,h):=ag h;revert h;erw[λh=>nS h λc j q h=>?_];rw[yf h];rwa[S_ (A.pe o H) zy (za Ŗ)])
def me(c:Ń)(b:Em Γ t)(A:Am Γ t):Em Γ t:=(_,λS=>im S _ b λe=>Ë 100 c&&(gX c _&&(gX (c/100-1) _&&!lZ (S.rj c) (S.fl (c/100-1))))&&(Ñ _ 30&&(!u0 e&&A.ck S e)),λ{k S X E x}o h=>rM h λv e s D H d i j=>by let(l,g):=ag H;let(m,n,p,G):=mS l;let(q,g):=ag g;let(C,r):=o.cls _ (cy.mp p);let(f,u,R):=o.g_ (cy.mp n) m;induction e with|f=>done|g a e=>let(pa,P):=A.pa o (ag g).2;rwa[Xh (b.pe o d) C (λw=>by rw[r]at w;rw[qg w]at G;cases G) u R pa (lV i) P (aj q) j])
def Ke(c:Ń)(a:Em Γ t):Em Γ t:=(_,λS=>im S _ a λe=>Ë 100 c&&(gX c _&&(gX _ _&&!lZ _ _))&&u0 e,λ{k S X E x}o h=>rM h λr e A D H b d i=>by let(j,g):=ag H;let(l,m,n,G):=mS j;let(C,p):=o.cls _ (cy.mp n);let(f,q,R):=o.g_ (cy.mp m) l;rw[gD g];rwa[V_ (a.pe o b) C (λw=>by rw[p]at w;rw[qg w]at G;cases G) q R (lV d) i])
end Em
def Mm.DM(A B C:Em Γ t):Mm Γ t:=(_,λS=>ri _,λo h=>by erw[ED h λa i p e pos h=>?_];let(H,h):=ag h;let(b,c):=ag h;exact(Gz o.x.P9 (B.pe o.x b) (C.pe o.x c) (A.pe o.x H) EE).imp λ_ _ _=>SM)
end
end F
namespace F
open L2
def UZ(A:Sm):Ss:=λN σ h=>A N.xc σ h λx H=>match x with|[.p (.I (.ofNat n))]=>N.xc (1000+n) H|_=>ŧ
def qL.num(h:qL c E (1000+n) H)(a:H d=O (.xd [("number",.I n)])):E (.ref (c 999)) (O d) H:=by simp only[qL,aZ (bp 1000 n)]at h;rwa[h d (by rw[jv];rwa[a])]
def Jn(h:eX 'X' E (UZ A) D τ H):GU E (t.ca 999) (cL 'X' E A) D τ H:=by
 let(G,M,σ,h,N,k,q):=h;erw[(G,M,σ,h,_,_,(k.rel,k.env,λd a m c v e r i Q=>?_,k.exc),q)];split at Q;.ext n b;cases b;exact(n,i,λx L=>qL.num (k.exc _ a m _ (e.trans (Ext.add L)) (r.add L) Q) bA)
 .left
def Mm.md{Γ:Gm}{t:Tb}(A:Em Γ t):Mm Γ t:=(_,λS=>Cf λe b _=>S.cm&&b.isNone&&(S.fr&&(gX 999 S.xok&&iU e (gz λf E k _=>wD k&&(ua S (S.rj 999) f&&iU (l1 E) λe0=>bW e0&&A.ck S e0)))),λo h=>by erw[GY h λe b pos h=>?_];let(H,h):=ag h;let(a,h):=ag h;let(c,h):=ag h;let(s,d,g):=b8 h;rw[d];induction b with|c _=>simp at H|a=>erw[dC g λf E k C h=>?_];let(i,h):=ag h;let(j,h):=ag h;let(e0,l,h):=b8 h;let(p,m,n,q,hn):=eL o.x j;rw[fk i,eG l,m];let(fr,u):=o.x.fx a;let(r,K):=o.exc 999 (cy.mp c);exact(IW fr u (o.x.hc (ag H).1).1 (o.x.room (ag H).1) n r K (A.pe o.x (ag h).2) (ag h).1 q).imp λ_ _ _=>Jn)
def ĥ(f:Ł É->Ł ExceptHandler->Ł É->Ł É->Ó->Þ)(x:É):Þ:=sx _ 17 λe=>Stmt.Try.elim x e f
@[elab_as_elim]def VV{P:É->ß}(h:ĥ f x)(q:∀a b c d p,f a b c d p=J->P (.Try a b c d p)):P x:=(eE h).elim λe h=>Stmt.Try.elim x e (λa b c d p _ h=>q a b c d p h) e h
def alB(f:Ő Ä->Ő Æ->Ł É->Þ):ExceptHandler->Þ|.ExceptHandler ty n b _=>f ty n b
def I'(S:Sx):Sx:={S with fr:=bb}
theorem mj.BX(o:mj Γ t k S X E):mj Γ t k (I' S) X.BX λ_ _ _=>ŧ:=(o.hN,o.hs,o.hc,o.hq,λp σ H s e a I h=>by let(_,_,_,_,_,_,q):=h;rwa[q.elim],o.hr,o.bl,o.gh,o.fn,o.gl,o.tab,o.cls,o.kK,(λh=>by cases h),o.fu)
def Mq(H:X.N=S.N)(s:X.env.scope=S.sc)(h:Sy S i x):PE X x (BG i):=by erw[fM h λy p h=>?_];let(a,h):=ag h;let(b,c):=ag h;let z:=D1 (fG c);rwa[zA (by rw[H];rwa[ig a]) (by rw[s];rwa[Pz b]) z.1 z.2.1]
def ł(i j w a:Ń)(z:Æ)(C:Ct)(N:En)(σ:Es):XP:=λc h=>gd (Ë 1000 c&&(Ñ i (Á σ)&&!Nat.beq i j)) (match((σ.set i ao).set j (O (.p (.S z))))[w]? with|O (O D)=>C [D,.p (.I (c-1000:Ń))] h (λd H=>N.nx ((((σ.set i ao).set j (O (.p (.S z)))).set a (O d)).set i ao) H) λ_ _=>ŧ|_=>ŧ)
def Xz(i j w a:Ń)(z:Æ)(C c:Ct)(A:Sm):Ss:=λN σ h=>A (λ_ _=>ŧ) σ h λds H=>C ds H (λd b=>N.nx (σ.set j (O d)) b) (ł i j w a z c N σ)
def dD.hide(q:dD Z M H σ τ)(i:Ń)(x:Ő V):dD Z M H (σ.set i ao) (τ.set i x):=(by rw[dJ,dJ];rwa[q.ln],λk d h=>by
 by_cases a:i=k
 .rw[List.getElem?_set]at h;split at h;.lia
  .done
 .rw[cK a]at h⊢;rwa[q.at' k d h])
def rc(i j b w:Ń)(z:Æ)(sp:Sp)(a:À)(d:Ő À):TS:=Bn (vH (tC (.S z)) (mm j)) (vH (λσ H Q=>BG w σ H λv h=>ř i a d σ h λu c=>sp [v,u] c Q E0) (mm b))
def VG(U:subIn X.K (.ref (t.ca 999)) (.ref (t.ca 999))=O J)(h:eX 'X' E (Xz i j w l z u m A) D τ H):XG X.K (t.ca 999) i j (dB 'X' u) (fL 'X' (λ_ _ _=>ŧ) A) (λa C d D σ H=>C=t.ca 999/\rc i j l w z (dB 'X' m) a d D σ H) D τ H:=by
 let(G,M,σ,h,N,k,q):=h;erw[(G,M,σ,h,_,_,(k.rel,k.env,λds W y Y vs f Z i1 q1=>?_,λ_ _ _ _ _ _ q=>q.elim),q)];erw[(λcv B g=>∃c F L,Ext y Y L g/\bj ('X'.z G) L g F/\ł i j w l z m N σ c F/\cv=.ref (t.ca 999)/\∃x,B=O x/\g x=O (.xd [("number",.I (c-1000:Ń))]),(G,y,W,ds,_,_,Z,i1,q1,λd b M2 P v e r i2 Q=>k.nx _ b M2 P _ (f.trans e) r ((k.env.ext k.rel (f.trans e)).set i2) Q,λc b M2 P e r Q=>?_),λC B g a hE=>?_)];.rw[qL,(ag (cg Q).1).1];rwa[λx n=>(c,b,M2,e,r,Q,Ŗ,x,Ŗ,n)]
 .let(c,b,M2,e,r,Q,hC,x,rfl,n):=hE;cases hC;erw[(U,?_)];let(o,Q):=cg Q;let(hc1,o):=ag o;let(s,hij):=ag o;let v2:=((k.env.ext k.rel (f.trans e)).hide i (O (.A a))).set (i:=j) (d:=.p (.S z)) Ŗ;erw[(Ŗ,?_)];split at Q;.ext R hw;let(vw,hv,iw):=v2.at' w R hw;erw[(vw,hv,(?_,x,_,Ŗ,n,(G,M2,b,[R,.p (.I _)],_,_,r,(iw,Ŗ,Ť),Q,λd h3 M3 H3 v T r3 i3 q3=>k.nx _ h3 M3 H3 _ (f.trans (e.trans T)) r3 (((v2.ext r T).set i3).hide i _) q3,λ_ _ _ _ _ _ q=>q.elim)))];.rw[cK (cI λz=>nofun),dy];rw[<-k.env.ln];rwa[aj s]
  .left
def OS{pn:Ł _}(o:ċ Γ t k S X E)(B:Hd (X.hn pn a) a C d)(D:Hh X.K C F)(I:X.N[j]?=O y)(L:L2.Loc X.env.scope y)(M:X.fn y\/X.env.scope.names.lookup y=O .local)(b:X.N[m]?=O c)(lc:L2.Loc X.env.scope c)(R:X.fn c\/X.env.scope.names.lookup c=O .local)(n:Gl X G)(T:X.mg G=O (.ref f))(U:keepIn X.K (.ref f))(l:(G=="__debug__")=bb)(Rn:gA (X.hn pn a) f (dB 'X' (Γ.fn g)) [] E0)(W:Sy S w e)(q:bW e)(hn:Sy S i (.Name p P)):jZ (X.hn pn a) [.Assign [.Name y p1] (.Constant (.str z) A p2) p3,.Assign [.Name c p4] (.Call (.Name G r) [e,.Attribute (.Name p P) "number" s] [] u) v] (rc i j m w z (dB 'X' (Γ.fn g)) a d):=by rwa[vq (zD o.nd I L ND rfl M) (GB (zD o.nd b lc ((Bj Rn n T U (Tn (Mq o.x.hN o.x.hs W) (Tn (K_ B D (Mq o.x.hN o.x.hs hn)) kD Ŗ) q) l (cx q) (eV Ŗ)).imp λσ H Q h=>h) rfl R))]
def ϻ(S:Sx)(i:Ń):Ä->Þ:=ER λo m _=>cQ m "number"&&(Sy S i o&&oR (λ_ _=>J) o)
def ai3(S:Sx)(i j w a g:Ń)(z:Æ):ExceptHandler->Þ:=alB λty m b=>iU ty (ua S (S.rj 999))&&(iU m (λn=>Bf n i S.N&&wI S.sc n)&&iU (l2 b) λp=>Jv S j (λ_ _ e=>Ys (.S z) e) p.1&&Jv S a (λ_ _ e=>gz (λf E k _=>wD k&&(ua S (S.gh g) f&&iU (l2 E) λq=>bW q.1&&(Sy S w q.1&&ϻ S i q.2))) e) p.2)
def Mm.aaJ{Γ:Gm}{t:Tb}(i j w r:Ń)(z:Æ)(f g:Ń)(A:Am Γ t):Mm Γ t:=(Xz i j w r z (Γ.fn f) (Γ.fn g) A.m,λS=>ĥ λb hs o fl _=>S.cm&&(S.fr&&(u0 o&&u0 fl))&&(gX 999 S.xok&&(gX f Γ.fok&&gX g Γ.JX)&&(iU (l1 b) (Jv S j λ_ _ e=>Wy (I' S) (S.gh f) A e)&&iU (l1 hs) (ai3 S i j w r g z))),λ{k S X E st}o h=>by
 erw[VV h λb hs ol fl pos h=>?_];let(h1,h):=ag h;let(A0,oO,ho,u):=mS h1;let(h2,h):=ag h;let(hx,v,B):=iY h2;let(F,L):=ag h;rw[gD ho,gD u];let(bs,e1,F):=b8 F;let(M,e2,L):=b8 L;rw[eG e1,eG e2];let(ty,nm,hbd,hp):=M;let(N,gg):=ag L;let(s,Q):=ag gg;let(ty0,e3,N):=b8 N;let(n,e4,s):=b8 s;obtain⟨⟨s1,s2⟩,e5,Q⟩:=b8 Q;let(px,e6,R,LL,_):=eL o.x N;rw[e3,e4,mn e5,e6];let(fr,ou):=o.x.fx oO;let(hm,hK):=o.exc 999 (cy.mp hx);let T:Hi X.K (t.ca 999):=hK;let(fI,fd,cN,ist,q1,q2,q3,q4,oI,FK,_):=T.ex;let(psf,Df):=o.x.fnX A0 f (cy.mp v);let(psg,Dg):=o.x.fu g (cy.mp B);let(fg,fdg,Fg,P7,U,W):=Dg.ex;rw[<-o.x.gh]at Df P7;let key:∀pn a C d,Hd (X.hn pn a) a C d->jZ (X.hn pn a) [s1,s2] λD σ H=>C=t.ca 999/\rc i j r w z (dB 'X' (Γ.fn g)) a d D σ H:=λpn a C d Y p s' σ H D I q=>by
  let(rfl,q):=q;erw[(show jZ (X.hn pn a) [s1,s2] (rc i j r w z (dB 'X' (Γ.fn g)) a d)from ?_) p s' σ H D I q];let Rn:gA (X.hn pn a) fg (dB 'X' (Γ.fn g)) [] E0:=Fg.runs (X:=X.hn pn a) (o.x.hr.dp,o.x.hr.un) (.inr (let (t0,tb,hp):=Y.pn;(a,_,t0,d,tb,Y.hd,hp))) W .nil;let(G,l):=ag Q;erw[qv (P:=λx=>jZ (X.hn pn a) [x,s2] _) o G λy' p1 e1' p3 Z ly' fy' G=>?_];erw[qv (P:=λx=>jZ (X.hn pn a) [_,x] _) o l λc p4 e2' p9 hj2 lc fc l=>?_];erw[nS (P:=λx=>jZ (X.hn pn a) [.Assign [.Name y' p1] x p3,_] _) G λc0 j0 p2 G=>?_];let ec:c0=.str z:=by
   induction c0<;>first|cases G|skip
   rw[bX.mp G]
  subst ec;erw[dC (P:=λx=>jZ (X.hn pn a) [_,.Assign [.Name c p4] x p9] _) l λf' es ks p8 l=>?_];let(u1,u2,u3):=iY l;obtain⟨⟨ew,en⟩,eu,u3⟩:=b8 u3;let(u4,u5,u6):=iY u3;let(p5,e7,hgg,hdg,_):=eL o.x u2;rw[fk u1,mn eu,e7];erw[nR (P:=λx=>jZ (X.hn pn a) [_,.Assign [.Name c p4] (.Call (.Name (S.gh g) p5) [ew,x] [] p8) p9] _) u6 λob m p7 u6=>?_];let(u7,u8,u9):=iY u6;rw[bX.mp u7];revert u8;erw[fM (P:=λx=>Sy S i x=J->jZ (X.hn pn a) [_,.Assign [.Name c p4] (.Call (.Name (S.gh g) p5) [ew,.Attribute x "number" p7] [] p8) p9] _) u9 λnn p6 _ u8=>?_];rwa[OS o Y FK Z ly' fy' hj2 lc fc hgg P7 U hdg Rn u5 u4 u8]
 rwa[qv o F λy yp e ap hj ly fy he=>oZ o.x.BX he λa0 rest p0 aqO hg0 Dq hn0 pa pl=>(Uy fr o.nd (by rw[o.x.hN];rwa[ig (ag s).1]) (by rw[o.x.hs];rwa[rR (ag s).2]) (fr.fn _) R hm T.hit key Df (o.x.room A0) hg0 pa hj ly fy LL Dq pl).imp λ_ _ _=>VG T.sub])
structure Sw(H H':Hp)(a:À)(aO:Ł (cs×V)):ß where
 ne:∀b,b≠a->H' b=H b
 l:Rd H a (.dK aO)r:Rd H' a (.dK aO)
theorem Sw.at(s:Sw H H' a aO)(e:H b=O o)(n:∀k,o≠.dK k)(N:∀c k,o≠.mE c (.dK k)):H' b=O o:=by
 rw[s.ne b λz=>?_];.rwa[e]
 .subst z;rcases s.l with q|⟨c,q⟩;.rw[e]at q;cases q;rwa[n _ Ŗ]
  .rw[e]at q;cases q;rwa[N _ _ Ŗ]
def Sw.rd(s:Sw H H' a aO)(e:Rd H b u)(n:∀k,u≠.dK k)(N:∀c k,u≠.mE c (.dK k)):Rd H' b u:=by
 rcases e with e|⟨o,e⟩;.rwa[.inl (s.at e n N)]
 .rwa[.inr (o,s.at e (λk z=>by cases z) λc k z=>nofun)]
def Sw.dk(s:Sw H H' a aO)(e:Rd H b (.dK k)):Rd H' b (.dK k):=by
 by_cases c:b=a
 .subst c;let:k=aO:=by rcases e with e|⟨_,e⟩<;>rcases s.l with q|⟨_,q⟩<;>rw[e]at q<;>cases q<;>rfl
  rw[this];rwa[s.r]
 .delta Rd;rw[s.ne b c];rwa[e]
def Sw.tf(s:Sw H H' a aO):Tf Z Z.G M H M H':=(λq=>s.at q (λ_=>nofun) λ_ _=>nofun,λq=>s.rd q (λ_=>nofun) λ_ _=>nofun,λn _=>n,λ_ e q=>s.at q (λ_ z=>by subst z;cases e) (λ_ _ z=>by subst z;cases e),λ_ q=>s.rd q (λ_=>nofun) λ_ _=>nofun,λ_ q=>s.dk q)
def eo.sw(s:Sw H H' a aO)(h:eo Z M H x v):eo Z M H' x v:=eo.tf s.tf h
def aW.sw(s:Sw H H' a aO)(h:aW Z M H x v):aW Z M H' x v:=aW.tf s.tf h
theorem eP.sw(s:Sw H H' a aO)(q:eP Z M H d v):eP Z M H' d v:=by induction d with|p x=>rwa[eo.sw s q]|r i=>rwa[q]
theorem cH.sw(s:Sw H H' a aO):∀{ds:Ł Dv}{vs:ϕ},cH Z M H ds vs->cH Z M H' ds vs|[],[],_=>Ť|[],_::_,h=>h|_::_,[],h=>h|_::_,_::_,h=>(eP.sw s h.1,cH.sw s h.2)
theorem dD.sw(s:Sw H H' a aO)(q:dD Z M H σ τ):dD Z M H' σ τ:=(q.ln,λi d b=>let (v,c,q):=q.at' i d b;(v,c,q.sw s))
theorem uw.sw(s:Sw H H' a aO)(d:b≠a)(q:uw Z M H b o):uw Z M H' b o:=by let e0:=s.ne b d;induction o with|L x=>let(v,e,q):=q;exact(v,e0.trans e,aW.sw s q)|D x=>let(v,e,q):=q;exact(v,e0.trans e,q.sw s)|C c u=>let(k,e,q,Q):=q;exact(k,e0.trans e,aW.sw s q,aW.sw s Q)|I C fs=>let(f,g,e,n,l,q):=q;exact(f,g,e0.trans e,s.at n (λ_ z=>by cases z) (λ_ _ z=>by cases z),l,q.sw s)|K c=>rwa[e0.trans q]|E c ds=>let(k,e,q,Q):=q;exact(k,e0.trans e,aW.sw s q,Q.sw s)|F i c u=>let(k,e,q,Q):=q;exact(k,e0.trans e,aW.sw s q,aW.sw s Q)
theorem bj.sw(s:Sw H H' a aO)(n:a∉M)(r:bj Z M H h):bj Z M H' h:=(r.nd,r.dj,r.ln,λb d=>by
  by_cases e:b=a;.subst e;rcases s.r with q|⟨_,q⟩<;>exact(_,q)
  .rw[s.ne b e];rwa[r.gs b d],λi b o c f=>(r.ob i b o c f).sw s λz=>n (z▸aP c))
def bj.swM(s:Sw H H' a aO)(f:M[i]?=O a)(r:bj Z M H h)(k:uw Z M H' a o):bj Z M H' (h.set i o):=(r.nd,r.dj,by rw[dJ];rwa[r.ln],λb l=>by
  by_cases e:b=a;.subst e;rcases s.r with q|⟨_,q⟩<;>exact(_,q)
  .rw[s.ne b e];rwa[r.gs b l],λj b q c d=>by
 by_cases g:j=i
 .subst g;rw[f]at c;cases c;let m:j<Á h:=by rw[<-r.ln];exact(aw.mp f).1
  rw[dy m]at d;cases d;rwa[k]
 .rw[cK (cI g)]at d;erw[(r.ob j b q c d).sw s λz=>g ?_];let(L,E):=aw.mp c;let(p,n):=aw.mp f;exact(iG r.nd).mp (by rw[E,n,z]))
abbrev wv(N:En):En:={N with rt:=λ_ _=>ŧ,xc:=λ_ _=>ŧ}
def afq(tg:Tg)(A:Sm)(b:Ss):Ss:=λN σ h=>A N.xc σ h λds H=>match ds with|[.p (.dct k _)]=>fH (fT k) (λ_=>Dl (Á H) k (Qv tg) b (wv N) σ H) ŧ|_=>ŧ
section
variable{Γ:Gm}{t:Tb}{X:Cx}{E:XK}{A:Sm}{b:Ss}{tg:Tg}
theorem OR:∀{ks:ϑ}{ws:ϐ}{i:Ń}{x:Pv},fT ks=O ws->ks[i]?=O x->∃y,ws[i]?=O y/\x=.S y
 |[],_,_,_,_,e=>by done|k::ks,ws,i,x,h,e=>by
  delta fT at h;split at h;.lia
  .ext y r H;cases H;split at h;.ext l a;cases h;induction i with|h=>cases e;exact(_,Ŗ,Ŗ)|j i=>let(z,d,c):=OR a (by done);exact(z,by done,c)
   .lia
  .lia
theorem BB:∀{ks:ϑ}{ws:ϐ},fT ks=O ws->Á ws=Á ks
 |[],_,h=>by cases h;rfl|k::ks,ws,h=>by
  delta fT at h;split at h;.lia
  .ext H;cases H;split at h;.ext l a;cases h;rw[aJ,aJ,BB a]
   .lia
  .lia
def MO{G M:Ł _}{H:Hp}{h:Hs}{N:En}{σ:Es}{τ:È}{a:À}{Y:Ú}{aO:Ł (cs×V)}{ks:ϑ}{ws:ϐ}{D:Ö}(Qb:fT ks=O ws)(hk:aO.map (·.1)=ws.map à)(r:bj ('X'.z G) M H h)(v:dD ('X'.z G) M H σ τ){W:Ń->Es->Hs->ß}(K:∀i σ' h' H',W i σ' h'->Ext M H M H'->bj ('X'.z G) M H' h'->qz a Y ws H')(nx:∀σ' h' H' c,Ext M H M H'->bj ('X'.z G) M H' h'->dD ('X'.z G) M H' σ' c->N.nx σ' h'->D.nx c H')(w0:W 0 σ h)(T:∀(i:Ń)x σ' h',ks[i]?=O x->W i σ' h'->match Qv tg x σ' with|O e=>b ((wv N).lp (mD (Á h) (W (i+1))) (mD (Á h) N.nx)) e h'|ao=>ŧ)(fin:∀σ' h',W (Á ks) σ' h'->N.nx σ' h'):∃W:Ń->Ń->È->Hp->ß,(∃m,W 0 m τ H)/\∀i m c H',W i m c H'->(ju a Y ws).stop i H'/\D.nx c H'\/(ju a Y ws).go i H'/\∃Nx:È->Hp->ß,(∀e g,Nx e g->∃o,o<m/\W (i+1) o e g)/\∀x oF,(ju a Y ws).yld i H' x oF->RQ X.K tg x c oF λe g=>eX 'X' E b {D with nx:=Nx,ct:=Nx,bk:=D.nx} e g:=by
 let hl:=BB Qb;erw[(λi m c H'=>m=Á ks-i/\i<=Á ks/\∃σ' h',Ext M H M H'/\bj _ M H' h'/\dD _ M H' σ' c/\W i σ' h',(_,Ŗ,cw _,σ,h,Ext.refl,r,v,w0),?_)];erw[λi m c H' z=>cps λR k1=>?_];let(rfl,hi,σ',h',p,r2,v2,w):=z;let it:=K i σ' h' H' w p r2;by_cases lK:i<Á ks
 .erw[k1 (.inr ((it,by rw[hl];rwa[lK]),λj g=>∃o,o<Á ks-i/\o=Á ks-(i+1)/\i+1<=Á ks/\∃σ' h',Ext M H M g/\bj _ M g h'/\dD _ M g σ' j/\W _ σ' h',λj g zz=>by done,λu oF yl=>cps λR k2=>?_))];let(rfl,yl):=yl;let(y,hy,hx):=OR Qb (av lK);let q:=T i _ σ' h' (av lK) w;split at q
  .ext e hσ;let hu:=yl y hy;subst hu;erw[k2 (RR hσ (by rw[hx];rfl) v2 λj v4=>?_)];erw[(G,M,e,h',_,(r2,v4,?_,?_,?_,?_,?_),q)];.intro s Z M5 B k l n F Q;let(I,f,L,P,S,U):=mV r (p.trans l) n F Q;exact(_,(),Ŗ,da ‹_›,f,I,L,P,S,U)
   .rwa[λd Z M5 B v l n i5 Q=>Q.elim]
   .intro s Z M5 B k l n F Q;let(I,f,L,P,S,U):=mV r (p.trans l) n F Q;rwa[nx f I B k L P S U]
   .intro s Z M5 B k l n F Q;let(I,f,L,P,S,U):=mV r (p.trans l) n F Q;exact(_,(),Ŗ,da ‹_›,f,I,L,P,S,U)
   .rwa[λC Z M5 B l n Q=>Q.elim]
  .left
 .let hx:i=Á ks:=()
  subst hx;rwa[k1 (.inl ((it,by rw[hl];rwa[aq _]),nx σ' h' H' c p r2 v2 (fin σ' h' w)))]
def RI(h:eX 'X' E (afq tg A b) D τ H):JP (FW X (cL 'X' E A)) (RQ X.K tg) (eX 'X' E b) (O9 X D) τ H:=by
 let(G,M,σ,h0,N,k,q):=h
 erw[(G,M,σ,h0,_,_,(k.rel,k.env,λd h1 B H1 v C Z i1 Q=>?_,k.exc),q)];induction d with|r _=>left|p x=>cases x with|dct ks us=>
   let(ws,I,Q):=b9 Q;let(a,aO,rfl,s,L,ik,iu):=i1;let u:=ql (nN I ik);let v1:=k.env.ext k.rel C;delta Dl at Q;let(W,w0,T,F):=Q;erw[(a,aO,ws,Ŗ,u,?_)];rcases L with l|⟨w,l⟩
   .erw[.inl (l,λw nf=>?_)];let sw:Sw H1 _ a aO:=(λb g=>bw g,.inl l,.inr (w,bA));erw[MO I u (Z.sw sw s.1) (v1.sw sw) (λi c y m _ f R=>(aO,f.keep a _ s.1 bA,u)) (λc y m j f R P U=>?_) w0 T F];let z:=f.keep a _ s.1 bA;let S:Sw m (de m a _) a aO:=(λb g=>bw g,.inr (w,z),.inl bA);erw[.inl (a,w,aO,nf,z,k.nx c y B _ j (C.trans (([],(aK B).symm),λb o g Y=>?_,λb g n=>Ă g n)) (R.sw S s.1) (P.sw S) U)];by_cases e:b=a;.subst e;rw[l]at Y;cases Y;rwa[bA]
    .rw[bw e];rwa[f.keep b o g (by rw[bw e];rwa[Y])]
   .rwa[.inr (w,l,MO I u Z v1 (λi c y m _ f R=>(aO,f.keep a _ s.1 l,u)) (λc y m j f R P U=>.inr (k.nx c y B m j (C.trans f) R P U)) w0 T F)]|_=>left
def Mm.foP(tg:Tg)(A:Em Γ t)(B:Ms Γ t):Mm Γ t:=(_,λS=>Py λT ix b e _=>S.cm&&u0 e&&(ma ix&&(hO S tg T&&(A.ck S ix&&B.ck S b))),λo h=>by erw[uk h λT ix b e p h=>?_];let(H,h):=ag h;let(a,h):=ag h;let(c,h):=ag h;let(d,f):=ag h;rw[gD (ag H).2];exact(GA o.po (o.x.hc (ag H).1).1 (A.pe o.x d) (xG o.x.hq o.x.hN o.x.hs o.nd o.hf c) (B.ps o f) λ_=>qd a).imp λ_ _ _=>RI)
abbrev oe(i:Ń)(o:Ú)(ks us:ϑ)(N:En):En:={N with nx:=λa h=>h[i]?=O (.F o ks us)/\N.nx a (h.set i (.C ks us))}
@[irreducible]def RJ(i:Ń)(o:Ú)(ks us:ϑ)(a:Pv->Es->Ő Es)(b:Ss)(N:En)(σ:Es)(h:Hs):ß:=∃W:Ń->Es->Hs->ß,W 0 σ h/\(∀j c H,W j c H->H[i]?=O (.F o ks us))/\(∀(j:Ń)x c H,ks[j]?=O x->W j c H->match a x c with|O d=>b ((wv (oe i o ks us N)).lp (mD (Á h) (W (j+1))) (mD (Á h) (oe i o ks us N).nx)) d H|ao=>ŧ)/\∀c H,W (Á ks) c H->N.nx c (H.set i (.C ks us))
def FV:Ő Ob->Ő (ϑ×ϑ)|O (.C k u)=>O (k,u)|_=>ao
def Ym(e:FV o=O p):o=O (.C p.1 p.2):=by
 delta FV at e;split at e;.cases e;rfl
 .cases e
def afp(tg:Tg)(A:Sm)(b:Ss):Ss:=λN σ h=>A N.xc σ h λds H=>match ds with|[.r i]=>fH (FV H[i]?) (λp=>fH (fT p.1) (λ_=>∀o,RJ i o p.1 p.2 (Qv tg) b N σ (H.set i (.F o p.1 p.2))) ŧ) ŧ|_=>ŧ
def RH(h:eX 'X' E (afp tg A b) D τ H):JP (FW X (cL 'X' E A)) (RQ X.K tg) (eX 'X' E b) (O9 X D) τ H:=by let(G,M,σ,h0,N,k,q):=h;erw[(G,M,σ,h0,_,_,(k.rel,k.env,λd h1 u H1 v e1 r1 I Q=>?_,k.exc),q)];induction d with|p _=>left|r i=>
  obtain⟨⟨x,U⟩,ho,Q⟩:=b9 Q;let(ws,P,Q):=b9 Q;let(a,y,rfl):=I;let(aO,ha,ik,iu):=r1.at' y (Ym ho);let hk:=ql (nN P ik);erw[(a,aO,ws,Ŗ,hk,.inl (ha,λm nf=>?_))];let Q:=Q m;delta RJ at Q;let(W,w0,inv,T,S):=Q;let sw:Sw H1 (de H1 a _) a aO:=(λb f=>bw f,.inl ha,.inr (m,bA));let key:∀{g:Hs}{l:Hp},g[i]?=O (.F m x U)->bj ('X'.z G) u l g->∃L:Ł _,l a=O _/\L.map _=ws.map _/\aW _ u l x _/\aW _ u l U _:=λhf R=>by let(L,e,I,Y):=R.at' y hf;exact(_,e,ql (nN P I),I,Y)
  erw[MO (N:=oe i m x U N) P hk (r1.swM (o:=.F m x U) sw y (aO,bA,aW.sw sw ik,aW.sw sw iu)) ((k.env.ext k.rel e1).sw sw) (λj c g l w e' R=>let (L,e,P6,_):=key (inv j c g w) R;(_,e,P6)) (λc g l Z e' R v' q'=>?_) w0 T λc g w=>(inv _ c g w,S c g w)];.let(L,B,_,I,Y):=key q'.1 R;let s:Sw l (de l a _) a _:=(λb f=>bw f,.inr (m,B),.inl bA);erw[.inl (a,m,_,nf,B,k.nx c _ u _ Z (e1.trans (([],(aK u).symm),λb o f hq=>?_,λb f n=>Ă f n)) (R.swM (o:=.C x U) s y (_,bA,aW.sw s I,aW.sw s Y)) (v'.sw s) q'.2)];let e:b≠a:=λz=>f (z▸aP y);rw[bw e];rwa[e'.keep b o f (by rw[bw e];rwa[hq])]
def Mm.foH(tg:Tg)(A:Em Γ t)(B:Ms Γ t):Mm Γ t:=(_,λS=>Py λT ix b e _=>S.cm&&u0 e&&(ma ix&&(hO S tg T&&(A.ck S ix&&B.ck S b))),λo h=>by erw[uk h λT ix b e p h=>?_];let(H,h):=ag h;let(a,h):=ag h;let(c,h):=ag h;let(d,f):=ag h;rw[gD (ag H).2];exact(GA o.po (o.x.hc (ag H).1).1 (A.pe o.x d) (xG o.x.hq o.x.hN o.x.hs o.nd o.hf c) (B.ps o f) λ_=>qd a).imp λ_ _ _=>RH)
end
end F
namespace L2
def wf(K:Å)(a:À)(n:Ń):It:=(λi H=>i<n/\∃X,gB K H a X/\Á X=n,λi H x h=>h=H/\∀X,gB K H a X->X[n-1-i]?=O x,λi _=>n<=i)
def Ph{K:Å}(a t:À)(n:Ń):uz P w K tg (wf K a n) [t] t λi h=>i<=n/\h.IsRevIter t a (n-1-i):=nE (n:="list_reverseiterator") rfl (λ(_,o,e,c,d)=>(o,_,e,c,d)) (λst k=>(st.1,st.2.at k)) (λ{X i b s σ H E Q}j l m r I st g q=>by
  subst j l m;let(G,x,v,L):=g;let(z,R,p,M):=I.list v;let y:x[n-1-i]?=O x[n-1-i]:=av _;let(u,hu,A):=R.get y;let B:(n:Î)-1-i=(n-1-i:Ń):=()
  let f:=st.2;rw[B]at f;erw[wpAny_pyNext_rev_item f p.isList (by simpa using hu) λC D S=>q u _ C _ A (Ŗ,λY F=>by rw[I.vf F v];rwa[y]) (da ‹_›,?_) S.extBut];rw[show(n:Î)-1-(i+1:Ń)=(n-1-i:Ń)-1 by lia];rwa[D]) (λ{X i b s σ H E Q}j l m r I st g q=>by let g:n<=i:=g;let f:=st.2;rw[show(n:Î)-1-i=-1 by lia]at f;rwa[wpAny_pyNext_rev_end (I.ok.hd r) f q]) λst h=>Ğ st.2 h
def ajK(K:Å)(t:TA):TI:=λσ H R=>t σ H λv h=>∃a x,v=[.A a]/\gB K h a x/\R (wf K a (Á x)) h
def AA:dN "reversed"=O (.type "reversed"):=by rfl
def F'(g:Gl X "reversed")(m:X.mg "reversed"=ao)(d:PA X [a] t)(f:c7 [a] X.env=[(bb,Ê a X.env)]):PI X tg (.Call (.Name "reversed" p) [a] [] pos) (ajK X.K t):=by intro P s σ H R I h;erw[Call_ (l8 I g m AA (dc (Qf (d pos _ s σ H _ I h) λU s1 z j c k Q=>?_) f Ŗ))];let(l,x,rfl,n,q):=Q;cases k with|g r u=>
  cases u;cases r;let(i,v,w,A):=c.list n;let st:(s1.heap.push (revObj l _)).IsRevIter _ l (Á x-1-(0:Ń)):=(_,ar _ Ŗ,Ŗ,by rw[v.length,show(i.length:Î)-1-(0:Ń)=i.length-1 by lia];rfl);erw[call_reversed_list w.isList (Ğ st ?_)];erw[(_,_,_,_,j,Ŗ,c.kept λb o e=>ae _ e,Ph l _ _,(cw _,st),λb y=>?_,q)];let e:=by simpa using y
  subst e;rwa[c.AX (aq _) (c.cV.fresh (aq _))]
end L2
namespace F
open L2
def RU(l n:Ń):Pw:=λh x=>Iv h (.r l)=O x.reverse/\Á x=n
def ak5(A:Sm):Ig:=λX σ h Q=>A X σ h λds H=>match ds with|[.r l]=>fH (Iv H (.r l)) (λx=>Q (RU l (Á x)) H) ŧ|[.p (.L x)]=>Q (λ_ y=>y=x.reverse.map .p) H|_=>ŧ
def adN(d:M[l]?=O a):JG Y G M H (wf Y.K a n) (RU l n):=λm o q u f B e r p=>by
 let(p,hn):=p;let(C,s,g,s1,I):=Gh (x:=.r l) r (a,e.at d,Ŗ) p;cases g;let hl:=I.len;rw[el]at hl;erw[(λi x c=>?_,eI hn.symm)];let(D,ex):=aw.mp c;let h:f.reverse[n-1-i]?=O x:=by rw[um (),<-c];congr 1;lia
 let(v,j,b):=I.get h;erw[(((),s,.inl (.inl s1),()),λw F z=>z.elim λk y=>?_)];subst k;let hw:=y s (.inl (.inl s1));rw[j]at hw;cases hw;exact(Ext.refl,r,b)
def Z3(n:a∉M)(k:H a=O (.L vs))(I:∀g m H' h',(∀b∈g,b∈G\/H b=ao)->Ext M H m H'->bj (Y.z g) m H' h'->aW (Y.z g) m H' xs vs):JG Y G M H (wf Y.K a (Á vs)) λ_ ys=>ys=xs.reverse.map .p:=λg m H' h' ys l e r p=>by
 subst p;let s1:=e.keep a _ n k;let i1:=I g m H' h' l e r;let hl:=i1.len;erw[(λi x f=>?_,by show _<=_;rw[af,el];lia)];rw[aR]at f;let(z,h,rfl):=cZ.mp f;let(j,ex):=aw.mp h;rw[el]at j;let c:xs[Á vs-1-i]?=O z:=by rw[um j]at h;rw[<-h];lia
 let(v,o,d):=i1.get c;erw[(((),vs,.inl (.inl s1),Ŗ),λw F Z=>Z.elim λq y=>?_)];subst q;let hw:=y vs (.inl (.inl s1));rw[o]at hw;cases hw;exact(Ext.refl,r,d)
def Uo(g:Gl X "reversed")(y:X.mg "reversed"=ao)(z:PE X a (cL 'X' E A))(D:bW a):PI X tg (.Call (.Name "reversed" p) [a] [] pos) (O0 'X' E (ak5 A)):=(F' g y (Tn z kD D) (cx D)).imp λτ H R Z=>by let(G,M,σ,h,B,Q,k,q):=Z;erw[(G,M,σ,h,B,_,(k.rel,k.env,λd f m j v n b i c=>?_,k.exc),q)];show ∃a o,[v]=[V.A a]/\_;induction d with|r l=>let(o,ex,c):=b9 c;let(a,C,u):=id i;let(F,s,w,s1,I):=Gh b i ex;rw[u]at w;cases w;erw[(a,s,by rw[u],gB.of s1,k.out _ f m j _ n b (adN C) ?_)];rw[<-I.len];rwa[c]|p x=>cases x with|L o=>let(a,s,rfl,N,s1,I):=i;exact(a,s,Ŗ,gB.of s1,k.out _ f m j _ n b (Z3 N.1 s1 λK P S T g e U=>aW.mv (e.mv b) (aW.wk g I)) c)|_=>left
def Jg.rev{Γ:Gm}{t:Tb}(A:Em Γ t):Jg Γ t:=(_,λS _ x=>lZ _ _&&gz (λf s k _=>wD k&&(ua S _ f&&iU (l1 s) _)) x,λo h=>by let(a,h):=ag h;erw[dC h λf s k q h=>?_];let(b,h):=ag h;let(c,h):=ag h;let(e,d,h):=b8 h;let(p,g,i,_):=eL o c;rw[fk b,eG d,g];rwa[Uo i (o.bl _ (gv a)) (A.pe o (ag h).2) (ag h).1])
end F
namespace L2
def KE(t ty:TE):TE:=λσ H Q=>t σ H λx c=>∃a,x=.A a/\eP c a/\ty σ c λy h=>∃b k,h a=O (.dK b)/\y=kV k/\∀p,h p=ao->(∀v,jh b k=O v->Q v (de h p (.L [])))/\(jh b k=ao->Á b<Ã/\Q (.A p) (de (de h p (.L [])) a (.dK (jK b k (.A p)))))
def L_(N:PE X o T)(R:PE X e ty)(m:M2 X o "setdefault" b e (.List [] lp) D):PE X (.Call (.Attribute o "setdefault" b) [e,.List [] lp] [] D) (KE T ty):=by
 intro P s σ H Q I h;erw[wpAny_Call_method m.base m.few m.line jw Kk PySem.F.type_dict_setdefault (jf (N P s σ H _ I h) λu s1 x S C U a=>?_)];let(a,ex,d,W):=a;subst ex;obtain rfl:u=Ò a:=U;let(Z,t2,_):=Mc C d;erw[(Z,t2,?_)];rw[m.trees];erw[gG Ŗ (eM (dh (jf (R P s1 σ S _ C W) λiv s2 y f I2 ry (g,k,j,ey,q2)=>dh (jf (D6 (pos:=lp) kD P s2 σ f (λz G=>∃p,z=.A p/\f p=ao/\G=de f p (.L [])) I2 (cw _,λp i=>(p,Ŗ,i,Ŗ))) λfv s3 z G l rz (p,ez,i,eH)=>fN ?_))))];subst ey ez eH;obtain rfl:fv=Ò p:=rz;let ne:a≠p:=λz=>by rw[z,i]at j;cases j
 let E:de f p (.L []) a=O (.dK g):=by rw[bw ne];rwa[j]
 let(q3,q4):=q2 p i;let(z,K,M,rel,dd):=WC l.cV E;let hz:Á M<=Ã:=by rw[<-rel.length];rwa[z]
 erw[sG Kk dd.typeIs PySem.F.entry_dict_setdefault (PySem.F.args_dict_setdefault_3 _ _ _) (kt_meets_setdefault (dO X.prog X.w) a (sk ry) K (.ref p)) (M,dd,hz,λv n=>?_,λn h' Y hs=>?_)];.let r:=rel.val k;rw[n]at r;induction c:jh g k with|a=>rw[c]at r;rwa[r.elim]|c t=>rw[c]at r;exact(t,_,l.tok _,r,q3 t c)
 .let r:=rel.val k;rw[n]at r;induction c:jh g k with|c t=>rw[c]at r;rwa[r.elim]|a=>
   let(hl,q5):=q4 c;let B:=by let:=kf g k (.A p);rwa[aA ‹_› ‹_›]
   exact(.A p,_,yG l (by rw[E];rwa[å]) hs (let (q,_,_,hq,_):=Y;(q,hq)) (yK B K (rel.put k Ŗ) Y),Ŗ,q5)
end L2
namespace F
open L2
def oo:Ő Ob->Ő (ϑ×Ł Dv)|O (.E k ds)=>O (k,ds)|_=>ao
def yP(e:oo o=O p):o=O (.E p.1 p.2):=by
 delta oo at e;split at e;.cases e;rfl
 .cases e
def lX(k:Pv):ϑ->Ł Dv->Ő Dv
 |K::s,d::ds=>match lz K k with|J=>O d|bb=>lX k s ds
 |_,_=>ao
section
variable{Γ:Gm}{t:Tb}{X:Cx}{E:XK}{A B C:Sm}{Y:T0}{G M:Ł À}{H:Hp}
theorem yQ(c:j3 k=O κ):∀{ks:ϑ}{ds:Ł Dv}{b:Ł _},aW (Y.z G) M H ks (b.map λp=>kV p.1)->cH (Y.z G) M H ds (b.map (·.2))->(∃d v,lX k ks ds=O d/\jh b κ=O v/\eP (Y.z G) M H d v)\/lX k ks ds=ao/\jh b κ=ao
 |[],[],[],_,_=>.inr (Ŗ,Ŗ)|K::ks,d::ds,p::b,h,a=>by
  let e:=ve (MC h.1) c;by_cases z:p.1=κ;.rw[cA z]at e;rwa[.inl (d,p.2,by rw[lX,e],lH z,a.1)]
  .rw[cn z]at e;let f:lX k (K::ks) (d::ds)=lX k ks ds:=by show(match lz K k with|J=>O d|bb=>lX k ks ds)=_;rw[e]
   rw[f,lG z];rwa[yQ c h.2 a.2]|[],_,_::_,h,_=>h.elim|_::_,_,[],h,_=>h.elim|_,[],_::_,_,a=>a.elim|_,_::_,[],_,a=>a.elim
def UA{κ:cs}(h:jh a κ=ao):jK a κ v=a++[(κ,v)]:=by delta jK;rw[bN];rw[Bool.not_eq_true,B1];intro p b c;induction a with|f=>cases b|g q r i=>
  by_cases e:q.1=κ;.rw[lH e]at h;cases h
  .rw[lG e]at h;rcases aB.mp b with z|z;.subst z;rwa[e (bB c)]
   .rwa[i h z]
def Ii(A B:Sm):Sm:=λx σ h Q=>A x σ h λs b=>match s with|[.r i]=>gd (oo b[i]?).isSome (B x σ b λy a=>match y with|[.p k]=>fH (j3 k) (λ_=>fH (oo a[i]?) (λp=>fH (lX k p.1 p.2) (λd=>Q [d] a) (gd (qC (Á p.1+1)) (Q [.r (Á a)] (List.set (a++[Ob.L []]) i (Ob.E (p.1++[k]) (p.2++[Dv.r (Á a)])))))) ŧ) ŧ|_=>ŧ)|_=>ŧ
def Ϝ(h:cL 'X' E (Ii A B) τ H QV):KE (cL 'X' E A) (cL 'X' E B) τ H QV:=by let(G,M,σ,h,z,Q,k,q):=h;erw[(G,M,σ,h,z,_,(k.rel,k.env,λd h1 M1 H1 v j D i1 l=>?_,k.exc),q)];induction d with|p _=>left|r i=>let(c1,l):=cg l;let(p1,R1):=fY.mp c1;let(a,F,rfl):=i1;let(K,s1,_):=D.at' F (yP R1);erw[(a,Ŗ,.inl (K,.inl s1),G,M1,σ,h1,z,_,(D,k.env.ext k.rel j,λd2 N M2 m v2 n R P b=>?_,k.CZ j),l)];induction d2 with|r _=>left|p kk=>
   let(κ,S,b):=b9 b;obtain⟨⟨ks,ds⟩,ho,b⟩:=b9 b;let T:=n.at F;let(U,s2,I,id):=R.at' T (yP ho);let W:=DO S P;erw[(U,κ,s2,W,λp e=>?_)];rcases yQ S I id with ⟨d,w,x,s,u⟩|⟨x,s⟩;.erw[(λw' y=>?_,λhn=>nofun)];rw[s]at y;cases y;let q3:=Ni b x;rwa[k.out d N M2 _ w (j.trans (n.trans (Ext.add e))) (R.add (o:=.L []) e) (u.ext R (Ext.add e)) q3]
   .erw[(λw' y=>nofun,λ_=>?_)];let(c,b):=cg (Nh b x);erw[(by let:=I.len;rw[af]at this;let:=fU c;lia,?_)];let r4:=R.push (o:=.L []) e ([],bA,Ť);let f:Ext M2 m _ (de m p (.L [])):=Ext.push R e;let Z:=f.at T;let g:Ext _ (de m p (.L [])) _ (de _ a (.dK (jK U κ (.A p)))):=Ext.put (aP Z);rw[UA s]at g⊢;let gp:(M2++[p])[Á N]?=O p:=by rw[<-R.ln,aI (aq _),eZ];rfl
    erw[k.out (.r _) _ _ _ _ (j.trans (n.trans (f.trans g))) (r4.put (o:=.E _ _) Z (_,bA,?_,?_)) (p,gp,Ŗ) b];.rw[aN];erw[((I.ext R f).ext r4 g).app (?_,Ť)];let i3:=((P).ext R f).ext r4 g;rw[W]at i3;rwa[i3]
    .rw[aN];exact((id.ext R f).ext r4 g).app ((p,gp,Ŗ),Ť)
def li(h:Hs)(k:Pv)(x:Dv):Ő (Ő Dv):=match Lg h x with|O (K,u)=>O ((hW k K u).map .p)|ao=>match x with
  |.r i=>match oo h[i]? with|O (K,ds)=>O (lX k K ds)|ao=>ao
  |_=>ao
def Oz(A B C:Sm):Sm:=λc σ h Q=>A c σ h λs a=>match s with|[x]=>gd (li a .N x).isSome (B c σ a λy d=>match y with|[.p k]=>fH (j3 k) (λ_=>C c σ d λZ b=>match Z with|[z]=>fH (li b k x) (λo=>Q [o.getD z] b) ŧ|_=>ŧ) ŧ|_=>ŧ)|_=>ŧ
def Zq(g:j3 k=O κ)(r:bj (Y.z G) M H h)(i:eP (Y.z G) M H x v)(e:li h k x=O o):∃a b,v=.A a/\Rd H a (.dK b)/\((∃d w,o=O d/\jh b κ=O w/\eP (Y.z G) M H d w)\/o=ao/\jh b κ=ao):=by
 delta li at e;split at e
 .ext K u j;cases e;let(a,b,l,s1,d1):=tQ r i j;erw[(a,b,l,s1,?_)];rcases yI g d1 with ⟨p,w,c,f,m⟩|⟨c,f⟩;.rwa[.inl (.p p,w,by rw[c];rfl,f,m)]
  .rwa[.inr (by rw[c];rfl,f)]
 .split at e
  .split at e;.ext K ds n;cases e;let(a,q,rfl):=i;let(b,s1,I,id):=r.at' q (yP n);exact(a,b,Ŗ,.inl s1,yQ g I id)
   .cases e
  .cases e
def Zp(r:bj (Y.z G) M H h)(i:eP (Y.z G) M H x v)(e:li h k x=O o):∃a,v=.A a/\L2.eP H a:=by
 delta li at e;split at e;.ext d;let(a,b,c,s1,_):=tQ r i d;exact(a,c,.inl (b,s1))
 .split at e
  .split at e;.ext f;let(a,g,rfl):=i;let(b,s1,_):=r.at' g (yP f);exact(a,Ŗ,.inl (b,.inl s1))
   .cases e
  .cases e
def YY(h:cL 'X' E (Oz A B C) τ H QV):OZ (cL 'X' E A) (cL 'X' E B) (cL 'X' E C) τ H QV:=by let(G,M,σ,h,x,Q,k,q):=h;erw[(G,M,σ,h,x,_,(k.rel,k.env,λd F K H1 v e R I g=>?_,k.exc),q)];let(L,g):=cg g;let(o1,Z):=fY.mp L;let(a,rfl,i):=Zp R I Z;erw[(a,Ŗ,i,G,K,σ,F,x,_,(R,k.env.ext k.rel e,λd2 N M2 H2 v2 b j P l=>?_,k.CZ e),g)];induction d2 with|r _=>left|p kk=>
  let(κ,s,l):=b9 l;erw[(G,M2,σ,N,x,_,(j,k.env.ext k.rel (e.trans b),λS u y D T c m U f=>?_,k.CZ (e.trans b)),l)];let(o,W,f):=b9 f;let(a',aO,ea,s3,z):=Zq s m ((I.ext R b).ext j c) W;cases ea;erw[(_,.inl (aO,κ,s3,DO s ((P).ext j c),Ŗ),?_)];rcases z with ⟨d,w,rfl,n,id⟩|⟨rfl,n⟩;.rw[n];rwa[k.out d u y D w (e.trans (b.trans c)) m id f]
  .rw[n];rwa[k.out S u y D T (e.trans (b.trans c)) m U f]
def WX(h:ft o m X.env (Ê o X.env)=Ê o X.env)(a:bW e)(b:bW f)(l:(cr.endLine==dg.line)):M2 X o m cr e f dg:=(h,uR nofun (by show 2<30;decide),l,by rw[cx a,cx b];rfl)
namespace Em
def dg2(a A B:Em Γ t):Em Γ t:=(_,λS=>im S _ a λe=>iU (l2 e) _,λo h=>rM h λl e s D d f i j=>by let(p,k,g):=b8 d;let(b,c):=ag g;rw[mn k];exact(Nv o.P9 (a.pe o f) (A.pe o (ag c).1) (B.pe o (ag c).2) (WX (lV i) (ag b).1 (ag b).2 j)).imp λ_ _ _=>YY)
def Ϸ:Ä->Þ:=A1 λe _=>u0 e
def sdf(a A:Em Γ t):Em Γ t:=(_,λS=>im S _ a λs=>iU (l2 s) λp=>bW p.1&&(A.ck S p.1&&Ϸ p.2),λo h=>rM h λq s c D d i j k=>by obtain⟨⟨e,f⟩,l,g⟩:=b8 d;let(m,n,b):=iY g;rw[mn l];erw[zZ b λs p b=>?_];rw[gD b];exact(L_ (a.pe o i) (A.pe o n) (WX (lV j) m Ŗ k)).imp λ_ _ _=>Ϝ)
end Em
end
end F
namespace F
open L2
def tK(k:Ł cs):Pv:=.T (k.map xu)
def Xb:ON:=λds h Q=>match ds with|[.r i]=>fH (lw h[i]?) (λk=>gd (Ñ (Á k) 64&&wl k) (Q (.p (.L ((JF k).map tK))) h)) ŧ|_=>ŧ
theorem Gf{Y:T0}:∀{k:Ł cs},aW (Y.z G) M H (k.map xu) (k.map kV)|[]=>Ť|κ::r=>(MB,Gf)
def Z4(e:lw o=O ks):o=O (.K ks):=by
 delta lw at e;split at e;.left
 .cases e
def Mn:oW Y (λxs H Q=>∃(a:À)(d:Ł _),xs=[.A a]/\H a=O (.dT d)/\Á d<64/\wl (d.map (·.1))=J/\∀(D:À)(vs:ϕ),H D=ao->Paired (λv k=>∃b,v=V.A b/\H b=O (.T (k.map kV))) vs (JF (d.map (·.1)))->Q (.A D) (de H D (.L vs))) Xb:=λG M h H xs vs Q u r i q out=>by
 delta Xb at q;split at q
 .let(v,rfl,I):=i.oz;let(ks,g,q):=b9 q;let(c,q):=cg q;let(C,j):=ag c;let(a,m,rfl):=I;let e:(ks.map λk=>á k (V.B J)).map (·.1)=ks:=by rw[aV];rwa[List.map_id ks]
  erw[(a,_,Ŗ,r.at' m (Z4 g),by rw[af];rwa[aj C],by rw[e];rwa[j],λD ws f p=>?_)];rw[e]at p;erw[out _ h M _ _ (Ext.add f) (r.add f) (jI r f ?_) q];generalize JF ks=l at p;induction p with|f=>done|g n _ o=>let(b,rfl,s):=n;exact((b,_,Ŗ,gF.of s,Gf),o)
 .left
def ϔ:Bi:=(_,_,_,λh g m a hn j d=>xE (yt (h Ŗ)) Mn g m xb a hn j d)
def aeu:O1:=λx h Q=>fH (lA h x) (λa=>fH (fT a) (λws=>gd (Ë (Á (dW ws)+1) 64) (∀s:ϐ,s.Perm (dW ws)->sortedS s->Q (.p (.L (s.map .S))) h)) ŧ) ŧ
theorem GS{Y:T0}:∀{s:ϐ},aW (Y.z G) M H (s.map Pv.S) (s.map V.S)|[]=>Ť|_::_=>(Ŗ,GS)
def TR(i:X.calm)(l:Gl X "sorted")(m:X.mg "sorted"=ao)(I:Gl X "set")(s:X.mg "set"=ao)(n:PE X e (cL 'X' E A))(u:bW e):PE X (.Call (.Name "sorted" p) [.Call (.Name "set" p2) [e] [] B] [] pos) (cL 'X' E (s1 aeu A)):=(Np (sT i) l m xb (Tn (Nq (mU i) I s KH (Tn n kD u) ∅ rfl nofun) kD Ŗ) ∅ rfl rfl).imp λτ H T z=>by let(G,M,σ,h,x,Q,k,q):=z;erw[(G,M,σ,h,x,_,(k.rel,k.env,λd y C U v F r K f=>?_,k.exc),q)];let(W,ex,f):=b9 f;let(ws,L,f):=b9 f;let(c,f):=cg f;let(a,Z,rfl,s1,N):=fX r K ex;rw[nN L N]at s1;erw[(a,ws,Ŗ,gB.of s1,aj c,λb j=>(b,_,Ŗ,bA,aj c,λD S g P R=>?_))];let r2:=r.add (o:=.ext λh=>ki X.prog X.w h b (dW ws)) j;rwa[k.out _ y C _ _ (F.trans ((Ext.add j).trans (Ext.add g))) (r2.add g) (jI r2 g GS) (f S P R)]
def Em.aal{Γ:Gm}{t:Tb}(A:Em Γ t):Em Γ t:=(_,λS=>gz λf e k _=>S.cm&&wD k&&(ua S _ f&&(lZ _ _&&(lZ _ _&&iU (l1 e) (gz λg s l _=>wD l&&(ua S _ g&&iU (l1 s) _))))),λo h=>by erw[dC h λf e k p h=>?_];let(a,h):=ag h;let(b,h):=ag h;let(c,h):=ag h;let(d,h):=ag h;let(x,i,h):=b8 h;let(P,j,m,y,hn):=eL o b;rw[fk (ag a).2,eG i,j];erw[dC h λg s l q h=>?_];let(n,h):=ag h;let(r,h):=ag h;let(x,u,h):=b8 h;let(z,v,I,w,Z):=eL o r;rw[fk n,eG u,v];rwa[TR (o.hc (ag a).1).1 m (o.bl _ (gv c)) I (o.bl _ (gv d)) (A.pe o (ag h).2) (ag h).1])
end F
namespace L2
def C1(K:Å)(a:À):It:=(λi H=>∃X x,gB K H a X/\X[i]?=O x,λi H v h=>∃T,H T=ao/\v=.A T/\∀X x,gB K H a X->X[i]?=O x->h=de H T (.T [.I i,x]),λi H=>∃X,gB K H a X/\Á X<=i)
def Jy{p:Ł _}{σ:È}(I:Inv X p σ H s)(h:gB X.K H t xs)(f:kY X p H b):t≠b:=by
 rintro rfl;let(a,c,d,F,g,j):=f;rcases h with(h|⟨o,h⟩)|⟨o,i,n,k,_⟩;.left
 .left
 .let e:=I.ok.mod.DL t o k;rcases F with q|q;.rwa[I.ok.tj t o e q]
  .rwa[Ă (aY (ax e) (aA I.ok.Az q)) (bU _)]
def JV{K:Å}(D:z≠c):uz P w K (.Tuple es k pos) (C1 K a) [z,c] z λi h=>(∃j,IsEnum h z c i j)/\h.IsListIter c a i where
 mem:=.head _;obj:=λi h st e d=>by
  obtain⟨⟨j,Z⟩,o1,e1,c1,d1⟩:=st;rcases aB.mp d with rfl|d;.exact(_,Z,λv g=>õ g)
  .rw[aG.mp d];exact(_,e1,λv g=>õ (d1.symm.trans g))
 keep:=λi h h' st F=>by obtain⟨⟨j,Z⟩,y⟩:=st;exact((j,F z (.head _) _ Z),y.at λo e=>F c (.tail _ (.head _)) o e)
 item:=by
  intro X L M Q hc i p s σ H E I l st R;subst L M Q;erw[cps λG k=>?_];let(xs,x,B,S):=R;obtain⟨⟨j,Z⟩,y⟩:=st;let(U,W,Y,l1):=I.list B;let(u1,P9,Φ):=W.get S;let PX:=λ(e:À)(d:e ∈[z,c])=>Jy I B (l e d);erw[k (wpAny_pyNext_enum_item Z y Y.isList (x:=u1) (by simpa using P9) D λhp Zo z2 pr sz F=>?_)];erw[(_,Ŗ,wpAny_letOwnedTupleGo_enum Zo λhq zq sq=>?_)];let N:H s.heap.objs.size=none:=I.fresh;let C:∀e o,e ∉[z,c]->s.heap.get? e=O o->hq.get? e=O o:=λe o d g=>sq.extBut _ _ (λq=>d (q▸.head _)) (F e o (λq=>d (q▸.head _)) (λq=>d (q▸.tail _ (.head _))) g);let Tz:s.heap.objs.size≠z:=dA (ax Z);let prq:=sq.extBut _ _ Tz pr;let t:∀e u,H e=O u->e ∉[z,c]:=λe u d hm=>by let:H e=none:=(l e hm).1;rw[this]at d;cases d
  let LV:jY X.prog X.w (de H s.heap.objs.size (.T [.I i,x])) hq:=λe u d=>by
   by_cases ee:e=s.heap.objs.size;.subst ee;rw[bA]at d;cases d;exact(by show 2<=Ã;decide,[.int i s.toks,u1],.cons (_,Ŗ) (.cons Φ .nil),(_,prq,Ŗ,_,Ŗ))
   .rw[bw ee]at d;erw[(I.cV e u d).tm (λf o LN g=>C f o ?_ g) (λf g=>by rw[bw (b7 g N)];rwa[g]) λf zs g=>by rw[bw (b7 g N)];rwa[g]]
    rcases LN with rfl|LN;.rwa[t f u d]
    .rwa[t f _ LN]
  let I1:Inv X p σ (de H s.heap.objs.size (.T [.I i,x])) {s with heap:=hq,toks:=s.toks+1}:=by
   erw[I.step (g':=s.gens) (d':=s.drawn) (t':=s.toks+1) (λe d=>?_) (λe o _ _ d g _=>C e o d g) (λe o _ _ d g _=>(_,C e o d g)) (λe o _ g n=>by rw[bw (aF (ax g))];rwa[n]) (λe o d g=>(o,C e o d g)) (λe zs g=>by rw[bw (b7 g N)];rwa[g]) (λe o u g=>by rw[bw (b7 g N)];rwa[g]) (λe ps g=>(#[],by rw[bw (b7 g N),g];simp)) (λm hm=>?_) LV I.bare];.let(f0,f1,f2,f3,f4,f5):=l e d;exact(f3,f1,f4,f5)
   .let(o,Lz,ep,ho,r):=hm;exact(o,Lz,ep,C _ o (λLR=>(l _ LR).2.1 Ŗ) ho,r)
  erw[(.A _,_,I1,Ŗ,(_,N,Ŗ,λxs' x' g1 gx=>?_),((_,by done),z2.extBut sq.extBut (cI D)),λe d=>?_)];.let e1:=I.vf g1 B;subst e1;rw[S]at gx;cases gx;rfl
  .rw[bw];.exact(l e d).1
   .rcases aB.mp d with rfl|d;.rwa[cI Tz]
    .rw[aG.mp d];let(o,ho,_):=y;rwa[aF (ax ho)]
 done:=by intro X L M Q hc i p s σ H E I l st R;subst L M Q;erw[cps λG k=>?_];let(xs,B,S):=R;obtain⟨⟨j,Z⟩,y⟩:=st;let(U,W,Y,l1):=I.list B;let e1:=W.length;let(f0,f1,f2,f3,f4,f5):=l c (.tail _ (.head _));rwa[k (wpAny_pyNext_enum_end (I.ok.hd hc) Z y Y.isList nofun λh' eb=>(Ŗ,I.turned (λb o hb e=>eb b o hb e) f0 f1 f3 f4 f5))]
 self:=λ_ _ _ _ _ st h=>by obtain⟨⟨j,Z⟩,_⟩:=st;rwa[wpAny_pyIter_enum Z h]
def adC(K:Å)(t:TA):TI:=λσ H R=>t σ H λv h=>∃a x,v=[.A a]/\gB K h a x/\R (C1 K a) h
def yk:dN "enumerate"=O (.type "enumerate"):=by rfl
def Ul(g:Gl X "enumerate")(m:X.mg "enumerate"=ao)(j:PA X [a] t)(n:c7 [a] X.env=[(bb,Ê a X.env)]):PI X (.Tuple es k v) (.Call (.Name "enumerate" p) [a] [] pos) (adC X.K t):=by intro P s σ H R I h;erw[Call_ (l8 I g m yk (dc (Qf (j pos _ s σ H _ I h) λU s1 D u i w Q=>?_) n Ŗ))];let(l,E,rfl,x,q):=Q;cases w with|g r y=>
  cases y;cases r;let(z,F,A,G):=i.list x;erw[call_enumerate_list A.isList λL f B sz C=>wpAny_pyIter_enum f ?_];erw[(_,_,_,_,u,Ŗ,i.kept λb o e=>C b o e,JV (),((_,f),B),λb d=>?_,q)];let c:s1.heap.objs.size<=b:=by
   rcases aB.mp d with rfl|d;.rwa[dG _]
   .rw[aG.mp d];rwa[aq _]
  rwa[i.AX c (i.cV.fresh c)]
end L2
namespace F
open L2
def HX:Ń->ϑ->ϑ|_,[]=>[]|n,x::X=>.T [.I n,x]::HX (n+1) X
theorem uO:∀(xs:ϑ)(n:Ń),Á (HX n xs)=Á xs|[],_=>Ŗ|_::xs,n=>cb (·+1) (uO xs _)
theorem uN:∀{xs:ϑ}{n i:Ń}{z:Pv},(HX n xs)[i]?=O z->∃x,xs[i]?=O x/\z=.T [.I (n+i:Ń),x]|[],_,_,_,e=>by cases e|x::xs,n,0,_,e=>by cases e;exact(x,Ŗ,Ŗ)|_::xs,n,i+1,_,e=>by let(x,h,H):=uN (xs:=xs) e;exact(x,h,())
def aky:O1:=λx h Q=>match x with|.p (.L X)=>Q (.p (.L (HX 0 X))) h|_=>ŧ
def Z2(r:bj (Y.z G) M H h)(n:a∉M)(d:H a=O (.L vs))(I:aW (Y.z G) M H xs vs):Qo Y G M H (C1 Y.K a) (HX 0 xs):=λl m f o g e R=>by let s:gB Y.K f a vs:=gB.of (e.keep a _ n d);erw[(λi z j=>?_,(vs,s,by rw[uO,I.len];rwa[aq _]))];let(x,k,rfl):=uN j;let(v,c,p):=(aW.mv (e.mv r) (aW.wk g I)).get k;erw[((vs,v,s,c),λu F T=>?_)];let(T,b,hu,y):=T;let e2:=y vs v s c;subst e2 hu;rw[cP];exact(Ext.add b,R.add b,A3 R b Ŗ p)
def NM(g:Gl X "enumerate")(m:X.mg "enumerate"=ao)(j:PE X a (cL 'X' E A))(b:bW a):PI X (.Tuple es k0 f) (.Call (.Name "enumerate" p) [a] [] pos) (wR 'X' E (Ik (s1 aky A))):=(zB (Ul g m (Tn j kD b) (cx b))).imp λτ H R z=>by let(G,M,σ,h,x,Q,k,q):=z;erw[(G,M,σ,h,x,_,(k.rel,k.env,λd b l n v o e I c=>?_,k.exc),q)];show ∃a s,[v]=[V.A a]/\_;induction d with|r _=>rwa[c.elim]|p d=>cases d with|L s=>let(a,u,rfl,N,s1,i):=I;exact(a,u,Ŗ,gB.of s1,λhd=>k.out _ b l n _ o e (Z2 e N.1 s1 i) (by rw[uO,i.len];rwa[hd.len (.inl (gB.of s1))]) c)|_=>rwa[c.elim]
def Jm.e{Γ:Gm}{t:Tb}(A:Em Γ t):Jm Γ t:=(_,λS T x=>Ab (λ_ _ _=>lZ _ _&&gz (λf s k _=>wD k&&(ua S _ f&&iU (l1 s) _)) x) T,λo h=>by erw[jt h λs K j h=>?_];let(a,h):=ag h;erw[dC h λf l k pos h=>?_];let(b,h):=ag h;let(c,h):=ag h;let(e,d,h):=b8 h;let(p,g,i,_):=eL o c;rw[fk b,eG d,g];rwa[NM i (o.bl _ (gv a)) (A.pe o (ag h).2) (ag h).1])
def ak8(t:Æ->Ő ϐ)(A B:Sm):Sm:=λx σ h Q=>A x σ h λX a=>match X with
 |[.p (.S z)]=>B x σ a λY H=>match Y with|[d]=>fH (t z) (λk=>∃y,k=[y]/\Q [.p (.S y)] H) (Q [d] H)|_=>ŧ
 |_=>ŧ
def aaC(h:cL 'X' E (ak8 T A B) τ H QV):XF T (cL 'X' E A) (cL 'X' E B) τ H QV:=by let(G,M,σ,h,x,Q,k,q):=h;erw[(G,M,σ,h,x,_,(k.rel,k.env,λd j m s v b l I n=>?_,k.exc),q)];induction d with|r _=>left|p d=>cases d with
  |S z=>erw[(z,jA I,G,m,σ,j,x,_,(l,k.env.ext k.rel b,λd2 c M2 f u g R o a=>?_,k.CZ b),n)];induction i:T z with|c K=>rw[i]at a;let(y,rfl,a):=a;intro Y e;cases e;rwa[k.out (.p (.S y)) c M2 f _ (b.trans g) R rfl a]|a=>rw[i]at a;rwa[k.out _ c M2 f _ (b.trans g) R o a]
  |_=>left
def Em.tgs{Γ:Gm}{t:Tb}(i:Ń)(A B:Em Γ t):Em Γ t:=(_,λS=>gz λg s k q=>wD k&&(Ë 50 i&&(!Nat.ble 100 i&&gX i _)&&ER (λf m p=>ua S _ f&&(cQ m _&&(p.endLine==q.line&&iU (l2 s) λz=>bW z.1&&bW z.2&&(A.ck S z.1&&B.ck S z.2)))) g),λo h=>by erw[dC h λg s k q h=>?_];let(a,h):=ag h;let(b,h):=ag h;rw[fk a];erw[nR h λf m p h=>?_];let(c,h):=ag h;let(d,h):=ag h;let(j,h):=ag h;let(e,l,h):=b8 h;let(P,n,r,u,hn):=eL o c;let(G,v,w):=iY b;let(ad,x,T):=o.tab i (cy.mp w);replace T:=aaz G (fG v) T;rw[bX.mp d,mn l,n];let(k1,k2):=ag h;exact(TH T r x (A.pe o (ag k2).1) (B.pe o (ag k2).2) u rfl (uR nofun (by show 2<30;decide)) j (by rw[cx (ag k1).1,cx (ag k1).2];rfl)).imp λ_ _ _=>aaC)
end F
namespace L2
structure XR(K:Å)(x cN:Æ)(st:É)(f:À)(fd:c'):ß where
 ex:∃(oc:Â)(od:Ő À)(dV kV doc pm:Â)(an:Ő À)(eK ct:Â)(rQ:Array (Ő Â)),fd=fnOf x cN (hV st) (bR st) (ay st) dV kV doc pm an eK ct/\K.lookup f=O (oc,od,.func fd,rQ)/\codeIn K eK cN=J
 kp:keepIn K (.ref f)=J
structure Av(K:Å)(mg:c4)(x:Æ)(st:É)(ps:ϐ)(ds:Ł Â):ß where ex:∃(f:À)(fd:c'),XR K x x st f fd/\mg x=O (.ref f)/\Binds K fd ps []/\Binds K fd ps ds
structure Ck(K:Å)(C:À)(cN:Æ)(st:É)(ps:ϐ)(ds:Ł Â):ß where ex:∃(f:À)(fd:c'),XR K "__init__" cN st f fd/\Mk K C f/\Binds K fd ps []/\Binds K fd ps ds
def Av.okX{K:Å}{st:É}(S:Av K mg x st ps ds)(F:cU N ps (ay st))(len:∀vs H Q E,sp vs H Q E->Á vs=Á ps)(i:∀(f:À)(e:Â)(A:cp)(o:Ł Û)(s:am)(H:Hp)(vs:ϕ)(Q:VK)(E:XK),fe k (A.deeper (envOfC x (ay st) s.heap.objs.size f e))->sp vs H Q E->∃t,jZ (oh (qI P w) P w K mg base N x (ay st) f e A o s H E) (bR st) t/\t {nx:=λ_ H'=>Q .g9 H',rt:=Q} (start N vs) H):kX P w K mg base (k+1) x ps sp/\∀(wQ:Sp)(dvs:ϕ),Vals dvs ds->(∀vs H Q E,wQ vs H Q E->sp (vs++dvs) H Q E)->v9 P w K mg base (k+1) x wQ:=by let(f,j,a,m,c,h):=S.ex;let(oc,l,D,kV,doc,p,n,e,q,R,rfl,lk,d):=a.ex;let b:=xq lk d F len λA o s H vs Q E r y=>i f e A _ s H vs Q E r y;exact((f,_,b,m,a.kp,c),λwQ dvs v g=>(f,_,ps,sp,ds,dvs,b,m,a.kp,h,v,g))
def Ck.ok{K:Å}{mg:c4}{base:Ç}{x cN:Æ}{st:É}{ps N:ϐ}{k:Ń}{sp:Sp}{ds:Ł Â}{C:À}(S:Ck K C cN st ps ds)(b:mg x=O (.ref C))(F:cU N ps (ay st))(len:∀vs H Q E,sp vs H Q E->Á vs=Á ps)(i:∀(f:À)(e:Â)(A:cp)(o:Ł Û)(s:am)(H:Hp)(vs:ϕ)(Q:VK)(E:XK),fe k (A.deeper (envOfC cN (ay st) s.heap.objs.size f e))->sp vs H Q E->∃t,jZ (oh BP P w K mg base N cN (ay st) f e A o s H E).BX (bR st) t/\t {nx:=λ_ H'=>Q .g9 H',rt:=Q} (start N vs) H):lR P w K mg base (k+1) x C ps sp/\∀(wQ:Sp)(dvs:ϕ),Vals dvs ds->(∀vs H Q E,wQ vs H Q E->sp (vs++dvs) H Q E)->∀p,lR P w K mg base (k+1) x C p wQ:=by
 let(f,n,d,m,g,a):=S.ex;let(oc,u,D,kV,doc,z,B,e,G,R,rfl,lk,j):=d.ex;let c:=xq lk j F len λA o s H vs Q E r y=>by let(t,h,q):=i f e A _ s H vs Q E r y;exact(t,h.BX,q)
 exact((f,_,ps,sp,[],[],c,m,g,.nil,λ_ _ _ _ h=>by rw[aK];rwa[h],b),λwQ dvs v l p=>(f,_,ps,sp,ds,dvs,c,m,a,v,l,b))
end L2
namespace F
open L2
section
variable{Γ:Gm}{t:Tb}
namespace Em
def cld(ρ:Ϙ)(c:Ń)(A:Am Γ t):Em Γ t:=(GI ρ _ A.m,λS x=>Ë 90 c&&(!Nat.ble 100 c&&gX c _)&&(S.cm&&Wy S _ A x),λ{k S X E x}o h=>by let(g,h):=ag h;let(G,a,b):=iY g;let(ps,D):=o.kK c (cy.mp b);let(f,H,d,R):=((ZK G (fG a) D).mono (dG k)).runs (o.room (ag h).1) o.hp;rwa[oZ o (ag h).2 λ_ _ _ _ e i hn pa p=>Bl R H d e pa i p])
end Em
end
end F
namespace F
open L2
def GV(d:∀G M H,cH (Y.z G) M H dd dvs)(b:∀ds h Q x,a ds h Q x->C (ds++dd) h Q x)(vs:ϕ)(H:Hp)(Q:VK)(E:XK)(q:dB Y a vs H Q E):dB Y C (vs++dvs) H Q E:=by let(G,M,h,ds,f,x,r,i,c,out,e):=q;exact(G,M,h,_,f,x,r,i.app (d G M H),b _ _ _ _ c,out,e)
def Ms.acE{K:Å}{st:É}{ps:ϐ}{C:Ct}(B:Ms Γ t)(z:Þ)(d:Av K mg x st ps us)(F:cU N ps (ay st))(g:Gk J Γ t k S P w K mg base)(j:B.ck (S.at N (ay st) J) (bR st)=J)(b:∀ds h Q X,C ds h Q X->Á ds=Á ps/\B.m (hZ z (Á h) Q X) (pK (Á N) ds) h):kX P w K mg base (k+2) x ps (dB (K,mg,t) C)/\∀(a:Ct)(dd:Ł Dv)(dvs:ϕ),Vals dvs us->(∀G M H,cH (((K,mg,t):T0).z G) M H dd dvs)->(∀ds h Q X,a ds h Q X->C (ds++dd) h Q X)->v9 P w K mg base (k+2) x (dB (K,mg,t) a):=by let z:=d.okX (sp:=dB (K,mg,t) C) F (λv H Q E t=>t.ln λ_ _ _ _ c=>(b _ _ _ _ c).1) λf u A o s H v Q E l Z=>(by let(G,M,h,ds,D,X,r,i,c,out,e):=Z;exact(_,B.ps (Gk.Kh g rfl rfl rfl (gM.pass nq nB) l λ_=>(nq,nB),F.nd,λy _=>.inl Ŗ,pD,F.kind,g.exc) j,(G,M,_,h,_,nc r (nD N i) out e,(b _ _ _ _ c).2)));exact(z.1,λa dd dvs n p q=>z.2 _ dvs n (GV p q))
def Ms.acC{K:Å}{st:É}{ps:ϐ}{C:Ct}(B:Ms Γ t)(z:Þ)(n:Ck K (t.ca a) l st ps us)(u:mg x=O (.ref (t.ca a)))(F:cU N ps (ay st))(g:Gk J Γ t k S P w K mg base)(v:B.ck (S.at N (ay st) bb) (bR st)=J)(d:∀ds h Q X,C ds h Q X->Á ds=Á ps/\B.m (hZ z (Á h) Q λ_ _=>ŧ) (pK (Á N) ds) h):lR P w K mg base (k+2) x (t.ca a) ps (dB (K,mg,t) C)/\∀(b:Ct)(dd:Ł Dv)(dvs:ϕ),Vals dvs us->(∀G M H,cH (((K,mg,t):T0).z G) M H dd dvs)->(∀ds h Q X,b ds h Q X->C (ds++dd) h Q X)->∀p,lR P w K mg base (k+2) x (t.ca a) p (dB (K,mg,t) b):=by let z:=n.ok (sp:=dB (K,mg,t) C) u F (λD H Q E t=>t.ln λ_ _ _ _ c=>(d _ _ _ _ c).1) λf Y A o s H D Q E L Z=>(by let(G,M,h,ds,Q',X,r,i,c,out,R):=Z;exact(_,B.ps (E:=λ_ _ _=>ŧ) (Gk.Kh g rfl rfl rfl (λj σ H s e s' I Z=>by let(_,_,_,_,_,_,q):=Z;rwa[q.elim]) L (λh=>by cases h),F.nd,λy _=>.inl Ŗ,tI,F.kind,g.exc) v,(G,M,_,h,_,nc r (nD N i) out λ_ _ _ _ _ _ q=>q.elim,(d _ _ _ _ c).2)));exact(z.1,λb dd dvs T U W p=>z.2 _ dvs T (GV U W) p)
end F
namespace L2
end L2
namespace F
open L2
end F
namespace L2
theorem xV:∀{bs:Ł _}{its:Ł _},Vals (bs.map V.A) its->its=bs.map Ò|[],_,h=>by cases h;rfl|b::bs,_,h=>by cases h with|g r R=>cases r;rw[xV R];rfl
theorem xM:∀(bs:Ł _),Vals (bs.map V.A) (bs.map Ò)|[]=>.nil|_::bs=>.cons Ŗ (xM bs)
def VH:∀h H:Ç,Qq h a its->(∀o,h.get? a=O o->H.get? a=O o)->Qq H a its:=λh H (o,n,e,r) k=>(o,n,k o e,r)
def CC(i:X.calm):fi X (.type "dict") λxs H Q=>∃(l:À)(bs:Ł _)(f:Ł _),xs=[.A l]/\H l=O (Ku l bs)/\Á f<=100/\Paired (λt v=>∃b,t=V.A b/\gF X.K H b [kV v.1,v.2]) (bs.map V.A) f/\∀a,H a=ao->Q (.A a) (de H a (.dK (jd [] f))):=by intro p s σ H xs U Q I r h;let(l,bs,f,rfl,j,z,m,q):=h;let(u,rfl,R):=B8 r;cases R;let(o,n,e,c,dn,d):=(I.cV l _ j).1;let g:X.A.in1.in1.handled=none:=I.ok.hd i;rwa[xn I (xM bs) z m q e c rfl (λe k=>M0 F.slot_tuple_getattribute am_entry_tuple_getattribute F.args_tuple_getattribute_2 am_tuple_getattr_none (λsl u=>meets_getattribute_miss_tuple l _ _ sl _ _ rfl rfl (by size_fits)) e c d dn g k) (λe q=>gK (o,e,c,n,d) q) (λI n=>Walks.tuple g I l n _) λh e=>((_,ar _ Ŗ,Ŗ,Ŗ),o,ae _ e,c,n,d)]
end L2
namespace F
open L2
def X1:ϑ->Þ|[]=>J|.T _::r=>X1 r|_::_=>bb
def C4:Dv->Ő ϑ|.p (.wld x)=>O x|_=>ao
def aej:ON:=λds h Q=>d1 ds λx=>fH (C4 x) (λX=>fH (oP X) (λp=>gd (Ë (Á p.1) 100) (Q (.p (.dct (oj p.1 p.2 ([],[])).1 (oj p.1 p.2 ([],[])).2)) h)) ŧ) ŧ
def aaW(e:C4 x=O xs):x=.p (.wld xs):=by
 delta C4 at e;split at e;.left
 .cases e
theorem E8{Y:T0}{G M:Ł À}{H:Hp}:∀{xs:ϑ}{vs:ϕ},X1 xs=J->aW (Y.z G) M H xs vs->∃bs:Ł _,vs=bs.map V.A|[],[],_,_=>([],Ŗ)|[],_::_,_,q=>q.elim|_::_,[],_,q=>q.elim|x::xs,v::vs,h,q=>by cases x with|T y=>let(bs,e):=E8 (xs:=xs) h q.2;let(a,_,E,_):=q.1;exact(a::bs,nofun)|_=>cases h
def Mf:oW Y (λxs H Q=>∃(l:À)(bs:Ł _)(f:Ł _),xs=[.A l]/\H l=O (Ku l bs)/\Á f<=100/\Paired (λt k=>∃b,t=V.A b/\gF Y.K H b [kV k.1,k.2]) (bs.map V.A) f/\∀a,H a=ao->Q (.A a) (de H a (.dK (jd [] f)))) aej:=λG M h H xs s Q m r I q out=>by
 let(x,rfl,q):=Wz q;let(y,e,q):=b9 q;let(p,E,q):=b9 q;let(c,z):=cg q;let(v,rfl,i):=I.oz;cases aaW e;let(a,bs,rfl,n,s1,j):=i;let(f,d,pp):=D9 E j;let hl:=by let:=d.1.len;rw[af]at this;rwa[this.symm]
 erw[(a,bs,f,Ŗ,s1,by rw[hl];rwa[aj c],pp,λb g=>?_)];let d2:=qa d jz.nil;erw[out _ h M _ _ (Ext.add g) (r.add g) ?_ z];exact(b,_,Ŗ,r.nj g,.inl bA,d2.1.ext r (Ext.add g),d2.2.ext r (Ext.add g))
def WE:Bi:=(_,_,_,λh H m a hn j d=>xF (CC (h Ŗ)) Mf H m yj a hn j d)
def Du(L:Lw)(W:Wd)(i k:Ń)(C:Ct):ß:=∃ps,sJ W.P W.w W.K W.mg W.base k (L.S.gh i) ps (dB (L.y W) C)
def Dj(L:Lw)(W:Wd)(c k:Ń):ß:=∃ps,qY W.P W.w W.K W.mg W.base k (L.ca (c/100-1)) (L.S.rj c) ps (dB (L.y W) (L.kK c))
section
variable{L:Lw}{W:Wd}{i j k c:Ń}{C C':Ct}
def Du.dt(D:Du L W i k C):Dt L W i k C:=let (ps,d):=D;(ps,d.toX)
def Du.le(D:Du L W i j C)(h:j<=k):Du L W i k C:=let (ps,d):=D;(ps,d.mono h)
def Dj.le(D:Dj L W c j)(h:j<=k):Dj L W c k:=let (ps,d):=D;(ps,d.mono h)
def Ma{K:Å}{M:Æ->Ő _}(h:Ë 100 c)(D:qY P w K M b k (a (c/100-1)) nm ps sp):jm m P w K M b k nm a c ps sp:=by delta jm;rw[h];induction m with|d=>rwa[qY.toM D]|e=>rwa[D]
def Dj.di(D:Dj L W c k)(h:Ë 100 c):Di L W c k:=let (ps,d):=D;(ps,Ma h d)
def Lk.gkU{iok:Ϙ}(B:Lk L W)(f:∀i∈fok,Du L W i (k+1) (fn i))(H:∀c∈iok,Ë 100 c=J/\Dj L W c k):Gk bb (L.g fn fok iok) L.t k L.S W.P W.w W.K W.mg W.base:=(B.bl,Ŗ,λi h=>let (ps,d):=f i h;(ps,d),B.gl,B.tab,λc a=>(B.cls c a,Ŗ),λc h=>let (b,ps,d):=H c h;(ps,Ma b d),B.exc,λi H=>by done)
abbrev Lw.gu(L:Lw)(fn:Ń->Ct)(fok iok X:Ϙ):Gm:=(fn,fok,L.gl,L.Zn,L.kK,iok,L.tab,L.tok,X)
def Lk.gkC(B:Lk L W)(H:wY L W fn (k+1) fok)(a:vP L W k iok)(hu:∀i∈X,Du L W i (k+1) (fn i)):Gk J (L.gu fn fok iok X) L.t k L.S W.P W.w W.K W.mg W.base:=(B.bl,Ŗ,H.at,B.gl,B.tab,λc b=>(B.cls c b,Ŗ),a.at,B.exc,λi h=>let (ps,d):=hu i h;(ps,d))
def Lk.du{st:É}(N ps:ϐ)(z:Þ)(B:Lk L W)(b:Ms (L.g fn fok iok) L.t)(s:Src W.K W.mg (L.S.gh i) st ps)(F:cU N ps (ay st))(G:b.ck (L.S.au N (ay st)) (bR st))(H:∀i∈fok,Du L W i (k+1) (fn i))(a:∀c∈iok,Ë 100 c=J/\Dj L W c k)(d:∀ds h Q x,C ds h Q x->Á ds=Á ps/\b.m (hZ z (Á h) Q λ_ _=>ŧ) (pK (Á N) ds) h):Du L W i (k+2) C:=(ps,b.aiE z s F (B.gkU H a) G d)
def Lk.dv{st:É}(N ps:ϐ)(z:Þ)(B:Lk L W)(b:Ms (L.g fn fok iok) L.t)(s:gW W.K (L.ca (c/100-1)) (L.S.rj c) q st ps)(F:cU N ps (ay st))(G:b.ck (L.S.au N (ay st)) (bR st))(H:∀i∈fok,Du L W i (k+1) (fn i))(a:∀c∈iok,Ë 100 c=J/\Dj L W c k)(d:∀ds h Q x,L.kK c ds h Q x->Á ds=Á ps/\b.m (hZ z (Á h) Q λ_ _=>ŧ) (pK (Á N) ds) h):Dj L W c (k+2):=(ps,b.aiF z s F (B.gkU H a) G d)
end
def L8{c:Ń}{K:Å}(h:Ë 90 c)(H:Ë 100 c=bb)(D:v9 P w K mg base k nm sp):jm cm P w K mg base k nm ca c ps sp:=by delta jm wa;rw[H,jj.mpr (aA ⋯ (jj.mp h)),h];rwa[D]
def L9{c:Ń}{K:Å}(h:Ë 80 c)(H:Ë 90 c=bb)(D:lR P w K mg base k nm (ca (c-80)) ps sp):jm cm P w K mg base k nm ca c ps sp:=by delta jm wa;rw[Cw ⋯ H,h,H];rwa[D]
def Lk.aiC{c:Ń}{C:Ct}{st:É}{dd:Ł Dv}(N ps:ϐ)(z:Þ)(B:Lk L W)(b:Ms (L.g fn fok iok) L.t)(s:Av W.K W.mg (L.S.gh i) st ps us)(F:cU N ps (ay st))(d:b.ck (L.S.at N (ay st) J) (bR st)=J)(f:wY L W fn (k+1) fok)(l:vP L W k iok)(n:∀ds h Q x,C ds h Q x->Á ds=Á ps/\b.m (hZ z (Á h) Q x) (pK (Á N) ds) h)(o:Ë 90 c)(p:Ë 100 c=bb)(hn:L.S.rj c=L.S.gh i)(v:Vals dvs us)(r:∀G M H,cH ((L.y W).z G) M H dd dvs)(u:∀ds h Q x,L.kK c ds h Q x->C (ds++dd) h Q x):Dt L W i (k+2) C/\Di L W c (k+2):=by let(a,q):=b.acE z s F (B.gk f l) d n;exact((ps,a),[],L8 o p (by rw[hn];rwa[q _ dd dvs v r u]))
def Lk.aiH{c e:Ń}{st:É}{dd:Ł Dv}(N ps:ϐ)(z:Þ)(B:Lk L W)(b:Ms (L.g fn fok iok) L.t)(s:Ck W.K (L.ca e) l st ps us)(d:W.mg (L.S.rj e)=O (.ref (L.ca e)))(F:cU N ps (ay st))(f:b.ck (L.S.at N (ay st) bb) (bR st)=J)(n:wY L W fn (k+1) fok)(o:vP L W k iok)(p:∀ds h Q x,L.kK e ds h Q x->Á ds=Á ps/\b.m (hZ z (Á h) Q λ_ _=>ŧ) (pK (Á N) ds) h)(r:Ë 80 e=bb)(u:Ë 80 c)(v:Ë 90 c=bb)(A:c-80=e)(hn:L.S.rj c=L.S.rj e)(D:Vals dvs us)(E:∀G M H,cH ((L.y W).z G) M H dd dvs)(I:∀ds h Q x,L.kK c ds h Q x->L.kK e (ds++dd) h Q x):Di L W e (k+2)/\Di L W c (k+2):=by let(a,q):=Ms.acC b z s d F (B.gk n o) f p;exact((ps,FZ r a),[],L9 u v (by rw[hn,A];rwa[q _ dd dvs D E I []]))
end F
namespace L2
def Oi(K:Å):R2:=λx y H Q=>∃(l:À)(k:Î)(X:ϕ),x=.A l/\y=.I k/\gF K H l X/\Á X<=10/\0<=k/\k<=1000/\∀p h,rb H h->gF K h p (Ð k.toNat X).flatten->Q (.A p) h
def Nk:kZ X (binaryOp .Mult) (Oi X.K):=by
 intro P s σ H x y v u Q I R w h;let(l,k,B,rfl,rfl,f,c,C,g,q):=h;cases R;let(t,rfl):=w;let(i,r,p,z):=I.tuple f;obtain⟨⟨cls,dd,data,sl⟩,e,j,n,m⟩:=id p;simp only at j m;subst j m;let hl:=r.length;erw[Wi (by rfl) (_,e,Ŗ) (λS=>Ap S k t) rN F.fills_int_mul tE zM F.slot_int_index.lookup
  (gI tE (Ap s k t) F.entry_int_rmul (F.args_int_rmul_2 _ _) (uZ k t l _ n dd sl) (e,Ŗ,(_,e,Ŗ),?_))];cases B with|f=>
  obtain rfl:i=[]:=by cases r;rfl
  erw[gI iF (_,e,Ŗ) pA (nV _ _) (EJ k t l n dd sl C g) (e,.A l,H,I,Ŗ,q l H (rb.refl H) ?_)];rw[show(Ð _ _).flatten=[]by simp];rwa[f]|g y Y=>
 let a:i.toArray.isEmpty=false:=by cases r;rfl
 by_cases D:k=1;.subst D;rwa[gI iF (_,e,Ŗ) pA (nV _ _) (EI t l _ n dd sl) (e,.A l,H,I,Ŗ,q l H (rb.refl H) nofun)]
 by_cases d:k=0;.subst d;rwa[gI iF (_,e,Ŗ) pA (nV _ _) (EL t l _ n dd sl a) (e,(.A _,_,I.laid (o:=.T []) (λb E q=>ae _ q) (aq _) (cw _,[],.nil,qQ _ _),Ŗ,q _ _ (kg (I.cV.fresh (aq _)) _) (gF.of bA)))]
 erw[gI iF (_,e,Ŗ) pA (nV _ _) (EK k t l _ n dd sl a () g nofun) (e,?_)];let f0:=by let:=Hc i k.toNat [];rwa[this]
 rw[f0];erw[(.A _,_,I.laid (λb E q=>ae _ q) (aq _) ?_,Ŗ,q _ _ (kg (I.cV.fresh (aq _)) _) (gF.of bA))];erw[(?_,_,r.rep _,qQ _ _)];rw[zf];let G:k.toNat<=1000:=()
 let:=Nat.mul_le_mul G c;rwa[aA ‹_› ∅]
end L2
namespace F
open L2
def Ϯ:O2:=λx y h Q=>fH (tO x) (λX=>fH (iO y) (λk=>gd (qM 0 k&&(qM k 1000&&Ë (Á X) 10)) (Q (.p (.T (Ð k.toNat X).flatten)) h)) ŧ) ŧ
def Ml:iC Y (Oi Y.K) Ϯ:=λG M h H x y v u Q t r i j q out=>by let(X,e,b):=b9 q;let(k,f,d):=b9 b;let(c,g):=cg d;let(C,l,m):=iY c;clear q b d;cases BF e;cases qj f;let(a,n,E,s1,I):=mP i;erw[(a,k,n,E,fJ j,s1,by rw[<-I.len];rwa[cc.mp m],eD.mp C,eD.mp l,λp o s S=>?_)];erw[out _ h M o _ (jE s) (vt r s) ?_ g];exact(p,_,Ŗ,S,(I.rep _).ext r (jE s))
def KC:Bo:=(_,_,λ_ _=>(_,Nk,Ml))
def Mm.OF{Γ:Gm}{t:Tb}(i n:Ń)(r:Ϙ)(tg:Tg)(j:Jm Γ t)(F:Fm Γ t)(A:Em Γ t):Mm Γ t:=(U1 i (GJ n r tg _ F.m A.m J),λS st=>S.fr&&Jv S i (λx p e=>wI _ x&&(swB x p e&&QO S n r tg _ F _ e)) st,λ{k S X E st}o h=>by
 let(u,h):=ag h;erw[qv o h λx p e pos v w y B=>?_];let(C,g):=ag B;let(G,D):=ag g;revert G;erw[yy o.x D λW Y ix I e K L M N b c P Q R T a G=>?_];erw[(N3 (o.x.fx u).1 (o.x.fx u).2 o.nd v w M (o.x.hc a).1 N (j.pi o.x b) (λf s H=>P (IE o.x a _ _ f _ _)) (λf s H=>F.pf (IE o.x a _ _ f _ _) Q) (λf s H=>A.pe (IE o.x a _ _ f _ _) R) T ?_ y).imp λ_ _ _ q=>yA (λ_ _ _ _ z=>z) c (aai q)];let(d,l):=ag G;show pure (X.env.blockKind==.function&&X.env.kindOf x==O _&&p.line==L.line&&!K.names.any _)=pure _;let U:X.env.kindOf x=O .local:=by show X.env.scope.names.lookup x=_;rw[o.x.hs];rwa[rR C]
 rw[Z5 o.kd,U,d,l];rfl)
end F
namespace L2
def lR.imp{K:Å}{m:Æ->Ő _}(D:lR P w K m B k x C ps sp)(i:∀vs H Q E,wQ vs H Q E->sp vs H Q E):lR P w K m B k x C ps wQ:=by let(f,g,I,j,ds,s,F,a,b,c,d,e):=D.ex;exact(f,g,I,j,ds,s,F,a,b,c,λvs H Q E h=>d vs H Q E (i vs H Q E h),e)
def gA.imp(R:gA X f sp [] E)(i:∀vs H Q E,w vs H Q E->sp vs H Q E):gA X f w [] E:=λp σ H s Q u vs I r h=>R _ σ H s Q u vs I r (i _ _ _ _ h)
end L2
namespace F
open L2
def adX(C:Ct):Ct:=λds h Q x=>match ds with|.r n::r=>Iy [n] C (.r n::r) h Q x|_=>ŧ
def VF(z:dB Y (adX C) vs H q EV):dB Y C vs H q EV:=by
 let(G,M,h,ds,Q,x,r,i,c,o,a):=z;rcases ds with _|⟨_|n,ds⟩;.rwa[c.elim]
 .rwa[c.elim]
 .rwa[lE r i c o a]
def VE(z:dB Y (Iy [] C) vs H q EV):dB Y C vs H q EV:=by let(G,M,h,ds,Q,x,r,i,c,o,a):=z;rwa[lE r i c o a]
section
variable{Γ:Gm}{t:Tb}
namespace Em
def m_(c:Ń)(A:Am Γ t):Em Γ t:=(_,λS x=>!Nat.ble 80 c&&gX c _&&(S.cm&&Wy S _ A x),λ{k S X E x}o h=>by let(ps,D):=o.kK c (cy.mp (ag (ag h).1).2);replace D:=L7 (fG (ag (ag h).1).1) D;rwa[oZ o (ag (ag h).2).2 λ_ _ _ _ H d hn pa p=>Xj (D.imp λ_ _ _ _=>VF) (o.room (ag (ag h).2).1) H pa d p])
def mel(c:Ń)(b:Em Γ t)(A:Am Γ t):Em Γ t:=(_,(me c b A).ck,λ{k S X E x}o h=>rM h λv e s D H d i j=>by let(l,g):=ag H;let(m,n,p,G):=mS l;let(q,g):=ag g;let(C,r):=o.cls _ (cy.mp p);let(f,u,R):=o.g_ (cy.mp n) m;induction e with|f=>done|g a e=>let(pa,P):=A.pa o (ag g).2;rwa[Xh (b.pe o d) C (λw=>by rw[r]at w;rw[qg w]at G;cases G) u (R.imp λ_ _ _ _=>VE) pa (lV i) P (aj q) j])
end Em
end
theorem Ba(h:∀d,f (b d)=g d):∀ds:Ł Dv,oy f (ds.map b)=oy g ds|[]=>Ŗ|d::r=>by rw[cq];delta oy;rw[h d,Ba h r]
theorem FR(H:∀i,PY ρ m (.r i)=.r (n+i))(b:∀i,h[n+i]?=l[i]?.map (KD ρ m)):∀(f:Ń)(d:Dv),o8 h n f (PY ρ m d)=o8 l 0 f d|0,.p x=>Ŗ|f+1,.p x=>Ŗ|0,.r i=>by rw[H];rfl|f+1,.r i=>by rw[H];delta o8;rw[aZ (bp n i),b];let a:=Ba (FR H b f);induction l[i]? with|a=>rfl|c o=>induction o with|L X=>rfl|C k u=>rfl|K k=>rfl|F c k u=>rfl|D ds=>rwa[cb (ê _) (a ds)]|E k ds=>rwa[cb (ê _) (a ds)]|I C fs=>rwa[cb (ê _) (a fs)]
def aca:PY [n] (n+1) (.r i)=.r (n+i):=by induction i with|h=>rfl|j i=>show Dv.r (n+1+(i+1-1))=_;lia
def RO{x:Ob}{l:Hs}:LF (Qd [h.length] (h.length+1) [h.length] (o::l) (h++[x])) h.length (.r h.length)=(o8 (o::l) 0 6 (.r 0)).map .p:=by
 let e:Qd [h.length] (h.length+1) [h.length] (o::l) (h++[x])=h++(o::l).map (KD [h.length] (h.length+1)):=by
  let E:(h++[x]).set h.length (KD [h.length] (h.length+1) o)=h++[KD [h.length] (h.length+1) o]:=⋯
  show Qd _ _ [] l _=_;rw[E];induction l with|f=>rfl|g a l=>show h++[_]++_=_;rw[bL];rfl
 rw[e];let:=FR (h:=h++(o::l).map _) (l:=o::l) (λ_=>aca) λi=>by rw[aI (bp _ _),jv,aR] 6 (.r 0);show(match Ë _ _ with|bb=>_|J=>_)=_;rw[aZ (aq _)];rwa[cb (ê _) this]
end F
namespace F
open L2
def WF(i:Ń)(n:Î):Ss:=λN σ h=>match σ[i]? with|O (O (.p (.I k)))=>N.nx (σ.set i (O (.p (.I (k+n))))) h|_=>ŧ
def X6(h:eX 'X' E (WF i n) D τ H):Uf i (tC (.I n)) (ś λa b=>a+b) D τ H:=by
 let(G,M,σ,h,N,k,q):=h;change match σ[i]? with|O (O (.p (.I k)))=>N.nx _ h|_=>ŧ at q;split at q;.ext m c;let(v,e,f):=k.env.at' i _ c;cases fJ f;exact(_,e,_,_,Ŗ,Ŗ,k.nx _ h M H _ Ext.refl k.rel (k.env.set (d:=.p (.I _)) Ŗ) q)
 .left
def Mm.aug{Γ:Gm}{t:Tb}(i:Ń)(n:Î):Mm Γ t:=(WF i n,λS=>UF λa o b _=>Đ (o=.Add)&&(J1 (λc _ _=>X3 _ c) b&&oR _ a),λo h=>by erw[VO h λa j b pos h=>?_];let(e,H,f):=iY h;rw[bB e];erw[fM f λx p h=>?_];let(g,d):=ag h;erw[nS H λC k P H=>?_];rw[yf H];exact(γ o.nd (by rw[o.x.hN];rwa[ig g]) (by rw[o.x.hs];rwa[zh (ag d).1]) zy ZN (o.hf x d)).imp λ_ _ _=>X6)
def W7:ON:=λds h Q=>match ds with
 |[x]=>match lA h x with|O X=>fH (oP X) (λp=>gd (Ë (Á p.1) 100) (Q (.r (Á h)) (h++[.C (oj p.1 p.2 ([],[])).1 (oj p.1 p.2 ([],[])).2]))) ŧ|ao=>ŧ
 |_=>ŧ
def Me:oW Y (λxs H Q=>∃(l:À)(ts:ϕ)(e:Ł _),xs=[.A l]/\gB Y.K H l ts/\Á e<=100/\Paired (λt k=>∃b,t=V.A b/\gF Y.K H b [kV k.1,k.2]) ts e/\∀a,H a=ao->Q (.A a) (de H a (.dK (jd [] e)))) W7:=λG M h H xs s Q j r I q out=>by
 delta W7 fH at q;split at q
 .let(v,rfl,i):=I.oz;split at q
  .ext xs ex;split at q
   .ext p E;let(c,q):=cg q;let(a,ws,rfl,s1,g):=fX r i ex;let(e,d,pp):=D9 E g;let hl:=by let:=d.1.len;rw[af]at this;rwa[this.symm]
    erw[(a,ws,e,Ŗ,gB.of s1,by rw[hl];rwa[aj c],pp,λb f=>?_)];let d2:=qa d jz.nil;rwa[out _ _ _ _ _ (Ext.push r f) (r.push (o:=.C _ _) f (_,bA,d2.1.ext r (Ext.push r f),d2.2.ext r (Ext.push r f))) (nz r.ln) q]
   .left
  .left
 .left
def acR:Bi:=(_,_,_,λh H m a hn j d=>xF (k6 (h Ŗ)) Me H m yj a hn j d)
end F
namespace W2
open L2 F
abbrev Nm:=Fin 1000000
def nP(n:Nm):Pv:=.I n.val
def iP(n:Ń):Pv:=.I n
def fq:Ő Ń->Pv|ao=>.I (-1)|O n=>.I n
def iZ{α:Type}(z:Æ):Ł (Æ×α)->Ő α|[]=>ao|p::r=>match cQ p.1 z with|J=>O p.2|bb=>iZ z r
def vg{α:Type}(n:Ń):Ł (Ń×α)->Ő α|[]=>ao|p::r=>match Ì p.1 n with|J=>O p.2|bb=>vg n r
def pos(z:Æ):ϐ->Ń->Ő Ń|[],_=>ao|y::r,n=>match cQ y z with|J=>O n|bb=>pos z r (n+1)
def io:ϐ->Ń->ϑ|[],_=>[]|_::r,n=>iP n::io r (n+1)
def j4(l:ϐ):Pv:=.dct (l.map .S) (io l 0)
def Rm{α:Type}(g:α->Pv)(l:Ł (Æ×α)):Pv:=.dct (l.map λp=>.S p.1) (l.map λp=>g p.2)
def wz{α:Type}(g:α->Pv)(l:Ł (Ń×α)):Pv:=.dct (l.map λp=>iP p.1) (l.map λp=>g p.2)
inductive Op where|pl|mi|ti|ov|re|le|sa
def Op.w:Op->Æ|.pl=>"plus"|.mi=>"minus"|.ti=>"times"|.ov=>"over"|.re=>"rest"|.le=>"less"|.sa=>"same"
inductive Ou where|v(n:Nm)|x(c:Ń)
def Op.f:Op->Nm->Nm->Ou|.pl,a,b=>.v (a+b)|.mi,a,b=>.v (a-b)|.ti,a,b=>.v (a*b)|.ov,a,b=>bif Ì b.val 0 then .x 1 else .v (a/b)|.re,a,b=>bif Ì b.val 0 then .x 1 else .v (a%b)|.le,a,b=>.v (bif Ñ a.val b.val then 1 else 0)|.sa,a,b=>.v (bif Ì a.val b.val then 1 else 0)
inductive Vx where|n(i:Nm)|b(z:Æ)|s(z:Æ)|i(z:Æ)(v:Vx)|t(v:Vx)|o(k:Op)(x y:Vx)
def Vx.p:Vx->Pv|.n m=>.T [.S "number",nP m]|.b z=>.T [.S "box",.S z]|.s z=>.T [.S "size",.S z]|.i z v=>.T [.S "item",.S z,v.p]|.t v=>.T [.S "not",v.p]|.o k x y=>.T [.S k.w,x.p,y.p]
def Vx.dp:Vx->Ń|.i _ v=>v.dp+1|.t v=>v.dp+1|.o _ x y=>max x.dp y.dp+1|_=>0
inductive Rw where|st(z:Æ)(v:Vx)|pu(z:Æ)(v:Vx)|po(z y:Æ)|pt(z:Æ)(u v:Vx)|ak(z d:Æ)|te(v:Vx)|ii(v:Vx)(a b:Pv)|wh(v:Vx)(a:Pv)|tr(a:Pv)(z:Æ)(b:Pv)|fa(v:Vx)|ca(z f:Æ)(vs:Ł Vx)|rt(v:Vx)|df(z:Æ)
def Rw.p:Rw->Pv|.st z v=>.T [.S "set",.S z,v.p]|.pu z v=>.T [.S "push",.S z,v.p]|.po z y=>.T [.S "pop",.S z,.S y]|.pt z u v=>.T [.S "put",.S z,u.p,v.p]|.ak z d=>.T [.S "ask",.S z,.S d]|.te v=>.T [.S "tell",v.p]|.ii v a b=>.T [.S "if",v.p,a,b]|.wh v a=>.T [.S "while",v.p,a]|.tr a z b=>.T [.S "try",a,.S z,b]|.fa v=>.T [.S "fail",v.p]|.ca z f s=>.T [.S "call",.S z,.S f,.T (s.map Vx.p)]|.rt v=>.T [.S "return",v.p]|.df z=>.T [.S "def",.S z]
def vsD(d:Ń)(vs:Ł Vx):Þ:=vs.all λv=>Ñ v.dp d
def Rw.lo(d:Ń):Rw->Þ|.st _ v=>Ñ v.dp d|.pu _ v=>Ñ v.dp d|.pt _ u v=>Ñ u.dp d&&Ñ v.dp d|.te v=>Ñ v.dp d|.ii v _ _=>Ñ v.dp d|.wh v _=>Ñ v.dp d|.fa v=>Ñ v.dp d|.ca _ _ s=>Ë s.length 100&&vsD d s|.rt v=>Ñ v.dp d|_=>J
structure Pn where
 bs:ϐ
 ls:ϐ
 ds:ϐ
 ow:Ł (Æ×ϐ)wd:Ł (Æ×Ł Nm)rw:Ł Rw
 wi:Pv
 bh:Ł (Ń×Ő Ń)fs:Ł (Ń×Ő Ń)sc:Ł (Ń×Ő Ń)ct:Ł (Ń×Ő Ń)df:Ł (Æ×Ń)st:Ł (Æ×Ő Ń)
def Pn.pa(P:Pn):Pv:=.obj 3 [.L (P.rw.map Rw.p),P.wi,wz fq P.bh,wz fq P.fs,wz fq P.sc,wz fq P.ct,Rm iP P.df,Rm fq P.st]
def Pn.p(P:Pn):Pv:=.obj 2 [j4 P.bs,j4 P.ls,Rm j4 P.ow,j4 P.ds,Rm (λn:Ł Nm=>.T (n.map nP)) P.wd,P.pa]
structure Fr where
 f:Æ
 ns:Ł Nm
 pt:Ő Ń
def Fr.p(x:Fr):Pv:=.T [.S x.f,.T (x.ns.map nP),fq x.pt]
def jn:Ł Fr->ϑ|[]=>[]|x::r=>jn r++[x.p]
structure Wk where
 bx:Ł Nm
 ls:Ł (Ł Nm)fr:Ł Fr
 ak:Ϙ
 td:Ł Nm
 bk:Þ
 rd:Ł (Ł cs)wr:Ł (Ł cs)
def Qc(l:Ł (Ł Nm)):ϑ:=l.map λn=>.T (n.map nP)
def Ź(P:Pn)(w:Wk):Ob:=.I 1 [.p P.p,.p (.T (w.bx.map nP)),.p (.T (Qc w.ls)),.p (.T (jn w.fr)),.p (.T (w.ak.map iP)),.p (.T (w.td.map nP)),.p (.B w.bk),.r 1,.r 2]
def xX(P:Pn)(w:Wk):Hs:=[Ź P w,.K w.rd,.K w.wr]
def Wp(fr:Ł Fr):Æ:=match fr with|[(_,_,ao)]=>"done"|_=>"on"
def Wk.wo(w:Wk):Æ:=bif w.bk then"broken"else Wp w.fr
def Wk.p(w:Wk):Pv:=.T [.T (w.bx.map nP),.T (Qc w.ls),.T (jn w.fr),.T (w.ak.map iP),.T (w.td.map nP),.S w.wo]
def kA(κ:Ł cs)(ks:Ł (Ł cs)):Ő (Ł (Ł cs)):=bif Ñ ks.length 1000 then O (My κ ks)else ao
def rp{α:Type}(l:Ł α)(i:Ń)(x:α):Ő (Ł α):=bif Ñ i l.length&&Ë l.length 100000 then O (l.set i x)else ao
def Mx(d:Ń)(z:Æ):Ł cs:=[.inr "own",.inl d,.inr z]
def SI(z:Æ):Ł cs:=[.inr "box",.inr z]
def Tl(z:Æ):Ł cs:=[.inr "list",.inr z]
def own(P:Pn)(w:Wk):Ő (Fr×Ł Fr×ϐ):=match w.fr with|[]=>ao|x::r=>(iZ x.f P.ow).map λo=>(x,r,o)
def cell(P:Pn)(w:Wk)(z:Æ):Ő (Ł cs):=(own P w).map λp=>match pos z p.2.2 0 with|O _=>Mx p.2.1.length z|ao=>SI z
def Xu(P:Pn)(w:Wk)(z:Æ):Ő (Wk×Nm):=(own P w).bind λp=>match pos z p.2.2 0 with|O i=>(kA (Mx p.2.1.length z) w.rd).bind λk=>p.1.ns[i]?.map λn=>({w with rd:=k},n)|ao=>(kA (SI z) w.rd).bind λk=>(pos z P.bs 0).bind λi=>w.bx[i]?.map λn=>({w with rd:=k},n)
def oS(P:Pn)(w:Wk)(z:Æ)(n:Nm):Ő Wk:=(own P w).bind λp=>match pos z p.2.2 0 with|O i=>(kA (Mx p.2.1.length z) w.wr).bind λk=>(rp p.1.ns i n).bind λns=>bif Ñ p.2.1.length 1000 then O {w with wr:=k,fr:={p.1 with ns:=ns}::p.2.1}else ao|ao=>(kA (SI z) w.wr).bind λk=>(pos z P.bs 0).bind λi=>(rp w.bx i n).map λb=>{w with wr:=k,bx:=b}
def mq(P:Pn)(w:Wk)(z:Æ):Ő (Wk×Ł Nm):=(kA (Tl z) w.rd).bind λk=>(pos z P.ls 0).bind λi=>w.ls[i]?.map λl=>({w with rd:=k},l)
def sA(P:Pn)(w:Wk)(z:Æ)(l:Ł Nm):Ő Wk:=(kA (Tl z) w.wr).bind λk=>(pos z P.ls 0).bind λi=>(rp w.ls i l).map λls=>{w with wr:=k,ls:=ls}
def AC(P:Pn)(d:Æ)(a:Ń):Nm:=match iZ d P.wd with|O n=>n[a]?.getD 0|ao=>0
def ask(P:Pn)(w:Wk)(d:Æ):Ő (Wk×Nm):=(pos d P.ds 0).bind λi=>w.ak[i]?.bind λa=>(rp w.ak i (a+1)).map λk=>({w with ak:=k},AC P d a)
def move(w:Wk)(p:Ő Ń):Ő Wk:=match w.fr with|[]=>ao|x::r=>bif Ñ r.length 1000 then O {w with fr:={x with pt:=p}::r}else ao
def MH(w:Wk):Ő Wk:=match w.fr with|[]=>ao|_::r=>O {w with fr:=r}
def qo(w:Wk):Ő (Ő Ń):=match w.fr with|[]=>ao|x::_=>O x.pt
def zv(d:Ń):ϐ->Ł (Ł cs)->Ő (Ł (Ł cs))|[],k=>O k|z::r,k=>(kA (Mx d z) k).bind (zv d r)
def hF(P:Pn)(w:Wk)(f:Æ)(vs:Ł Nm):Ő Wk:=(iZ f P.ow).bind λo=>(iZ f P.st).bind λp=>bif Ë vs.length o.length&&(Ë o.length 100&&Ñ w.fr.length 1000)then(zv w.fr.length o w.wr).map λk=>{w with wr:=k,fr:=(f,vs++Ð (o.length-vs.length) 0,p)::w.fr}else ao
@[irreducible]def pI{α:Type}(o:Ő (Wk×Ou))(k:Wk->Nm->Ő (Wk×α))(x:Ń->α):Ő (Wk×α):=o.bind λp=>match p.2 with|.v n=>k p.1 n|.x c=>O (p.1,x c)
def U5(l:Ł Nm):Ő Nm:=if h:l.length<1000000 then O (_,h) else ao
def lx(l:Ł Nm)(n:Nm):Ou:=match l[n.val]? with|O y=>.v y|ao=>.x 2
def ev(P:Pn):Vx->Wk->Ő (Wk×Ou)|.n i,w=>O (w,.v i)|.b z,w=>(Xu P w z).map λp=>(p.1,.v p.2)|.s z,w=>(mq P w z).bind λp=>(U5 p.2).map λn=>(p.1,.v n)|.i z v,w=>pI (ev P v w) (λw n=>(mq P w z).map λq=>(q.1,lx q.2 n)) .x|.t v,w=>pI (ev P v w) (λw n=>O (w,Op.sa.f n 0)) .x|.o k a b,w=>pI (ev P a w) (λw x=>pI (ev P b w) (λw y=>O (w,k.f x y)) .x) .x
abbrev Do:=Pn->Wk->Rw->Ő (Wk×Ő Ń)
def Bh(o:Ő Wk):Ő (Wk×Ő Ń):=o.map λw=>(w,ao)
def HF:Do|P,w,.st z v=>pI (ev P v w) (λw n=>Bh (oS P w z n)) O|_,_,_=>ao
def xg:Do|P,w,.pu z v=>pI (ev P v w) (λw n=>(mq P w z).bind λp=>bif Ë 12 p.2.length then O (p.1,O 3)else Bh (sA P p.1 z (p.2++[n]))) O|_,_,_=>ao
def HE:Do
 |P,w,.po z y=>(mq P w y).bind λp=>match p.2.getLast? with|ao=>O (p.1,O 4)|O n=>(sA P p.1 y p.2.dropLast).bind λw=>Bh (oS P w z n)
 |_,_,_=>ao
def QX:Do|P,w,.pt z u v=>pI (ev P u w) (λw i=>pI (ev P v w) (λw n=>(mq P w z).bind λp=>bif Ë p.2.length i.val then O (p.1,O 2)else(rp p.2 i.val n).bind λl=>Bh (sA P p.1 z l)) O) O|_,_,_=>ao
def QU:Do|P,w,.ak z d=>(ask P w d).bind λp=>Bh (oS P p.1 z p.2)|_,_,_=>ao
def Fy:Do|P,w,.te v=>pI (ev P v w) (λW n=>bif Ë w.td.length 100000 then O ({W with td:=w.td++[n]},ao)else ao) O|_,_,_=>ao
def k8:Do|P,w,.ii v _ _=>(qo w).bind λp=>p.bind λk=>pI (ev P v w) (λw n=>(bif Ì n.val 0 then vg k P.sc else vg k P.fs).bind λq=>Bh (move w q)) O|_,_,_=>ao
def lu:Do|P,w,.wh v _=>(qo w).bind λp=>p.bind λk=>pI (ev P v w) (λw n=>(bif Ì n.val 0 then vg k P.bh else vg k P.fs).bind λq=>Bh (move w q)) O|_,_,_=>ao
def Cg(P:Pn):Ł Vx->Wk->Ő (Wk×(Ł Nm ⊕ Ń))|[],w=>O (w,.inl [])|v::r,w=>(ev P v w).bind λp=>match p.2 with|.x c=>O (p.1,.inr c)|.v n=>(Cg P r p.1).map λq=>(q.1,match q.2 with|.inl N=>.inl (n::N)|.inr c=>.inr c)
def Fw:Do
 |P,w,.ca _ f v=>(Cg P v w).bind λp=>match p.2 with|.inr c=>O (p.1,O c)|.inl n=>bif Ë 8 p.1.fr.length then O (p.1,O 5)else Bh (hF P p.1 f n)
 |_,_,_=>ao
def Yo:Ő Rw->Ő Æ|O (.ca z _ _)=>O z|_=>ao
def Zj(P:Pn)(w:Wk)(n:Nm):Ő Wk:=(MH w).bind λw=>(qo w).bind λp=>p.bind λc=>(Yo P.rw[c]?).bind λz=>(oS P w z n).bind λw=>(vg c P.bh).bind λq=>move w q
def QY:Do|P,w,.rt v=>pI (ev P v w) (λw n=>Bh (Zj P w n)) O|_,_,_=>ao
def QW:Do|P,w,.df _=>Bh (Zj P w 0)|_,_,_=>ao
def Fx:Do|P,w,.fa v=>pI (ev P v w) (λw n=>O (w,O n.val)) O|_,_,_=>ao
def plain:Rw->Ő Do|.st _ _=>O HF|.pu _ _=>O xg|.po _ _=>O HE|.pt _ _ _=>O QX|.ak _ _=>O QU|.te _=>O Fy|_=>ao
def Gr:Rw->Ő Do|.ii _ _ _=>O k8|.wh _ _=>O lu|.ca _ _ _=>O Fw|.rt _=>O QY|.df _=>O QW|.fa _=>O Fx|_=>ao
def kind:Rw->Æ|.ca _ _ _=>"call"|.rt _=>"return"|.df _=>"off"|_=>"plain"
def xo(P:Pn)(w:Wk)(n:Ń):Ő (Wk×Ő Ń):=P.rw[n]?.bind λr=>match plain r with
 |O d=>(d P w r).bind λp=>match p.2 with|O c=>O (p.1,O c)|ao=>(vg n P.bh).bind λq=>Bh (move p.1 q)
 |ao=>(Gr r).bind λd=>d P w r
def CD(P:Pn):Ł Fr->Ő (Ł Fr×Ő Ń)|[]=>ao|x::r=>x.pt.bind λp=>(vg p P.ct).bind λc=>match c with|O k=>O (x::r,O k)|ao=>match r.isEmpty with|J=>O ([x],ao)|bb=>CD P r
def Ev:Ő Rw->Ő Æ|O (.tr _ z _)=>O z|_=>ao
def LQ(c:Ń):Ő Nm:=if h:c<1000000 then O (c,h) else ao
def KU(P:Pn)(w:Wk)(c:Ń):Ő (Wk×Ő Ń):=(CD P w.fr).bind λp=>match p.2 with|ao=>O ({w with fr:=p.1,bk:=J},ao)|O k=>(Ev P.rw[k]?).bind λz=>(LQ c).bind λn=>(oS P {w with fr:=p.1} z n).bind λw=>(vg k P.sc).bind λq=>(move w q).map λw=>(w,O k)
def vk(P:Pn)(w:Wk):Ő Ń:=match w.fr with|[]=>ao|x::_=>match x.pt with|ao=>iZ x.f P.df|O p=>O p
def Wx(w:Wk):Pv:=match w.fr with|_::y::_=>fq y.pt|_=>.I (-1)
def CG(ks:Ł (Ł cs)):Pv:=.T ((JF ks).map tK)
def D2(ks:Ł (Ł cs)):Þ:=Ñ ks.length 64&&wl ks
def Wk.cl(w:Wk):Wk:={w with bk:=bb,rd:=[],wr:=[]}
def W5(w0:Wk)(n:Ń)(k:Æ)(w:Wk)(c:Ő Ń):Pv:=.T [iP n,.S k,CG w.rd,CG w.wr,Wx w0,fq c]
def Dr(o:Ő Rw):Æ:=match o with|O r=>kind r|ao=>""
def aiJ(P:Pn)(n:Ń)(p:Wk×Ő Ń):Ő (Wk×Æ×Ő Ń):=match p.2 with|ao=>O (p.1,Dr P.rw[n]?,ao)|O c=>(KU P p.1 c).map λq=>(q.1,"fault",q.2)
def BA(P:Pn)(w0:Wk):Ő (Wk×Pv):=(vk P w0).bind λn=>(xo P w0.cl n).bind λp=>(aiJ P n p).bind λq=>bif D2 q.1.rd&&D2 q.1.wr then O (q.1,W5 w0 n q.2.1 q.1 q.2.2)else ao
inductive Rn(P:Pn):Wk->Ń->Wk->ϑ->ß|z{w:Wk}:Rn P w 0 w []|s{w w1 w':Wk}{n:Ń}{x:Pv}{xs:ϑ}(hw:w.wo="on")(e:BA P w=O (w1,x))(r:Rn P w1 n w' xs):Rn P w (n+1) w' (x::xs)
def MU(P:Pn)(w:Wk):Pv:=.obj 4 [P.p,w.p]
def Kh:Pv->Þ|.I _=>J|.B _=>J|.N=>J|.S _=>J|.T _=>J|_=>bb
def Io(a b:Î):Pv->Þ|.I n=>qM a n&&qM n b|_=>bb
def Pn.lo(P:Pn):Þ:=P.rw.all λr=>r.lo 6
end W2
namespace L2
end L2
namespace F
open L2
end F
namespace L2
open PySem.SeqAt
end L2
namespace F
open L2 PySem.SeqAt
def C7:Pv->Ő ϑ|.T x=>O x|.L x=>O x|_=>ao
def FH:Ń->Pv->Þ|0,x=>qc x|n+1,x=>match C7 x with|O X=>X.all (FH n)|ao=>qc x
def SO{σ:È}{Y:T0}(n:Y.K=X.K)(I:Inv X be σ H s)(e:C7 p=O xs)(i:eo (Y.z G) M H p v)(j:eo (Y.z G) M H p u)(r:RelV v c)(R:RelV u U)(hu:A.units<Ï)(o:∀{p:Pv}{v u:V}{c U:Â},p∈xs->eo (Y.z G) M H p v->eo (Y.z G) M H p u->RelV v c->RelV u U->EqAt A.in1 s c U J):EqAt A s c U J/\RcNeAt A s c U bb/\RcAt A s c U true:=by
 cases p with|T B=>
  cases e;let(a,w,rfl,S,g):=i;let(b,ws,rfl,l,k):=j;cases r;cases R;let(i1,j1,e,t,d,h,C):=Pf I (show gF X.K H a w from n▸S) (show gF X.K H b ws from n▸l) g k o;let q:=RcAt.tuples t d hu h;let Q:=RcNeAt.tuples t d hu h;rw[C]at q Q;erw[(?_,Q,q)];by_cases m:a=b;.subst m;rwa[EqAt.same _]
  .rwa[EqAt.of_refs m q]|L B=>
  cases e;let(a,w,rfl,_,S,g):=i;let(b,ws,rfl,_,l,k):=j;cases r;cases R;obtain⟨f,Z,⟨o1,N,D,E,_,d1⟩,_⟩:=I.list (gB.of S);obtain⟨F,x,⟨P,W,g2,c2,_,d2⟩,_⟩:=I.list (gB.of l);let t:s.heap.IsList a _:=(o1,D,E,N,d1);let d:s.heap.IsList b _:=(P,g2,c2,W,d2);let h:=vb Z x g k o;let y:f.toArray.size=F.toArray.size:=by rw[aM,aM,<-Z.length,<-x.length,<-g.len,<-k.len]
  let al:(Ù f.toArray.size).all _=true:=aS.mpr λ_ _=>Ŗ;let q:=RcAt.lists t d y hu h;let Q:=RcNeAt.lists t d y hu h;rw[al]at q Q;erw[(?_,Q,q)];by_cases m:a=b;.subst m;rwa[EqAt.same _]
  .rwa[EqAt.of_refs m q]|_=>cases e
def FP{σ:È}{s:am}{Y:T0}{G M:Ł À}{H:Hp}(h:Y.K=X.K)(I:Inv X be σ H s):∀{n:Ń}{p:Pv}{v u:V}{a U:Â}{A:cp},FH n p=J->eo (Y.z G) M H p v->eo (Y.z G) M H p u->RelV v a->RelV u U->A.units+n<Ï->EqAt A s a U J/\RcNeAt A s a U bb/\RcAt A s a U true:=by
 let fl:∀{p:Pv}{v u:V}{a U:Â}{A:cp},qc p=J->eo (Y.z G) M H p v->eo (Y.z G) M H p u->RelV v a->RelV u U->EqAt A s a U J/\RcNeAt A s a U bb/\RcAt A s a U true:=by intro p v u a U A k i j r R;let:=Xt (s:=s) (A:=A) (Ge k i r) (Ge k j R);rw[Lu k]at this;exact(this.2,this.1.2,this.1.1)
 intro n;induction n with|h=>intro p v u a U A k i j r R hu;rwa[fl k i j r R]|j n b=>intro p v u a U A k i j r R hu;delta FH at k;induction e:C7 p with|a=>rw[e]at k;rwa[fl k i j r R]|c x=>rw[e]at k;rwa[SO h I e i j r R (dQ (bp _ _) ‹_›) λc i j r R=>(b (aS.mp k _ c) i j r R (by show A.units+1+n<Ï;lia)).1]
def Ž(Y:T0):R2:=λv u H Q=>∃G M p,eo (Y.z G) M H p v/\eo (Y.z G) M H p u/\FH 60 p=J/\Q (.B bb) H
def A_(hu:X.A.units+64<Ï):kZ X (compareOp .NotEq) (Ž 'X'):=by intro P s σ H x y v u Q I r R (G,M,p,a,b,k1,h);exact(FP rfl I k1 a b r R ()).2.1 _ X.w _ _ (.B _,H,I,Ŗ,h)
def pO:Dv->Ő Pv|.p x=>O x|_=>ao
def akE:O2:=λx y h Q=>fH (pO x) (λa=>fH (pO y) (λb=>(a=b/\FH 60 a=J)/\Q (.p (.B bb)) h) ŧ) ŧ
def So:iC Y (Ž Y) akE:=λG M h H x y v u Q d r i j q out=>by induction x with|r _=>rwa[q.elim]|p a=>induction y with|r _=>rwa[q.elim]|p b=>obtain⟨⟨rfl,c⟩,q⟩:=q;exact(G,M,a,i,j,c,out _ h M H _ Ext.refl r (by rfl) q)
def aip:Co:=(_,_,λ_ _ hu=>(_,A_ hu,So))
def ı(Y:T0):R2:=λv u H Q=>∃G M p,eo (Y.z G) M H p v/\eo (Y.z G) M H p u/\FH 60 p=J/\Q (.B J) H
def v_(hu:X.A.units+64<Ï):kZ X (compareOp .Eq) (ı 'X'):=by intro P s σ H x y v u Q I r R (G,M,p,a,b,k1,h);exact(FP rfl I k1 a b r R ()).2.2 _ X.w _ _ (.B _,H,I,Ŗ,h)
def akv:O2:=λx y h Q=>fH (pO x) (λa=>fH (pO y) (λb=>(a=b/\FH 60 a=J)/\Q (.p (.B J)) h) ŧ) ŧ
def Sf:iC Y (ı Y) akv:=λG M h H x y v u Q d r i j q out=>by induction x with|r _=>rwa[q.elim]|p a=>induction y with|r _=>rwa[q.elim]|p b=>obtain⟨⟨rfl,c⟩,q⟩:=q;exact(G,M,a,i,j,c,out _ h M H _ Ext.refl r (by rfl) q)
def aik:Co:=(_,_,λ_ _ hu=>(_,v_ hu,Sf))
end F
namespace F
open L2
def ub(a b:Æ):Þ:=! Đ (b.cps.toList<a.cps.toList)
def ī:O2:=λx y h Q=>fH (sO x) (λa=>fH (sO y) (λb=>Q (.p (.B (ub a b))) h) ŧ) ŧ
def Sk:iC Y (λx y H Q=>∃i j,x=.S i/\y=.S j/\Q (.B ! Đ (j.cps.toList<i.cps.toList)) H) ī:=λG M h H x y v u Q c r i j q out=>by let(a,e,q):=b9 q;let(b,f,q):=b9 q;cases GL e;cases GL f;exact(_,_,jA i,jA j,out _ h M H _ Ext.refl r jH q)
def S':Co:=(ī,_,λ_ _ _=>(_,IG,Sk))
def W9:ON:=λds h Q=>match ds with|[.p (.S z)]=>gd (qC z.length) (Q (.p (.I z.length)) h)|_=>ŧ
def Mh:oW Y (λxs H Q=>∃z:Æ,xs=[.S z]/\z.length<=Ã/\Q (.I z.length) H) W9:=λG M h H xs s Q b r a q out=>by
 delta W9 at q;split at q;.let(v,rfl,i):=a.oz;let(k,q):=cg q;exact(_,by rw[jA i],fU k,out _ h M H _ Ext.refl r fE q)
 .rwa[q.elim]
def acS:Bi:=(_,_,bb,λ_ h H a hn j d=>xE yq Mh h H Cy a hn j d)
end F
namespace L2
def tu:Ł Î->Î|[]=>0|x::r=>x+tu r
def JM:tu (r++[x])=tu r+x:=by induction r with|f=>show x+0=0+x;lia|g y r i=>show y+tu (r++[x])=y+tu r+x;rw[i];lia
theorem Gx{ns:Ł Î}:∀i,i<=ns.length->preSum (λi=>ns[i]?.getD 0) i=tu (ns.take i)|0,_=>Ŗ|i+1,h=>by let e:ns[i]?=O ns[i]:=av (da h);show preSum _ i+ns[i]?.getD 0=_;rw[Gx i (Nat.le_of_succ_le h),List.take_succ,e,Option.toList_some,JM];rfl
def HA(j:X.calm):fi X (.builtin "sum") λxs H Q=>∃(l:À)(ns:Ł Î),xs=[.A l]/\gF X.K H l (ns.map V.I)/\Q (.I (tu ns)) H:=by
 intro P s σ H xs U Q I r h;let(l,ns,rfl,k,q):=h;let(u,rfl,m):=r.one;cases m;let(c,f,p,w):=I.tuple k;let len:=by let:=f.length;rw[af]at this;rwa[this]
 let lt:l<s.heap.objs.size:=by let(o,d,_):=p;rwa[ax d]
 erw[call_sum_walkG (gK p ?_)];erw[(_,_,_,_,_,_,λi=>ns[i]?.getD 0,Ŗ,Walks.tuple (A:=X.A.in1) (I.ok.hd j) _ l (aF lt) _,((_,ar _ Ŗ,Ŗ,Ŗ),by let(o,d,z):=p;exact(o,ae _ d,z)),λb a=>?_,λi v n=>?_,λx T y t=>?_)]
 .show b<(s.heap.push _).objs.size;rw[dI];rcases aB.mp a with rfl|a;.rwa[gq _]
  .rw[aG.mp a];rwa[eO lt]
 .let g:=by simpa using n
  let B:i<ns.length:=by rw[len];exact(aw.mp g).1
  let a:ns[i]?=O ns[i]:=av _;let(C,L,R):=f.get (by rw[aR,a];rfl);rw[g]at L;cases L;dsimp only;rw[a];rwa[R]
 .let e:preSum (λi=>ns[i]?.getD 0) c.toArray.size=tu ns:=by rw[aM,<-len,Gx _ (aq _),kM]
  rw[e];exact(.I _,H,I.kept λb o e=>t b o (λz=>by rw[aG.mp z]at e;rwa[bU _ (ax e)]) (ae _ e),(_,Ŗ),q)
def xp:entryFor table "list.index.loop"=O Builtin.«list.index.loop»:=qV Ŗ
def nJ:plainId "list.index.loop"=true:=∅
def MK{e:Â->Þ}(b:s.heap.IsList l its)(c:∀y,y∈its->MeetsSeq.EqGives y v (e y))(f:j<its.size)(q:(its.size:Î)<=N)(h:e its[j])(H:∀m(r:m<its.size),m<j->e its[m]=bb)(k:R (.ok (.ret (.int j s.toks))) {s with toks:=s.toks+1}):∀(m i:Ń),i+m=j->eq (b' P w) A (.builtin "list.index.loop" ([.ref l,v,c5 i,c5 N],[])) R s:=by intro m;induction m with|h=>intro i g;obtain rfl:i=j:=g;erw[cJ xp ?_];rw[dX nJ];let(o,a,p,n,d):=b;show bv _ _ (Ě (.ref l)>>=_) _ _ _;erw[aa (B6 a d ?_)];rw[bV ()];show bv _ _ (match its[(i:Î).toNat]? with|O x=>_|ao=>_) _ _ _;rw[dE,cY f];erw[aa (c _ (Array.getElem_mem f) _ w _ _ _ _ ?_)];rw[h,bV Ŗ];wp_walk;rwa[k]|j m I=>
  intro i g;let L:i<its.size:=()
  erw[cJ xp ?_];rw[dX nJ];let(o,a,p,n,d):=id b;show bv _ _ (Ě (.ref l)>>=_) _ _ _;erw[aa (B6 a d ?_)];rw[bV ()];show bv _ _ (match its[(i:Î).toNat]? with|O x=>_|ao=>_) _ _ _;rw[dE,cY L];erw[aa (c _ (Array.getElem_mem L) _ w _ _ _ _ ?_)];rw[H i L (),bN aD];rwa[ah (d8 nJ _,I (i+1) ())]
def wF(l:À)(x:Â):Builtin.«list.index» ([.ref l,x],[])=(do let its<-Ě (.ref l)again (.builtin "list.index.loop" ([.ref l,x,c5 0,c5 (2^63-1)],[]))):=rfl
def DQ{e:Â->Þ}{j:Ń}(c:∀y,y∈its->MeetsSeq.EqGives y v (e y))(d:j<its.size)(hz:its.size<=1000)(H:e its[j])(a:∀m(i:m<its.size),m<j->e its[m]=bb):Meets (Builtin.«list.index» ([.ref l,v],[])) λ_ R s=>s.heap.IsList l its/\R (.ok (.ret (.int j s.toks))) {s with toks:=s.toks+1}:=by intro p w A R s h;let(b,h):=h;rw[wF];let(o,f,k,n,g):=id b;erw[aa (B6 f g ?_)];rwa[ah (d8 nJ _,MK b c d () H a h _ 0 (cP _))]
def R8(z:Î):Â->Þ|.int y _=>y==z|_=>bb
def IB:y8 X "list.index" λx xs H Q=>∃(l:À)(ns:Ł Î)(z:Î)(j:Ń),x=.A l/\xs=[.I z]/\H l=O (.L (ns.map V.I))/\ns.length<=1000/\ns[j]?=O z/\(∀m,m<j->ns[m]?≠O z)/\Q (.I j) H:=by
 intro p s σ H x xs v U Q I C r h;let(l,ns,z,j,rfl,rfl,D,G,i,o,q):=h;cases C;let(u,rfl,T,rfl):=r.one;let(_,its,n,w,B):=I.cV l _ D;let len:=by let:=w.length;rw[af]at this;rwa[this]
 let at':∀(m:Ń)(y:Â),its[m]?=O y->∃k t,ns[m]?=O k/\y=.int k t:=λm y c=>by
  let a:m<ns.length:=by rw[len];exact(aw.mp c).1
  let e:ns[m]?=O ns[m]:=av a;let(K,Y,t,R):=w.get (by rw[aR,e];rfl);rw[c]at Y;cases Y;exact(_,t,e,R)
 let b:=(aw.mp i).1;erw[gI F6 (_,B,Ŗ) PySem.F.entry_list_index (PySem.F.args_list_index_2 _ _) (DQ (its:=its.toArray) (e:=R8 z) (j:=j) (λy c=>?_) (by rw[aM,<-len];rwa[b]) (by rw[aM,<-len];rwa[G]) ?_ λm a d=>?_) ((_,B,Ŗ,_,Ŗ),(.I _,H,I.tok _,(_,Ŗ),q))];.let(m,a,e):=vW.mp (show y∈its by simpa using c);let(k,t,_,rfl):=at' m y (by rw[<-e];rwa[av a]);rwa[MeetsSeq.EqGives.int k z t T]
 .let(k,t,E,f):=at' j _ (av (by rw[<-len];rwa[b]));rw[i]at E;cases E;show R8 z (its[j]'_)=J;rw[f];rwa[iJ _]
 .let g:m<its.length:=by simpa using a
  let(k,t,E,f):=at' m _ (av g);show R8 z (its[m]'_)=bb;rw[f];rwa[cG.mpr λz=>o m d (by rw[E,z])]
end L2
namespace F
open L2
def sj:ϑ->Ő (Ł Î)|[]=>O []|.I i::r=>(sj r).map (i::·)|_=>ao
theorem y9{Y:T0}{G M:Ł À}{H:Hp}:∀{xs:ϑ}{ns:Ł Î}{vs:ϕ},sj xs=O ns->aW (Y.z G) M H xs vs->vs=ns.map V.I
 |[],ns,vs,e,i=>by cases e;cases vs with|f=>rfl|g v r=>rwa[i.elim]
 |x::xs,ns,vs,e,i=>by cases vs with|f=>rwa[i.elim]|g v r=>cases x with|I k=>let(m,E,rfl):=cZ.mp e;let e0:v=V.I k:=i.1;rw[e0,y9 E i.2];rfl|_=>cases e
def Ŋ:ON:=λds h Q=>match ds with|[.p (.T x)]=>fH (sj x) (λn=>Q (.p (.I (tu n))) h) ŧ|_=>ŧ
def Sv:oW Y (λxs H Q=>∃(l:À)(ns:Ł Î),xs=[.A l]/\gF Y.K H l (ns.map V.I)/\Q (.I (tu ns)) H) Ŋ:=λG M h H xs s Q d r b q out=>by
 delta Ŋ at q;split at q;.let(v,rfl,i):=b.oz;let(ns,e,q):=b9 q;let(a,ws,rfl,s1,c):=i;rw[y9 e c]at s1;exact(a,ns,Ŗ,s1,out _ h M H _ Ext.refl r fE q)
 .rwa[q.elim]
def Yf:dN "sum"=O (.builtin "sum"):=rfl
def Ş:Bi:=(_,_,_,λh H m a hn j d=>xE (HA (h Ŗ)) Sv H m Yf a hn j d)
def i'(z:Î):Ł Î->Ń->Ő Ń|[],_=>ao|x::r,i=>bif lg x z then O i else i' z r (i+1)
theorem Mr:∀{ns:Ł Î}{i j:Ń},i' z ns i=O j->∃k,j=i+k/\ns[k]?=O z/\∀m,m<k->ns[m]?≠O z|[],i,j,e=>by cases e|x::r,i,j,e=>by delta i' at e;cases h:lg x z with|d=>rw[h]at e;cases e;exact(0,Ŗ,by rw[<-ic.mp h];rfl,λm H=>nomatch H)|e=>rw[h]at e;let(k,b,E,a):=Mr e;erw[(k+1,(),E,λm H=>?_)];cases m with|h=>rwa[λw=>by injection w with w;rw[ic.mpr w]at h;cases h]|j m=>rwa[a m ()]
def akw:OM:=λx ds h Q=>d1 ds λy=>fH (lA h x) (λX=>fH (iO y) (λz=>fH (sj X) (λn=>gd (Ë n.length 1000) (fH (i' z n 0) (λj=>Q (.p (.I (j:Ń))) h) ŧ)) ŧ) ŧ) ŧ
def Sh:Qn Y (λx xs H Q=>∃(l:À)(ns:Ł Î)(z:Î)(j:Ń),x=.A l/\xs=[.I z]/\H l=O (.L (ns.map V.I))/\ns.length<=1000/\ns[j]?=O z/\(∀m,m<j->ns[m]?≠O z)/\Q (.I j) H) akw:=λG M h H x xs v D Q F r i b q out=>by
 let(y,rfl,d):=Wz q;let(X,ex,e):=b9 d;let(z,f,g):=b9 e;let(ns,E,n):=b9 g;let(c,o):=cg n;let(k,p,s):=b9 o;cases qj f;let(w,rfl,j):=b.oz;let(a,U,t,s1,u):=fX r i ex;rw[y9 E u]at s1;let(m,K,B,C):=Mr p;obtain rfl:k=m:=()
 exact(a,ns,z,k,t,by rw[fJ j],s1,aj c,B,C,out _ h M H _ Ext.refl r fE s)
def akj:Mt:=(4,_,_,λh H b p l hn=>Xi ő F6 PySem.F.type_list_index IB Sh h H b p l hn)
def NH(D:∀i∈fok,∃ps,kX X.prog X.w X.K X.mg X.base k (t.gh i) ps (dB 'X' (fn i)))(B:fe k X.A)(C:f9 (qI X.prog X.w) X E)(I:PE X (.Subscript b i p) (cL 'X' E A))(L:PA X (a::rest) (fL 'X' E R))(N:(a::rest).all bW):PE X (.Call (.Subscript b i p) (a::rest) [] pos) (cL 'X' E (zQ fn fok ρ A R)):=(Bk I B C L N).imp λτ H QV Z=>by let(G,M,σ,h,y,Q,k,q):=Z;erw[(G,M,σ,h,y,_,(k.rel,k.env,λd P S H1 v g T U l=>?_,k.exc),q)];induction d with|r _=>left|p d=>cases d with|fn i=>let(c,l):=cg l;let(ps,f,W,F,Y,hk,hb):=D i (cy.mp c);let(a,j,rfl):=U;change X.mg _=O _ at j;rw[Y]at j;cases j;exact(f,W,ps,_,Ŗ,F,hk,hb,G,S,σ,P,y,_,(T,k.env.ext k.rel g,λds j M2 H2 vs z r2 i2 q2=>lE r2 i2 q2 (λd3 m n o w s u i3 x=>k.out d3 m n o w (g.trans (z.trans s)) u i3 x) λc m n o s u x=>k.exc c m n o (g.trans (z.trans s)) u x,k.CZ g),l)|_=>left
def Em.cli{Γ:Gm}{t:Tb}(ρ:Ϙ)(B:Em Γ t)(A:Am Γ t):Em Γ t:=(zQ _ _ ρ B.m A.m,λS=>gz λf e k _=>S.cm&&wD k&&(Aa (λ_ _ _=>J) f&&B.ck S f&&(!u0 e&&A.ck S e)),λo h=>by erw[dC h λf e k p h=>?_];let(H,h):=ag h;let(c,h):=ag h;let(d,g):=ag c;let(j,l):=ag h;rw[fk (ag H).2];cases e with|f=>cases j|g a e=>let(pa,P):=A.pa o l;let z:=B.pe o g;revert z;rwa[kh d λb i q _=>λz=>NH (o.fnX (ag H).1) (o.room (ag H).1) o.hp z pa P])
def XV(i j:Ń)(A:Sm):Ss:=λN σ h=>A N.xc σ h λds H=>match ds with|[d,e]=>N.nx ((σ.set i (O d)).set j (O e)) H|_=>ŧ
def Ua{st:É}(s:∀T,PA X es T->PS X st (Qa i j T))(a:PA X es (fL 'X' E A)):PS X st (eX 'X' E (XV i j A)):=(s _ a).imp λD τ H z=>by
 let(G,M,σ,h,N,k,q):=z;erw[(G,M,σ,h,_,_,(k.rel,k.env,λds f M2 b g e r I Q=>?_,k.exc),q)];split at Q;.let(v,u,rfl,c,d):=I.two';exact(v,u,Ŗ,k.nx _ _ M2 b _ e r (((k.env.ext k.rel e).set c).set d) Q)
 .rwa[Q.elim]
def Ϲ(S:Sx)(i j:Ń)(x:Æ)(p:Ó)(y:Æ)(py:Ó)(a b:Ä):Þ:=Bf x i S.N&&Bf y j S.N&&(wI S.sc x&&wI S.sc y&&(!Nat.beq i j&&(!cQ x y&&p.line==py.line)))&&(bW a&&bW b&&(!foldedForSure 8 a&&!constantsAlone 8 a&&S.cm))
def aap{k2:Ń}(f:env.scope.names.lookup x=O .local)(g:env.scope.names.lookup y=O .local)(i:env.scope.kind=.function)(l:(p.line==py.line))(H:cQ x y=bb)(pa:bW a)(pb:bW b)(F:foldedForSure 8 a=bb)(C:constantsAlone 8 a=bb):jp [.Tuple [.Name x p,.Name y py] k pt] (.Tuple [a,b] k2 p2) env=pure (O [x,y]):=by
 let k1:env.blockKind=.function:=by delta Env.blockKind;rw[i];rfl
 let K:env.kindOf x=O NameKind.local:=f;let j:env.kindOf y=O NameKind.local:=g;let n:x≠y:=λe=>by rw[bX.mpr e]at H;cases H
 let l1:p.line=(Expr.Name x p).pos.line:=Ŗ;let l2:py.line=p.line:=(wW l).symm;let E:([x,y]:ϐ).eraseDups.length=2:=by simp[List.eraseDups_cons,cI n]
 delta jp;dsimp only;rw[bN (by rw[k1];rwa[aD]),bN (by
  intro h;let(z,d,c):=G5.mp h;clear h;rcases aB.mp d with rfl|d
  .split at c;.cases pa
   .cases c
  .rw[aG.mp d]at c;split at c;.cases pb
   .cases c)];simp[K,j,<-l1,l2,E,F,C]
def Mm.par{Γ:Gm}{t:Tb}(i j:Ń)(A:Am Γ t):Mm Γ t:=(XV i j A.m,λS=>JZ λT e _=>iU (l1 T) (Ab λs _ _=>iU (l2 s) λq=>oR (λx P=>oR (λy d=>Ab (λv _ _=>iU (l2 v) (λp=>Ϲ S i j x P y d p.1 p.2)&&A.ck S v) e) q.2) q.1),λ{k S X E st}o h=>by
 erw[qH h λT e pos h=>?_];let(Z,n,h):=b8 h;rw[eG n];erw[jt h λs kt pt h=>?_];let(q,r,h):=b8 h;rw[mn r];erw[fM h λx P h=>?_];erw[fM h λy d h=>?_];erw[jt h λv k2 p2 h=>?_];let(H,f):=ag h;let(p,u,H):=b8 H;rw[mn u]at f⊢;let(w,z):=ag H;let(c,B):=ag w;let(N,D):=ag c;let(C,g,F,G):=mS B;let(o1,I):=ag C;let(a,K):=ag z;let(M,Q):=ag a;let(b,R):=ag K;let(U,W):=ag b;let l:X.env.scope.names.lookup x=O .local:=by rw[o.x.hs];rwa[rR o1]
 let L:X.env.scope.names.lookup y=O .local:=by rw[o.x.hs];rwa[rR I]
 rwa[Ua (λta Y=>ε (o.x.hc R).1 o.nd (by rw[o.x.hN];rwa[ig N]) (by rw[o.x.hN];rwa[ig D]) (λe=>by rw[e,jP]at g;cases g) l L Y (aap l L o.kd G (fG F) M Q (fG U) (fG W)) rfl) (A.pa o.x f).1])
end F
namespace L2
def TJ(h:PA X es t):PE X (.Tuple es x pos) λσ H Q=>t σ H λvs a=>∃bs:Ł À,vs=bs.map V.A/\bs.length<=Ã/\∀p,a p=ao->Q (.A p) (de a p (Ku p bs)):=by intro P s σ H Q I c;erw[Ĺ (Qf (h pos _ s σ H _ I c) λU s1 f a i r bs=>?_)];let(bs,e,z,q):=bs;subst e;cases xV r;erw[(by rw[af];rwa[z],?_)];let hn:Qq (s1.heap.push {cls:=.type "tuple",data:=.seq (bs.map Ò).toArray}) s1.heap.objs.size (bs.map Ò).toArray:=(_,_,ar _ Ŗ,Ŗ,Ŗ,Ŗ);let d:Inv X P σ (de a s1.heap.objs.size (Ku _ bs)) {s1 with heap:=s1.heap.push _}:=i.laid (λb u e=>ae _ e) (aq _) (hn,(_,ar _ Ŗ),VH);exact(.A _,_,d,Ŗ,q _ (i.cV.fresh (aq _)))
end L2
namespace F
open L2
def Xc:ON:=λds h Q=>match Xn ds with|O x=>gd (X1 x&&qC (Á x)) (Q (.p (.wld x)) h)|ao=>ŧ
def TV{k1:Ń}(h:PA X r (fL 'X' E A)):PE X (.Tuple r k1 pos) (cL 'X' E (sN Xc A)):=(TJ h).imp λτ H g z=>by
 let(G,M,σ,h,x,Q,k,q):=z;erw[(G,M,σ,h,x,_,(k.rel,k.env,λd e m j v f R i a=>?_,k.exc),q)];delta kN Xc at a;split at a;.ext s ex;let(c,a):=cg a;let i2:=rS ex i;let(bs,rfl):=E8 (ag c).1 i2;exact(bs,Ŗ,by let:=i2.len;rw[af]at this;rw[<-this];rwa[fU (ag c).2],λp b=>k.out (.p (.wld s)) e m _ _ (f.trans (Ext.add b)) (R.add b) (p,bs,Ŗ,R.nj b,bA,i2.ext R (Ext.add b)) a)
 .rwa[a.elim]
def Em.wU{Γ:Gm}{t:Tb}(A:Am Γ t):Em Γ t:=(_,λS=>Ab λe _ _=>A.ck S e,λo h=>jt h λ_ _ _ h=>TV (A.pa o h).1)
end F
namespace L2
abbrev Kv(a b:À)(f:Â)(F:Þ):Ú:={cls:=.type "zip",dict:=ao,data:=.fields #[f,.bool F,.bool bb,.ref a,.ref b],slots:=#[]}
def ZpF(h:Ç)(z a b c d D:À)(k:Ń):ß:=h.get? z=O (Kv a b .none bb)/\k=0\/∃T o f,h.get? z=O (Kv a b (c5 (T:Ń)) f)/\h.get? T=O o/\T≠z/\T≠b/\T≠c/\T≠d/\T≠D
structure Wo(h:Ç)(z a b c d l t D:À)(xs ys:Array Â)(k:Ń):ß where
 f:ZpF h z a b c d D k
 its:ff h a (.ref c) (.ref d)own:∃x y,ff h b x y
 i1:h.IsListIter c l k
 i2:h.IsTupleIter d t k
 hl:h.IsList l xs
 ht:h.IsTuple t ys
structure ă(z a b c d l t D:À):ß where
 p:Qs z a b c d
 l:l≠z/\l≠b/\l≠c/\l≠d/\l≠D
 t:t≠z/\t≠b/\t≠c/\t≠d/\t≠D
 D:D≠z/\D≠a/\D≠b/\D≠c/\D≠d
def sm(s:am)(z a b c d l t D:À)(xs ys:Array Â)(k:Ń)(x y:Â)(Q:c9):ß:=∀T h,Wo h z a b c d l t D xs ys (k+1)->ff h T x y->s.heap.get? T=ao->(∀e o,e≠z->e≠b->e≠c->e≠d->s.heap.get? e=O o->h.get? e=O o)->Q (.ref T) {s with heap:=h}
def PQ{E:c9}(N:ă z a b c d l t D)(hz:s.heap.get? z=O (Kv a b .none bb))(S:Wo s.heap z a b c d l t D xs ys k)(H:∃o,s.heap.get? D=O o)(hx:xs[k]?=O x)(hy:ys[k]?=O y)(hQ:sm s z a b c d l t D xs ys k x y Q):bv (b' P w) A (Builtin.«zip.__next__» ([.ref z],[])) (λF s'=>∃v,F=.done (.ret v)/\Q v s') E s:=by
 let Z:IsZip s.heap z a b .none:=hz;obtain⟨_,X,⟨p,q,zo⟩,z1,z2,hl,ht⟩:=S;let(oD,H):=H;let M:=N.p;let o1:=N.l;let f:=N.t;show bv _ _ (field (.ref z) 2>>=_) _ _ _;erw[aa (bg Z Ŗ (x:=.bool bb) Ŗ ?_)];show bv _ _ (field (.ref z) 3>>=_) _ _ _;erw[aa (bg Z Ŗ (x:=.ref a) Ŗ ?_)];erw[aa (cD X Ŗ ?_)];show bv _ _ (q2' (.ref z)>>=_) _ _ _;erw[aa ?_];delta q2';erw[aa (bg Z Ŗ (x:=.none) Ŗ (ah ?_))];simp only[mO];erw[aa (f7 ?_)];erw[aa (bg Z Ŗ (x:=.ref b) Ŗ ?_)];erw[aa (dm Z ⋯ λk1 G s1=>?_)];replace G:IsZip k1 z a b .ellipsis:=G;erw[aa ?_];simp only[G8,Kj,eQ,nX];erw[aa (aa (lJ ?_))];show bv _ _ (q0' (.ref c)>>=_) _ _ _;erw[aa (O' (z1.extBut s1.extBut M.cz) (hl.extBut s1.extBut o1.1) hx λk2 y2 s2=>ah ?_)];let w2:ff k2 b p q:=s2.extBut _ _ M.bc (s1.extBut _ _ M.bz zo);erw[aa (cD w2 Ŗ ?_)];erw[aa (iA w2 λk3 I i=>?_)];replace I:ff k3 b x q:=I;erw[aa (vZ (ah ?_))];erw[aa (aa (lJ ?_))];show bv _ _ (q0' (.ref d)>>=_) _ _ _;erw[aa (mZ (((z2.extBut s1.extBut M.dz).extBut s2.extBut M.cd.symm).extBut i.extBut M.bd.symm) (((ht.extBut s1.extBut f.1).extBut s2.extBut f.2.2.1).extBut i.extBut f.2.1) hy λk4 y4 j=>ah ?_)];let w4:ff k4 b x q:=j.extBut _ _ M.bd I;erw[aa (cD w4 Ŗ ?_)];erw[aa (iA w4 λK Y m=>?_)];replace Y:ff K b x y:=Y;erw[aa (vZ (ah (ah ?_)))];erw[aa (cD Y Ŗ ?_)];erw[aa (n8 ?_)];let sz:K.objs.size=s.heap.objs.size:=by rw[m.1,j.1,i.1,s2.1,s1.1]
 let n:=m.extBut _ _ M.bz.symm (j.extBut _ _ M.dz.symm (i.extBut _ _ M.bz.symm (s2.extBut _ _ M.cz.symm G)));let u:∀e o,e≠z->e≠b->e≠c->e≠d->s.heap.get? e=O o->K.get? e=O o:=λe o h B L R g=>m.extBut _ _ B (j.extBut _ _ R (i.extBut _ _ B (s2.extBut _ _ L (s1.extBut _ _ h g))));let r:=ax n;show bv _ _ (q1' _ (.ref K.objs.size)>>=_) _ _ _;erw[aa ?_];erw[aa (dm (ae _ n) ⋯ λk7 T s7=>?_)];replace T:IsZip k7 z a b _:=T;erw[dm T ⋯ λU C s8=>?_];replace C:IsZip U z a b _:=C;let up:∀e o,e≠z->K.get? e=O o->U.get? e=O o:=λe o h g=>s8.extBut _ _ h (s7.extBut _ _ h (ae _ g));let W:=s8.extBut _ _ (dA r) (s7.extBut _ _ (dA r) (ar _ Ŗ));rw[sz]at C W;erw[ah (_,Ŗ,?_)];rw[sz];let lt:∀{e o},s.heap.get? e=O o->s.heap.objs.size≠e:=λe=>dA (ax e);let(oc,hc,_):=id z1;let(od,hd,_):=id z2;erw[hQ _ U (.inr (_,_,bb,C,W,lt Z,lt zo,lt hc,lt hd,lt H),up _ _ M.az (u _ _ M.az M.ab M.ac M.ad X),(x,y,up _ _ M.bz Y),(((y2.extBut i.extBut M.bc.symm).extBut j.extBut M.cd).extBut m.extBut M.bc.symm).at λo g=>up _ o M.cz g,(y4.extBut m.extBut M.bd.symm).at λo g=>up _ o M.dz g,?_,?_) W ?_ λe o h B L R g=>up e o h (u e o h B L R g)];.rwa[hl.at λo g=>up _ o o1.1 (u _ o o1.1 o1.2.1 o1.2.2.1 o1.2.2.2.1 g)]
 .rwa[ht.at λo g=>up _ o f.1 (u _ o f.1 f.2.1 f.2.2.1 f.2.2.2.1 g)]
 .cases e:s.heap.get? s.heap.objs.size with|a=>rfl|c o=>rwa[Ă (ax e) (bU _)]
def PM{E:c9}(h:s.heap.get? e=O o)(q:Q (O o) s):bv (b' P w) A (loadIfAlive e) Q E s:=λΓ p _=>by show Q (s.heap.get? e) s;rw[h];rwa[q]
def vO{E:c9}{T:À}(hz:s.heap.get? z=O (Kv a b (c5 (T:Ń)) f))(h:s.heap.get? T=O o)(q:∀k1:Ç,k1.get? z=O (Kv a b (c5 (T:Ń)) J)->è z s.heap k1->k1.objs.size=s.heap.objs.size->Q bb {s with heap:=k1}):bv (b' P w) A (q2' (.ref z)) Q E s:=by delta q2';erw[aa (bg hz Ŗ (x:=c5 (T:Ń)) Ŗ ?_)];show bv _ _ (loadIfAlive ((T:Ń):Î).toNat>>=_) _ _ _;rw[dE];erw[aa (PM h ?_)];erw[aa (bg hz Ŗ (x:=.bool f) Ŗ ?_)];cases f with|d=>rwa[ah (q _ hz (λ_ _ _ g=>g) Ŗ)]|e=>rwa[aa (dm hz ⋯ λk1 Y s1=>ah (q k1 Y s1.extBut s1.1))]
def Wa{E:c9}(N:ă z a b c d l t D){T:À}(hz:s.heap.get? z=O (Kv a b (c5 (T:Ń)) G))(H:s.heap.get? T=O o)(n:T≠z/\T≠b/\T≠c/\T≠d/\T≠D)(S:Wo s.heap z a b c d l t D xs ys k)(I:xs[k]?=O x)(L:ys[k]?=O y)(R:sm s z a b c d l t D xs ys k x y Q):bv (b' P w) A (Builtin.«zip.__next__» ([.ref z],[])) (λF s'=>∃v,F=.done (.ret v)/\Q v s') E s:=by
 obtain⟨_,u,⟨p,q,U⟩,W,Y,B,C⟩:=S;let M:=N.p;let o1:=N.l;let f:=N.t;show bv _ _ (field (.ref z) 2>>=_) _ _ _;erw[aa (bg hz Ŗ (x:=.bool bb) Ŗ ?_)];show bv _ _ (field (.ref z) 3>>=_) _ _ _;erw[aa (bg hz Ŗ (x:=.ref a) Ŗ ?_)];erw[aa (cD u Ŗ ?_)];show bv _ _ (q2' (.ref z)>>=_) _ _ _;erw[aa ?_];erw[vO hz H λk1 hk X i=>?_];simp only[dP,gS];erw[aa ?_];simp only[List.forIn_toArray,eQ,nX];erw[aa (aa (bJ ?_))];show bv _ _ (q0' (.ref c)>>=_) _ _ _;erw[aa (O' (W.extBut X M.cz) (B.extBut X o1.1) I λk2 y2 s2=>ah (ah ?_))];erw[aa (aa (bJ ?_))];show bv _ _ (q0' (.ref d)>>=_) _ _ _;erw[aa (mZ ((Y.extBut X M.dz).extBut s2.extBut M.cd.symm) ((C.extBut X f.1).extBut s2.extBut f.2.2.1) L λK y3 h=>ah (ah (ah ?_)))];show bv _ _ (newTuple [x,y]>>=_) _ _ _;erw[aa (n8 ?_)];let sz:K.objs.size=s.heap.objs.size:=by rw[h.1,s2.1,i]
 let up:∀e o,e≠z->e≠c->e≠d->s.heap.get? e=O o->K.get? e=O o:=λe o j m r g=>h.extBut _ _ r (s2.extBut _ _ m (X _ _ j g));erw[ah (_,Ŗ,?_)];let Z:=h.extBut _ _ M.dz.symm (s2.extBut _ _ M.cz.symm hk);rw[sz];erw[R _ _ (.inr (T,o,J,ae _ Z,ae _ (up _ _ n.1 n.2.2.1 n.2.2.2.1 H),n),ae _ (up _ _ M.az M.ac M.ad u),(p,q,ae _ (up _ _ M.bz M.bc M.bd U)),(y2.extBut h.extBut M.cd).at λo g=>ae _ g,y3.at λo g=>ae _ g,B.at λo g=>ae _ (up _ o o1.1 o1.2.2.1 o1.2.2.2.1 g),C.at λo g=>ae _ (up _ o f.1 f.2.2.1 f.2.2.2.1 g)) ?_ ?_ λe o j e2 m r g=>ae _ (up e o j m r g)];.rw[<-sz];rwa[ar _ Ŗ]
 .cases e:s.heap.get? s.heap.objs.size with|a=>rfl|c o=>rwa[Ă (ax e) (bU _)]
def Wb{E:c9}(N:ă z a b c d l t D)(S:Wo s.heap z a b c d l t D xs ys k)(j:∃o,s.heap.get? D=O o)(e:xs[k]?=O x)(g:ys[k]?=O y)(m:sm s z a b c d l t D xs ys k x y λv=>Q (O v)):bv (b' P w) A (d4 (.ref z)) Q E s:=by
 let go:∀i F,s.heap.get? z=O (Kv a b i F)->(∀{E Q},sm s z a b c d l t D xs ys k x y Q->bv (b' P w) A.in1 (Builtin.«zip.__next__» ([.ref z],[])) (λn p=>∃v,n=.done (.ret v)/\Q v p) E s)->bv (b' P w) A (d4 (.ref z)) Q E s:=λi F h I=>have H:s.TypeIs (.ref z) "zip":=(_,h,Ŗ);aa (eJ (bC H kH (bK kH H ų (I λT r u B C G=>ah (m T r u B C G)) (R0 _))));rcases id S.f with ⟨h,_⟩|⟨T,o,F,h,H,K⟩;.rwa[go _ _ h λq=>PQ N h S j e g q]
 .rwa[go _ _ h λq=>Wa N h H K S e g q]
def We{E:c9}(j:A.handled=ao)(N:ă z a b c d l t D)(S:Wo s.heap z a b c d l t D xs ys k)(m:k≠0)(n:xs[k]?=ao)(r:∀H,(∀e o,e≠z->e≠b->e≠c->e≠d->s.heap.get? e=O o->H.get? e=O o)->Q ao {s with heap:=H}):bv (b' P w) A (d4 (.ref z)) Q E s:=by
 obtain⟨f,Z,⟨p,q,W⟩,u,Y,v,ht⟩:=S;rcases f with ⟨h,K⟩|⟨T,o,f1,h,B,nT⟩;.rwa[Ă K m]
 let M:=N.p;let i:s.TypeIs (.ref z) "zip":=(_,h,Ŗ);erw[aa (eJ (bC i kH (bK kH i ų ?_ (R0 _))))];show bv _ _ (field (.ref z) 2>>=_) _ _ _;erw[aa (bg h Ŗ (x:=.bool bb) Ŗ ?_)];show bv _ _ (field (.ref z) 3>>=_) _ _ _;erw[aa (bg h Ŗ (x:=.ref a) Ŗ ?_)];erw[aa (cD Z Ŗ ?_)];show bv _ _ (q2' (.ref z)>>=_) _ _ _;erw[aa ?_];erw[vO h B λk1 C X F=>?_];simp only[dP,gS];erw[aa ?_];simp only[List.forIn_toArray,eQ,nX];erw[aa (aa (bJ ?_))];show bv _ _ (q0' (.ref c)>>=_) _ _ _;erw[aa (wpAny_nextOf_list_end j (u.extBut X M.cz) (v.extBut X N.l.1) n λk2 e s2 G=>?_)];let(o,I,L):=G;rwa[aa (gr (o,I,L) jU (ah (r _ λe o R e2 U e4 g=>s2 _ _ U (X _ _ R g))))]
def PN:entryFor table "zip.__getattribute__"=O Builtin.«object.__getattribute__»:=Qj (id':="object.__getattribute__") (by kernel_rfl) ∅ ∅ (by kernel_rfl)
def Wc:hG (.type "zip") "__getattr__"=pure none:=by rw[typeLookup_type,ņ];kernel_rfl
def V8:hG (.type "zip") "keys"=pure none:=by rw[typeLookup_type,ņ];kernel_rfl
def V9(z:À)(a b:À)(f:Â)(F:Þ)(u:Tok):Meets (Builtin.«object.__getattribute__» ([.ref z,.str "keys" u],[])) λA R s=>s.heap.get? z=O (Kv a b f F)/\raisesAttr (.ref z) "keys" A R s:=Meets.of_wp λp w A R s h=>by
  let(H,g,d,t,os):=s;let(x,h):=h;let T:((H,g,d,t,os):am).TypeIs (.ref z) "zip":=(_,x,Ŗ);let C:=V8;delta Builtin.«object.__getattribute__»;repeat(any_goals(first|assumption|wp_step))
  rwa[wpAny_raiseAttrError h.1 h.2 (attrMsg_fits ∅ (by size_fits))]
def J4{E:c9}(H:s.heap.get? z=O (Kv a b c f))(i:A.handled=ao)(h:∀h' t,(∀e o,s.heap.get? e=O o->h'.get? e=O o)->Q ao {s with heap:=h',toks:=t}):bv (b' prog w) A (getAttr? (.ref z) "keys") Q E s:=by
 let(p,g,d,t,os):=s;let T:∀P,((p,g,d,P,os):am).TypeIs (.ref z) "zip":=λ_=>(_,H,Ŗ);let f:=sub_AttributeError;let j:=lP.lookup;let f4:=lP.bind (.ref z);let k:=Wc;delta getAttr? getAttrBy?;delta getAttrBy;repeat(any_goals(first|assumption|rwa[T _]|((with_reducible show bv _ _ (call (í "zip.__getattribute__") _ _) _ _ _);erw[gI lP (T _) PN (PySem.F.args_zip_getattribute_2 _ _) (V9 z a b _ _ _) (H,i,λh' P e Z=>?_)])|wp_step))
 let(l,u,m):=Z.there;show bv _ _ (wE _ _ _ _ _ _ _) _ _ _;delta wE;repeat(any_goals(first|rfl|wp_step))
 rwa[h _ _ Z.keeps]
section
variable{P:ci}{w:ce}{κ:Type}[DecidableEq κ]{knd:KeyKind P w κ}{A:cp}{z a b c d l t D:À}{xs ys:Array Â}
theorem MP{ps:Ł (κ×Â)}{R:Result->am->ß}(hh:A.handled=ao)(N:ă z a b c d l t D)(hx:xs.size=ps.length)(hz:ps.length<=1000)(h0:ps.length≠0)(R6:∀(j:Ń)(p:κ×Â),ps[j]?=O p->∃key,xs[j]?=O key/\ys[j]?=O p.2/\knd.is p.1 key):∀(m i:Ń)(aO:Ł (κ×Â))(s:am),i+m=ps.length->Wo s.heap z a b c d l t D xs ys i->s.heap.DictOf knd D aO->aO.length<=i->(∀h' v,h'.DictOf knd D (merged aO (ps.drop i))->(∀e o,e≠D->e≠z->e≠b->e≠c->e≠d->s.heap.get? e=O o->h'.get? e=O o)->R (.ok (.ret .none)) {s with heap:=h',toks:=v})->eq (b' P w) A (.builtin "dict.update.loop" ([.ref D,.ref z,c5 i,.none],[])) R s:=by intro m;induction m with|h=>intro i aO s Q st B hk C;erw[cJ lY ?_];rw[dX gi];delta Builtin.«dict.update.loop»;obtain rfl:i=ps.length:=Q;erw[aa (We hh N st h0 (eY (eI hx)) λh' k=>?_)];show bv _ _ (Ŏ D []>>=_) _ _ _;erw[aa (ah (ah ?_))];let(F,G,I,h,r):=B;erw[C h' s.toks ?_ λe o _=>k e o];rw[Ĭ (aq _)];exact(F,G,I,k _ _ N.D.1 N.D.2.2.1 N.D.2.2.2.1 N.D.2.2.2.2 h,r)|j m ih=>
  intro i aO s Q st B hk C;erw[cJ lY ?_];rw[dX gi];delta Builtin.«dict.update.loop»;let U:i<ps.length:=()
  let H:=av U;let Dq:=oU U;generalize ps[i]=p at H Dq;let(key,kx,ky,wA):=R6 i p H;let(F,G,I,h,rD):=id B;erw[aa (Wb N st (_,h) kx ky λT W S X Y k=>?_)];let K:W.DictOf knd D aO:=(F,G,I,k _ _ N.D.1 N.D.2.2.1 N.D.2.2.2.1 N.D.2.2.2.2 h,rD);erw[aa (bJ (aa (wpAny_tryCatch ?_)))];delta ş;erw[aa (fR (T:="tuple") (_,X,Ŗ) ?_)];rw[bV ∅];erw[aa ?_];delta seqItems?;erw[aa (Aq X ?_)];erw[ah (ah ?_)];let l3:(1000:Ń)<=Ã:=∅
  erw[bJ (YP wA K (λZ L M=>?_) ())];erw[ah (d8 gi _,?_)];let hTD:T≠D:=λe=>by rw[e,h]at Y;cases Y
  let k2:∀e o,e≠D->W.get? e=O o->Z.get? e=O o:=λe o n g=>(M.2 e n).trans g;let E:c5 ((i:Î)+1)=c5 ((i+1:Ń):Î):=Ŗ;erw[ih (i+1) (Ĉ aO p.1 p.2) {s with heap:=Z,toks:=s.toks+1} () ?_ L ?_ λh' v BU k'=>?_]
  .obtain⟨f,q1,⟨x,y,q2⟩,q3,q4,q5,q6⟩:=S;erw[(?_,k2 _ _ N.D.2.1.symm q1,(x,y,k2 _ _ N.D.2.2.1.symm q2),q3.at λo g=>k2 _ o N.D.2.2.2.1.symm g,q4.at λo g=>k2 _ o N.D.2.2.2.2.symm g,q5.at λo g=>k2 _ o N.l.2.2.2.2 g,q6.at λo g=>k2 _ o N.t.2.2.2.2 g)];rcases f with ⟨_,e⟩|⟨T',o,f1,E,u,q⟩;.rwa[Ă e (Nat.succ_ne_zero _)]
   .rwa[.inr (T',o,f1,k2 _ _ N.D.1.symm E,k2 _ _ q.2.2.2.2 u,q)]
  .delta Ĉ;split;.rw[af];rwa[aU ‹_›]
   .left
  .erw[C h' v ?_ λe o e0 E u q e4 g=>k' e o e0 E u q e4 (k2 e o e0 (k e o E u q e4 g))];rw[Dq];rwa[BU]
def Li{E:c9}{s:am}{Q:c9}(H:A.handled=ao)(M:Qs z a b c d)(nl:l≠z/\l≠b/\l≠c/\l≠d)(N:t≠z/\t≠b/\t≠c/\t≠d)(e:s.heap.get? z=O (Kv a b .none bb))(S:Wo s.heap z a b c d l t s.heap.objs.size xs ys 0)(R:xs.size=ps.length)(hz:ps.length<=1000)(U:ps.length≠0)(W:∀(j:Ń)(p:κ×Â),ps[j]?=O p->∃key,xs[j]?=O key/\ys[j]?=O p.2/\knd.is p.1 key)(h:∀h' T,h'.DictOf knd s.heap.objs.size (merged [] ps)->(∀e o,e≠z->e≠b->e≠c->e≠d->s.heap.get? e=O o->h'.get? e=O o)->Q (.ref s.heap.objs.size) {s with heap:=h',toks:=T}):bv (b' P w) A (call (.type "dict") [.ref z]) Q E s:=by erw[callType_codes (Q₁:=λm i=>m=.ref _/\i={s with heap:=s.heap.push _}) F.kt_called_dict (ZF _) F.entry_dict_init (kt_code_dict_new _ (Ŗ,Ŗ)) ?_];rintro m i ⟨rfl,rfl⟩;let Y:(s.heap.push _).DictOf knd _ []:=Ki _;erw[(Y.typeIs,F.args_dict_init_2 _ _,?_)];erw[aa ?_];erw[aa (uu Y.typeIs ?_)];erw[ah ?_];show bv _ _ (Ļ _ _ _ [] _) _ _ _;let n:(s.heap.push {cls:=.type "dict",data:=.dict #[]}).get? z=O _:=ae _ e;erw[aa (fR (_,n,Ŗ) ?_)];rw[bV (by rfl)];erw[aa (J4 n H λv u k1=>?_)];erw[aa (f7 ?_)];let(X,Z,ep,e',r):=Y;erw[aa (wpAny_pyIter_zip (k1 _ _ n) ?_)];erw[ah (d8 gi _,?_)];let k:∀b o,s.heap.get? b=O o->v.get? b=O o:=λb o q=>k1 _ _ (ae _ q);let lt:∀{e o},s.heap.get? e=O o->e≠s.heap.objs.size:=λe=>aF (ax e);obtain⟨f,B,⟨x,y,C⟩,G,I,K,L⟩:=S;let(o3,g3,_):=id G;let(o4,g4,_):=id I;let(o5,g5,_):=id K;let(o6,g6,_):=id L;let e0:c5 (0:Î)=c5 ((0:Ń):Î):=Ŗ;rw[e0];erw[MP (A:=A.in1) H (M,(nl.1,nl.2.1,nl.2.2.1,nl.2.2.2,lt g5),(N.1,N.2.1,N.2.2.1,N.2.2.2,lt g6),((lt e).symm,(lt B).symm,(lt C).symm,(lt g3).symm,(lt g4).symm)) R hz U W _ 0 [] {s with heap:=v,toks:=u} (cP _) (.inl (k _ _ e,Ŗ),k _ _ B,(x,y,k _ _ C),G.at λo g=>k _ o g,I.at λo g=>k _ o g,K.at λo g=>k _ o g,L.at λo g=>k _ o g) (X,Z,ep,k1 _ _ e',r) (aq _) λh' T BU k'=>(Ŗ,h h' T BU λe o n e2 e3 e4 g=>k' e o (lt g) n e2 e3 e4 (k _ _ g))]
end
abbrev r0(h:Ç)(l:À):Ç:=h.push {cls:=.type "list_iterator",data:=.fields #[.ref l,.int 0 0]}
abbrev wS(h:Ç)(l t:À):Ç:=(r0 h l).push {cls:=.type "tuple_iterator",data:=.fields #[.ref t,.int 0 0]}
abbrev tt(h:Ç)(l t:À):Ç:=(wS h l t).push {cls:=.type "tuple",data:=.seq #[.ref h.objs.size,.ref (r0 h l).objs.size]}
abbrev ro(h:Ç)(l t:À):Ç:=(tt h l t).push {cls:=.type "tuple",data:=.seq #[.none,.none]}
abbrev h9(h:Ç)(l t:À):Ç:=(ro h l t).push {cls:=.type "zip",data:=.fields #[.none,.bool bb,.bool bb,.ref (wS h l t).objs.size,.ref (tt h l t).objs.size]}
def BN(l t:À)(xs ys:Array Â):Meets (Builtin.«zip.__new__» ([.type "zip",.ref l,.ref t],[])) λ_ R s=>s.heap.IsList l xs/\s.heap.IsTuple t ys/\R (.ok (.ret (.ref (ro s.heap l t).objs.size))) {s with heap:=h9 s.heap l t}:=.of_wp λp w A R s h=>by let(H,g,d,T,os):=s;let(a,b,h):=h;let D:=sub_zip;let L:Heap.IsList (Shared.heap (H,g,d,T,os)) l xs:=a;wp_walk using jX L,gK (Heap.IsTuple.push b _);exact(_,Ŗ,h)
def HB{E:c9}{s:am}{Q:c9}(H:s.heap.IsList l xs)(b:s.heap.IsTuple t ys)(h:∀h',(∀D,Wo h' (s.heap.objs.size+4) (s.heap.objs.size+2) (s.heap.objs.size+3) s.heap.objs.size (s.heap.objs.size+1) l t D xs ys 0)->(∀e o,s.heap.get? e=O o->h'.get? e=O o)->h'.get? (s.heap.objs.size+4)=O (Kv (s.heap.objs.size+2) (s.heap.objs.size+3) .none bb)->Q (.ref (s.heap.objs.size+4)) {s with heap:=h'}):bv (b' P w) A (call (.type "zip") [.ref l,.ref t]) Q E s:=by
 erw[callType_new PySem.F.called_zip ∅ (PySem.F.typeCall_zip_2 _ _) (PySem.F.newCall_zip_2 _ _) (λj=>PySem.F.args_object_init_3 j _ _) PySem.F.entry_zip_new (BN l t xs ys) (H,b,?_)];let z:(r0 s.heap l).objs.size=s.heap.objs.size+1:=dI ..;let Z:(wS s.heap l t).objs.size=s.heap.objs.size+2:=by rw[dI,z]
 let a:(tt s.heap l t).objs.size=s.heap.objs.size+3:=by rw[dI,Z]
 let c:(ro s.heap l t).objs.size=s.heap.objs.size+4:=by rw[dI,a]
 let y:(h9 s.heap l t).get? (ro s.heap l t).objs.size=O _:=ar _ Ŗ;let Y:(h9 s.heap l t).get? (tt s.heap l t).objs.size=O _:=ae _ (ar _ Ŗ);let d:(h9 s.heap l t).get? (wS s.heap l t).objs.size=O _:=ae _ (ae _ (ar _ Ŗ));let f:(h9 s.heap l t).get? (r0 s.heap l).objs.size=O _:=ae _ (ae _ (ae _ (ar _ Ŗ)));let i:(h9 s.heap l t).get? s.heap.objs.size=O _:=ae _ (ae _ (ae _ (ae _ (ar _ Ŗ))));let up:∀e o,s.heap.get? e=O o->(h9 s.heap l t).get? e=O o:=λe o g=>ae _ (ae _ (ae _ (ae _ (ae _ g))));show _/\_;rw[Z,a,c]at y;rw[z,Z]at d;rw[a]at Y;rw[z]at f;rw[c];exact((_,y,Ŗ),h _ (λD=>(.inl (y,Ŗ),d,(_,_,Y),(_,i,Ŗ,Ŗ),(_,f,Ŗ,Ŗ),H.at λo g=>up _ o g,b.at λo g=>up _ o g)) up y)
def mu(z:ϐ)(ws:ϕ):Ł (cs×V):=(z.zip ws).map λp=>(à p.1,p.2)
theorem xZ:∀{Z:ϐ}{ws:ϕ}{i I:Ł Â},Vals (Z.map V.S) i->Vals ws I->Z.length=ws.length->∃ps:Ł (cs×Â),KV (mu Z ws) ps/\ps.length=Z.length/\i.length=Z.length/\∀(j:Ń)(p:cs×Â),ps[j]?=O p->∃key,i[j]?=O key/\I[j]?=O p.2/\(dO P w).is p.1 key=J|[],[],_,_,a,b,_=>by cases a;exact([],.nil,Ŗ,Ŗ,λj p h=>by cases h)|z::Z,v::ws,_,_,a,b,h=>by cases a with|g a1 A=>cases b with|g B b2=>let(ps,c,d,e,f):=xZ A b2 (B2 h);let(t,rfl):=a1;erw[((à z,_)::ps,.cons (Ŗ,B) c,by rw[aJ,d];rfl,by rw[aJ,e];rfl,λj p H=>?_)];cases j with|h=>cases H;exact(_,Ŗ,Ŗ,nA _ w z t)|j j=>rwa[f j p H]
def TC(M:X.calm)(u:Gl X "dict")(v:X.mg "dict"=ao)(N:Gl X "zip")(Y:X.mg "zip"=ao)(U:PA X [E,x] T)(y:[E,x].all bW):PE X (.Call (.Name "dict" p) [.Call (.Name "zip" p2) [E,x] [] F] [] pos) λσ H Q=>T σ H λvs d=>∃l t z ws,vs=[.A l,.A t]/\gB X.K d l (z.map V.S)/\gF X.K d t ws/\z.length=ws.length/\z.length<=100/\z.length≠0/\∀a,d a=ao->Q (.A a) (de d a (.dK (jd [] (mu z ws)))):=by
 intro G s σ H Q I h;rw[bZ,aE]at y;erw[Call_ (l8 I u v (show dN _=O (.type "dict")from Ŗ) (dc ?_))];show bv _ _ (spliced ((bb,Ê _ _)::[])) _ _ _;erw[dh (Call_ (l8 I N Y (show dN _=O (.type "zip")from Ŗ) (dc (Qf (U F _ s σ H _ I h) λus s1 vs d i W Z=>?_) (cx y.1) (eV y.2))))];let(l,t,z,ws,e,gl,gt,f,aoT,h0,q):=Z;subst e;let(u1,u2,rfl,Φ,R):=W.two;cases Φ;cases R;let(i1,B,k,_):=i.list gl;let(i2,C,m,_):=i.tuple gt;let(ps,k1,k2,k3,k4):=xZ (P:=X.prog) (w:=X.w) B C f;erw[HB k.isList m λr S up L=>?_];erw[fN ?_];let DC:s1.heap.objs.size+4<r.objs.size:=ax L;obtain⟨_,_,_,_,_,⟨o5,g5,_⟩,⟨o6,g6,_⟩⟩:=id (S 0);let lt:∀{e o},s1.heap.get? e=O o->e<s1.heap.objs.size:=λe=>ax e;let l5:l<s1.heap.objs.size:=by let(o,n,g,_):=k;rwa[lt g]
 let l6:t<s1.heap.objs.size:=by let(o,g,_):=m;rwa[lt g]
 let hh:X.A.handled=none:=I.ok.hd M;let l3:(1000:Ń)<=Ã:=∅
 erw[Li (knd:=dO _ X.w) (ps:=ps) hh (G4 _) () () L (S _) (by rw[aM,k3,k2]) () () (λj p hp=>?_) λh2 tk hd k'=>?_];.let(key,a,b,c):=k4 j p hp;exact(key,by rw[et];rwa[a],by rw[et];rwa[b],c)
 .let D:=ku (mu z ws) [];let hzl:(mu z ws).length=z.length:=by rw[k1.length,k2]
  erw[(.A _,_,i.laid (λb o g=>k' b o (aF (by let:=lt g;lia)) (aF (by let:=lt g;lia)) (aF (by let:=lt g;lia)) (aF (by let:=lt g;lia)) (up b o g)) (by show s1.heap.objs.size<=r.objs.size;lia) (yK (by simp at D;lia) (cG.mpr (cI (aF (aY i.big (by show s1.heap.objs.size<=r.objs.size;lia))))) (KV.merge k1 .nil) hd),Ŗ,q _ (i.cV.fresh (by show s1.heap.objs.size<=r.objs.size;lia)))]
end L2
namespace F
open L2
def ael:ON:=λds h Q=>d2 ds λx y=>fH (lA h x) (λX=>fH (fT X) (λz=>fH (tO y) (λu=>gd (Ì z.length u.length&&(Ë z.length 100&&Ñ 0 z.length)) (Q (.p (.dct (oj X u ([],[])).1 (oj X u ([],[])).2)) h)) ŧ) ŧ) ŧ
theorem FS{M:Ł À}{H:Hp}:∀{xs us:ϑ}{Z:ϐ}{ws:ϕ},aW (Y.z G) M H xs (Z.map V.S)->aW (Y.z G) M H us ws->Z.length=ws.length->jz Y G M H xs us (mu Z ws)|xs,us,[],[],a,b,_=>(a,b)|[],_,_::_,_,a,_,_=>a.elim|_,[],_,_::_,_,b,_=>b.elim|x::xs,u::us,z::Z,v::ws,a,b,h=>((a.1,(FS a.2 b.2 (B2 h)).1),(b.1,(FS a.2 b.2 (B2 h)).2))
def TL(n:X.calm)(i:Gl X "dict")(j:X.mg "dict"=ao)(o:Gl X "zip")(s:X.mg "zip"=ao)(u:PA X [e,g] (fL 'X' E A))(P:[e,g].all bW):PE X (.Call (.Name "dict" p) [.Call (.Name "zip" p2) [e,g] [] B] [] pos) (cL 'X' E (sN ael A)):=(TC n i j o s u P).imp λτ H QV Z=>by
 let(G,M,σ,h,C,Q,k,q):=Z;erw[(G,M,σ,h,C,_,(k.rel,k.env,λd D F H1 v e r K a=>?_,k.exc),q)];let(x,y,rfl,a):=WA a;let(xs,ex,a):=b9 a;let(z,L,a):=b9 a;let(us,N,a):=b9 a;let(c,R):=cg a;let(S,T,U):=iY c;let(v1,v2,rfl,W,Y):=K.two';cases BF N;let(l,vs,rfl,s1,I):=fX r W ex;let(t2,ws,rfl,s2,w):=mP Y;obtain rfl:=nN L I;let m:z.length=ws.length:=by rw[aT S,w.len]
 erw[(l,t2,z,ws,Ŗ,gB.of s1,s2,m,aj T,dA (aj U),λb f=>?_)];let d2:=qa (FS I w m) jz.nil;erw[k.out _ D F _ _ (e.trans (Ext.add f)) (r.add f) ?_ R];exact(b,_,Ŗ,r.nj f,.inl bA,d2.1.ext r (Ext.add f),d2.2.ext r (Ext.add f))
def Em.Y2{Γ:Gm}{t:Tb}(A:Am Γ t):Em Γ t:=(_,λS=>gz λf e k _=>S.cm&&wD k&&(ua S _ f&&(lZ _ _&&(lZ _ _&&iU (l1 e) (gz λg X l _=>wD l&&(ua S _ g&&iU (l2 X) λq=>A.ck S [q.1,q.2]))))),λo h=>by erw[dC h λf e k p h=>?_];let(H,h):=ag h;let(a,h):=ag h;let(b,h):=ag h;let(c,h):=ag h;let(x,E,h):=b8 h;let(u,d,i,v,hn):=eL o a;rw[fk (ag H).2,eG E,d];erw[dC h λg X l q h=>?_];let(j,h):=ag h;let(m,h):=ag h;let(x,n,h):=b8 h;let(w,r,I,s,Z):=eL o m;rw[fk j,mn n,r];let(pa,P):=A.pa o h;rwa[TL (o.hc (ag H).1).1 i (o.bl _ (gv b)) I (o.bl _ (gv c)) pa P])
end F
namespace W2
open L2 F
def d0(i:Ń):É:=PySem.Challenge.pw_retrace_k25_whole_reckoned.main.body.getD i (.Pass (0,0,0,0))
nonrec def į:Ł String:=["parts_within","rows_of","add_rows","doors_of","is_whole","names_of","own_names","word_by","replaced","plus","minus","times","over","rest","less","same","reckoned","item","check_place","do_set","do_push","do_pop","do_put","do_ask","do_tell","do_if","do_while","do_call","do_return","do_off","do_fail","give_back","do_row","catch","places","first_state","cells","caller","state_at","program_of","run_length","check_steps","_law_cell_at","_law_state","_law_next","_law_n","_law_b","_law_divisor","_law_product","_law_turned","_law_sum","_law_thrown","_law_place","_law_deep","_law_form","has_word","value_kinds","row_kinds","is_name","is_number","is_value","is_value_within","is_part","check_variables","check_functions","check_rows","is_tuple_of","is_pair","is_box","is_list","is_function","are_unlike","are_rows","is_row","is_row_part","law"]
def aiR:ϐ:=["NO_ROW","MOST_THINGS","BEYOND","BY_NOTHING","NO_PLACE","FULL_LIST","EMPTY_LIST","TOO_DEEP","MOST_FRAMES","NO_FUNCTION","WORD","MOST_STEPS","MOST_LETTERS","GREATEST","DEEPEST","MOST_BOXES","MOST_LISTS","MOST_FUNCTIONS","MOST_NAMES","DEEPEST_ROW","MOST_NUMBERS"]
def aiz:Ń->Æ|0=>"NoStep"|1=>"Work"|2=>"Plan"|3=>"Paths"|4=>"Machine"|5=>"Scope"|6=>"NoProgram"|7=>"NoRow"|8=>"TooLong"|84=>"Machine"|90=>"run_length"|200=>"state"|201=>"point"|202=>"move"|203=>"leave"|204=>"enter"|205=>"box_cell"|206=>"read_box"|207=>"write_box"|208=>"read_list"|209=>"write_list"|210=>"ask"|300=>"answer"|400=>"lay_rows"|401=>"lay_row"|500=>"first"|501=>"step"|502=>"next_row"|_=>"Fault"
def ϵ:ϑ:=[.I (-1),.I 12,.I 1000000,.I 1,.I 2,.I 3,.I 4,.I 5,.I 8,.S "",.I 5,.I 2000,.I 6,.I 999999,.I 4,.I 6,.I 3,.I 4,.I 3,.I 5,.I 60]
def alv:Ń->Æ|0=>"ROW_FORMS"|1=>"VALUE_FORMS"|50=>"KINDS"|100=>"PLAIN_DEEDS"|101=>"DEEDS"|_=>"OF_TWO"
def Ya:ϐ:=["len","isinstance","zip","range","list","tuple","int","bool","set","dict","max","min","sorted","reversed","enumerate","str","all","sum"]
nonrec def vu{α:Type}(l:Ł α)(d:α)(i:Ń):α:=l.getD i d
def S0:Sx:=([],ay (.Pass (0,0,0,0)),λi=>ì (vu į "" i),vu aiR "",alv,aiz,λc=>match c with|1=>["plan","boxes","lists","frames","asked","told","broken","reads","wrote"]|2=>["box_places","list_places","own_places","door_places","door_numbers","paths"]|3=>["rows","within","behind","firsts","seconds","catchers","defs","starts"]|4=>["plan","beginning"]|5=>["boxes","lists","param_counts","may_return"]|_=>[],Ya,[1,2,3,4,5],[0,6,7,8,999],J,J)
def Ow:Ł (Æ×ϐ):=[("set",["box","value"]),("push",["list","value"]),("pop",["box","list"]),("put",["list","value","value"]),("ask",["box","door"]),("tell",["value"]),("if",["value","rows","rows"]),("while",["value","rows"]),("try",["rows","box","rows"]),("fail",["value"]),("call",["box","function","values"]),("return",["value"])]
def PB:Ł (Æ×ϐ):=[("number",["number"]),("box",["box"]),("plus",["value","value"]),("minus",["value","value"]),("times",["value","value"]),("over",["value","value"]),("rest",["value","value"]),("less",["value","value"]),("same",["value","value"]),("not",["value"]),("item",["list","value"]),("size",["list"])]
def Z8:Ł (Æ×ϐ):=[("call",["call"]),("return",["return"]),("def",["off"])]
def μ:Ł (Æ×Ń):=[("set",19),("push",20),("pop",21),("put",22),("ask",23),("tell",24)]
def Y1:Ł (Æ×Ń):=[("if",25),("while",26),("call",27),("return",28),("def",29),("fail",30)]
def E_:Ł (Æ×Ń):=[("plus",9),("minus",10),("times",11),("over",12),("rest",13),("less",14),("same",15)]
def alo:Ń->Æ->Ő ϐ|0,x=>iZ x Ow|1,x=>iZ x PB|50,x=>iZ x Z8|100,x=>(iZ x μ).map λn=>Ð n ""|101,x=>(iZ x Y1).map λn=>Ð n ""|_,x=>(iZ x E_).map λn=>Ð n ""
inductive iL(R:Pn->Wk->ϑ->Wk->Pv->ß):Ct|mk{P:Pn}{w w':Wk}{as:ϑ}{x:Pv}{Q:Dv->Hs->ß}{xc:XP}(r:R P w as w' x)(q:Q (.p x) (xX P w')):iL R (.r 0::as.map .p) (xX P w) Q xc
inductive Yk:Ct|mk{P:Pn}{w:Wk}{Q:Dv->Hs->ß}{xc:XP}(q:Q (.p .N) (xX P w.cl)):Yk [.r 0,.p P.p,.p w.p] [.I 1 []] Q xc
inductive ű:Ct|mk{P:Pn}{d:Æ}{a:Ń}{h:Hs}{Q:Dv->Hs->ß}{xc:XP}(q:Q (.p (nP (AC P d a))) h):ű [.p P.p,.p (.S d),.p (iP a)] h Q xc
inductive ń:Ct|mk{P:Pn}{w:Wk}{h:Hs}{Q:Dv->Hs->ß}{xc:XP}(q:Q (.p w.p) h):ń [.p (MU P w)] h Q xc
inductive Yl:Ct|mk{P:Pn}{w0 w:Wk}{n:Ń}{h:Hs}{Q:Dv->Hs->ß}{xc:XP}(hw:w.wo="on")(e:vk P w=O n)(q:Q (.p (iP n)) h):Yl [.p (MU P w0),.p w.p] h Q xc
inductive CB:Ct|ok{P:Pn}{w0 w w':Wk}{x:Pv}{Q:Dv->Hs->ß}{xc:XP}(hl:P.lo)(hw:w.wo="on")(e:BA P w=O (w',x))(q:Q (.p (.T [w'.p,x])) []):CB [.p (MU P w0),.p w.p] [] Q xc|no{P:Pn}{w0 w:Wk}{Q:Dv->Hs->ß}{xc:XP}(hw:w.wo≠"on")(q:xc 0 []):CB [.p (MU P w0),.p w.p] [] Q xc
inductive KJ:Ct|ok{P:Pn}{w0 w':Wk}{m n:Ń}{xs:ϑ}{Q:Dv->Hs->ß}{xc:XP}(hl:P.lo)(r:Rn P w0 m w' xs)(hm:m<=n)(he:m=n\/w'.wo≠"on")(hn:n<=2000)(q:Q (.p (iP m)) []):KJ [.p (MU P w0),.p (iP n)] [] Q xc|od{P:Pn}{w0:Wk}{x:Pv}{Q:Dv->Hs->ß}{xc:XP}(hx:Kh x)(e:Io 0 2000 x=bb)(q:xc 0 []):KJ [.p (MU P w0),.p x] [] Q xc
def ajQ(Jc:Ń->Ct):Ń->Ct|1=>Yk|90=>λds h Q X=>KJ (ds++[.p (.I 2000)]) h Q X|200=>iL λ_ w a W x=>a=[]/\W=w/\x=w.p|201=>iL λ_ w a W x=>a=[]/\W=w/\∃p,qo w=O p/\x=fq p|202=>iL λ_ w a W x=>∃p,a=[fq p]/\move w p=O W/\x=.N|203=>iL λ_ w a W x=>a=[]/\MH w=O W/\x=.N|204=>iL λP w a W x=>∃f v,a=[.S f,.L (v.map nP)]/\hF P w f v=O W/\x=.N|205=>iL λP w a W x=>∃z c,a=[.S z]/\W=w/\cell P w z=O c/\x=.key c|206=>iL λP w a W x=>∃z n,a=[.S z]/\Xu P w z=O (W,n)/\x=nP n|207=>iL λP w a W x=>∃z n,a=[.S z,nP n]/\oS P w z n=O W/\x=.N|208=>iL λP w a W x=>∃z l,a=[.S z]/\mq P w z=O (W,l)/\x=.T (l.map nP)|209=>iL λP w a W x=>∃z l,a=[.S z,.T (l.map nP)]/\sA P w z l=O W/\x=.N|210=>iL λP w a W x=>∃d n,a=[.S d]/\ask P w d=O (W,n)/\x=nP n|300=>ű|500=>ń|501=>CB|502=>Yl|n=>Jc n
def Lx(c:Ń->À)(Jc:Ń->Ct):Lw:=(S0,c,vu ϵ .N,[0,1,2,3,4,5,6,7,8,9,10,11,12,13,14,15,16,17,18,19,20],alo,[0,1,50,100,101,102],ajQ Jc)
structure Sg(ca:Ń->À)(K:Å)(mg:c4):ß where wM:Src K mg "parts_within" (d0 12) ["row"]Of:Src K mg "rows_of" (d0 15) ["program"]xI:Src K mg "add_rows" (d0 16) ["triples","rows","around"]Jd:Src K mg "doors_of" (d0 17) ["program"]Jh:Src K mg "is_whole" (d0 23) ["thing","least","most"]Ji:Src K mg "names_of" (d0 46) ["things"]Ei:Src K mg "own_names" (d0 47) ["function"]Og:Src K mg "word_by" (d0 58) ["frames"]Jj:Src K mg "replaced" (d0 59) ["things","place","thing"]ae2:Src K mg "plus" (d0 60) ["one","other"]ψ:Src K mg "minus" (d0 61) ["one","other"]ω:Src K mg "times" (d0 62) ["one","other"]ae1:Src K mg "over" (d0 63) ["one","other"]ae3:Src K mg "rest" (d0 64) ["one","other"]ae0:Src K mg "less" (d0 65) ["one","other"]ae4:Src K mg "same" (d0 66) ["one","other"]xJ:Src K mg "reckoned" (d0 68) ["work","value"]aeZ:Src K mg "item" (d0 69) ["work","value"]zG:Src K mg "check_place" (d0 70) ["things","place"]UM:Src K mg "do_set" (d0 76) ["work","row"]N9:Src K mg "do_push" (d0 77) ["work","row"]UJ:Src K mg "do_pop" (d0 78) ["work","row"]UK:Src K mg "do_put" (d0 79) ["work","row"]UG:Src K mg "do_ask" (d0 80) ["work","row"]Oa:Src K mg "do_tell" (d0 81) ["work","row"]χ:Src K mg "do_if" (d0 82) ["work","row"]Jb:Src K mg "do_while" (d0 83) ["work","row"]N7:Src K mg "do_call" (d0 84) ["work","row"]Ef:Src K mg "do_return" (d0 85) ["work","row"]UH:Src K mg "do_off" (d0 86) ["work","row"]N8:Src K mg "do_fail" (d0 87) ["work","row"]Eg:Src K mg "give_back" (d0 88) ["work","number"]UL:Src K mg "do_row" (d0 92) ["work","number"]π:Src K mg "catch" (d0 93) ["work","number"]UP:Src K mg "places" (d0 98) ["names"]zI:Src K mg "first_state" (d0 102) ["program","plan"]υ:Src K mg "cells" (d0 103) ["found"]UE:Src K mg "caller" (d0 104) ["state"]Jk:Src K mg "state_at" (d0 107) ["machine","steps"]Bv:Src K mg "program_of" (d0 37) ["boxes","lists","functions","rows"]zH:Src K mg "check_steps" (d0 109) ["steps"]wJ:Src K mg "_law_cell_at" (d0 111) ["_law_script","_law_k"]Br:Src K mg "_law_state" (d0 112) ["_law_cell","_law_k"]Ed:Src K mg "_law_next" (d0 113) ["_law_state_here","_law_size"]UD:Src K mg "_law_n" (d0 114) ["_law_number"]UC:Src K mg "_law_b" (d0 115) ["_law_name"]wK:Src K mg "_law_divisor" (d0 116) ["_law_state_here"]wL:Src K mg "_law_product" (d0 117) ["_law_state_here"]zF:Src K mg "_law_turned" (d0 118) ["_law_state_here"]IY:Src K mg "_law_sum" (d0 119) ["_law_state_here"]zE:Src K mg "_law_thrown" (d0 120) ["_law_state_here"]Bq:Src K mg "_law_place" (d0 121) ["_law_state_here"]Eb:Src K mg "_law_deep" (d0 122) ["_law_state_here"]Ec:Src K mg "_law_form" (d0 123) ["_law_state_here"]Je:Src K mg "has_word" (d0 9) ["thing"]zK:Src K mg "value_kinds" (d0 10) ["word"]Ej:Src K mg "row_kinds" (d0 11) ["word"]Od:Src K mg "is_name" (d0 22) ["thing"]Eh:Src K mg "is_number" (d0 24) ["thing"]Jf:Src K mg "is_value" (d0 25) ["thing","boxes","lists"]rW:Src K mg "is_value_within" (d0 26) ["thing","boxes","lists","depth"]Bu:Src K mg "is_part" (d0 27) ["kind","part","boxes","lists","depth"]rV:Src K mg "check_variables" (d0 38) ["boxes","lists"]rT:Src K mg "check_functions" (d0 39) ["functions","taken"]Bt:Src K mg "check_rows" (d0 40) ["program"]qt:Src K mg "is_tuple_of" (d0 41) ["thing","most","is_one"]Oe:Src K mg "is_pair" (d0 42) ["thing"]UN:Src K mg "is_box" (d0 43) ["thing"]Oc:Src K mg "is_list" (d0 44) ["thing"]zJ:Src K mg "is_function" (d0 45) ["thing"]Bs:Src K mg "are_unlike" (d0 48) ["names"]IZ:Src K mg "are_rows" (d0 49) ["rows","scope","depth"]UO:Src K mg "is_row" (d0 50) ["row","scope","depth"]qr:Src K mg "is_row_part" (d0 51) ["kind","part","scope","depth"]aj3:gW K (ca 1) "state" "Work.state" (cW (d0 57) 1) ["self"]aj4:gW K (ca 1) "point" "Work.point" (cW (d0 57) 2) ["self"]aj5:gW K (ca 1) "move" "Work.move" (cW (d0 57) 3) ["self","point"]aj6:gW K (ca 1) "leave" "Work.leave" (cW (d0 57) 4) ["self"]aj7:gW K (ca 1) "enter" "Work.enter" (cW (d0 57) 5) ["self","function","values"]aj8:gW K (ca 1) "box_cell" "Work.box_cell" (cW (d0 57) 6) ["self","name"]aj9:gW K (ca 1) "read_box" "Work.read_box" (cW (d0 57) 7) ["self","name"]aka:gW K (ca 1) "write_box" "Work.write_box" (cW (d0 57) 8) ["self","name","number"]akb:gW K (ca 1) "read_list" "Work.read_list" (cW (d0 57) 9) ["self","name"]akc:gW K (ca 1) "write_list" "Work.write_list" (cW (d0 57) 10) ["self","name","things"]akd:gW K (ca 1) "ask" "Work.ask" (cW (d0 57) 11) ["self","door"]ake:gW K (ca 2) "answer" "Plan.answer" (cW (d0 96) 1) ["self","door","place"]akf:gW K (ca 3) "lay_rows" "Paths.lay_rows" (cW (d0 97) 1) ["self","numbers","behind","catcher"]ad0:gW K (ca 3) "lay_row" "Paths.lay_row" (cW (d0 97) 2) ["self","number","behind","catcher"]akg:gW K (ca 4) "first" "Machine.first" (cW (d0 101) 1) ["self"]akh:gW K (ca 4) "step" "Machine.step" (cW (d0 101) 2) ["self","state"]aki:gW K (ca 4) "next_row" "Machine.next_row" (cW (d0 101) 3) ["self","state"]
abbrev LX(c:Ń->À)(Jc:Ń->Ct)(W:Wd):ß:=Lk (Lx c Jc) W
abbrev DX(c:Ń->À)(Jc:Ń->Ct)(W:Wd)(i k:Ń)(C:Ct):ß:=Dt (Lx c Jc) W i k C
abbrev DI(C:Ń->À)(Jc:Ń->Ct)(W:Wd)(c k:Ń):ß:=Di (Lx C Jc) W c k
abbrev UX(c:Ń->À)(Jc:Ń->Ct)(W:Wd)(i k:Ń)(C:Ct):ß:=Du (Lx c Jc) W i k C
abbrev UI(C:Ń->À)(Jc:Ń->Ct)(W:Wd)(c k:Ń):ß:=Dj (Lx C Jc) W c k
abbrev SX(c:Ń->À)(W:Wd):ß:=Sg c W.K W.mg
nonrec def ħ:Lean.Syntax:=Lean.Unhygienic.run do let i:=("Am.cons Am.nil Am.u Am.u2 Am.u3 Am.u4 Am.u5 Em.b2 Em.bi Em.c Em.ch Em.cl Em.clf Em.vQ Em.cmp Em.comp Em.Ft Em.qK _root_.F.Tm.din Em.fld Em.g Em.i Em.L0 Em.ix Em.lsm Em.lst Em.mt Em.neg Em.nw Em.s Em.sl Em.ti Em.tup Em.ty Em.v Fm.no Fm.one Jg.p Jm.r Jm.s Jm.z Mm.ex Mm.fo Mm.fC Mm.iff Mm.put Mm.raise Mm.ret Mm.set Mm.Qg Ms.cut Ms.nil Ms.one Ms.re Ms.seq Pm.no Pm.of _root_.F.Tm.bo _root_.F.Tm.cmp _root_.F.Tm.R8 _root_.F.Tm.not _root_.F.Tm.tin _root_.F.Tm.val Wm.a1 Wm.ac Wm.o1 Wm.oc Em.ofV Em.me Em.Ke Em.key Em.kix Em.mE Em.SK Em.Y3 Em.dg2 Em.sdf Em.tgs Em.aal Em.cld Em.AU Em.FG Mm.DM Mm.md Mm.aaJ Mm.foP Mm.foH Mm.wh Mm.dput Jg.rev Jm.e Mm.foT Mm.OF Em.m_ Em.mel Mm.aug Em.tg Em.clv Em.f _root_.F.Em.bo _root_.F.Bm.ac _root_.F.Bm.a1 _root_.F.Bm.oc _root_.F.Bm.o1 Em.b_ Em.rev Em.cli Mm.par Em.wU Em.Y2 Lw.G Lw.g Lw.gu Lx vR".splitOn " ").toArray.map fun s=>Lean.mkIdent s.toName;`(tacticSeq|dsimp only[$[$i:term],*])
def i_{C:Ń->À}{Jc:Ń->Ct}{l:Ł _}{iok:Ϙ}{M:Ss}(b:Ms ((Lx C Jc).G l iok) (Lx C Jc).t)(h:ø (b.m=M) ħ):b.m=M:=h
def nfC{C:Ń->À}{Jc:Ń->Ct}{l:Ł _}{iok j:Ϙ}{M:Ss}(b:Ms ((Lx C Jc).gu (vR l) (l.map (·.1)) iok j) (Lx C Jc).t)(h:ø (b.m=M) ħ):b.m=M:=h
section
variable{ca:Ń->À}{Jc:Ń->Ct}{W:Wd}{i c k:Ń}{C:Ct}{st:É}{cN:Æ}{ps:ϐ}{M:Ss}
def _root_.F.Lk.e(n:Ń)(z:Þ)(l:Ł _)(iok:Ϙ)(B:Lk (Lx ca Jc) W)(b:Ms ((Lx ca Jc).G l iok) (Lx ca Jc).t)(s:Src W.K W.mg ((Lx ca Jc).S.gh i) st ps)(g:(Ì (Á (uc (ay st))) n&&(Ie (uc (ay st)) ps (ay st)&&b.ck ((Lx ca Jc).S.at (uc (ay st)) (ay st) J) (bR st)))=J)(H:All (Lx ca Jc) W (k+1) l)(a:vP (Lx ca Jc) W k iok)(d:∀ds h Q x,C ds h Q x->Á ds=Á ps/\M (hZ z (Á h) Q x) (pK n ds) h)(f:autoParam (b.m=M) ñ):DX ca Jc W i (k+2) C:=by subst f;rwa[B.e0 n z l iok b s g H a d]
theorem _root_.F.Lk.kK(N ps:ϐ)(z:Þ)(l:Ł _)(iok:Ϙ)(B:Lk (Lx ca Jc) W)(b:Ms ((Lx ca Jc).G l iok) (Lx ca Jc).t)(s:n9 W.K ((Lx ca Jc).ca c) cN st ps)(H:W.mg ((Lx ca Jc).S.rj c)=O (.ref ((Lx ca Jc).ca c)))(g:(!Nat.ble 80 c&&(Ie N ps (ay st)&&b.ck ((Lx ca Jc).S.at N (ay st) bb) (bR st)))=J)(f:All (Lx ca Jc) W (k+1) l)(a:vP (Lx ca Jc) W k iok)(d:∀ds h Q x,(Lx ca Jc).kK c ds h Q x->Á ds=Á ps/\M (hZ z (Á h) Q λ_ _=>ŧ) (pK (Á N) ds) h)(e:autoParam (b.m=M) ñ):DI ca Jc W c (k+2):=by subst e;rwa[B.ajP N ps z l iok b s H g f a d]
def _root_.F.Lk.MX(n:Ń)(z:Þ)(l:Ł _)(iok:Ϙ)(B:Lk (Lx ca Jc) W)(b:Ms ((Lx ca Jc).G l iok) (Lx ca Jc).t)(s:gW W.K ((Lx ca Jc).ca (c/100-1)) ((Lx ca Jc).S.rj c) cN st ps)(g:(Ë 100 c&&(Ì (Á (uc (ay st))) n&&(Ie (uc (ay st)) ps (ay st)&&b.ck ((Lx ca Jc).S.at (uc (ay st)) (ay st) J) (bR st))))=J)(H:All (Lx ca Jc) W (k+1) l)(a:vP (Lx ca Jc) W k iok)(d:∀ds h Q x,(Lx ca Jc).kK c ds h Q x->Á ds=Á ps/\M (hZ z (Á h) Q x) (pK n ds) h)(e:autoParam (b.m=M) ñ):DI ca Jc W c (k+2):=by subst e;rwa[B.akm n z l iok b s g H a d]
def Hg(L:Lw)(W:Wd)(k:Ń):Ł (Ń×Ct)->ß|[]=>æ|(i,c)::r=>Du L W i k c/\Hg L W k r
def Hj(L:Lw)(W:Wd)(k:Ń):Ϙ->ß|[]=>æ|c::r=>Dj L W c k/\Hj L W k r
theorem Hg.at{W:Wd}{k:Ń}:∀{l:Ł _},Hg L W k l->∀i∈l.map (·.1),Du L W i k (vR l i)|[],_,i,h=>by cases h|(j,c)::r,f,i,h=>by induction e:Ì i j with
  |d=>
   let E:vR ((j,c)::r) i=c:=by show(match Ì i j with|J=>c|bb=>vR r i)=c;rw[e]
   rw[E,aT e];rwa[f.1]|e=>
   let E:vR ((j,c)::r) i=vR r i:=by show(match Ì i j with|J=>c|bb=>vR r i)=_;rw[e]
   rw[E];erw[Hg.at f.2 i ((aB.mp h).resolve_left λz=>?_)];rw[show i=j from z,jP]at e;cases e
theorem Hj.at{W:Wd}{k:Ń}:∀{l:Ϙ},Hj L W k l->l.all (Ë 100)->∀c∈l,Ë 100 c=J/\Dj L W c k
 |[],_,_,c,h=>by cases h|j::r,f,g,c,h=>by
  rw[bZ]at g;rcases aB.mp h with z|z;.subst z;exact((ag g).1,f.1)
  .rwa[Hj.at f.2 (ag g).2 c z]
def _root_.F.Lk.u(n:Ń)(z:Þ)(l:Ł _)(iok:Ϙ)(B:Lk (Lx ca Jc) W)(b:Ms ((Lx ca Jc).G l iok) (Lx ca Jc).t)(s:Src W.K W.mg ((Lx ca Jc).S.gh i) st ps)(g:(Ì (Á (uc (ay st))) n&&(iok.all (Ë 100)&&(Ie (uc (ay st)) ps (ay st)&&b.ck ((Lx ca Jc).S.au (uc (ay st)) (ay st)) (bR st)))))(H:Hg (Lx ca Jc) W (k+1) l)(a:Hj (Lx ca Jc) W k iok)(d:∀ds h Q x,C ds h Q x->Á ds=Á ps/\M (hZ z (Á h) Q λ_ _=>ŧ) (pK n ds) h)(e:autoParam (b.m=M) ñ):UX ca Jc W i (k+2) C:=by subst e;let(f,j,o,p):=mS g;obtain rfl:=aT f;rwa[B.du _ ps z b s (ko o) p H.at (a.at j) d]
def _root_.F.Lk.v(n:Ń)(z:Þ)(l:Ł _)(iok:Ϙ)(B:Lk (Lx ca Jc) W)(b:Ms ((Lx ca Jc).G l iok) (Lx ca Jc).t)(s:gW W.K ((Lx ca Jc).ca (c/100-1)) ((Lx ca Jc).S.rj c) cN st ps)(g:(Ì (Á (uc (ay st))) n&&(iok.all (Ë 100)&&(Ie (uc (ay st)) ps (ay st)&&b.ck ((Lx ca Jc).S.au (uc (ay st)) (ay st)) (bR st)))))(H:Hg (Lx ca Jc) W (k+1) l)(a:Hj (Lx ca Jc) W k iok)(d:∀ds h Q x,(Lx ca Jc).kK c ds h Q x->Á ds=Á ps/\M (hZ z (Á h) Q λ_ _=>ŧ) (pK n ds) h)(e:autoParam (b.m=M) ñ):UI ca Jc W c (k+2):=by subst e;let(f,j,o,p):=mS g;obtain rfl:=aT f;rwa[B.dv _ ps z b s (ko o) p H.at (a.at j) d]
def _root_.F.Lk.mtC(n:Ń)(z:Þ)(l:Ł _)(iok j:Ϙ)(B:Lk (Lx ca Jc) W)(b:Ms ((Lx ca Jc).gu (vR l) (l.map (·.1)) iok j) (Lx ca Jc).t)(s:gW W.K ((Lx ca Jc).ca (c/100-1)) ((Lx ca Jc).S.rj c) cN st ps)(g:(Ë 100 c&&(Ì (Á (uc (ay st))) n&&(Ie (uc (ay st)) ps (ay st)&&b.ck ((Lx ca Jc).S.at (uc (ay st)) (ay st) J) (bR st))))=J)(H:All (Lx ca Jc) W (k+1) l)(a:vP (Lx ca Jc) W k iok)(hu:∀i∈j,Du (Lx ca Jc) W i (k+1) (vR l i))(d:∀ds h Q x,(Lx ca Jc).kK c ds h Q x->Á ds=Á ps/\M (hZ z (Á h) Q x) (pK n ds) h)(e:autoParam (b.m=M) Ķ6):DI ca Jc W c (k+2):=by subst e;let(f,o,p,q):=mS g;obtain rfl:=aT o;exact(ps,by delta jm;rw[f];rwa[b.acD z s (ko p) (B.gkC (wY.of H.at) a hu) q d])
theorem _root_.F.Lk.dd{us:Ł Â}{dd:Ł Dv}{dvs:ϕ}(n:Ń)(z:Þ)(l:Ł _)(iok:Ϙ)(B:Lk (Lx ca Jc) W)(b:Ms ((Lx ca Jc).G l iok) (Lx ca Jc).t)(s:Av W.K W.mg ((Lx ca Jc).S.gh i) st ps us)(g:(Ì (Á (uc (ay st))) n&&(Ë 90 c&&!Nat.ble 100 c&&(Ie (uc (ay st)) ps (ay st)&&b.ck ((Lx ca Jc).S.at (uc (ay st)) (ay st) J) (bR st))))=J)(f:All (Lx ca Jc) W (k+1) l)(d:vP (Lx ca Jc) W k iok)(e:∀ds h Q x,C ds h Q x->Á ds=Á ps/\M (hZ z (Á h) Q x) (pK n ds) h)(hn:(Lx ca Jc).S.rj c=(Lx ca Jc).S.gh i)(v:Vals dvs us)(j:∀G M H,cH (((Lx ca Jc).y W).z G) M H dd dvs)(o:∀ds h Q x,(Lx ca Jc).kK c ds h Q x->C (ds++dd) h Q x)(p:autoParam (b.m=M) ñ):DX ca Jc W i (k+2) C/\DI ca Jc W c (k+2):=by subst p;let(q,a,r,u):=mS g;obtain rfl:=aT q;rwa[B.aiC _ ps z b s (ko r) u (wY.of f.at) d e (ag a).1 (fG (ag a).2) hn v j o]
end
def qN{n:Ń}(h:Ë n 1000000):qC n=true:=aar (aA (aj h) ∅)
def iM{r:Wk×α}(h:pI o k x=O r):(∃w n,o=O (w,.v n)/\k w n=O r)\/∃w c,o=O (w,.x c)/\r=(w,x c):=by delta pI at h;induction o with|a=>cases h|c p=>let(w,u):=p;induction u with|v n=>rwa[.inl (w,n,Ŗ,h)]|x c=>cases h;rwa[.inr (w,c,Ŗ,Ŗ)]
def bd{α β:Type}{o:Ő α}{f:α->Ő β}{b:β}(h:o.bind f=O b):∃a,o=O a/\f a=O b:=Option.bind_eq_some_iff.mp h
theorem mp{α β:Type}{o:Ő α}{f:α->β}{b:β}(h:o.map f=O b):∃a,o=O a/\b=f a:=by let(a,e,f):=cZ.mp h;exact(a,e,f.symm)
def bf{α:Type}{a:α}{o:Ő α}(h:(bif c then o else ao)=O a):c/\o=O a:=by induction c with|d=>exact(Ŗ,h)|e=>cases h
theorem yH{g:α->Pv}:∀{l:Ł _},hW (.S z) (l.map λp=>.S p.1) (l.map λp=>g p.2)=(iZ z l).map g|[]=>Ŗ|p::r=>by show(match cQ p.1 z with|J=>O _|bb=>hW _ _ _)=ê g (match cQ p.1 z with|J=>O p.2|bb=>iZ z r);induction cQ p.1 z with|d=>rfl|e=>rwa[yH]
theorem Lh{g:α->Pv}{n:Ń}:∀{l:Ł _},hW (.I n) (l.map λp=>iP p.1) (l.map λp=>g p.2)=(vg n l).map g|[]=>Ŗ|p::r=>by let e:lg p.1 n=Ì p.1 n:=Ŗ;show(match lg p.1 n with|J=>O _|bb=>hW _ _ _)=ê g (match Ì p.1 n with|J=>O p.2|bb=>vg n r);rw[e];induction Ì p.1 n with|d=>rfl|e=>rwa[Lh]
theorem CU:∀{l:ϐ}{n:Ń},hW (.S z) (l.map .S) (io l n)=(pos z l n).map iP|[],_=>Ŗ|y::r,n=>by show(match cQ y z with|J=>O _|bb=>hW _ _ _)=ê iP (match cQ y z with|J=>O n|bb=>pos z r _);induction cQ y z with|d=>rfl|e=>rwa[CU]
def tM:Cp (xs++[x]) (-1)=O x:=by show(match Ë (0+1) _ with|J=>(xs++[x])[Á _-(0+1)]?|bb=>ao)=_;rw[ai];show(xs++[x])[xs.length]?=_;rw[aI (aq _),eZ];rfl
def pW:og (xs++[x]) ao (O (-1))=xs:=by show((xs++[x]).take _).drop 0=xs;rw[ai,bM,Nat.add_sub_cancel,jL,nZ]
theorem gP:∀{l:Ł Fr},(jn l).length=l.length|[]=>Ŗ|x::r=>by show(jn r++[x.p]).length=_;rw[ai,gP];rfl
def Ze:Cp (jn (x::r)) ((jn (x::r)).length-1)=O x.p:=by rw[show((jn _).length-1:Î)=r.length by rw[gP,aJ];lia];show(jn r++[x.p])[r.length]?=_;rw[aI (by rw[gP];rwa[aq _]),gP,eZ];rfl
def zw(e:own P w=O p):w.fr=p.1::p.2.1/\iZ p.1.f P.ow=O p.2.2:=by
 delta own at e;split at e;.cases e
 .ext x r h;let(o,E,rfl):=mp e;exact(h,E)
def IT(e:qo w=O p):∃x r,w.fr=x::r/\p=x.pt:=by
 delta qo at e;split at e;.cases e
 .ext x r h;cases e;exact(x,r,h,Ŗ)
inductive oY:Ct|mk{xs ys:ϑ}{i:Ń}{x:Pv}{h:Hs}{Q:Dv->Hs->ß}{xc:XP}(e:rp xs i x=O ys)(q:Q (.p (.T ys)) h):oY [.p (.T xs),.p (.I (i:Ń)),.p x] h Q xc
abbrev tp(P:Pn)(fs:ϑ)(w:Wk)(rd W:Ł (Ł cs)):Hs:=[.I 1 [.p P.p,.p (.T (w.bx.map nP)),.p (.T (Qc w.ls)),.p (.T fs),.p (.T (w.ak.map iP)),.p (.T (w.td.map nP)),.p (.B w.bk),.r 1,.r 2],.K rd,.K W]
def Yy(B:LX ca Jc W)(S:SX ca W):UI ca Jc W 205 2:=by erw[B.v 3 bb [] [] (.set 2 (.b2 Cs (.bi gC (.u (.fld 1 3 0))) (.i 1))<|>.iff (.din bb 1 (.qK (.fld 2 2 (.fld 1 0 0)) (.ix (.ix (.fld 1 3 0) 2) (.i 0)))) (.re (.key (.u3 (.s "own") 2 1))) .nil<|>.re (.key (.u2 (.s "box") 1))) S.aj8 rfl Ť Ť λds h Q X c=>?_];induction c with|@mk P w a A x Q X r q=>
  let(z,c,rfl,rfl,e,rfl):=r;let(p,E,rfl):=mp e;let(H,o):=zw E;let d:((jn a.fr).length-1:Î)=p.2.1.length:=by rw[gP,H,aJ];lia
  erw[(Ŗ,bu (show Cp _ _=O p.1.p by rw[H];rwa[Ze]) (bu (yH.trans (by rw[o];rfl)) ?_))];show br (hW _ _ _).isSome _ _;rw[CU];revert q;induction pos z _ 0 with|a=>rwa[λq=>bT (qN (n:=2) Ŗ) q]|c i=>intro q;erw[bT (qN (n:=3) Ŗ) ?_];simp only[d];rwa[q]
def acA(B:LX ca Jc W)(S:SX ca W):UX ca Jc W 8 2 oY:=by erw[B.u 3 bb [] [] (.re (.b2 gf (.b2 gf (.sl 0 .no (.of 1)) (.tup (.u 2))) (.sl 0 (.of (.b2 gf 1 (.i 1))) .no))) S.Jj rfl Ť Ť λds h Q b c=>?_];cases c with|@mk X y i x _ _ _ e q=>
  let(c,e):=bf e;cases e;let(C,a):=ag c;let H:i<X.length:=aj C;let h2:=aj a;erw[(Ŗ,bT (qN (n:=((X.take i).drop 0).length+1) (cc.mpr ?_)) (bT (qN (n:=((X.take i).drop 0++[x]).length+(X.drop (i+1)).length) (cc.mpr ?_)) ?_))];.rw[jL,dY];lia
  .rw[jL,ai,dY,G6,bM];lia
  .show Q _ h;rw[List.set_eq_take_append_cons_drop,bV H]at q;rw[bL];rwa[q]
def Rc(B:LX ca Jc W)(S:SX ca W):UI ca Jc W 201 2:=by erw[B.v 1 bb [] [] (.re (.ix (.ix (.fld 1 3 0) (.neg (.i 1))) (.i 2))) S.aj4 rfl Ť Ť λds h Q X c=>?_];induction c with|@mk P w a A x Q X r q=>let(rfl,rfl,p,e,rfl):=r;let(x,r,H,rfl):=IT e;exact(Ŗ,bu (show Cp _ _=O x.p by rw[H];rwa[tM]) q)
def Q7(B:LX ca Jc W)(S:SX ca W):UI ca Jc W 203 2:=by erw[B.v 1 bb [] [] (.one (.fC 1 3 (.sl (.fld 1 3 0) .no (.of (.neg (.i 1)))) 0)) S.aj6 rfl Ť Ť λds h Q X c=>?_];induction c with|@mk P w a A x Q X r q=>let(rfl,e,rfl):=r;let(b,l,fr,k,t,bk,rd,d):=w;cases fr with|f=>cases e|g x r=>cases e;erw[(Ŗ,?_)];show Q _ (tp _ (og (jn r++[x.p]) _ _) _ _ _);rw[pW];rwa[q]
def YG(B:LX ca Jc W)(S:SX ca W):UI ca Jc W 202 2:=by erw[B.v 5 bb [] [] (.Qg [2,3,4] (.ix (.fld 1 3 0) (.neg (.i 1)))<|>.one (.fC 1 3 (.b2 gf (.sl (.fld 1 3 0) .no (.of (.neg (.i 1)))) (.tup (.u (.tup (.u3 2 3 1))))) 0)) S.aj5 rfl Ť Ť λds h Q X c=>?_];induction c with|@mk P w a A x Q X r q=>let(p,rfl,e,rfl):=r;let(b,l,fr,k,t,bk,rd,d):=w;cases fr with|f=>cases e|g x r=>let(c,e):=bf e;cases e;let h1:=aj c;erw[(Ŗ,bu tM ?_)];show gd (qC ((og (jn r++[x.p]) _ _).length+1)) (Q _ (tp _ (og (jn r++[x.p]) _ _++[_]) _ _ _));rw[pW];rwa[bT (qN (cc.mpr (by rw[gP];rwa[aA ‹_› ⋯]))) q]
def ph(e:kA κ ks=O A):qC (ks.length+1)/\A=My κ ks:=by let(c,e):=bf e;cases e;exact(qN (cc.mpr (by let:=aj c;rwa[aA ‹_› ⋯])),Ŗ)
def vB{g:α->Pv}(e:rp l i x=O L):rp (l.map g) i (g x)=O (L.map g):=by delta rp at e⊢;rw[af];let(c,e):=bf e;cases e;rw[c,List.map_set];rfl
def kj{α:Type}{g:α->Pv}{l:Ł α}{i:Ń}{x:α}(e:l[i]?=O x):Cp (l.map g) i=O (g x):=by show(l.map g)[i]?=_;rw[aR,e];rfl
def Cr{w:Wk}(h:w.fr=x::r):Cp (jn w.fr) (-1)=O x.p:=by rw[h];rwa[tM]
def uV(e:pos z l n=O i):hW (.S z) (l.map .S) (io l n)=O (iP i):=CU.trans (by rw[e];rfl)
def qf{g:α->Pv}(e:iZ z l=O x):hW (.S z) (l.map λp=>.S p.1) (l.map λp=>g p.2)=O (g x):=yH.trans (by rw[e];rfl)
def jF{g:α->Pv}(e:vg n l=O x):hW (.I n) (l.map λp=>iP p.1) (l.map λp=>g p.2)=O (g x):=Lh.trans (by rw[e];rfl)
def AG(e:own P w=O p)(h:pos z p.2.2 0=ao):cell P w z=O (SI z):=by delta cell;rw[e];show O (match pos z _ 0 with|O _=>_|ao=>_)=_;rw[h]
def uE(e:own P w=O p)(h:pos z p.2.2 0=O i):cell P w z=O (Mx p.2.1.length z):=by delta cell;rw[e];show O (match pos z _ 0 with|O _=>_|ao=>_)=_;rw[h]
section
variable{ca:Ń->À}{Jc:Ń->Ct}{W:Wd}
def Rf(B:LX ca Jc W)(S:SX ca W)(D:UI ca Jc W 205 2):DI ca Jc W 206 4:=by erw[B.MX 6 bb [] [205] (.set 2 (.me 205 0 (.u 1))<|>.DM (.c (.B J)) (.fld 1 7 0) 2<|>.iff (.cmp kJ (.kix 0 2) (.s "box")) (.re (.ix (.fld 1 1 0) (.qK (.fld 2 0 (.fld 1 0 0)) 1))) .nil<|>.Qg [3,4,5] (.ix (.fld 1 3 0) (.neg (.i 1)))<|>.re (.ix 4 (.qK (.qK (.fld 2 2 (.fld 1 0 0)) 3) 1))) S.aj9 rfl Ť (D.di Ŗ,Ť) λds h Q X c=>?_];induction c with|@mk P w j as x Q X r q=>let(z,n,rfl,e,rfl):=r;let(p,E,e):=bd e;let(f,o):=zw E;induction H:pos z _ 0 with|a=>rw[H]at e;let(k,a,e):=bd e;let(i,g,e):=bd e;let(m,b,e):=mp e;cases e;let(d,rfl):=ph a;exact(Ŗ,iL.mk (as:=[.S z]) (z,_,Ŗ,Ŗ,AG E H,Ŗ) (bT d (bu (uV g) (bu (kj b) q))))|c i=>rw[H]at e;let(k,a,e):=bd e;let(m,b,e):=mp e;cases e;let(d,rfl):=ph a;exact(Ŗ,iL.mk (as:=[.S z]) (z,_,Ŗ,Ŗ,uE E H,Ŗ) (bT d (bu (Cr f) (bu (qf o) (bu (uV H) (bu (kj b) q))))))
def Rk(B:LX ca Jc W)(S:SX ca W)(D:UI ca Jc W 205 2)(g:UX ca Jc W 8 2 oY):UI ca Jc W 207 4:=by erw[B.v 7 bb [(8,oY)] [205] (.set 3 (.me 205 0 (.u 1))<|>.DM (.c (.B J)) (.fld 1 8 0) 3<|>.one (.iff (.cmp kJ (.kix 0 3) (.s "box")) (.one (.fC 1 1 (.cl 8 [] (.u3 (.fld 1 1 0) (.qK (.fld 2 0 (.fld 1 0 0)) 1) 2)) 0)) (.Qg [4,5,6] (.ix (.fld 1 3 0) (.neg (.i 1)))<|>.set 5 (.cl 8 [] (.u3 5 (.qK (.qK (.fld 2 2 (.fld 1 0 0)) 4) 1) 2))<|>.one (.fC 1 3 (.b2 gf (.sl (.fld 1 3 0) .no (.of (.neg (.i 1)))) (.tup (.u (.tup (.u3 4 5 6))))) 0)))) S.aka rfl (g.le (dG _),Ť) (D,Ť) λds h Q X c=>?_];induction c with|@mk P w t as x Q X r q=>let(z,n,rfl,e,rfl):=r;let(p,E,e):=bd e;let(f,o):=zw E;induction H:pos z p.2.2 0 with|a=>rw[H]at e;let(k,a,e):=bd e;let(i,j,e):=bd e;let(m,b,e):=mp e;cases e;let(d,rfl):=ph a;exact(Ŗ,iL.mk (as:=[.S z]) (z,_,Ŗ,Ŗ,AG E H,Ŗ) (bT d (bu (uV j) (oY.mk (vB b) q))))|c i=>
   rw[H]at e;let(k,a,e):=bd e;let(N,b,e):=bd e;let(c,e):=bf e;cases e;let(d,rfl):=ph a;erw[(Ŗ,iL.mk (as:=[.S z]) (z,_,Ŗ,Ŗ,uE E H,Ŗ) (bT d (bu (Cr f) (bu (qf o) (bu (uV H) (oY.mk (vB b) ?_))))))];show gd (qC ((og (jn w.fr) ao (O (-1))).length+1)) (Q _ (tp _ (og (jn w.fr) ao (O _)++[_]) _ _ _));let l:og (jn w.fr) ao (O (-1))=jn p.2.1:=by rw[f];rwa[pW]
   rw[l];rwa[bT (qN (cc.mpr (by let:=aj c;rw[gP];rwa[aA ‹_› ⋯]))) q]
def Rg(B:LX ca Jc W)(S:SX ca W):DI ca Jc W 208 2:=by erw[B.MX 2 bb [] [] (.DM (.c (.B J)) (.fld 1 7 0) (.key (.u2 (.s "list") 1))<|>.re (.ix (.fld 1 2 0) (.qK (.fld 2 1 (.fld 1 0 0)) 1))) S.akb rfl Ť Ť λds h Q X c=>?_];induction c with|@mk P w d A x Q X r q=>let(z,l,rfl,e,rfl):=r;let(k,E,e):=bd e;let(i,a,e):=bd e;let(m,b,e):=mp e;cases e;let(H,rfl):=ph E;exact(Ŗ,bT H (bu (uV a) (bu (kj b) q)))
def Rl(B:LX ca Jc W)(S:SX ca W)(D:UX ca Jc W 8 2 oY):DI ca Jc W 209 4:=by erw[B.MX 3 bb [(8,oY)] [] (.DM (.c (.B J)) (.fld 1 8 0) (.key (.u2 (.s "list") 1))<|>.one (.fC 1 2 (.cl 8 [] (.u3 (.fld 1 2 0) (.qK (.fld 2 1 (.fld 1 0 0)) 1) 2)) 0)) S.akc rfl ((D.le (dG _)).dt,Ť) Ť λds h Q X c=>?_];induction c with|@mk P w d A x Q X r q=>let(z,l,rfl,e,rfl):=r;let(k,E,e):=bd e;let(i,a,e):=bd e;let(m,b,e):=mp e;cases e;let(H,rfl):=ph E;exact(Ŗ,bT H (bu (uV a) (oY.mk (vB b) q)))
inductive uD:Ct|mk{fr:Ł Fr}{h:Hs}{Q:Dv->Hs->ß}{xc:XP}(q:Q (.p (.S (Wp fr))) h):uD [.p (.T (jn fr))] h Q xc
def acG{A B C:Sm}{X:XP}{σ:Es}{h:Hs}{Q:KP}{d:Pv}(H:∀a:KP,a [.p (Rm g l)] h->A X σ h a)(b:∀a:KP,a [.p (.S z)] h->B X σ h a)(c:∀a:KP,a [.p d] h->C X σ h a)(q:Q [.p (((iZ z l).map g).getD d)] h):Oz A B C X σ h Q:=by erw[H _ ?_];erw[bT (by rfl) (b _ (bu (by rfl) (c _ (bu (cb (λo=>O _) yH) ?_))))];revert q;induction iZ z l with|a=>rwa[λq=>q]|c x=>rwa[λq=>q]
def K1(B:LX ca Jc W)(S:SX ca W):DI ca Jc W 300 2:=by erw[B.MX 4 bb [] [] (.set 3 (.dg2 (.fld 2 4 0) 1 (.tup .nil))<|>.re (.L0 (.cmp j2 2 (.bi gC (.u 3))) (.ix 3 2) (.i 0))) S.ake rfl Ť Ť λds h Q x c=>?_];induction c with|@mk P d a h Q x q=>erw[(Ŗ,?_)];erw[acG (λ_ q=>q) (λ_ q=>q) (λ_ q=>q) ?_];delta AC at q;revert q;induction iZ d _ with|a=>intro q;rwa[q]|c n=>
   intro q;change Q (.p (nP (n[a]?.getD 0))) h at q;erw[sf (λe=>?_) λe=>?_]
   .let e:=fF.mp e;rw[af]at e;let H:a<n.length:=()
    rw[av H]at q;rwa[bu (kj (av H)) q]
   .let e:=bq.mp e;rw[ne_eq,fF,af]at e;rw[er ()]at q;rwa[q]
def acx(B:LX ca Jc W)(S:SX ca W)(D:DI ca Jc W 300 2)(b:UX ca Jc W 8 2 oY):DI ca Jc W 210 4:=by erw[B.MX 4 bb [(8,oY)] [300] (.set 2 (.qK (.fld 2 3 (.fld 1 0 0)) 1)<|>.set 3 (.ix (.fld 1 4 0) 2)<|>.fC 1 4 (.cl 8 [] (.u3 (.fld 1 4 0) 2 (.b2 gf 3 (.i 1)))) 0<|>.re (.me 300 (.fld 1 0 0) (.u2 1 3))) S.akd rfl ((b.le (dG _)).dt,Ť) (D,Ť) λds h Q X c=>?_];induction c with|@mk P w j A x Q X r q=>let(d,n,rfl,e,rfl):=r;let(i,E,e):=bd e;let(a,f,e):=bd e;let(k,g,e):=mp e;cases e;exact(Ŗ,bu (uV E) (bu (kj f) (oY.mk (vB g) (.mk q))))
def Lf(B:LX ca Jc W)(S:SX ca W):DX ca Jc W 7 2 uD:=by erw[B.e 1 bb [] [] (.iff (.bo (Wm.ac (.cmp kJ (.bi gC (.u 0)) (.i 1)) (Wm.a1 (.cmp kJ (.ix (.ix 0 (.i 0)) (.i 2)) (.g 0))))) (.re (.s "done")) .nil<|>.re (.s "on")) S.Og rfl Ť Ť λds h Q x c=>?_];induction c with|@mk fr h Q x q=>
  erw[(Ŗ,?_)];rcases fr with _|⟨⟨f,N,pt⟩,_|⟨y,r⟩⟩;.rwa[q]
  .induction pt with|a=>rwa[q]|c n=>rwa[q]
  .erw[uB (bq.mpr λz=>?_) (by induction pt<;>rwa[q])];let:=ic.mp (show lg (jn _).length 1=J from z);rw[gP,aJ,aJ]at this;lia
def Ri(B:LX ca Jc W)(S:SX ca W)(D:DX ca Jc W 7 2 uD):DI ca Jc W 200 4:=by erw[B.MX 2 bb [(7,uD)] [] (.set 1 (.L0 (.val (.fld 1 6 0)) (.s "broken") (.cl 7 [] (.u (.fld 1 3 0))))<|>.re (.tup (.cons (.fld 1 1 0) (.u5 (.fld 1 2 0) (.fld 1 3 0) (.fld 1 4 0) (.fld 1 5 0) 1)))) S.aj3 rfl (D.le (dG _),Ť) Ť λds h Q X c=>?_];induction c with|@mk P w a A x Q X r q=>let(rfl,rfl,rfl):=r;erw[(Ŗ,?_)];delta Wk.p Wk.wo at q;show br _ _ _;revert q;induction a.bk with|d=>rwa[λq=>q]|e=>rwa[λq=>.mk q]
def YK(B:LX ca Jc W)(S:n9 W.K (ca 1) "Work.__init__" (cW (d0 57) 0) ["self","plan","state"])(H:W.mg "Work"=O (.ref (ca 1))):DI ca Jc W 1 2:=by erw[Lk.kK ["self","plan","state"] _ bb [] [] B (.fC 1 0 1 0<|>.fC 1 1 (.ix 2 (.i 0)) 0<|>.fC 1 2 (.ix 2 (.i 1)) 0<|>.fC 1 3 (.ix 2 (.i 2)) 0<|>.fC 1 4 (.ix 2 (.i 3)) 0<|>.fC 1 5 (.ix 2 (.i 4)) 0<|>.fC 1 6 (.c (.B bb)) 0<|>.fC 1 7 .SK 0<|>.one (.fC 1 8 .SK 0)) S H rfl Ť Ť λds h Q x c=>?_];induction c with|@mk P w Q x q=>exact(Ŗ,q)
theorem N0:∀{o:ϐ}{n:Ń},z∈o->∃i,pos z o n=O i|y::r,n,h=>by show ∃i,(match cQ y z with|J=>O n|bb=>pos z r _)=O i;induction e:cQ y z with|d=>lia|e=>
   rcases aB.mp h with h|h;.subst h;rw[bX.mpr Ŗ]at e;cases e
   .rwa[N0 h]
def B7:fT (o.map Pv.S)=O o:=by induction o with|f=>rfl|g y r i=>rw[cq,fT,i]
inductive JE(P:Pn)(w:Wk)(f:Æ)(vs:Ł Nm)(o:ϐ)(p:Ő Ń)(k:Ł (Ł cs))(post:ϑ):Es->Hs->ß|mk{x:Ő Dv}{po:ϐ}{ks:Ł (Ł cs)}(hp:post=po.map Pv.S)(hm:∀z∈po,z∈o)(e:zv w.fr.length po ks=O k):JE P w f vs o p k post [O (.r 0),O (.p (.S f)),O (.p (.L (vs.map nP))),O (.p (j4 o)),O (.p (.T ((vs++Ð (o.length-vs.length) 0).map nP))),x] (xX P {w with wr:=ks,fr:=(f,vs++Ð (o.length-vs.length) 0,p)::w.fr})
def Q5(B:LX ca Jc W)(S:SX ca W)(D:UI ca Jc W 205 2):DI ca Jc W 204 4:=by erw[B.MX 6 bb [] [205] (.set 3 (.qK (.fld 2 2 (.fld 1 0 0)) 1)<|>.set 4 (.b2 gf (.bi AV (.u 2)) (.b2 KC (.tup (.u (.i 0))) (.b2 Cs (.bi gC (.u 3)) (.bi gC (.u 2)))))<|>.fC 1 3 (.b2 gf (.fld 1 3 0) (.tup (.u (.tup (.u3 1 4 (.qK (.fld 3 7 (.fld 2 5 (.fld 1 0 0))) 1)))))) 0<|>.one (.foP (.one 5) 3 (.one (.DM (.c (.B J)) (.fld 1 8 0) (.me 205 0 (.u 5)))))) S.aj7 rfl Ť (D.di Ŗ,Ť) λds h Q X c=>?_];induction c with|@mk P w w' as x Q X r q=>
  let(f,v,rfl,e,rfl):=r;let(o,d,e):=bd e;let(p,n,e):=bd e;let(c,e):=bf e;let(k,s,e):=mp e;subst e;let(C,t,A):=iY c;let h1:=aj C;let h2:=aj t;let h3:w.fr.length<1000:=aj A;let g:(((o.map Pv.S).length:Ń)-((v.map nP).length:Ń):Î)=((o.length-v.length:Ń):Î):=by rw[af,af];lia
  let hn:(Ð (((o.map Pv.S).length:Ń)-((v.map nP).length:Ń):Î).toNat [Pv.I 0]).flatten=(Ð (o.length-v.length) (0:Nm)).map nP:=by rw[g,List.map_replicate];show(Ð (o.length-v.length) [Pv.I 0]).flatten=Ð (o.length-v.length) (Pv.I 0);generalize o.length-v.length=m;induction m with|h=>rfl|j m F=>rw[x4,List.flatten_cons,F];rfl
  erw[(Ŗ,bu (qf d) (bT ?_ (bT ?_ (bu (qf n) (bT ?_ ?_)))))];.show(qM 0 (((o.map Pv.S).length:Ń)-((v.map nP).length:Ń):Î)&&(qM (((o.map Pv.S).length:Ń)-((v.map nP).length:Ń):Î) 1000&&J))=J;rw[g,eD.mpr (),eD.mpr ()];rfl
  .show qC ((v.map nP).length+((Ð (((o.map Pv.S).length:Ń)-((v.map nP).length:Ń):Î).toNat [Pv.I 0]).flatten).length)=J;rw[hn,af,af,cF];rwa[qN (cc.mpr ())]
  .show qC ((jn w.fr).length+1)=J;rw[gP];rwa[qN (cc.mpr (aA ‹_› ∅))]
  show fH (fT (o.map .S)) (λ_=>Dl _ _ _ _ _ [O (.r 0),O (.p (.S f)),O (.p (.L (v.map nP))),O (.p (j4 o)),O (.p (.T (v.map nP++(Ð (((o.map Pv.S).length:Ń)-((v.map nP).length:Ń):Î).toNat [Pv.I 0]).flatten))),ao] (tp P (jn w.fr++[.T [.S f,.T (v.map nP++(Ð (((o.map Pv.S).length:Ń)-((v.map nP).length:Ń):Î).toNat [Pv.I 0]).flatten),fq p]]) w w.rd w.wr)) ŧ;rw[hn,<-aN];erw[bu B7 (kn (λ_=>JE P w f v o p k) (.mk (x:=ao) Ŗ (λ_ h=>h) s) (λpre x post b G ex j=>?_) λb G j=>?_)];.induction j with|@mk y a K l H E=>cases a with|f=>done|g z a=>
   cases l;let(i,M):=N0 (H z aL);let(Af,N,R):=bd E;let(U,rfl):=ph N;let Y:own P {w with wr:=K,fr:=(f,v++Ð (o.length-v.length) 0,p)::w.fr}=O ((f,v++Ð (o.length-v.length) 0,p),w.fr,o):=by show(iZ f _).map _=_;rw[d];rfl
   rwa[iL.mk (as:=[.S z]) (z,_,Ŗ,Ŗ,uE Y M,Ŗ) (bT U (JE.mk Ŗ (λy Z=>H y (aH _ Z)) R))]
  .induction j with|@mk y a K l H E=>induction a with|g z a=>done|f=>cases E;rwa[q]
def Ou.k(Q:Dv->Hs->ß)(X:XP)(h:Hs):Ou->ß|.v n=>Q (.p (nP n)) h|.x c=>X (1000+c) h
inductive tN(k:Op):Ct|mk{a b:Nm}{h:Hs}{Q:Dv->Hs->ß}{xc:XP}(q:(k.f a b).k Q xc h):tN k [.p (nP a),.p (nP b)] h Q xc
inductive AD:Ct|ok{l:Ł Nm}{n:Nm}{h:Hs}{Q:Dv->Hs->ß}{xc:XP}(e:n.val<l.length)(q:Q (.p .N) h):AD [.p (.T (l.map nP)),.p (nP n)] h Q xc|no{l:Ł Nm}{n:Nm}{h:Hs}{Q:Dv->Hs->ß}{xc:XP}(e:l.length<=n.val)(q:xc 1002 h):AD [.p (.T (l.map nP)),.p (nP n)] h Q xc
inductive iR(d:Ń):Ct|mk{P:Pn}{w w':Wk}{v:Vx}{u:Ou}{Q:Dv->Hs->ß}{xc:XP}(hd:v.dp<d)(e:ev P v w=O (w',u))(q:u.k Q xc (xX P w')):iR d [.r 0,.p v.p] (xX P w) Q xc
inductive cIt(d:Ń):Ct|mk{P:Pn}{w w':Wk}{z:Æ}{v:Vx}{u:Ou}{Q:Dv->Hs->ß}{xc:XP}(hd:v.dp<d)(e:ev P (.i z v) w=O (w',u))(q:u.k Q xc (xX P w')):cIt d [.r 0,.p (Vx.i z v).p] (xX P w) Q xc
def QP(a b:Nm):ym a.val b.val=true:=by let:=b.isLt;delta ym iy;rw[aZ (show(b.val:Î).natAbs<=18446744073709551615 by lia)];rfl
def Fi(a:Nm){b:Nm}(h:Ì b.val 0=bb):QD a.val b.val=true:=by
 let:b.val≠0:=λz=>nofun
 delta QD;rw[cA (),cA ()];rfl
def yR{a b:Ń}:lg a b=Ì a b:=rfl
def tU{a:Ń}:lg a 0=Ì a 0:=yR
def MG{a b:Ń}:qM a b=Ë a b:=rfl
def ğ{a b:Ń}(h:Ë a b=bb):b<a:=Nat.lt_of_not_le λz=>by rw[aZ z]at h;cases h
def MS{a b:Ń}:BW a b=Ñ a b:=rfl
def YM(B:LX ca Jc W)(S:SX ca W):DX ca Jc W 9 2 (tN .pl):=by erw[B.e 2 bb [] [] (.re (.b2 we (.b2 gf 0 1) (.g 2))) S.ae2 rfl Ť Ť λds h Q x c=>?_];induction c with|@mk a b h Q x q=>done
def Q9(B:LX ca Jc W)(S:SX ca W):DX ca Jc W 10 2 (tN .mi):=by erw[B.e 2 bb [] [] (.re (.b2 we (.b2 Cs 0 1) (.g 2))) S.ψ rfl Ť Ť λds h Q x c=>?_];induction c with|@mk a b h Q x q=>erw[(Ŗ,?_)];show Q (.p (.I ((a.val-b.val)%1000000))) h;rw[show((a.val-b.val)%1000000:Î)=(a-b).val by let:=b.isLt;rw[Fin.val_sub];lia];rwa[q]
def Rj(B:LX ca Jc W)(S:SX ca W):DX ca Jc W 11 2 (tN .ti):=by erw[B.e 2 bb [] [] (.re (.b2 we (.b2 yi 0 1) (.g 2))) S.ω rfl Ť Ť λds h Q x c=>?_];induction c with|@mk a b h Q x q=>exact(Ŗ,bT (QP a b) q)
def YL(B:LX ca Jc W)(S:SX ca W):DX ca Jc W 12 2 (tN .ov):=by erw[B.e 2 bb [] [] (.iff (.cmp kJ 1 (.i 0)) (.one (.md (.g 3))) .nil<|>.re (.b2 Qu 0 1)) S.ae1 rfl Ť Ť λds h Q X c=>?_];induction c with|@mk a b h Q X q=>erw[(Ŗ,?_)];show br (lg b.val 0) (X 1001 h) (gd _ (Q _ h));rw[tU];change Ou.k Q X h (bif Ì _ 0 then .x 1 else .v _)at q;revert q;induction H:Ì _ 0 with|d=>rwa[λq=>q]|e=>rwa[λq=>bT (Fi a H) q]
def YO(B:LX ca Jc W)(S:SX ca W):DX ca Jc W 13 2 (tN .re):=by erw[B.e 2 bb [] [] (.iff (.cmp kJ 1 (.i 0)) (.one (.md (.g 3))) .nil<|>.re (.b2 we 0 1)) S.ae3 rfl Ť Ť λds h Q X c=>?_];induction c with|@mk a b h Q X q=>erw[(Ŗ,?_)];show br (lg b.val 0) (X 1001 h) (gd _ (Q _ h));rw[tU];change Ou.k Q X h (bif Ì _ 0 then .x 1 else .v _)at q;revert q;induction H:Ì _ 0 with|d=>rwa[λq=>q]|e=>rwa[λq=>bT (ag (Fi a H)).1 q]
def YF(B:LX ca Jc W)(S:SX ca W):DX ca Jc W 14 2 (tN .le):=by erw[B.e 2 bb [] [] (.re (.L0 (.cmp j2 0 1) (.i 1) (.i 0))) S.ae0 rfl Ť Ť λds h Q x c=>?_];induction c with|@mk a b h Q x q=>erw[(Ŗ,?_)];show br _ (Q _ h) (Q _ h);rw[MS];change Q _ h at q;revert q;induction Ñ _ _ with|d=>rwa[λq=>q]|e=>rwa[λq=>q]
def YQ(B:LX ca Jc W)(S:SX ca W):DX ca Jc W 15 2 (tN .sa):=by erw[B.e 2 bb [] [] (.re (.L0 (.cmp kJ 0 1) (.i 1) (.i 0))) S.ae4 rfl Ť Ť λds h Q x c=>?_];induction c with|@mk a b h Q x q=>erw[(Ŗ,?_)];show br (lg a.val b.val) (Q _ h) (Q _ h);rw[yR];change Q _ h at q;revert q;induction Ì _ _ with|d=>rwa[λq=>q]|e=>rwa[λq=>q]
def Q1(B:LX ca Jc W)(S:SX ca W):DX ca Jc W 18 2 AD:=by erw[B.e 2 bb [] [] (.one (.iff (.cmp C2 1 (.bi gC (.u 0))) (.one (.md (.g 4))) .nil)) S.zG rfl Ť Ť λds h Q x c=>?_];induction c with|@ok l n h Q x e q=>erw[(Ŗ,uB (c:=qM _ _) (bq.mpr λz=>?_) q)];let:=eD.mp z;rw[af]at this;lia|@no l n h Q x e q=>exact(Ŗ,jB (c:=qM _ _) (eD.mpr nofun) q)
structure Aw(ca:Ń->À)(Jc:Ń->Ct)(W:Wd):ß where
 a0:DI ca Jc W 200 4a1:UI ca Jc W 201 4a2:UI ca Jc W 202 4a3:UI ca Jc W 203 4a4:DI ca Jc W 204 4a6:DI ca Jc W 206 4a7:UI ca Jc W 207 4a8:DI ca Jc W 208 4a9:DI ca Jc W 209 4a10:DI ca Jc W 210 4nw:DI ca Jc W 1 4rep:UX ca Jc W 8 4 oY
 pl:DX ca Jc W 9 4 (tN .pl)mi:DX ca Jc W 10 4 (tN .mi)ti:DX ca Jc W 11 4 (tN .ti)ov:DX ca Jc W 12 4 (tN .ov)re:DX ca Jc W 13 4 (tN .re)le:DX ca Jc W 14 4 (tN .le)sa:DX ca Jc W 15 4 (tN .sa)ch:DX ca Jc W 18 4 AD
def YS(B:LX ca Jc W)(S:SX ca W)(s:n9 W.K (ca 1) "Work.__init__" (cW (d0 57) 0) ["self","plan","state"])(h:W.mg "Work"=O (.ref (ca 1))):Aw ca Jc W:=let D:=Yy B S;let R:=acA B S;(Ri B S (Lf B S),(Rc B S).le (aQ _ _),(YG B S).le (aQ _ _),(Q7 B S).le (aQ _ _),Q5 B S D,Rf B S D,Rk B S D R,(Rg B S).le (aQ _ _),Rl B S R,acx B S (K1 B S) R,(YK B s h).le (aQ _ _),R.le (aQ _ _),(YM B S).le (aQ _ _),(Q9 B S).le (aQ _ _),(Rj B S).le (aQ _ _),(YL B S).le (aQ _ _),(YO B S).le (aQ _ _),(YF B S).le (aQ _ _),(YQ B S).le (aQ _ _),(Q1 B S).le (aQ _ _))
def YD(B:LX ca Jc W)(S:SX ca W)(M:Aw ca Jc W)(h:4<=k)(D:DX ca Jc W 16 (k+1) (iR d)):DX ca Jc W 17 (k+2) (cIt d):=by erw[B.e 4 bb [(16,iR d),(18,AD)] [208] (.set 2 (.vQ 16 (.u2 0 (.ix 1 (.i 2))))<|>.set 3 (.me 208 0 (.u (.ix 1 (.i 1))))<|>.ex (.cl 18 [] (.u2 3 2))<|>.re (.ix 3 2)) S.aeZ rfl (D,M.ch.le (aU ‹_›),Ť) (M.a8.le h,Ť) λds h Q x c=>?_];induction c with|@mk P w f z v u Q x H e q=>
  erw[(Ŗ,?_)];rcases iM e with ⟨a,n,E,e⟩|⟨a,c,E,e⟩;.let(p,b,e):=mp e;cases e;erw[iR.mk H E (iL.mk (as:=[.S z]) (z,p.2,Ŗ,b,Ŗ) ?_)];delta lx at q;induction hn:p.2[n.val]? with|a=>rw[hn]at q;rwa[.no (List.getElem?_eq_none_iff.mp hn) q]|c y=>rw[hn]at q;rwa[.ok (aw.mp hn).1 (bu (kj hn) q)]
  .cases e;rwa[iR.mk H E q]
def YN(B:LX ca Jc W)(S:SX ca W)(M:Aw ca Jc W)(h:4<=k)(D:DX ca Jc W 16 (k+1) (iR d))(Di:DX ca Jc W 17 (k+1) (cIt d)):DX ca Jc W 16 (k+2) (iR (d+1)):=by erw[B.e 4 bb [(16,iR d),(17,cIt d),(9,tN .pl),(10,tN .mi),(11,tN .ti),(12,tN .ov),(13,tN .re),(14,tN .le),(15,tN .sa)] [206,208] (.set 2 (.ix 1 (.i 0))<|>.iff (.cmp kJ 2 (.s "number")) (.re (.ix 1 (.i 1))) .nil<|>.iff (.cmp kJ 2 (.s "box")) (.re (.me 206 0 (.u (.ix 1 (.i 1))))) .nil<|>.iff (.cmp kJ 2 (.s "size")) (.re (.bi gC (.u (.me 208 0 (.u (.ix 1 (.i 1))))))) .nil<|>.iff (.cmp kJ 2 (.s "item")) (.re (.vQ 17 (.u2 0 1))) .nil<|>.set 3 (.vQ 16 (.u2 0 (.ix 1 (.i 1))))<|>.iff (.cmp kJ 2 (.s "not")) (.re (.cl 15 [] (.u2 3 (.i 0)))) .nil<|>.re (.clf 102 2 (.u2 3 (.vQ 16 (.u2 0 (.ix 1 (.i 2))))))) S.xJ rfl (D,Di,M.pl.le (aU ‹_›),M.mi.le (aU ‹_›),M.ti.le (aU ‹_›),M.ov.le (aU ‹_›),M.re.le (aU ‹_›),M.le.le (aU ‹_›),M.sa.le (aU ‹_›),Ť) (M.a6.le h,M.a8.le h,Ť) λds h Q X c=>?_];induction c with|@mk P w A v u Q X H e q=>erw[(Ŗ,?_)];cases v with
  |n m=>cases e;rwa[q]|b z=>let(p,E,e):=mp e;cases e;rwa[iL.mk (as:=[.S z]) (z,p.2,Ŗ,E,Ŗ) q]|s z=>
   let(p,E,e):=bd e;let(n,f,e):=mp e;cases e;erw[iL.mk (as:=[.S z]) (z,p.2,Ŗ,E,Ŗ) ?_];show Q (.p (.I ((p.2.map nP).length:Ń))) _;delta U5 at f;split at f;.cases f;rw[af];rwa[q]
   .cases f|i z v=>rwa[cIt.mk (jQ H) e q]|t v=>
   rcases iM e with ⟨g,n,E,e⟩|⟨g,c,E,e⟩;.cases e;rwa[iR.mk (jQ H) E (tN.mk (b:=0) q)]
   .cases e;rwa[iR.mk (jQ H) E q]|o k a b=>
   let H:max a.dp b.dp+1<d+1:=H;let j:a.dp<d:=()
   let l:b.dp<d:=()
   rcases iM e with ⟨g,x,E,e⟩|⟨g,c,E,e⟩
   .rcases iM e with ⟨r,y,f,e⟩|⟨r,c,f,e⟩;.cases e;induction k<;>rwa[iR.mk j E (iR.mk l f (tN.mk q))]
    .cases e;induction k<;>rwa[iR.mk j E (iR.mk l f q)]
   .cases e;induction k<;>rwa[iR.mk j E q]
theorem FA(B:LX ca Jc W)(S:SX ca W)(M:Aw ca Jc W):∀d:Ń,DX ca Jc W 16 (2*d+6) (iR d)
 |0=>(Dt.no S.xJ).imp λds h Q x c=>by induction c with|mk H e q=>lia
 |d+1=>by let D:=FA B S M d;rwa[YN (k:=2*d+6) B S M (aQ _ _) (D.le (dG _)) (YD B S M (aQ _ _) D)]
end
def dK(Q:Dv->Hs->ß)(x:XP)(h:Hs):Ő Ń->ß|ao=>Q (.p .N) h|O c=>x (1000+c) h
inductive iK(f:Do)(d:Ń):Ct|mk{P:Pn}{w w':Wk}{r:Rw}{o:Ő Ń}{Q:Dv->Hs->ß}{xc:XP}(hd:r.lo d)(e:f P w r=O (w',o))(q:dK Q xc (xX P w') o):iK f d [.r 0,.p r.p] (xX P w) Q xc
inductive Wv:Ct|mk{P:Pn}{w w':Wk}{n:Nm}{Q:Dv->Hs->ß}{xc:XP}(e:Zj P w n=O w')(q:Q (.p .N) (xX P w')):Wv [.r 0,.p (nP n)] (xX P w) Q xc
def KQ(e:Yo o=O z):∃f vs,o=O (.ca z f vs):=by
 delta Yo at e;split at e;.cases e;exact(_,_,Ŗ)
 .cases e
def eB(h:Ñ a b):a<b:=aj h
section
variable{ca:Ń->À}{Jc:Ń->Ct}{W:Wd}{d k:Ń}
def K9(B:LX ca Jc W)(S:SX ca W)(M:Aw ca Jc W)(h:4<=k)(D:DX ca Jc W 16 (k+1) (iR d)):DX ca Jc W 19 (k+2) (iK HF d):=by erw[B.e 2 bb [(16,iR d)] [207] (.one (.ex (.me 207 0 (.u2 (.ix 1 (.i 1)) (.vQ 16 (.u2 0 (.ix 1 (.i 2)))))))) S.UM rfl (D,Ť) ((M.a7.di Ŗ).le h,Ť) λds h Q x c=>?_];induction c with|@mk P w f r o Q x H e q=>
  erw[(Ŗ,?_)];induction r<;>first|cases e|skip
  ext z v;rcases iM e with ⟨a,n,E,e⟩|⟨a,c,E,e⟩;.let(g,b,e):=mp e;cases e;rwa[iR.mk (eB H) E (iL.mk (as:=[.S z,nP n]) (z,n,Ŗ,b,Ŗ) q)]
  .cases e;rwa[iR.mk (eB H) E q]
def HK(B:LX ca Jc W)(S:SX ca W)(M:Aw ca Jc W)(h:4<=k)(D:DX ca Jc W 16 (k+1) (iR d)):DX ca Jc W 20 (k+2) (iK xg d):=by erw[B.e 4 bb [(16,iR d)] [208,209] (.set 2 (.vQ 16 (.u2 0 (.ix 1 (.i 2))))<|>.set 3 (.me 208 0 (.u (.ix 1 (.i 1))))<|>.iff (.cmp C2 (.bi gC (.u 3)) (.g 1)) (.one (.md (.g 5))) .nil<|>.one (.ex (.me 209 0 (.u2 (.ix 1 (.i 1)) (.b2 gf 3 (.tup (.u 2))))))) S.N9 rfl (D,Ť) (M.a8.le h,M.a9.le h,Ť) λds h Q x c=>?_];induction c with|@mk P w l r o Q x a e q=>
  erw[(Ŗ,?_)];induction r<;>first|cases e|skip
  ext z v;rcases iM e with ⟨b,n,E,e⟩|⟨b,c,E,e⟩;.let(p,f,e):=bd e;erw[iR.mk (eB a) E (iL.mk (as:=[.S z]) (z,p.2,Ŗ,f,Ŗ) ?_)];show br (qM (12:Ń) _) _ _;rw[af,MG];induction H:Ë 12 _ with|d=>rw[H]at e;cases e;rwa[q]|e=>rw[H]at e;let(m,j,e):=mp e;cases e;let:=ğ H;rwa[bT (qN (cc.mpr (by rw[af];rwa[aA ‹_› ⋯]))) (iL.mk (as:=[.S z,.T _]) (z,_,by rw[aN];rfl,j,Ŗ) q)]
  .cases e;rwa[iR.mk (eB a) E q]
def K5(B:LX ca Jc W)(S:SX ca W)(M:Aw ca Jc W):DX ca Jc W 21 6 (iK HE d):=by erw[B.e 3 bb [] [207,208,209] (.set 2 (.me 208 0 (.u (.ix 1 (.i 2))))<|>.iff (.cmp kJ (.bi gC (.u 2)) (.i 0)) (.one (.md (.g 6))) .nil<|>.ex (.me 209 0 (.u2 (.ix 1 (.i 2)) (.sl 2 .no (.of (.neg (.i 1))))))<|>.one (.ex (.me 207 0 (.u2 (.ix 1 (.i 1)) (.ix 2 (.neg (.i 1))))))) S.UJ rfl Ť (M.a7.di Ŗ,M.a8,M.a9,Ť) λds h Q x c=>?_];induction c with|@mk P w f r o Q x H e q=>
  erw[(Ŗ,?_)];induction r<;>first|cases e|skip
  ext z y;obtain⟨⟨j,l⟩,E,e⟩:=bd e;erw[iL.mk (as:=[.S y]) (y,l,Ŗ,E,Ŗ) ?_];rcases ώ l with rfl|⟨l,n,rfl⟩;.cases e;rwa[q]
  .rw[ŏ]at e⊢;simp only[List.getLast?_append,T1]at e;let(m,a,e):=bd e;let(p,b,e):=mp e;cases e;rw[aN];erw[uB (c:=lg (l.map nP++[nP n]).length 0) (bq.mpr λz=>?_) ?_];.let:=ic.mp z;rw[ai]at this;simp only[aJ]at this;lia
   rwa[iL.mk (as:=[.S y,.T (og (l.map nP++[nP n]) _ _)]) (y,l,by rw[pW],a,Ŗ) (bu tM (iL.mk (as:=[.S z,nP n]) (z,n,Ŗ,b,Ŗ) q))]
def K6(B:LX ca Jc W)(S:SX ca W)(M:Aw ca Jc W)(h:4<=k)(D:DX ca Jc W 16 (k+1) (iR d)):DX ca Jc W 22 (k+2) (iK QX d):=by erw[B.e 5 bb [(16,iR d),(18,AD),(8,oY)] [208,209] (.set 2 (.vQ 16 (.u2 0 (.ix 1 (.i 2))))<|>.set 3 (.vQ 16 (.u2 0 (.ix 1 (.i 3))))<|>.set 4 (.me 208 0 (.u (.ix 1 (.i 1))))<|>.ex (.cl 18 [] (.u2 4 2))<|>.one (.ex (.me 209 0 (.u2 (.ix 1 (.i 1)) (.cl 8 [] (.u3 4 2 3)))))) S.UK rfl (D,M.ch.le (aU ‹_›),M.rep.dt.le (aU ‹_›),Ť) (M.a8.le h,M.a9.le h,Ť) λds h Q x c=>?_];induction c with|@mk P w A r o Q x g e q=>
  erw[(Ŗ,?_)];induction r<;>first|cases e|skip
  ext z u v;let(b,f):=ag g;rcases iM e with ⟨j,i,E,e⟩|⟨j,c,E,e⟩
  .erw[iR.mk (eB b) E ?_];rcases iM e with ⟨m,n,a,e⟩|⟨m,c,a,e⟩;.let(p,s,e):=bd e;erw[iR.mk (eB f) a (iL.mk (as:=[.S z]) (z,p.2,Ŗ,s,Ŗ) ?_)];induction H:Ë _ _ with|d=>rw[H]at e;cases e;rwa[AD.no (aj H) q]|e=>rw[H]at e;let(l,t,e):=bd e;let(C,y,e):=mp e;cases e;rwa[AD.ok (ğ H) (oY.mk (vB t) (iL.mk (as:=[.S z,.T _]) (z,l,Ŗ,y,Ŗ) q))]
   .cases e;rwa[iR.mk (eB f) a q]
  .cases e;rwa[iR.mk (eB b) E q]
def K3(B:LX ca Jc W)(S:SX ca W)(M:Aw ca Jc W):DX ca Jc W 23 6 (iK QU d):=by erw[B.e 2 bb [] [207,210] (.one (.ex (.me 207 0 (.u2 (.ix 1 (.i 1)) (.me 210 0 (.u (.ix 1 (.i 2)))))))) S.UG rfl Ť (M.a7.di Ŗ,M.a10,Ť) λds h Q x c=>?_];induction c with|@mk P w b r o Q x H e q=>
  erw[(Ŗ,?_)];induction r<;>first|cases e|skip
  ext z y;let(p,E,e):=bd e;let(f,a,e):=mp e;cases e;rwa[iL.mk (as:=[.S y]) (y,p.2,Ŗ,E,Ŗ) (iL.mk (as:=[.S z,nP p.2]) (z,p.2,Ŗ,a,Ŗ) q)]
def HL(B:LX ca Jc W)(S:SX ca W)(D:DX ca Jc W 16 (k+1) (iR d)):DX ca Jc W 24 (k+2) (iK Fy d):=by erw[B.e 2 bb [(16,iR d)] [] (.one (.fC 1 5 (.b2 gf (.fld 1 5 0) (.tup (.u (.vQ 16 (.u2 0 (.ix 1 (.i 1))))))) 0)) S.Oa rfl (D,Ť) Ť λds h Q x c=>?_];induction c with|@mk P w b r o Q x H e q=>
  erw[(Ŗ,?_)];induction r<;>first|cases e|skip
  rcases iM e with ⟨a,n,E,e⟩|⟨a,c,E,e⟩
  .let(c,e):=bf e;cases e;erw[iR.mk (eB H) E (bT (qN (cc.mpr ?_)) ?_)];.rw[af];let:=aj c;rwa[dQ ‹_› ⋯]
   .delta xX Ź at q;rw[aN]at q;rwa[q]
  .cases e;rwa[iR.mk (eB H) E q]
def Q3(B:LX ca Jc W)(S:SX ca W)(M:Aw ca Jc W)(h:4<=k)(D:DX ca Jc W 16 (k+1) (iR d)):DX ca Jc W 25 (k+2) (iK k8 d):=by erw[B.e 4 bb [(16,iR d)] [201,202] (.set 2 (.fld 2 5 (.fld 1 0 0))<|>.set 3 (.Ke 201 0)<|>.one (.ex (.me 202 0 (.u (.L0 (.cmp kJ (.vQ 16 (.u2 0 (.ix 1 (.i 1)))) (.i 0)) (.qK (.fld 3 4 2) 3) (.qK (.fld 3 3 2) 3)))))) S.χ rfl (D,Ť) ((M.a1.di Ŗ).le h,(M.a2.di Ŗ).le h,Ť) λds h Q x c=>?_];induction c with|@mk P w l r o Q x H e q=>
  erw[(Ŗ,?_)];induction r<;>first|cases e|skip
  let(p,f,e):=bd e;let(n,rfl,e):=bd e;erw[iL.mk (as:=[]) (Ŗ,Ŗ,_,f,Ŗ) ?_];rcases iM e with ⟨j,m,a,e⟩|⟨j,c,a,e⟩;.erw[iR.mk (eB H) a ?_];show br (lg m.val 0) _ _;rw[tU];let(g,E,e):=bd e;let(s,b,e):=mp e;cases e;revert E;cases Ì _ 0 with|d=>rwa[λE=>bu (jF E) (iL.mk (as:=[fq g]) (g,Ŗ,b,Ŗ) q)]|e=>rwa[λE=>bu (jF E) (iL.mk (as:=[fq g]) (g,Ŗ,b,Ŗ) q)]
  .cases e;rwa[iR.mk (eB H) a q]
def CM(B:LX ca Jc W)(S:SX ca W)(M:Aw ca Jc W)(h:4<=k)(D:DX ca Jc W 16 (k+1) (iR d)):DX ca Jc W 26 (k+2) (iK lu d):=by erw[B.e 4 bb [(16,iR d)] [201,202] (.set 2 (.fld 2 5 (.fld 1 0 0))<|>.set 3 (.Ke 201 0)<|>.one (.ex (.me 202 0 (.u (.L0 (.cmp kJ (.vQ 16 (.u2 0 (.ix 1 (.i 1)))) (.i 0)) (.qK (.fld 3 2 2) 3) (.qK (.fld 3 3 2) 3)))))) S.Jb rfl (D,Ť) ((M.a1.di Ŗ).le h,(M.a2.di Ŗ).le h,Ť) λds h Q x c=>?_];induction c with|@mk P w l r o Q x H e q=>
  erw[(Ŗ,?_)];induction r<;>first|cases e|skip
  let(p,f,e):=bd e;let(n,rfl,e):=bd e;erw[iL.mk (as:=[]) (Ŗ,Ŗ,_,f,Ŗ) ?_];rcases iM e with ⟨j,m,a,e⟩|⟨j,c,a,e⟩;.erw[iR.mk (eB H) a ?_];show br (lg m.val 0) _ _;rw[tU];let(g,E,e):=bd e;let(s,b,e):=mp e;cases e;revert E;cases Ì _ 0 with|d=>rwa[λE=>bu (jF E) (iL.mk (as:=[fq g]) (g,Ŗ,b,Ŗ) q)]|e=>rwa[λE=>bu (jF E) (iL.mk (as:=[fq g]) (g,Ŗ,b,Ŗ) q)]
  .cases e;rwa[iR.mk (eB H) a q]
def YC(B:LX ca Jc W)(S:SX ca W)(M:Aw ca Jc W):DX ca Jc W 31 6 Wv:=by erw[B.e 3 bb [] [201,202,203,207] (.ex (.Ke 203 0)<|>.set 2 (.Ke 201 0)<|>.ex (.me 207 0 (.u2 (.ix (.ix (.fld 3 0 (.fld 2 5 (.fld 1 0 0))) 2) (.i 1)) 1))<|>.one (.ex (.me 202 0 (.u (.qK (.fld 3 2 (.fld 2 5 (.fld 1 0 0))) 2))))) S.Eg rfl Ť (M.a1.di Ŗ,M.a2.di Ŗ,M.a3.di Ŗ,M.a7.di Ŗ,Ť) λds h Q x c=>?_];induction c with|@mk P w r n Q x e q=>let(s,E,e):=bd e;let(p,a,b):=bd e;let(c,rfl,j):=bd b;let(z,l,e):=bd j;let(t,m,e):=bd e;let(g,o,e):=bd e;let(f,v,H):=KQ l;exact(Ŗ,iL.mk (as:=[]) (Ŗ,E,Ŗ) (iL.mk (as:=[]) (Ŗ,Ŗ,_,a,Ŗ) (bu (kj H) (iL.mk (as:=[.S z,nP n]) (z,n,Ŗ,m,Ŗ) (bu (jF o) (iL.mk (as:=[fq g]) (g,Ŗ,e,Ŗ) q))))))
def K7(B:LX ca Jc W)(S:SX ca W)(h:5<=k)(D:DX ca Jc W 16 (k+1) (iR d))(g:DX ca Jc W 31 6 Wv):DX ca Jc W 28 (k+2) (iK QY d):=by erw[B.e 2 bb [(16,iR d),(31,Wv)] [] (.one (.ex (.vQ 31 (.u2 0 (.vQ 16 (.u2 0 (.ix 1 (.i 1)))))))) S.Ef rfl (D,g.le (fO ‹_›),Ť) Ť λds h Q x c=>?_];induction c with|@mk P w f r o Q x H e q=>
  erw[(Ŗ,?_)];induction r<;>first|cases e|skip
  rcases iM e with ⟨a,n,E,e⟩|⟨a,c,E,e⟩;.let(j,b,e):=mp e;cases e;rwa[iR.mk (eB H) E (Wv.mk b q)]
  .cases e;rwa[iR.mk (eB H) E q]
def K4(B:LX ca Jc W)(S:SX ca W)(D:DX ca Jc W 31 6 Wv):DX ca Jc W 29 7 (iK QW d):=by erw[B.e 2 bb [(31,Wv)] [] (.one (.ex (.vQ 31 (.u2 0 (.i 0))))) S.UH rfl (D,Ť) Ť λds h Q x c=>?_];induction c with|@mk P w a r o Q x H e q=>
  erw[(Ŗ,?_)];induction r<;>first|cases e|skip
  let(b,E,e):=mp e;cases e;rwa[Wv.mk E q]
def HJ(B:LX ca Jc W)(S:SX ca W)(D:DX ca Jc W 16 (k+1) (iR d)):DX ca Jc W 30 (k+2) (iK Fx d):=by erw[B.e 2 bb [(16,iR d)] [] (.one (.md (.vQ 16 (.u2 0 (.ix 1 (.i 1)))))) S.N8 rfl (D,Ť) Ť λds h Q x c=>?_];induction c with|@mk P w b r o Q x H e q=>
  erw[(Ŗ,?_)];induction r<;>first|cases e|skip
  rcases iM e with ⟨a,n,E,e⟩|⟨a,c,E,e⟩;.cases e;rwa[iR.mk (eB H) E q]
  .cases e;rwa[iR.mk (eB H) E q]
def evJ(ns:Ł Nm):Ł Nm ⊕ Ń->Ł Nm ⊕ Ń|.inl m=>.inl (ns++m)|.inr c=>.inr c
def rK(P:Pn)(n:Ń)(Q:Dv->Hs->ß)(x:XP)(h:Hs):Ő Ń->ß|ao=>Q (.p (.S (Dr P.rw[n]?))) h|O c=>x (1000+c) h
inductive Ho(d:Ń):Ct|mk{P:Pn}{w w':Wk}{n:Ń}{o:Ő Ń}{Q:Dv->Hs->ß}{xc:XP}(hd:∀r,P.rw[n]?=O r->r.lo d)(e:xo P w n=O (w',o))(q:rK P n Q xc (xX P w') o):Ho d [.r 0,.p (iP n)] (xX P w) Q xc
inductive ĭ(P:Pn)(vs:Ł Vx)(p:Wk×(Ł Nm ⊕ Ń))(i:Ń):ϑ->Hs->ß|mk{w1:Wk}{ns:Ł Nm}{o':Ł Nm ⊕ Ń}{acc:ϑ}(ha:acc=ns.map nP)(e2:Cg P (vs.drop i) w1=O (p.1,o'))(e3:p.2=evJ ns o'):ĭ P vs p i acc (xX P w1)
def HI(B:LX ca Jc W)(S:SX ca W)(M:Aw ca Jc W)(h:4<=k)(D:DX ca Jc W 16 (k+1) (iR d)):DX ca Jc W 27 (k+2) (iK Fw d):=by erw[B.e 3 bb [(16,iR d)] [204] (.OF 2 1 [0] (.one 0) (.s (.ix 1 (.i 3))) .no (.vQ 16 (.u2 1 0))<|>.iff (.cmp C2 (.bi gC (.u (.fld 1 3 0))) (.g 8)) (.one (.md (.g 7))) .nil<|>.one (.ex (.me 204 0 (.u2 (.ix 1 (.i 2)) 2)))) S.N7 rfl (D,Ť) (M.a4.le h,Ť) λds h Q X c=>?_];induction c with|@mk P w w' r o Q X I e q=>
  erw[(Ŗ,?_)];induction r<;>first|cases e;all_goals fail|skip
  ext z f t;let(p,K,e):=bd e;let(h1,N):=ag I;let h1:=aj h1;show uG (xX P w) _ _ _ _ _;delta uG;erw[(ĭ P t p,.mk (ns:=[]) Ŗ K (by induction p.2<;>rfl),λi y a R H j=>?_,λa R j=>?_)];.induction j with|@mk T ns U a m b E=>subst m;rw[aR]at H;induction A:t[i]? with|a=>left|c v=>rw[A]at H;cases H;let(C,rfl):=aw.mp A;rw[oU C]at b;obtain⟨⟨Y,u⟩,l,F⟩:=bd b;let hl:=eB (aS.mp N _ (kL C));induction u with|x c=>cases F;let(Z,G):=p;subst E;cases e;rwa[iR.mk hl l (Ŗ,q)]|v n=>obtain⟨⟨w3,o3⟩,e6,e7⟩:=mp F;cases e7;erw[iR.mk hl l (bT Ŗ (.mk (ns:=ns++[n]) (by rw[aN];rfl) e6 ?_))];rw[E];induction o3 with|inl ms=>show Sum.inl _=Sum.inl _;rw[bL];rfl|inr c=>rfl
  .induction j with|@mk T ns U a m b E=>subst m;rw[af,List.drop_length]at b;let(Z,G):=p;cases b;change G=.inl _ at E;rw[aK]at E;subst E;show br (qM (8:Ń) _) _ _;rw[gP,MG];revert e;induction Ë 8 _ with|d=>intro e;cases e;rwa[q]|e=>intro e;let(Y,l,e):=mp e;cases e;rwa[iL.mk (as:=[.S f,.L _]) (f,ns,Ŗ,l,Ŗ) q]
inductive Hn:Ct|mk{P:Pn}{w w':Wk}{c:Ń}{k:Ő Ń}{Q:Dv->Hs->ß}{xc:XP}(e:KU P w c=O (w',k))(q:Q (.p (fq k)) (xX P w')):Hn [.r 0,.p (.I (c:Ń))] (xX P w) Q xc
def Pd(e:Ev o=O z):∃a b,o=O (.tr a z b):=by
 delta Ev at e;split at e;.cases e;exact(_,_,Ŗ)
 .cases e
inductive JC(P:Pn)(w:Wk)(c:Ń)(p:Ł Fr×Ő Ń)(m:Ń):Es->Hs->ß|mk{fr:Ł Fr}(hm:m=fr.length)(e:CD P fr=O p):JC P w c p m [O (.r 0),O (.p (.I (c:Ń))),O (.p P.pa),ao] (xX P {w with fr:=fr})
structure Dd(ca:Ń->À)(Jc:Ń->Ct)(W:Wd)(d k:Ń):ß where a19:DX ca Jc W 19 k (iK HF d)a20:DX ca Jc W 20 k (iK xg d)a21:DX ca Jc W 21 k (iK HE d)a22:DX ca Jc W 22 k (iK QX d)a23:DX ca Jc W 23 k (iK QU d)a24:DX ca Jc W 24 k (iK Fy d)a25:DX ca Jc W 25 k (iK k8 d)a26:DX ca Jc W 26 k (iK lu d)a27:DX ca Jc W 27 k (iK Fw d)a28:DX ca Jc W 28 k (iK QY d)a29:DX ca Jc W 29 k (iK QW d)a30:DX ca Jc W 30 k (iK Fx d)
def Q2(B:LX ca Jc W)(S:SX ca W)(M:Aw ca Jc W)(d:Ń):Dd ca Jc W d (2*d+7):=let D:=FA B S M d;let G:=YC B S M;(K9 B S M (aQ _ _) D,HK B S M (aQ _ _) D,(K5 B S M).le (aQ _ _),K6 B S M (aQ _ _) D,(K3 B S M).le (aQ _ _),HL B S D,Q3 B S M (aQ _ _) D,CM B S M (aQ _ _) D,HI B S M (aQ _ _) D,K7 B S (aQ _ _) D G,(K4 B S G).le (aQ _ _),HJ B S D)
def K8(B:LX ca Jc W)(S:SX ca W)(M:Aw ca Jc W)(h:4<=k)(D:Dd ca Jc W d (k+1)):DX ca Jc W 32 (k+2) (Ho d):=by erw[B.e 3 bb [(19,iK HF d),(20,iK xg d),(21,iK HE d),(22,iK QX d),(23,iK QU d),(24,iK Fy d),(25,iK k8 d),(26,iK lu d),(27,iK Fw d),(28,iK QY d),(29,iK QW d),(30,iK Fx d)] [202] (.set 2 (.ix (.fld 3 0 (.fld 2 5 (.fld 1 0 0))) 1)<|>.iff (.tin 100 (.ix 2 (.i 0))) (.ex (.clf 100 (.ix 2 (.i 0)) (.u2 0 2))<|>.one (.ex (.me 202 0 (.u (.qK (.fld 3 2 (.fld 2 5 (.fld 1 0 0))) 1))))) (.one (.ex (.clf 101 (.ix 2 (.i 0)) (.u2 0 2))))<|>.re (.tgs 50 (.ix 2 (.i 0)) (.s "plain"))) S.UL rfl (D.a19,D.a20,D.a21,D.a22,D.a23,D.a24,D.a25,D.a26,D.a27,D.a28,D.a29,D.a30,Ť) ((M.a2.di Ŗ).le h,Ť) λds h Q X c=>?_];induction c with|@mk P w y n o Q X C e q=>
  let(r,A,e):=bd e;let hl:=C r A;erw[(Ŗ,bu (kj A) ?_)];delta rK at q;rw[A]at q;let x:∀f:Do,plain r=O f->(∃j c,f P w r=O (j,O c)/\y=j/\o=O c)\/∃j g p,f P w r=O (j,ao)/\vg n P.bh=O g/\move j g=O p/\y=p/\o=none:=λf H=>by rw[H]at e;obtain⟨⟨j,c⟩,E,l⟩:=bd e;induction c with|c c=>cases l;rwa[.inl (_,c,E,Ŗ,Ŗ)]|a=>let(g,m,F):=bd l;let(p,G,I):=mp F;cases I;rwa[.inr (j,g,_,E,m,G,Ŗ,Ŗ)]
  let t:plain r=ao->(Gr r).bind (λf=>f P w r)=O (y,o):=λH=>by rw[H]at e;rwa[e]
  clear e;induction r with
  |tr a z b=>cases t Ŗ|st z v=>
   rcases x _ Ŗ with ⟨j,c,E,rfl,rfl⟩|⟨j,g,p,E,l,m,rfl,rfl⟩;.rwa[iK.mk hl E q]
   .rwa[iK.mk hl E (bu (jF l) (iL.mk (as:=[fq g]) (g,Ŗ,m,Ŗ) q))]|pu z v=>
   rcases x _ Ŗ with ⟨j,c,E,rfl,rfl⟩|⟨j,g,p,E,l,m,rfl,rfl⟩;.rwa[iK.mk hl E q]
   .rwa[iK.mk hl E (bu (jF l) (iL.mk (as:=[fq g]) (g,Ŗ,m,Ŗ) q))]|po z v=>
   rcases x _ Ŗ with ⟨j,c,E,rfl,rfl⟩|⟨j,g,p,E,l,m,rfl,rfl⟩;.rwa[iK.mk hl E q]
   .rwa[iK.mk hl E (bu (jF l) (iL.mk (as:=[fq g]) (g,Ŗ,m,Ŗ) q))]|pt z u v=>
   rcases x _ Ŗ with ⟨j,c,E,rfl,rfl⟩|⟨j,g,p,E,l,m,rfl,rfl⟩;.rwa[iK.mk hl E q]
   .rwa[iK.mk hl E (bu (jF l) (iL.mk (as:=[fq g]) (g,Ŗ,m,Ŗ) q))]|ak z v=>
   rcases x _ Ŗ with ⟨j,c,E,rfl,rfl⟩|⟨j,g,p,E,l,m,rfl,rfl⟩;.rwa[iK.mk hl E q]
   .rwa[iK.mk hl E (bu (jF l) (iL.mk (as:=[fq g]) (g,Ŗ,m,Ŗ) q))]|te v=>
   rcases x _ Ŗ with ⟨j,c,E,rfl,rfl⟩|⟨j,g,p,E,l,m,rfl,rfl⟩;.rwa[iK.mk hl E q]
   .rwa[iK.mk hl E (bu (jF l) (iL.mk (as:=[fq g]) (g,Ŗ,m,Ŗ) q))]|ii v a b=>erw[iK.mk hl (t Ŗ) ?_];induction o with|a=>rwa[q]|c c=>rwa[q]
  |wh v a=>erw[iK.mk hl (t Ŗ) ?_];induction o with|a=>rwa[q]|c c=>rwa[q]
  |fa v=>erw[iK.mk hl (t Ŗ) ?_];induction o with|a=>rwa[q]|c c=>rwa[q]
  |ca z f K=>erw[iK.mk hl (t Ŗ) ?_];induction o with|a=>exact(_,Ŗ,q)|c c=>rwa[q]
  |rt v=>erw[iK.mk hl (t Ŗ) ?_];induction o with|a=>exact(_,Ŗ,q)|c c=>rwa[q]
  |df z=>erw[iK.mk hl (t Ŗ) ?_];induction o with|a=>exact(_,Ŗ,q)|c c=>rwa[q]
def QZ(B:LX ca Jc W)(S:SX ca W)(M:Aw ca Jc W):UX ca Jc W 33 6 Hn:=by erw[B.u 4 bb [] [201,202,203,207] (.set 2 (.fld 2 5 (.fld 1 0 0))<|>.wh (.bo (Wm.ac (.cmp kJ (.qK (.fld 3 5 2) (.Ke 201 0)) (.g 0)) (Wm.a1 (.cmp PZ (.bi gC (.u (.fld 1 3 0))) (.i 1))))) (.one (.ex (.Ke 203 0)))<|>.set 3 (.qK (.fld 3 5 2) (.Ke 201 0))<|>.iff (.cmp kJ 3 (.g 0)) (.one (.fC 1 6 (.c (.B J)) 0)) (.ex (.me 207 0 (.u2 (.ix (.ix (.fld 3 0 2) 3) (.i 2)) 1))<|>.one (.ex (.me 202 0 (.u (.qK (.fld 3 4 2) 3)))))<|>.re 3) S.π rfl Ť (M.a1,M.a2,M.a3,M.a7,Ť) λds h Q X c=>?_];induction c with|@mk P w w' c k Q X e q=>let(p,D,e):=bd e;erw[(Ŗ,JC P w c p,(_,.mk Ŗ D),λm F h' G=>?_)];induction G with|@mk fr K L=>subst K;cases fr with|f=>done|g x r=>
   let(n,N,R):=bd L;let(g,E,f):=bd R;let H:qo {w with fr:=x::r}=O (O n):=by show O _=_;rw[N]
   erw[iL.mk (as:=[]) (Ŗ,Ŗ,_,H,Ŗ) (bu (jF E) ?_)];induction g with|c j=>
    cases f;let(z,T,U):=bd e;let(m,l,o):=bd U;let(w2,s,t):=bd o;let(g,Y,v):=bd t;let(w3,A,C):=mp v;cases C;let(a,b,Z):=Pd T;let hc:nP m=.I c:=by
     delta LQ at l;split at l;.cases l;rfl
     .done
    rwa[iL.mk (as:=[]) (Ŗ,Ŗ,_,H,Ŗ) (bu (jF E) (bu (kj Z) (iL.mk (as:=[.S z,.I c]) (z,m,by rw[hc],s,Ŗ) (bu (jF Y) (iL.mk (as:=[fq g]) (g,Ŗ,A,Ŗ) q)))))]|a=>induction r with|f=>cases f;cases e;rwa[iL.mk (as:=[]) (Ŗ,Ŗ,_,H,Ŗ) (bu (jF E) q)]|g y r=>
     let hl:BW 1 (jn (x::y::r)).length=true:=by rw[gP];rfl
     rwa[jB hl (iL.mk (as:=[]) (Ŗ,show MH _=O {w with fr:=y::r}from Ŗ,Ŗ) (_,gq _,.mk Ŗ f))]
end
inductive Cz:Ct|mk{i:Ń}{ks:Ł (Ł cs)}{h:Hs}{Q:Dv->Hs->ß}{xc:XP}(hi:h[i]?=O (.K ks))(ok:D2 ks)(q:Q (.p (CG ks)) h):Cz [.r i] h Q xc
inductive KI:Ct|mk{w:Wk}{h:Hs}{Q:Dv->Hs->ß}{xc:XP}(q:Q (.p (Wx w)) h):KI [.p w.p] h Q xc
def Q6(B:LX ca Jc W)(S:SX ca W):DI ca Jc W 500 2:=by erw[B.MX 1 bb [] [] (.re (.fld 4 1 0)) S.akg rfl Ť Ť λds h Q x c=>?_];induction c with|@mk P w h Q x q=>done
def CP(B:LX ca Jc W)(S:SX ca W):DI ca Jc W 502 2:=by erw[B.MX 5 bb [] [] (.iff (.cmp Ww (.ix 1 (.g 10)) (.s "on")) (.re (.g 0)) .nil<|>.Qg [2,3,4] (.ix (.ix 1 (.i 2)) (.neg (.i 1)))<|>.iff (.cmp kJ 4 (.g 0)) (.re (.qK (.fld 3 6 (.fld 2 5 (.fld 4 0 0))) 2)) .nil<|>.re 4) S.aki rfl Ť Ť λds h Q X c=>?_];induction c with|@mk P w0 w n h Q X H e q=>
  erw[(Ŗ,?_)];show br (!cQ _ _) _ _;rw[H];delta vk at e;split at e;.cases e
  .ext x r a;erw[bu (Cr a) ?_];let(f,N,pt):=x;induction pt with|a=>rwa[bu (qf e) q]|c p=>cases e;rwa[q]
def Q0(B:LX ca Jc W)(S:SX ca W):DX ca Jc W 36 2 Cz:=by erw[B.e 1 bb [] [] (.re (.bi AV (.u (.bi ϔ (.u 0))))) S.υ rfl Ť Ť λds h Q x c=>?_];induction c with|@mk i K h Q x H ok q=>exact(Ŗ,bu (by rw[H];rfl) (bT ok q))
def K2(B:LX ca Jc W)(S:SX ca W):DX ca Jc W 37 2 KI:=by erw[B.e 2 bb [] [] (.set 1 (.ix 0 (.i 2))<|>.re (.L0 (.cmp PZ (.bi gC (.u 1)) (.i 1)) (.ix (.ix 1 (.neg (.i 2))) (.i 2)) (.g 0))) S.UE rfl Ť Ť λds h Q X c=>?_];induction c with|@mk w h Q X q=>
  erw[(Ŗ,?_)];show br (BW _ _) _ _;simp only[gP];let(b,l,fr,a,t,bk,rd,d):=w;rcases fr with _|⟨x,_|⟨y,r⟩⟩;.rwa[q]
  .rwa[q]
  .erw[jB Ŗ (bu (x:=y.p) ?_ q)];show Cp (jn r++[y.p]++[x.p]) (.negSucc 1)=_;rw[tL,ai,ai,bM,bM];simp only[Nat.add_sub_cancel (m:=2),bL,aI (aq _),eZ];rfl
def YR(B:LX ca Jc W)(S:SX ca W)(M:Aw ca Jc W)(h:5<=k)(D:DX ca Jc W 32 (k+1) (Ho 6))(d:UX ca Jc W 33 6 Hn):DI ca Jc W 501 (k+2):=by erw[B.mtC 8 J [(32,Ho 6),(33,Hn),(36,Cz),(37,KI)] [1,200,502] [33] (.iff (.cmp Ww (.ix 1 (.g 10)) (.s "on")) (.one (.raise 0 (.s "the run has ended"))) .nil<|>.set 2 (.me 502 0 (.u 1))<|>.set 3 (.nw 1 (.u2 (.fld 4 0 0) 1))<|>.set 4 (.g 0)<|>.aaJ 6 5 3 4 "fault" 32 33 (.u2 3 2)<|>.set 7 (.tup (.cons 2 (.u5 5 (.vQ 36 (.u (.fld 1 7 3))) (.vQ 36 (.u (.fld 1 8 3))) (.cl 37 [] (.u 1)) 4)))<|>.re (.tup (.u2 (.Ke 200 3) 7))) S.akh rfl (D,d.dt.le (fO ‹_›),(Q0 B S).le (),(K2 B S).le (),Ť) (M.nw.le (gH ‹_›),M.a0.le (gH ‹_›),(CP B S).le (aA (aQ _ _) ‹_›),Ť) (λi l=>by rw[aG.mp l];rwa[d.le (fO ‹_›)]) λds h Q X c=>?_];induction c with|@no P w0 w Q X H q=>erw[(Ŗ,?_)];show br (!cQ w.wo "on") _ _;erw[jB (by rw[bq.mpr λz=>H (bX.mp z)];rfl) q]|@ok P w0 w F x Q X m H e q=>erw[(Ŗ,?_)];show br (!cQ w.wo "on") _ _;rw[H];let(n,t,e):=bd e;let(p,E,e):=bd e;obtain⟨⟨G,K,I⟩,a,e⟩:=bd e;let(C,e):=bf e;cases e;let(b,f):=ag C;clear C;let j:∀r,P.rw[n]?=O r->r.lo 6=true:=λr v=>aS.mp m r (aP v);erw[Yl.mk H t (Yk.mk ?_)];let(L,o):=p;induction o with|a=>cases a;rwa[Ho.mk j E (Cz.mk Ŗ b (Cz.mk Ŗ f (KI.mk (iL.mk (as:=[]) (Ŗ,Ŗ,Ŗ) q))))]|c c=>let(N,y,A):=mp a;cases A;erw[Ho.mk j E (bT (by rw[aZ (bp 1000 c)];rfl) ?_)];show Hn _ _ _ _;rw[jv];rwa[Hn.mk y (Cz.mk Ŗ b (Cz.mk Ŗ f (KI.mk (iL.mk (as:=[]) (Ŗ,Ŗ,Ŗ) q))))]
inductive KO:Ct|mk{x:Pv}{a b:Î}{h:Hs}{Q:Dv->Hs->ß}{xc:XP}(hx:Kh x)(q:Q (.p (.B (Io a b x))) h):KO [.p x,.p (.I a),.p (.I b)] h Q xc
inductive Yh:Ct|ok{x:Pv}{h:Hs}{Q:Dv->Hs->ß}{xc:XP}(hx:Kh x)(e:Io 0 2000 x)(q:Q (.p .N) h):Yh [.p x] h Q xc|no{x:Pv}{h:Hs}{Q:Dv->Hs->ß}{xc:XP}(hx:Kh x)(e:Io 0 2000 x=bb)(q:xc 0 h):Yh [.p x] h Q xc
inductive JT(P:Pn)(w0 w':Wk)(n:Ń)(C:Ń->ß):Es->Hs->ß|mk{w:Wk}{i:Ń}{zs:ϑ}{x y:Ő Dv}(r:Rn P w i w' zs)(hi:C i):JT P w0 w' n C [O (.p (MU P w0)),O (.p (iP n)),O (.p w.p),x,y] []
inductive JY(P:Pn)(w0 w':Wk)(m n f:Ń):Es->Hs->ß|mk{w:Wk}{i:Ń}{zs:ϑ}{y:Ő Dv}(r:Rn P w f w' zs)(hi:i+f=m):JY P w0 w' m n f [O (.p (MU P w0)),O (.p (iP n)),O (.p w.p),O (.p (iP i)),y] []
inductive Ht:Ct|ok{P:Pn}{w0 w':Wk}{n:Ń}{xs:ϑ}{Q:Dv->Hs->ß}{xc:XP}(hl:P.lo)(r:Rn P w0 n w' xs)(hn:n<=2000)(q:Q (.p w'.p) []):Ht [.p (MU P w0),.p (iP n)] [] Q xc|no{P:Pn}{w0 w':Wk}{m n:Ń}{xs:ϑ}{Q:Dv->Hs->ß}{xc:XP}(hl:P.lo)(r:Rn P w0 m w' xs)(hw:w'.wo≠"on")(hm:m<n)(hn:n<=2000)(q:xc 0 []):Ht [.p (MU P w0),.p (iP n)] [] Q xc|od{P:Pn}{w0:Wk}{x:Pv}{Q:Dv->Hs->ß}{xc:XP}(hx:Kh x)(e:Io 0 2000 x=bb)(q:xc 0 []):Ht [.p (MU P w0),.p x] [] Q xc
def nK:(vA a n).length=n:=by delta vA;rw[af,eN]
def rX{n:Ń}(h:n<=2000):(qC (n:Î).toNat&&Đ ((-4611686018427387904:Î)<=n))=true:=by rw[qN (cc.mpr (aA ‹_› ⋯))];rfl
def EX(h:n<=2000):Io 0 2000 (iP n)=true:=by show(qM 0 n&&qM n 2000)=J;rw[eD.mpr (),eD.mpr ()];rfl
def FC(B:LX ca Jc W)(S:SX ca W):DX ca Jc W 4 2 KO:=by erw[B.e 3 bb [] [] (.iff (.bo (Wm.oc (.val (.bi rq (.u2 0 (.ty 2)))) (Wm.o1 (.not (.val (.bi rq (.u2 0 (.ty 1)))))))) (.re (.c (.B bb))) .nil<|>.re (.ch ie ie 1 0 2)) S.Jh rfl Ť Ť λds h Q X c=>?_];induction c with|@mk x a b h Q X H q=>erw[(Ŗ,?_)];cases x with|I n=>rwa[Yb q λ_ q=>q]|B b=>rwa[q]|N=>rwa[q]|S z=>rwa[q]|T s=>rwa[q]|_=>done
def wm(B:LX ca Jc W)(S:SX ca W)(D:DX ca Jc W 4 2 KO):DX ca Jc W 41 4 Yh:=by erw[B.e 1 bb [(4,KO)] [] (.one (.iff (.not (.val (.cl 4 [] (.u3 0 (.i 0) (.g 11))))) (.one (.raise 0 (.s "steps are a whole number from 0 to 2000"))) .nil)) S.zH rfl (D.le (dG _),Ť) Ť λds h Q X c=>?_];induction c with|@ok x h Q X H e q=>erw[(Ŗ,.mk H ?_)];rw[e];rwa[q]|@no x h Q X H e q=>erw[(Ŗ,.mk H ?_)];rw[e];rwa[q]
def CS(B:LX ca Jc W)(S:SX ca W)(h:4<=k)(D:DX ca Jc W 41 4 Yh)(f:DI ca Jc W 501 k)(g:DI ca Jc W 500 2):DX ca Jc W 38 (k+2) Ht:=by erw[B.e 5 J [(41,Yh)] [500,501] (.ex (.cl 41 [] (.u 1))<|>.set 2 (.Ke 500 0)<|>.fo (.one 3) (.r (.u 1)) (.one (.Qg [2,4] (.mel 501 0 (.u 2))))<|>.re 2) S.Jk rfl (D.le (aU ‹_›),Ť) (g.le (aA (aQ _ _) ‹_›),f,Ť) λds h Q X c=>?_];induction c with
 |@od P w0 x Q X i e q=>exact(Ŗ,.no i e q)|@ok P w0 b n o Q X l r hn q=>
  erw[(Ŗ,.ok Ŗ (EX hn) (.mk (bT (rX hn) (kn (λ_ post=>JT P w0 b n (·=post.length)) (.mk r nK.symm) (λpre x post a d ex j=>?_) λa d j=>?_))))];.induction j with|mk R H=>cases R with|z=>done|s w e R=>rwa[CB.ok l w e (.mk R (B2 H))]
  .induction j with|mk R H=>cases R with|z=>rwa[q]|s=>done
 |@no P w0 b m n o Q X l r w p hn q=>
  erw[(Ŗ,.ok Ŗ (EX hn) (.mk (bT (rX hn) (kn (λ_ post=>JT P w0 b n (·<post.length)) (.mk r (by rw[nK];rwa[p])) (λpre x post a d ex j=>?_) λa d j=>?_))))];.induction j with|mk R H=>cases R with|z=>rwa[CB.no w q]|s w e R=>rwa[CB.ok l w e (.mk R (jQ H))]
  .induction j with|mk R H=>done
def yF(B:LX ca Jc W)(S:Av W.K W.mg "run_length" (d0 108) ["machine","most"] [.int 2000 tok])(h:4<=k)(D:DX ca Jc W 41 4 Yh)(d:DI ca Jc W 501 k)(a:DI ca Jc W 500 2):DX ca Jc W 40 (k+2) KJ/\DI ca Jc W 90 (k+2):=by erw[B.dd (dd:=[.p (.I _)]) (dvs:=[.I _]) 5 J [(41,Yh)] [500,501] (.ex (.cl 41 [] (.u 1))<|>.set 2 (.Ke 500 0)<|>.set 3 (.i 0)<|>.wh (.bo (Wm.ac (.cmp j2 3 1) (Wm.a1 (.cmp kJ (.ix 2 (.g 10)) (.s "on"))))) (.Qg [2,4] (.mel 501 0 (.u 2))<|>.one (.aug 3 1))<|>.re 3) S rfl (D.le (aU ‹_›),Ť) (a.le (aA (aQ _ _) ‹_›),d,Ť) (λds h Q X c=>?_) rfl (.cons (_,Ŗ) .nil) (λ_ _ _=>(Ŗ,Ť)) λ_ _ _ _ c=>c];induction c with|@od P w0 x Q X b e q=>exact(Ŗ,.no b e q)|@ok P w0 l m n C Q X o r E t hn q=>erw[(Ŗ,.ok Ŗ (EX hn) (.mk (JY P w0 l m n,(m,.mk r (cP _)),λf v G j=>?_)))];induction j with|@mk w i L y R M=>show br _ _ _;rw[MS];cases R with|@s _ _ _ F N Z H e R=>rw[show Ñ i n=J from aZ (show i<n by lia)];show br (cQ _ _) _ _;rw[H];rwa[CB.ok o H e (F,gq _,.mk (i:=i+1) R ())]|z=>induction A:Ñ i n with|e=>exact(show i=m by lia)▸q|d=>let:=eB A;show br (cQ _ _) _ _;rw[bq.mpr λz=>t.resolve_left () (bX.mp z)];exact(show i=m by lia)▸q
inductive Tr where|lf(r:Rw)|ii(v:Vx)(a b:Ł Tr)|wh(v:Vx)(a:Ł Tr)|tr(a:Ł Tr)(z:Æ)(b:Ł Tr)
mutual
def Tr.r:Tr->Rw|.lf r=>r|.ii v a b=>.ii v (.T (kE a)) (.T (kE b))|.wh v a=>.wh v (.T (kE a))|.tr a z b=>.tr (.T (kE a)) z (.T (kE b))def kE:Ł Tr->ϑ|[]=>[]|t::r=>t.r.p::kE r
end
mutual
def Tr.sz:Tr->Ń|.lf _=>1|.ii _ a b=>1+fw a+fw b|.wh _ a=>1+fw a|.tr a _ b=>1+fw a+fw b
def fw:Ł Tr->Ń|[]=>0|t::r=>t.sz+fw r
end
mutual
def Tr.d:Tr->Ń|.lf _=>0|.ii _ a b=>max (dL a) (dL b)+1|.wh _ a=>dL a+1|.tr a _ b=>max (dL a) (dL b)+1def dL:Ł Tr->Ń|[]=>0|t::r=>max t.d (dL r)end
def Rw.lf:Rw->Þ|.ii _ _ _=>bb|.wh _ _=>bb|.tr _ _ _=>bb|.df _=>bb|_=>J
mutual
def Tr.ok:Tr->Þ|.lf r=>r.lf|.ii _ a b=>pJ a&&pJ b|.wh _ a=>pJ a|.tr a _ b=>pJ a&&pJ b
def pJ:Ł Tr->Þ|[]=>J|t::r=>t.ok&&pJ r
end
def Tr.ps:Tr->Ł (Ł Tr)|.lf _=>[]|.ii _ a b=>[a,b]|.wh _ a=>[a]|.tr a _ b=>[a,b]
def tP(ts:Ł Tr):Pv:=.T (kE ts)
mutual
def rA:Tr->Ń->Ő Ń->Ł (Rw×Ő Ń)|.lf r,_,o=>[(r,o)]|.ii v a b,n,o=>(.ii v (.T (kE a)) (.T (kE b)),o)::(j9 a (n+1) (O n)++j9 b (n+1+fw a) (O n))|.wh v a,n,o=>(.wh v (.T (kE a)),o)::j9 a (n+1) (O n)|.tr a z b,n,o=>(.tr (.T (kE a)) z (.T (kE b)),o)::(j9 a (n+1) (O n)++j9 b (n+1+fw a) (O n))def j9:Ł Tr->Ń->Ő Ń->Ł (Rw×Ő Ń)|[],_,_=>[]|t::r,n,o=>rA t n o++j9 r (n+t.sz) o
end
def C9:Ł (Ł Tr)->Ń->Ő Ń->Ł (Rw×Ő Ń)|[],_,_=>[]|t::r,n,o=>j9 t n o++C9 r (n+fw t) o
def EF:Ł (Ł Tr)->Ń|[]=>0|t::r=>fw t+EF r
def fV:Ł (Rw×Ő Ń)->Ń->ϑ|[],_=>[]|x::r,n=>.T [iP n,x.1.p,fq x.2]::fV r (n+1)
theorem qF:∀{l m:Ł _}{n:Ń},fV (l++m) n=fV l n++fV m (n+l.length)|[],m,n=>Ŗ|x::l,m,n=>by show _::fV (l++m) _=_::(fV l _++fV m (n+(l.length+1)));rw[qF,show n+1+l.length=n+(l.length+1)by lia]
theorem nO:∀{l:Ł _}{n:Ń},(fV l n).length=l.length|[],_=>Ŗ|x::l,n=>cb _ nO
mutual
theorem kb:∀(t:Tr)(n:Ń)(o:Ő Ń),(rA t n o).length=t.sz|.lf _,_,_=>by delta rA Tr.sz;rfl|.ii _ a b,n,o=>by delta rA Tr.sz;rw[aJ,ai,cC,cC];lia|.wh _ a,n,o=>by delta rA Tr.sz;rw[aJ,cC];rwa[Nat.add_comm _ _]|.tr a _ b,n,o=>by delta rA Tr.sz;rw[aJ,ai,cC,cC];lia
theorem cC:∀(ts:Ł Tr)(n:Ń)(o:Ő Ń),(j9 ts n o).length=fw ts|[],_,_=>by delta j9 fw;rfl|t::r,n,o=>by delta j9 fw;rw[ai,kb,cC]end
theorem LB:rA t n o=(t.r,o)::C9 t.ps (n+1) (O n):=by cases t with|lf r=>rfl|ii v a b=>delta rA Tr.r;show _=_::(j9 a _ _++(j9 b _ _++[]));rw[aK]|wh v a=>delta rA Tr.r;show _=_::(j9 a _ _++[]);rw[aK]|tr a z b=>delta rA Tr.r;show _=_::(j9 a _ _++(j9 b _ _++[]));rw[aK]
theorem BD{t:Tr}:t.sz=1+EF t.ps:=by cases t with|lf r=>rfl|ii v a b=>rwa[d7 _ _ _]|wh v a=>rfl|tr a z b=>rwa[d7 _ _ _]
theorem aez{t:Tr}(h:t.ok):∀ts∈t.ps,pJ ts=true:=by cases t with|lf r=>intro ts h;cases h|ii v a b=>intro ts H;rcases aB.mp H with rfl|H;exact(ag h).1;rw[aG.mp H];exact(ag h).2|wh v a=>intro ts H;rw[aG.mp H];rwa[h]|tr a z b=>intro ts H;rcases aB.mp H with rfl|H;exact(ag h).1;rw[aG.mp H];exact(ag h).2
theorem aiB{t:Tr}:∀ts∈t.ps,dL ts<t.d:=by cases t with|lf r=>intro ts h;cases h|ii v a b=>intro ts H;delta Tr.d;rcases aB.mp H with rfl|H;lia;rw[aG.mp H];lia|wh v a=>intro ts H;simp only[aG.mp H];rwa[aq _]|tr a z b=>intro ts H;delta Tr.d;rcases aB.mp H with rfl|H;lia;rw[aG.mp H];lia
def Gd:Pv->Þ|.T [.S k,_]=>cQ k "rows"|_=>bb
def U8:Pv->Pv|.T [_,p]=>p|_=>.N
inductive ĉ:Ct|mk{t:Tr}{Q:Dv->Hs->ß}{xc:XP}(ok:t.ok)(q:Q (.p (.L (t.ps.map tP))) []):ĉ [.p t.r.p] [] Q xc
inductive ú(d:Ń):Ct|mk{ts:Ł Tr}{o:Ő Ń}{xs:ϑ}{Q:Dv->Hs->ß}{xc:XP}(hd:dL ts<d)(ok:pJ ts)(hs:xs.length+fw ts<=100000)(q:Q (.p .N) [.L (xs++fV (j9 ts xs.length o) xs.length)]):ú d [.r 0,.p (tP ts),.p (fq o)] [.L xs] Q xc
theorem Fz(B:LX ca Jc W)(S:SX ca W):DX ca Jc W 0 2 ĉ:=by erw[B.e 1 J [] [] (.re (.comp 2 [] (.many [0,1]) (.z (.u2 (.ti 0 (.ix 0 (.i 0))) (.sl 0 (.of (.i 1)) .no))) (.one (.cmp kJ 0 (.s "rows"))) 1)) S.wM rfl Ť Ť λds h Q x c=>?_];induction c with|@mk t Q x ok q=>erw[(Ŗ,?_)];let st:∀y:Pv,y ∈[Pv.N]->æ:=λ_ _=>Ť;cases t with|ii v a b=>delta Tr.r;erw[nG Gd U8 Ŗ (λy H=>?_) q];rcases aB.mp H with rfl|H;exact(λ_ q=>q,λ_ _ q=>q);rcases aB.mp H with rfl|H;exact(λ_ q=>q,λ_ _ q=>q);rw[aG.mp H];exact(λ_ q=>q,λ_ _ q=>q)|wh v a=>delta Tr.r;erw[nG Gd U8 Ŗ (λy H=>?_) q];rcases aB.mp H with rfl|H;exact(λ_ q=>q,λ_ _ q=>q);rw[aG.mp H];exact(λ_ q=>q,λ_ _ q=>q)|tr a z b=>delta Tr.r;erw[nG Gd U8 Ŗ (λy H=>?_) q];rcases aB.mp H with rfl|H;exact(λ_ q=>q,λ_ _ q=>q);rcases aB.mp H with rfl|H;exact(λ_ q=>q,λ_ _ q=>q);rw[aG.mp H];exact(λ_ q=>q,λ_ _ q=>q)|lf r=>delta Tr.r;induction r<;>first|rwa[Kg ok]|(erw[nG Gd U8 Ŗ (λy H=>?_) q];repeat(first|(rw[aG.mp H];exact(λ_ q=>q,λ_ _ q=>q))|(rcases aB.mp H with rfl|H;exact(λ_ q=>q,λ_ _ q=>q))))
structure Fn where
 f:Æ
 ps:ϐ
 os:ϐ
 rs:Ł Tr
def Fn.p(x:Fn):Pv:=.T [.S x.f,.T (x.ps.map .S),.T (x.os.map .S),tP x.rs]
structure Pg where
 bs:Ł (Æ×Nm)ls:Ł (Æ×Ł Nm)fs:Ł Fn
 rs:Ł Tr
def Wu(x:Æ×Nm):Pv:=.T [.S x.1,nP x.2]
def WW(x:Æ×Ł Nm):Pv:=.T [.S x.1,.T (x.2.map nP)]
def Pg.p(g:Pg):Pv:=.T [.T (g.bs.map Wu),.T (g.ls.map WW),.T (g.fs.map Fn.p),tP g.rs]
def BS:Ł Fn->Ń->Ł (Rw×Ő Ń)|[],_=>[]|x::r,n=>(.df x.f,ao)::(j9 x.rs (n+1) (O n)++BS r (n+1+fw x.rs))
def pz:Ł Fn->Ń|[]=>0|x::r=>1+fw x.rs+pz r
def Pg.fl(g:Pg):Ł (Rw×Ő Ń):=BS g.fs 0++j9 g.rs (pz g.fs) ao
def Pg.ok(g:Pg):Þ:=g.fs.all (λx=>pJ x.rs&&Ñ (dL x.rs) 8)&&(pJ g.rs&&(Ñ (dL g.rs) 8&&Ë (pz g.fs+fw g.rs) 100000))
theorem iS:∀{fs:Ł Fn}{n:Ń},(BS fs n).length=pz fs|[],_=>Ŗ|x::r,n=>by show(_::(j9 _ _ _++BS r _)).length=1+fw _+pz r;rw[aJ,ai,cC,iS];lia
inductive Hr:Ct|mk{g:Pg}{Q:Dv->Hs->ß}{xc:XP}(ok:g.ok)(q:Q (.p (.L (fV g.fl 0))) []):Hr [.p g.p] [] Q xc
inductive JO(ts:Ł Tr)(o:Ő Ń)(xs:ϑ)(d:Ń)(post:ϑ):Es->Hs->ß|mk{rest:Ł Tr}{ys:ϑ}{v3 v4 v5:Ő Dv}(e1:post=kE rest)(e2:ys++fV (j9 rest ys.length o) ys.length=xs++fV (j9 ts xs.length o) xs.length)(hs:ys.length+fw rest<=100000)(ok:pJ rest)(hd:dL rest<d+1):JO ts o xs d post [O (.r 0),O (.p (tP ts)),O (.p (fq o)),v3,v4,v5] [.L ys]
inductive JI(ts:Ł Tr)(o:Ő Ń)(xs:ϑ)(d:Ń)(t:Tr)(rest:Ł Tr)(n:Ń)(post:ϑ):Es->Hs->ß|mk{ps:Ł (Ł Tr)}{zs:ϑ}{v5:Ő Dv}(e4:post=ps.map tP)(e5:zs++(fV (C9 ps zs.length (O n)) zs.length++fV (j9 rest (n+t.sz) o) (n+t.sz))=xs++fV (j9 ts xs.length o) xs.length)(hz:zs.length+EF ps=n+t.sz)(hp:∀p∈ps,pJ p=J/\dL p<d):JI ts o xs d t rest n post [O (.r 0),O (.p (tP ts)),O (.p (fq o)),O (.p t.r.p),O (.p (iP n)),v5] [.L zs]
inductive JQ(g:Pg)(post:ϑ):Es->Hs->ß|mk{rest:Ł Fn}{ys:ϑ}{v2 v3:Ő Dv}(e1:post=rest.map Fn.p)(e2:ys++fV (BS rest ys.length) ys.length=fV (BS g.fs 0) 0)(hs:ys.length+pz rest=pz g.fs)(hm:∀x∈rest,x∈g.fs):JQ g post [O (.p g.p),O (.r 0),v2,v3] [.L ys]
def Yx(B:LX ca Jc W)(S:SX ca W)(h:1<=k)(D:DX ca Jc W 2 (k+1) (ú d)):DX ca Jc W 2 (k+2) (ú (d+1)):=by erw[B.e 6 bb [(0,ĉ),(2,ú d)] [] (.one (.fo (.one 3) (.s 1) (.set 4 (.bi gC (.u 0))<|>.ex (.mt DS 0 (.u (.tup (.u3 4 3 2))))<|>.one (.fo (.one 5) (.s (.cl 0 [] (.u 3))) (.one (.ex (.cl 2 [0] (.u3 0 5 4)))))))) S.xI rfl ((Fz B S).le (fO ‹_›),D,Ť) Ť λds h Q A c=>?_];induction c with|@mk l o X Q A b ok H q=>
  erw[(Ŗ,kn (λ_=>JO l o X d) (.mk (v3:=ao) (v4:=ao) (v5:=ao) rfl rfl H ok b) (λpre x post σ h ex j=>?_) λσ h j=>?_)];.induction j with|@mk rest Y v3 v4 v5 E f H ok b=>cases rest with|f=>cases E|g t rest=>
   let E:x::post=t.r.p::kE rest:=E;cases E;let H:Y.length+(t.sz+fw rest)<=100000:=H;let ok:(t.ok&&pJ rest)=true:=ok;let b:max t.d (dL rest)<d+1:=b;let(g,m):=ag ok;rw[BD]at H;let C:Y++.T [iP Y.length,t.r.p,fq o]::(fV (C9 t.ps (Y.length+1) (O Y.length)) (Y.length+1)++fV (j9 rest (Y.length+t.sz) o) (Y.length+t.sz))=X++fV (j9 l X.length o) X.length:=by rw[<-f];show _=Y++fV (rA t Y.length o++j9 rest (Y.length+t.sz) o) Y.length;rw[qF,kb,LB];rfl
   erw[bT (qN (n:=Y.length+1) (cc.mpr ())) (.mk g ?_)];erw[kn (λ_=>JI l o X d t rest Y.length) (.mk (v5:=v5) Ŗ ?_ ?_ λp a=>(aez g p a,by let:=aiB p a;lia)) (λP y F σ h G j=>?_) λσ h j=>?_];.rw[ai,bM,bL];rwa[C]
   .rw[ai,BD];rwa[d7 _ _ _]
   .induction j with|@mk ps z v5 w v i a=>cases ps with|f=>done|g p ps=>
    cases w;let i:z.length+(fw p+EF ps)=Y.length+t.sz:=i;let(R,L):=a p aL;let I:t.sz=1+EF _:=BD;erw[.mk (o:=O _) L R () (JI.mk Ŗ ?_ ?_ λp Z=>a p (aH _ Z))];.rw[<-v,ai,nO,cC,bL];show _=z++(fV (j9 p _ _++C9 ps _ _) _++_);rw[qF,cC,bL]
    .rw[ai,nO,cC];lia
   .induction j with|@mk ps z v5 w v i a=>cases ps with|g p ps=>done|f=>
    erw[JO.mk Ŗ ?_ ?_ m ()];.rw[show z.length=Y.length+t.sz from ‹_›];rwa[v]
    .rw[BD]at i;lia
  .induction j with|@mk rest Y v3 v4 v5 E f H ok b=>cases rest with|g t rest=>done|f=>let f:Y++[]=_:=f;rw[<-f,aK]at q;rwa[q]
theorem K0(B:LX ca Jc W)(S:SX ca W):∀d:Ń,DX ca Jc W 2 (d+2) (ú d)
 |0=>(Dt.no S.xI).imp λds h Q x c=>by induction c with|mk H ok s q=>lia
 |d+1=>Yx B S (aQ _ _) (K0 B S d)
def xk(B:LX ca Jc W)(S:SX ca W):DX ca Jc W 1 12 Hr:=by erw[B.e 4 J [(2,ú 8)] [] (.set 1 (.lsm .nil)<|>.fo (.one 2) (.s (.ix 0 (.i 2))) (.set 3 (.bi gC (.u 1))<|>.ex (.mt DS 1 (.u (.tup (.u3 3 (.tup (.u2 (.s "def") (.ix 2 (.i 0)))) (.g 0)))))<|>.one (.ex (.cl 2 [0] (.u3 1 (.ix 2 (.i 3)) 3))))<|>.ex (.cl 2 [0] (.u3 1 (.ix 0 (.i 3)) (.g 0)))<|>.re 1) S.Of rfl ((K0 B S 8).le (dG _),Ť) Ť λds h Q X c=>?_];induction c with|@mk g Q X ok q=>
  let(o1,f,n,a):=mS ok;let a:=aj a;erw[(Ŗ,kn (λ_=>JQ g) (.mk Ŗ Ŗ (cP _) λ_ h=>h) (λpre x post σ h ex j=>?_) λσ h j=>?_)];.induction j with|@mk r Y v p b E H m=>cases r with|f=>done|g x r=>
   cases b;let H:Y.length+(1+fw _+pz _)=pz _:=H;let(P,w):=ag (aS.mp o1 x (m x aL));erw[bT (qN (cc.mpr ())) (.mk (o:=O _) (eB w) P (by rw[ai,bM];lia) (JQ.mk Ŗ ?_ ?_ λy z=>m y (aH _ z)))];.rw[<-E];simp only[ai,bM,nO,cC,bL];show _=Y++.T _::fV _ _;rw[qF,cC,<-d7];rfl
   .rw[ai,ai,bM,nO,cC];lia
  .induction j with|@mk r Y v p b E H m=>cases r with|g t r=>done|f=>
    let E:Y++[]=_:=E;rw[aK]at E;subst E;let l:(fV (BS g.fs 0) 0).length=pz g.fs:=by done
    erw[.mk (o:=ao) (eB n) f (by rw[l];rwa[a]) ?_];simp only[Pg.fl,qF,iS,cP]at q;rw[l];rwa[q]
theorem AR:∀{ks:ϑ},om (.S z) (ks++[k])=(om (.S z) ks||lz k (.S z))|[]=>by show(lz k _||bb)=(bb||lz k _);rw[Bool.or_false,Bool.false_or]|x::r=>by show(lz x _||om _ (r++[k]))=(lz x _||om _ r||lz k _);rw[AR,Bool.or_assoc]
theorem la:∀(l:Ł (Æ×Pv))(ks us:ϑ),(∀p∈l,om (.S p.1) ks=bb)->(l.map (·.1)).Nodup->oj (l.map λp=>.S p.1) (l.map λp=>p.2) (ks,us)=(ks++l.map λp=>.S p.1,us++l.map λp=>p.2)|[],ks,us,_,_=>by show á ks us=á (ks++[]) (us++[]);rw[aK,aK]|p::l,ks,us,h,n=>by let(N,a):=cR.mp n;show oj (l.map _) _ _=_;delta oJ oK;rw[h p aL,la l _ _ (λq H=>?_) a,bL,bL];rfl;rw[AR,h q (aH _ H)];rwa[bq.mpr λz=>N (cB.mpr (q,H,(bX.mp z).symm))]
theorem qp:∀{l:Ł (Æ×Pv)},oP (l.map λp=>.T [.S p.1,p.2])=O (l.map λp=>.S p.1,l.map λp=>p.2)|[]=>Ŗ|p::l=>by rw[cq,oP,qp];rfl
def Dq:Pv->Pv|.T (a::_)=>a|_=>.N
def RV:Pv->Þ|.T (_::_)=>J|_=>bb
def UV:Pv->Pv|.T [a,b]=>.T [b,a]|_=>.N
def Y'(l:ϐ)(n:Ń):Ł (Æ×Pv):=match l with|[]=>[]|z::r=>(z,iP n)::Y' r (n+1)
theorem FO:∀{l:ϐ}{n:Ń},(HX n (l.map .S)).map UV=(Y' l n).map λp=>.T [.S p.1,p.2]|[],_=>Ŗ|z::r,n=>cb _ FO
theorem zC:∀{l:ϐ}{n:Ń},(Y' l n).map (·.1)=l|[],_=>Ŗ|z::r,n=>cb (z::·) zC
def Xm:(Y' l n).map (λp=>Pv.S p.1)=l.map .S:=by
 let:(Y' l n).map (λp=>Pv.S p.1)=((Y' l n).map (·.1)).map .S:=by rw[aV];rfl
 rw[this,zC]
theorem Gy:∀{l:ϐ}{n:Ń},(Y' l n).map (λp=>p.2)=io l n|[],_=>Ŗ|z::r,n=>cb _ Gy
inductive Yn:Ct|mk{l:ϐ}{Q:Dv->Hs->ß}{xc:XP}(nd:l.Nodup)(hl:l.length<=100)(q:Q (.p (j4 l)) []):Yn [.p (.L (l.map .S))] [] Q xc
inductive oX:Ct|mk{xs:ϑ}{Q:Dv->Hs->ß}{xc:XP}(h:∀x∈xs,RV x=J)(q:Q (.p (.L (xs.map Dq))) []):oX [.p (.T xs)] [] Q xc
inductive CA:Ct|mk{x:Fn}{Q:Dv->Hs->ß}{xc:XP}(hl:(x.ps++x.os).length<=100)(q:Q (.p (.L ((x.ps++x.os).map .S))) []):CA [.p x.p] [] Q xc
def HW:Ł (Rw×Ő Ń)->ϐ|[]=>[]|(.ak _ d,_)::r=>d::HW r|_::r=>HW r
inductive Yi:Ct|mk{g:Pg}{Q:Dv->Hs->ß}{xc:XP}(ok:g.ok)(hl:(dW (HW g.fl)).length<=63)(q:∀ss:ϐ,ss.Perm (dW (HW g.fl))->Q (.p (.L (ss.map .S))) []):Yi [.p g.p] [] Q xc
def Ũ(g:Pg)(P:Pn)(p:Ő Ń):Wk:=(g.bs.map (·.2),g.ls.map (·.2),[("",[],p)],Ð P.ds.length 0,[],bb,[],[])
inductive QE:Ct|mk{g:Pg}{P:Pn}{p:Ő Ń}{Q:Dv->Hs->ß}{xc:XP}(hl:P.ds.length<=100)(e:iZ "" P.st=O p)(q:Q (.p (Ũ g P p).p) []):QE [.p g.p,.p P.p] [] Q xc
def ž:Pv->Þ|.T [_,.T (.S z::_),_]=>cQ z "ask"|_=>bb
def C6:Pv->Pv|.T [_,.T [_,_,d],_]=>d|_=>.N
theorem yN:∀{l:Ł _}{n:Ń},((fV l n).filter ž).map C6=(HW l).map .S|[],_=>Ŗ|(r,o)::l,n=>by show((Pv.T [iP n,r.p,fq o]::fV l _).filter _).map C6=_;induction r<;>first|(rwa[yN])|(rwa[cb _ yN])
theorem zY:∀{l:Ł _}{n:Ń}{y:Pv},y∈fV l n->∃m r o,y=.T [iP m,Rw.p r,fq o]
 |x::l,n,y,h=>by
  rcases aB.mp h with h|h;.exact(n,x.1,x.2,h)
  .rwa[zY h]
def Lb(B:LX ca Jc W)(S:SX ca W):DX ca Jc W 34 2 Yn:=by erw[B.e 1 J [] [] (.re (.bi J0 (.u (.comp 2 [] (.many [0,1]) (.e 0) .no (.tup (.u2 1 0)))))) S.UP rfl Ť Ť λds h Q X c=>?_];induction c with|@mk l Q X n H q=>
  erw[(Ŗ,fh UV Ŗ (λy a=>?_) ?_)];.let(i,b):=lO a;let(x,_,rfl):=uN b;rwa[λR q=>q]
  .rw[FO];erw[bu qp (bT (cc.mpr ?_) ?_)];.rw[Xm,af];rwa[H]
   .rw[la _ _ _ (λ_ _=>Ŗ) (by rw[zC];rwa[n])];simp only[Xm,Gy];rwa[q]
def jD(B:LX ca Jc W)(S:SX ca W):DX ca Jc W 5 2 oX:=by erw[B.e 1 J [] [] (.re (.comp 1 [] (.one 0) (.s 0) .no (.ix 0 (.i 0)))) S.Ji rfl Ť Ť λds h Q x c=>?_];induction c with|@mk X Q x h q=>
  erw[(Ŗ,fh Dq Ŗ (λy H=>?_) q)];let:=h y H;delta RV at this;split at this;.rwa[λR q=>q]
  .done
def mX(B:LX ca Jc W)(S:SX ca W):DX ca Jc W 6 2 CA:=by erw[B.e 1 J [] [] (.re (.b2 gf (.bi Y8 (.u (.ix 0 (.i 1)))) (.bi Y8 (.u (.ix 0 (.i 2)))))) S.Ei rfl Ť Ť λds h Q X c=>?_];induction c with|@mk x Q X H q=>rw[aN]at q;exact(Ŗ,bT (qN (cc.mpr (by rw[ai]at H;rw[af,af];rwa[aA ‹_› ⋯]))) q)
def Q4(B:LX ca Jc W)(S:SX ca W)(D:DX ca Jc W 1 12 Hr):DX ca Jc W 3 13 Yi:=by erw[B.e 1 J [(1,Hr)] [] (.re (.aal (.comp 3 [] (.many [0,1,2]) (.s (.cl 1 [] (.u 0))) (.one (.cmp kJ (.ix 1 (.i 0)) (.s "ask"))) (.ix 1 (.i 2))))) S.Jd rfl (D,Ť) Ť λds h Q x c=>?_];induction c with|@mk g Q x ok l q=>
  erw[(Ŗ,.mk ok (nG ž C6 Ŗ (λy H=>?_) ?_))];.let(m,r,o,rfl):=zY H;induction r<;>first|exact(λR q=>q,λh R q=>q)|exact(λR q=>q,λh R q=>Kg h)
  .rw[yN];rwa[bu B7 (bT (cc.mpr (fO ‹_›)) λa p _=>q a p)]
def wq(B:LX ca Jc W)(S:SX ca W)(D:DX ca Jc W 7 2 uD):DX ca Jc W 35 4 QE:=by erw[B.e 5 J [(7,uD)] [] (.set 2 (.bi AV (.u (.comp 2 [] (.many [0,1]) (.s (.ix 0 (.i 0))) .no 1)))<|>.set 3 (.bi AV (.u (.comp 2 [] (.many [0,1]) (.s (.ix 0 (.i 1))) .no (.bi AV (.u 1)))))<|>.set 4 (.tup (.u (.tup (.u3 (.g 9) (.tup .nil) (.qK (.fld 3 7 (.fld 2 5 1)) (.g 9))))))<|>.re (.tup (.cons 2 (.u5 3 4 (.b2 KC (.tup (.u (.i 0))) (.bi gC (.u (.fld 2 3 1)))) (.tup .nil) (.cl 7 [] (.u 4)))))) S.zI rfl (D.le (dG _),Ť) Ť λds h Q X c=>?_];induction c with|@mk g P p Q X l e q=>
  erw[(Ŗ,fh (λy=>match y with|.T [_,n]=>n|_=>.N) Ŗ (λy H=>?_) ?_)];.let(x,_,rfl):=cB.mp H;rwa[λR q=>q]
  erw[fh (λy=>match y with|.T [_,n]=>n|_=>.N) Ŗ (λy H=>?_) ?_];.let(x,_,rfl):=cB.mp H;rwa[λR q=>q]
  rw[show(g.bs.map Wu).map (λy=>match y with|.T [_,n]=>n|_=>.N)=(g.bs.map (·.2)).map nP by rw[aV,aV];rfl,show(g.ls.map WW).map (λy=>match y with|.T [_,n]=>n|_=>.N)=Qc (g.ls.map (·.2))by delta Qc;rw[aV,aV];rfl];let a:∀m:Ń,(Ð m [Pv.I 0]).flatten=(Ð m 0).map iP:=λm=>by rw[List.map_replicate];induction m with|h=>rfl|j m b=>rw[x4,List.flatten_cons,b];rfl
  erw[bu (qf e) (bT (c:=qM 0 (P.ds.map _).length&&(qM _ _&&J)) ?_ (uD.mk (fr:=[("",[],p)]) ?_))];.rw[af,eD.mpr (),eD.mpr ()];rfl
  .rw[a,af];rwa[q]
def Dn{α:Type}(n:Ń):Ł (Ń×α)->Þ|[]=>bb|p::r=>Ì p.1 n||Dn n r
def OG{α:Type}(n:Ń)(v:α):Ł (Ń×α)->Ł (Ń×α)|[]=>[]|p::r=>(match Ì p.1 n with|J=>(p.1,v)|bb=>p)::OG n v r
def gO{α:Type}(n:Ń)(v:α)(l:Ł (Ń×α)):Ł (Ń×α):=match Dn n l with|J=>OG n v l|bb=>l++[(n,v)]
theorem Bx{v:α}:∀{l:Ł _},(OG n v l).length=l.length|[]=>Ŗ|_::_=>cb (·+1) Bx
def qq{v:α}:(gO n v l).length<=l.length+1:=by delta gO;induction Dn n l with|d=>simp only[Bx];rwa[dG _]|e=>simp only[ai];rwa[aq _]
def vT{α:Type}(l:Ł (Ń×α)):ϑ:=l.map λp=>iP p.1
def EU(l:Ł (Ń×Ő Ń)):ϑ:=l.map λp=>fq p.2
def MD{b:Ń}:lz (iP a) (.I b)=Ì a b:=yR
theorem CV{n:Ń}:∀{l:Ł (Ń×α)},om (.I n) (vT l)=Dn n l|[]=>Ŗ|p::r=>by show(lz (iP p.1) _||om _ (vT r))=(Ì p.1 n||Dn n r);rw[MD,CV]
theorem Lq{n:Ń}:∀{l:Ł _},CY (.I n) (fq v) (vT l) (EU l)=EU (OG n v l)|[]=>Ŗ|p::r=>by show(match lz (iP p.1) _ with|J=>fq v|bb=>fq p.2)::CY _ _ (vT r) (EU r)=fq _::EU _;rw[MD,Lq];induction Ì p.1 n<;>rfl
theorem GN{v:Ő Ń}:∀{l:Ł _},vT (OG n v l)=vT l|[]=>Ŗ|p::r=>by show iP _::vT _=iP p.1::vT r;rw[GN];induction Ì p.1 n<;>rfl
def Ln{n:Ń}{v:Ő Ń}:oJ (.I n) (vT l)=vT (gO n v l):=by delta oJ gO;rw[CV];induction Dn n l with|d=>rwa[GN.symm]|e=>delta vT;rw[aN];rfl
def Lo{n:Ń}:oK (.I n) (fq v) (vT l) (EU l)=EU (gO n v l):=by delta oK gO;rw[CV];induction Dn n l with|d=>rwa[Lq]|e=>delta EU;rw[aN];rfl
structure Ly where bh:Ł (Ń×Ő Ń)fs:Ł (Ń×Ő Ń)sc:Ł (Ń×Ő Ń)ct:Ł (Ń×Ő Ń)
mutual
def rG:Tr->Ń->Ő Ń->Ő Ń->Ly->Ly×Ő Ń|.lf _,n,_,_,S=>(S,O n)|.wh _ a,n,_,c,S=>({(fS a (n+1) (O n) c S).1 with fs:=gO n (fS a (n+1) (O n) c S).2 (fS a (n+1) (O n) c S).1.fs},O n)|.ii _ x y,n,b,c,S=>let p:=fS y (n+1+fw x) b c S;let q:=fS x (n+1) b c {p.1 with sc:=gO n p.2 p.1.sc};({q.1 with fs:=gO n q.2 q.1.fs},O n)|.tr x _ y,n,b,c,S=>let p:=fS y (n+1+fw x) b c S;fS x (n+1) b (O n) {p.1 with sc:=gO n p.2 p.1.sc}def fS:Ł Tr->Ń->Ő Ń->Ő Ń->Ly->Ly×Ő Ń|[],_,b,_,S=>(S,b)|t::r,n,b,c,S=>let p:=fS r (n+t.sz) b c S;rG t n p.2 c {p.1 with bh:=gO n p.2 p.1.bh,ct:=gO n c p.1.ct}end
def Ly.le(S:Ly)(m:Ń):ß:=S.bh.length<=m/\S.fs.length<=m/\S.sc.length<=m/\S.ct.length<=m
theorem Ly.le.mono{S:Ly}(h:S.le m)(k:m<=n):S.le n:=(by let:=h.1;rwa[aA ‹_› ‹_›],by let:=h.2.1;rwa[aA ‹_› ‹_›],by let:=h.2.2.1;rwa[aA ‹_› ‹_›],by let:=h.2.2.2;rwa[aA ‹_› ‹_›])
theorem WV{S:Ly}(h:S.le m):Ly.le {S with fs:=gO n v S.fs} (m+1):=by let:=qq (n:=n) (v:=v) (l:=S.fs);let(H,a,b,c):=h;exact(by rwa[aU ‹_›],by show(gO n v _).length<=_;lia,by rwa[aU ‹_›],by rwa[aU ‹_›])
theorem A8{S:Ly}(h:S.le m):Ly.le {S with sc:=gO n v S.sc} (m+1):=by let:=qq (n:=n) (v:=v) (l:=S.sc);let(H,a,b,c):=h;exact(by rwa[aU ‹_›],by rwa[aU ‹_›],by show(gO n v _).length<=_;lia,by rwa[aU ‹_›])
theorem WU{S:Ly}(h:S.le m):Ly.le {S with bh:=gO n v S.bh,ct:=gO n c S.ct} (m+1):=by let:=qq (n:=n) (v:=v) (l:=S.bh);let:=qq (n:=n) (v:=c) (l:=S.ct);let(H,a,b,d):=h;exact(by show(gO n v _).length<=_;lia,by rwa[aU ‹_›],by rwa[aU ‹_›],by show(gO n c _).length<=_;lia)
mutual
theorem SN:∀(t:Tr)(n:Ń)(b c:Ő Ń)(S:Ly)(m:Ń),S.le m->(rG t n b c S).1.le (m+(3*t.sz-1))|.lf _,n,b,c,S,m,h=>by delta rG;rwa[h.mono (bp _ _)]|.wh _ a,n,b,c,S,m,h=>by delta rG Tr.sz;exact(WV (gQ a _ _ _ _ _ h)).mono ()|.ii _ x y,n,b,c,S,m,h=>by delta rG Tr.sz;exact(WV (gQ x _ _ _ _ _ (A8 (gQ y _ _ _ _ _ h)))).mono ()|.tr x _ y,n,b,c,S,m,h=>by delta rG Tr.sz;exact(gQ x _ _ _ _ _ (A8 (gQ y _ _ _ _ _ h))).mono ()theorem gQ:∀(ts:Ł Tr)(n:Ń)(b c:Ő Ń)(S:Ly)(m:Ń),S.le m->(fS ts n b c S).1.le (m+3*fw ts)
 |[],n,b,c,S,m,h=>by delta fS;rwa[h.mono (aq _)]|t::r,n,b,c,S,m,h=>by
  delta fS fw;let:1<=t.sz:=by rw[BD];rwa[bp _ _]
  exact(SN t _ _ _ _ _ (WU (gQ r _ _ _ _ _ h))).mono ()end
def je:Ł Tr->Ń->Ϙ|[],_=>[]|t::r,n=>n::je r (n+t.sz)
structure Pb where
 rw:Ł Rw
 kw:ϑ
 dw:Ł Dv
 df:Ob
 st:Ob
 ls:Ł Ob
def hJ(b:Pb)(S:Ly):Hs:=.I 3 [.p (.L (b.rw.map Rw.p)),.r 1,.r 2,.r 3,.r 4,.r 5,.r 6,.r 7]::.E b.kw b.dw::.C (vT S.bh) (EU S.bh)::.C (vT S.fs) (EU S.fs)::.C (vT S.sc) (EU S.sc)::.C (vT S.ct) (EU S.ct)::b.df::b.st::b.ls
def Qr(b:Pb)(wi:Ő Ń->Ϙ):ß:=∀k,match lX (fq k) b.kw b.dw with|ao=>wi k=[]|O d=>∃j,d=.r (j+8)/\b.ls[j]?=O (.L ((wi k).map iP))
mutual
def E3(R:Ł Rw)(wi:Ő Ń->Ϙ):Tr->Ń->ß|.lf r,n=>R[n]?=O r|.ii v a b,n=>R[n]?=O (.ii v (.T (kE a)) (.T (kE b)))/\wi (O n)=je a (n+1)++je b (n+1+fw a)/\Cb R wi a (n+1)/\Cb R wi b (n+1+fw a)|.wh v a,n=>R[n]?=O (.wh v (.T (kE a)))/\wi (O n)=je a (n+1)/\Cb R wi a (n+1)|.tr a z b,n=>R[n]?=O (.tr (.T (kE a)) z (.T (kE b)))/\wi (O n)=je a (n+1)++je b (n+1+fw a)/\Cb R wi a (n+1)/\Cb R wi b (n+1+fw a)def Cb(R:Ł Rw)(wi:Ő Ń->Ϙ):Ł Tr->Ń->ß|[],_=>æ|t::r,n=>E3 R wi t n/\Cb R wi r (n+t.sz)end
def E5(b:Pb)(x:Dv)(l:Ϙ):ß:=x=.p (.L (l.map iP))\/∃j,x=.r (j+8)/\b.ls[j]?=O (.L (l.map iP))
inductive uC(d:Ń):Ct|mk{b:Pb}{S:Ly}{wi:Ő Ń->Ϙ}{ts:Ł Tr}{n m:Ń}{o c:Ő Ń}{x:Dv}{Q:Dv->Hs->ß}{xc:XP}(hw:Qr b wi)(yV:Cb b.rw wi ts n)(ok:pJ ts)(hd:dL ts<d)(hx:E5 b x (je ts n))(hs:S.le m)(hz:m+3*fw ts<=400000)(q:Q (.p (fq (fS ts n o c S).2)) (hJ b (fS ts n o c S).1)):uC d [.r 0,x,.p (fq o),.p (fq c)] (hJ b S) Q xc
inductive KL(d:Ń):Ct|mk{b:Pb}{S:Ly}{wi:Ő Ń->Ϙ}{t:Tr}{n m:Ń}{o c:Ő Ń}{Q:Dv->Hs->ß}{xc:XP}(hw:Qr b wi)(yV:E3 b.rw wi t n)(ok:t.ok)(hd:t.d<d)(hs:S.le m)(hz:m+3*t.sz<=400001)(q:Q (.p (fq (rG t n o c S).2)) (hJ b (rG t n o c S).1)):KL d [.r 0,.p (iP n),.p (fq o),.p (fq c)] (hJ b S) Q xc
def Jl(Jc:Ń->Ct)(d e:Ń):Ń->Ct|400=>uC d|401=>KL e|n=>Jc n
theorem zW:∀{us vs:Ł Tr},fw (us++vs)=fw us+fw vs|[],vs=>by show fw vs=fw []+fw vs;delta fw;lia|t::us,vs=>by show t.sz+fw (us++vs)=t.sz+fw us+fw vs;rw[zW];exact(d7 _ _ _).symm
theorem Bg:∀{us vs:Ł Tr}{n:Ń},je (us++vs) n=je us n++je vs (n+fw us)|[],vs,n=>by rfl|t::us,vs,n=>by show n::je (us++vs) _=n::(je us _++je vs (n+(t.sz+fw us)));rw[Bg,d7]
theorem yh:∀{us vs:Ł Tr}{n:Ń},Cb R wi (us++vs) n->Cb R wi us n/\Cb R wi vs (n+fw us)|[],vs,n,h=>by done|t::us,vs,n,h=>by let(H,a):=yh h.2;erw[((h.1,H),?_)];show Cb R wi vs (n+(t.sz+fw us));rw[<-d7];rwa[a]
theorem zt:∀{us vs:Ł Tr},pJ (us++vs)=J->pJ us/\pJ vs=J|[],vs,h=>(Ŗ,h)|t::us,vs,h=>by let(H,a):=zt (ag h).2;exact(by show(t.ok&&pJ us)=J;rw[(ag h).1,H];rfl,a)
theorem CL:∀{us vs:Ł Tr},dL (us++vs)=max (dL us) (dL vs)|[],vs=>Ŗ|t::us,vs=>by show max t.d (dL (us++vs))=max (max t.d _) _;rw[CL];lia
theorem FI{h':Hs}{k:Ń}(H:∀Q:KP,Q [.p (fq v)] h->A N.xc σ h Q)(a:∀Q:KP,Q [.r i] h->B N.xc σ h Q)(b:∀Q:KP,Q [.p (.I k)] h->C N.xc σ h Q)(c:h[i]?=O (.C (vT l) (EU l)))(e:l.length<=500000)(d:h.set i (.C (vT (gO k v l)) (EU (gO k v l)))=h')(q:N.nx σ h'):oQ A B C N σ h:=by erw[H _ (a _ (b _ ?_))];simp only[c];erw[bT (qN (cc.mpr (by delta vT;rw[af];rwa[dQ ‹_› ⋯]))) ?_];rw[Ln,Lo,d];rwa[q]
inductive JL(b:Pb)(S:Ly)(ts:Ł Tr)(n:Ń)(o c:Ő Ń)(x:Dv)(post:ϑ):Es->Hs->ß|mk{us vs:Ł Tr}{v4:Ő Dv}(e1:ts=us++vs)(e2:post=(je us n).reverse.map iP):JL b S ts n o c x post [O (.r 0),O x,O (.p (fq (fS vs (n+fw us) o c S).2)),O (.p (fq c)),v4] (hJ b (fS vs (n+fw us) o c S).1)
section
variable{ca:Ń->À}{Jc:Ń->Ct}{W:Wd}{d k:Ń}
theorem LX.to(B:LX ca Jc W):LX ca j W:=(B.bl,B.gl,B.tab,B.cls,B.exc)
theorem uJ(B:LX ca (Jl Jc d d) W)(S:SX ca W)(D:DI ca (Jl Jc d d) W 401 k):DI ca (Jl Jc d d) W 400 (k+2):=by erw[B.MX 5 bb [] [401] (.foT (.one 4) (.rev 1) (.dput 2 (.fld 3 2 0) 4<|>.dput 3 (.fld 3 5 0) 4<|>.one (.set 2 (.me 401 0 (.u3 4 2 3))))<|>.re 2) S.akf rfl Ť (D,Ť) λds h Q X c=>?_];induction c with|@mk b S wi T n m o c x Q X C Y ok u F G H q=>
  erw[(Ŗ,?_)];let v:((je T n).reverse.map iP).map Dv.p=((je T n).map iP).reverse.map Dv.p:=by rw[<-G7]
  suffices L:∀P:Pw,(∀s,P (hJ b s) (((je T n).reverse.map iP).map .p))->LD (.one 4) P (U0 (oQ (sV 2) (s1 (IC 3 2) (sV 0)) (sV 4)) (U0 (oQ (sV 3) (s1 (IC 3 5) (sV 0)) (sV 4)) (U1 2 (rl 3 (KL d) (sV 0) (vC (sV 4) (vC (sV 2) (vC (sV 3) Jt))))))) ((hZ bb (Á (hJ b S)) Q X).sq (Ż (sV 2))) [O (.r 0),O x,O (.p (fq o)),O (.p (fq c)),ao] (hJ b S)by
   rcases F with rfl|⟨j,rfl,I⟩;.rwa[L (λ_ K=>K=((je T n).map iP).reverse.map .p) λ_=>v]
   .let w:∀s,Iv (hJ b s) (.r (j+8))=O (((je T n).map iP).map .p):=λs=>by delta Iv;rw[d_ (h:=hJ b s) (l:=j+8) (show b.ls[j]?=_ from I)]
    erw[bu (w S) (L _ λs=>(?_,?_))];.rw[w,v,<-G7,List.reverse_reverse]
    .rw[af,af,el,af,af]
  intro P M;erw[FQ _ (λ_=>JL b S T n o c x) (.mk (us:=T) (vs:=[]) (v4:=ao) (aK _).symm Ŗ) (λpre post a z j=>by induction j with|mk E e=>rwa[M _]) (λpre y post a z ex j=>?_) λa z j=>?_];.induction j with|@mk us vs v4 E e=>
   subst E;rcases ώ us with rfl|⟨us,t,rfl⟩;.cases e
   rw[ŏ]at e Y ok u H⊢;rw[Bg,show je [t] (n+fw us)=[n+fw us]from Ŗ,Ŵ,List.reverse_singleton,List.singleton_append,cq]at e;injection e with e N;subst e N;let Z:fw (us++[t])=fw us+t.sz:=by rw[zW];delta fw;show _+(_+fw [])=_;delta fw;exact(d7 _ _ _).symm
   let(R,A):=yh (yh Y).1;let(U,g):=zt (zt ok).1;rw[CL,CL]at u;let hd2:max t.d 0=dL [t]:=by delta dL;show _=max t.d (dL []);rfl
   rw[zW]at H;rw[Z]at H⊢;rw[<-d7];let i:=gQ vs (n+fw us+t.sz) o c S m G;generalize hp:fS vs _ o c S=p at i;let e5:fS (t::vs) (n+fw us) o c S=rG t (n+fw us) p.2 c {p.1 with bh:=gO (n+fw us) p.2 p.1.bh,ct:=gO (n+fw us) c p.1.ct}:=by rw[<-hp];rfl
   let(l1,l2,l3,l4):=id i;erw[FI (λ_ q=>q) (λ_ q=>q) (λ_ q=>q) rfl () rfl ?_];dsimp only[En.sq];erw[FI (l:=p.1.ct) (λ_ q=>q) (λ_ q=>q) (λ_ q=>q) rfl () rfl ?_];erw[.mk C A.1 (ag g).1 () (WU i) () ?_];let f:JL b S (us++[t]++vs) n o c x _ _ _:=.mk (vs:=t::vs) (v4:=O (.p (iP (n+fw us)))) (by rw[bL];rfl) Ŗ;rw[e5]at f;rwa[f]
  .induction j with|@mk us vs v4 E e=>subst E;induction us with|g t us=>let:=cb Á e;rw[af,el]at this;cases this|f=>done
theorem yL{h':Hs}(H:∀Q:KP,Q [.p (fq v)] h->A N.xc σ h0 Q)(a:∀Q:KP,Q [.r i] h->B N.xc σ h Q)(b:∀Q:KP,Q [.p (.I k)] h->C N.xc σ h Q)(c:h[i]?=O (.C (vT l) (EU l)))(f:l.length<=500000)(e:h.set i (.C (vT (gO k v l)) (EU (gO k v l)))=h')(q:N.nx σ h'):oQ A B C N σ h0:=by erw[H _ (a _ (b _ ?_))];simp only[c];erw[bT (qN (cc.mpr (by delta vT;rw[af];rwa[dQ ‹_› ⋯]))) ?_];rw[Ln,Lo,e];rwa[q]
theorem AQ{k:Ő Ń}(w:Qr b wi)(c:∀a:KP,a [.r 1] (hJ b S)->A X σ (hJ b S) a)(e:∀a:KP,a [.p (fq k)] (hJ b S)->B X σ (hJ b S) a)(f:∀a:KP,a [.p (.L [])] (hJ b S)->C X σ (hJ b S) a)(q:∀x,E5 b x (wi k)->Q [x] (hJ b S)):Oz A B C X σ (hJ b S) Q:=by
 erw[c _ (bT Ŗ (e _ ?_))];let H:∃κ,j3 (fq k)=O κ:=by induction k<;>exact(_,Ŗ)
 let(κ,H):=H;erw[bu H (f _ (bu Ŗ ?_))];let h:=w k;revert h;induction lX _ _ _ with|a=>intro h;rwa[q _ (.inl (by rw[h];rfl))]|c d=>intro h;let(j,rfl,g):=h;rwa[q _ (.inr (j,Ŗ,g))]
theorem l_(h:E5 b x l):lA (hJ b S) x=O (l.map iP):=by
 rcases h with rfl|⟨j,rfl,H⟩;.rfl
 .rwa[d_ H]
theorem rO{lo:Ő Î}(h:E5 b x l)(q:Q (.p (.L (og (l.map iP) lo H))) (hJ b S)):ot x lo H (hJ b S) Q:=by
 rcases h with rfl|⟨j,rfl,a⟩;.rwa[q]
 .show(match lA _ _ with|O X=>Q _ _|ao=>ŧ);rw[l_ (.inr (j,Ŗ,a))];rwa[q]
theorem lB:∀{ts:Ł Tr}{n:Ń},(je ts n).length=ts.length|[],_=>Ŗ|t::r,n=>cb _ lB
theorem nQ:∀{ts:Ł Tr},(kE ts).length=ts.length|[]=>Ŗ|t::r=>by rwa[cb _ nQ]
theorem yB{b:Ϙ}(h:a.length=k):og ((a++b).map iP) ao (O k)=a.map iP:=by show(((a++b).map iP).take k).drop 0=_;rw[jL,aN,<-h,<-af,nZ]
theorem Fv{b:Ϙ}(h:a.length=k):og ((a++b).map iP) (O k) ao=b.map iP:=by show((a++b).map iP).drop k=_;rw[aN,<-h,<-af,List.drop_left]
theorem acH{c:Ń}{st:É}(r:gW W.K (L.ca (c/100-1)) (L.S.rj c) l st ps)(a:Ë 100 c)(no:∀ds h Q x,¬L.kK c ds h Q x):Di L W c k:=by let(f,F,e,m,b):=r.ex;let n:∀v H Q E,¬dB (L.y W) (L.kK c) v H Q E:=λv H Q E z=>(by let(_,_,_,_,_,_,_,_,c,_,_):=z;rwa[no _ _ _ _ c]);exact(ps,by delta jm;rw[a];exact(f,F,(λv H Q E q=>Ă q (n v H Q E),λA o s H args u v Q E _ _ _ _ q=>Ă q (n v H Q E)),m,b))
seal Oz oQ ot in
theorem HP(B:LX ca (Jl Jc d (d+1)) W)(S:SX ca W)(h:1<=k)(D:DI ca (Jl Jc d (d+1)) W 400 k):DI ca (Jl Jc d (d+1)) W 401 (k+2):=by erw[B.MX 9 bb [(0,ĉ)] [400] (.set 4 (.ix (.fld 3 0 0) 1)<|>.set 5 (.cl 0 [] (.u 4))<|>.iff (.cmp kJ (.bi gC (.u 5)) (.i 0)) (.re 1) .nil<|>.set 6 (.dg2 (.fld 3 1 0) 1 (.lst .nil))<|>.set 7 (.sl 6 .no (.of (.bi gC (.u (.ix 5 (.i 0))))))<|>.set 8 (.sl 6 (.of (.bi gC (.u (.ix 5 (.i 0))))) .no)<|>.iff (.cmp kJ (.ix 4 (.i 0)) (.s "while")) (.dput (.me 400 0 (.u3 7 1 3)) (.fld 3 3 0) 1<|>.re 1) .nil<|>.dput (.me 400 0 (.u3 8 2 3)) (.fld 3 4 0) 1<|>.iff (.cmp kJ (.ix 4 (.i 0)) (.s "if")) (.dput (.me 400 0 (.u3 7 2 3)) (.fld 3 3 0) 1<|>.re 1) .nil<|>.re (.me 400 0 (.u3 7 2 1))) S.ad0 rfl ((Fz B S).le (fO ‹_›),Ť) (D,Ť) λds h Q X c=>?_];induction c with|@mk b S wi t n m o c Q X w Y ok j e C q=>
  let G:b.rw[n]?=O t.r:=by cases t with|lf r=>delta E3 at Y;delta Tr.r;rwa[Y]|ii v x y=>delta E3 at Y;delta Tr.r;rwa[Y.1]|wh v x=>delta E3 at Y;delta Tr.r;rwa[Y.1]|tr x z y=>delta E3 at Y;delta Tr.r;rwa[Y.1]
  erw[(Ŗ,bu (kj G) (.mk ok ?_))];cases t with|lf r=>delta rG at q;rwa[q]|wh v a=>delta E3 at Y;delta Tr.d at j;delta Tr.sz at C;let(_,f,g):=Y;let A:=gQ a (n+1) (O n) c S m e;delta rG at q;erw[AQ (k:=O n) w (λ_ q=>q) (λ_ q=>q) (λ_ q=>q) λx H=>?_];rw[f,<-aK (je a (n+1))]at H;erw[rO (S:=S) H ?_];erw[rO (S:=S) H ?_];erw[yL (h:=hJ b (fS a (n+1) (O n) c S).1) (v:=(fS a (n+1) (O n) c S).2) (k:=n) (i:=3) (l:=(fS a (n+1) (O n) c S).1.fs) (λQ q=>uC.mk (o:=O n) w g ok (Nat.le_of_lt_succ ‹_›) (.inl (by rw[yB (by rw[lB,nQ])])) e () q) (λ_ q=>q) (λ_ q=>q) rfl (by let:=A.2.1;lia) (h':=hJ b {(fS a (n+1) (O n) c S).1 with fs:=gO n (fS a (n+1) (O n) c S).2 (fS a (n+1) (O n) c S).1.fs}) rfl ?_];rwa[q]|ii v x y=>delta E3 at Y;delta Tr.d at j;delta Tr.sz at C;delta Tr.ok at ok;let(_,f,g,E):=Y;let A:=gQ y (n+1+fw x) o c S m e;let L:=gQ x (n+1) o c {(fS y (n+1+fw x) o c S).1 with sc:=gO n (fS y (n+1+fw x) o c S).2 (fS y (n+1+fw x) o c S).1.sc} _ (A8 A);delta rG at q;dsimp only at q;erw[AQ (k:=O n) w (λ_ q=>q) (λ_ q=>q) (λ_ q=>q) λz H=>?_];rw[f]at H;erw[rO (S:=S) H ?_];erw[rO (S:=S) H ?_];generalize F:fS y (n+1+fw x) o c S=p at q A L;erw[yL (h:=hJ b p.1) (v:=p.2) (k:=n) (i:=4) (l:=p.1.sc) (λQ q=>uC.mk (o:=o) w E (ag ok).2 () (.inl (by rw[Fv (by rw[lB,nQ])])) e () (by rw[F];rwa[q])) (λ_ q=>q) (λ_ q=>q) rfl (by let:=A.2.2.1;lia) (h':=hJ b {p.1 with sc:=gO n p.2 p.1.sc}) rfl ?_];generalize I:fS x (n+1) o c {p.1 with sc:=gO n p.2 p.1.sc}=P at q L;erw[yL (h:=hJ b P.1) (v:=P.2) (k:=n) (i:=3) (l:=P.1.fs) (λQ q=>uC.mk (o:=o) w g (ag ok).1 () (.inl (by rw[yB (by rw[lB,nQ])])) (A8 A) () (by rw[I];rwa[q])) (λ_ q=>q) (λ_ q=>q) rfl (by let:=L.2.1;lia) (h':=hJ b {P.1 with fs:=gO n P.2 P.1.fs}) rfl ?_];rwa[q]|tr x s y=>delta E3 at Y;delta Tr.d at j;delta Tr.sz at C;delta Tr.ok at ok;let(_,f,g,E):=Y;let A:=gQ y (n+1+fw x) o c S m e;delta rG at q;dsimp only at q;erw[AQ (k:=O n) w (λ_ q=>q) (λ_ q=>q) (λ_ q=>q) λz H=>?_];rw[f]at H;erw[rO (S:=S) H ?_];erw[rO (S:=S) H ?_];generalize F:fS y (n+1+fw x) o c S=p at q A;erw[yL (h:=hJ b p.1) (v:=p.2) (k:=n) (i:=4) (l:=p.1.sc) (λQ q=>uC.mk (o:=o) w E (ag ok).2 () (.inl (by rw[Fv (by rw[lB,nQ])])) e () (by rw[F];rwa[q])) (λ_ q=>q) (λ_ q=>q) rfl (by let:=A.2.2.1;lia) (h':=hJ b {p.1 with sc:=gO n p.2 p.1.sc}) rfl ?_];rwa[uC.mk (o:=o) (c:=O n) w g (ag ok).1 () (.inl (by rw[yB (by rw[lB,nQ])])) (A8 A) () q]
theorem YE(B:LX ca Jc W)(S:SX ca W):∀d:Ń,DI ca (Jl Jc d d) W 400 (4*d+4):=λd=>by
 let o:∀d:Ń,DI ca (Jl Jc d d) W 401 (4*d+2)/\DI ca (Jl Jc d d) W 400 (4*d+4):=λd=>by
  induction d with|h=>
   let h:DI ca (Jl Jc 0 0) W 401 2:=acH S.ad0 Ŗ λds h Q x c=>by induction c with|mk _ _ _ H=>left
   exact(h,uJ (LX.to B) S h)|j d i=>let h:DI ca (Jl Jc d _) W 401 _:=HP (LX.to B) S (aQ _ _) i.2;exact(h,uJ (LX.to B) S h)
 exact(o d).2
end
abbrev Ws:=Ł (Ő Ń×Ϙ)
def rg(o:Ő Ń)(n:Ń):Ws->Ws|[]=>[(o,[n])]|p::r=>if p.1=o then(p.1,p.2++[n])::r else p::rg o n r
def Kc(o:Ő Ń):Ws->Ő Ϙ|[]=>ao|p::r=>if p.1=o then O p.2 else Kc o r
def zc(ws:Ws):ϑ:=ws.map λp=>fq p.1
def wH(ws:Ws):Ł Ob:=ws.map λp=>.L (p.2.map iP)
def yO:Ń->Ń->Ł Dv|0,_=>[]|k+1,o=>.r o::yO k (o+1)
def WS:lz (fq a) (fq b)=Đ (a=b):=by induction a with
 |a=>cases b with|a=>rfl|c b=>rfl
 |c a=>induction b with|a=>rfl|c b=>show lg a b=_;rw[yR];induction h:Ì a b with|d=>rw[cA (by rw[aT h])]|e=>rw[cn λz=>nofun]
theorem ZD:∀(ws:Ws)(off:Ń),lX (fq o) (zc ws) (yO ws.length off)=ao/\rg o n ws=ws++[(o,[n])]\/∃j l,lX (fq o) (zc ws) (yO ws.length off)=O (.r (j+off))/\ws[j]?=O (o,l)/\rg o n ws=ws.set j (o,l++[n])
 |[],off=>.inl (Ŗ,Ŗ)|p::r,off=>by
  let e:lX (fq o) (zc (p::r)) (yO (p::r).length off)=match lz (fq p.1) _ with|J=>O _|bb=>lX _ (zc r) _:=Ŗ;rw[e,WS];delta rg;by_cases h:p.1=o;.rw[bV h];rwa[.inr (0,p.2,(),by rw[<-h];rfl,by rw[<-h];rfl)]
  .rw[cn h,bN h];rcases ZD r _ with ⟨a,H⟩|⟨j,l,a,H,b⟩;.rwa[.inl (a,by rw[H];rfl)]
   .rwa[.inr (j+1,l,(),H,by rw[b];rfl)]
theorem Zw{o:Ő Ń}:∀(ws:Ws)(off:Ń),match lX (fq o) (zc ws) (yO ws.length off)with|ao=>(Kc o ws).getD []=[]|O d=>∃j,d=.r (j+off)/\(wH ws)[j]?=O (.L (((Kc o ws).getD []).map iP))
 |[],off=>Ŗ|p::r,off=>by
  let e:lX (fq o) (zc (p::r)) (yO (p::r).length off)=match lz (fq p.1) _ with|J=>O _|bb=>lX _ (zc r) _:=Ŗ;rw[e,WS];delta Kc;by_cases h:p.1=o;.rw[cA h,bV h];exact(0,(),Ŗ)
  .rw[cn h,bN h];let:=Zw (o:=o) r (off+1);revert this;induction lX _ _ _ with|a=>lia|c d=>rwa[λz=>by let(j,a,H):=z;exact(j+1,(),H)]
theorem ML:∀(ws:Ws),(Kc k (rg o n ws)).getD []=if o=k then(Kc k ws).getD []++[n]else(Kc k ws).getD []
 |[]=>by show(if o=k then O [n]else ao).getD []=if o=k then[]++[n]else[];split<;>rfl|p::r=>by
  delta rg;by_cases h:p.1=o
  .rw[bV h];delta Kc;by_cases H:p.1=k;.rw[bV H,bV H,bV (h.symm.trans H)];rfl
   .lia
  .rw[bN h];delta Kc;by_cases H:p.1=k;.lia
   .rw[bN H,bN H];rwa[ML r]
def wn:Ł (Rw×Ő Ń)->Ń->Ws->Ws|[],_,ws=>ws|(.df _,_)::r,n,ws=>wn r (n+1) ws|(_,o)::r,n,ws=>wn r (n+1) (rg o n ws)
def xm:Ł (Rw×Ő Ń)->Ń->Ł (Æ×Ń)|[],_=>[]|(.df z,_)::r,n=>(z,n)::xm r (n+1)|_::r,n=>xm r (n+1)
def qJ(k:Ő Ń):Ł (Rw×Ő Ń)->Ń->Ϙ|[],_=>[]|(.df _,_)::r,n=>qJ k r (n+1)|(_,o)::r,n=>if o=k then n::qJ k r (n+1)else qJ k r (n+1)
def DJ:Rw->Þ|.df _=>J|_=>bb
def sy(h:DJ r=bb):wn ((r,o)::l) n ws=wn l (n+1) (rg o n ws)/\xm ((r,o)::l) n=xm l (n+1)/\∀k,qJ k ((r,o)::l) n=if o=k then n::qJ k l (n+1)else qJ k l (n+1):=by induction r<;>first|exact(Ŗ,Ŗ,λ_=>Ŗ)|cases h
theorem EY:∀(l:Ł _)(n:Ń)(ws:Ws),(Kc k (wn l n ws)).getD []=(Kc k ws).getD []++qJ k l n|[],n,ws=>by show _=_++[];rw[aK];rfl|(r,o)::l,n,ws=>by induction h:DJ r with
  |d=>induction r<;>first|rwa[EY l _ ws]|cases h
  |e=>
   let(H,_,a):=sy h;rw[H,a,EY,ML];split;.simp
   .rfl
def QA(o:Ő Ń)(n:Ń):ß:=∀m,o=O m->m<n
def out(k:Ő Ń)(n s:Ń):ß:=∀m,k=O m->m<n\/n+s<=m
theorem fW:∀{l m:Ł _}{n:Ń},qJ k (l++m) n=qJ k l n++qJ k m (n+l.length)
 |[],m,n=>Ŗ|(r,o)::l,m,n=>by
  let e:n+1+l.length=n+(l.length+1):=()
  induction h:DJ r with
  |d=>induction r<;>first|(show qJ k (l++m) _=qJ k l _++qJ k m (n+(l.length+1));rw[fW,e])|cases h
  |e=>
   rw[List.cons_append,(sy (ws:=[]) h).2.2,(sy (ws:=[]) h).2.2,fW,e];split;.rfl
   .rfl
def hU(H:o≠k):qJ k ((r,o)::l) n=qJ k l (n+1):=by induction h:DJ r with
 |d=>induction r<;>first|rfl|cases h
 |e=>rw[(sy (ws:=[]) h).2.2,bN H]
mutual
theorem Fo:∀(t:Tr)(n:Ń)(o k:Ő Ń),o≠k->out k n t.sz->qJ k (rA t n o) n=[]
 |.lf r,n,o,k,h,u=>by delta rA;rw[hU h];rfl|.ii v a b,n,o,k,h,u=>by
  delta rA;delta Tr.sz at u;let hn:O n≠k:=λz=>by let:=u n z.symm;lia
  rw[hU h,fW,fD a _ _ _ hn λm e=>by let:=u m e;lia,cC,fD b _ _ _ hn λm e=>by let:=u m e;lia];rfl|.wh v a,n,o,k,h,u=>by
  delta rA;delta Tr.sz at u;let hn:O n≠k:=λz=>by let:=u n z.symm;lia
  rw[hU h,fD a _ _ _ hn λm e=>by let:=u m e;lia]|.tr a z b,n,o,k,h,u=>by
  delta rA;delta Tr.sz at u;let hn:O n≠k:=λz=>by let:=u n z.symm;lia
  rw[hU h,fW,fD a _ _ _ hn λm e=>by let:=u m e;lia,cC,fD b _ _ _ hn λm e=>by let:=u m e;lia];rfl
theorem fD:∀(ts:Ł Tr)(n:Ń)(o k:Ő Ń),o≠k->out k n (fw ts)->qJ k (j9 ts n o) n=[]|[],n,o,k,h,u=>by delta j9;rfl|t::r,n,o,k,h,u=>by delta j9;delta fw at u;rw[fW,Fo t _ _ _ h λm e=>by let:=u m e;lia,kb,fD r _ _ _ h λm e=>by let:=u m e;lia];rfl
end
def afg{t:Tr}(h:t.ok):DJ t.r=false:=by cases t with
 |lf r=>induction r<;>first|rfl|cases h
 |ii v a b=>rfl|wh v a=>rfl|tr a z b=>rfl
theorem Fj(h:o≠k):∀(ps:Ł _)(n:Ń),out k n (EF ps)->qJ k (C9 ps n o) n=[]|[],n,u=>Ŗ|t::r,n,u=>by let u:out k n (fw t+EF r):=u;show qJ k (j9 t n o++C9 r _ o) n=[];rw[fW,fD t _ _ _ h λm e=>by let:=u m e;lia,cC,Fj h r _ λm e=>by let:=u m e;lia];rfl
def QM(h:t.ok)(b:QA o n):qJ o (rA t n o) n=[n]:=by rw[LB,(sy (ws:=[]) (afg h)).2.2,bV Ŗ,Fj (λz=>by let:=b n z.symm;rwa[Ă ‹_› (bU _)]) _ _ λm e=>by let:=b m e;lia]
theorem j7:∀(ts:Ł Tr)(n:Ń)(o:Ő Ń),pJ ts=J->QA o n->qJ o (j9 ts n o) n=je ts n|[],n,o,h,b=>by rfl|t::r,n,o,h,b=>by rw[j9,fW,QM (ag h).1 b,kb,j7 r _ _ (ag h).2 λm e=>by let:=b m e;rwa[aA ‹_› (bp _ _)]];rfl
structure E2(R:Ł Rw)(wi:Ő Ń->Ϙ)(l:Ł (Rw×Ő Ń))(n:Ń):ß where at':∀i p,l[i]?=O p->R[n+i]?=O p.1wi':∀m,n<=m->m<n+l.length->wi (O m)=qJ (O m) l n
section
variable{R:Ł Rw}{wi:Ő Ń->Ϙ}
def E2.left(a:E2 R wi (l++m) n)(h:∀j,n<=j->j<n+l.length->qJ (O j) m (n+l.length)=[]):E2 R wi l n:=(λi p e=>a.at' i p (by rw[bt (aw.mp e).1];rwa[e]),λj H b=>by rw[a.wi' j H (by rw[ai];lia),fW,h j H b,aK])
def E2.right(a:E2 R wi (l++m) n)(h:∀j,n+l.length<=j->qJ (O j) l n=[]):E2 R wi m (n+l.length):=(λi p e=>by let:=a.at' _ p (by rw[aI (bp _ _),jv];rwa[e]);rw[d7];rwa[this],λj H b=>by rw[a.wi' j (aA (bp _ _) ‹_›) (by rw[ai];lia),fW,h j H];rfl)
def E2.tail(a:E2 R wi ((r,o)::l) n)(b:QA o n):E2 R wi l (n+1):=(λi p e=>by rw[d7,Nat.add_comm 1 i];rwa[a.at' _ p e],λj h H=>by rw[a.wi' j (gH ‹_›) (by rw[aJ];lia),hU λz=>by let:=b j z;lia])
mutual
theorem X4:∀(t:Tr)(n:Ń)(o:Ő Ń),t.ok=J->QA o n->E2 R wi (rA t n o) n->E3 R wi t n
 |.lf r,n,o,h,b,a=>by delta rA at a;delta E3;rwa[a.at' 0 _ Ŗ]|.ii v x y,n,o,h,b,a=>by
  delta Tr.ok at h;delta rA at a;let H:QA (O n) (n+1):=λm e=>by cases e;rwa[aq _]
  let w:=a.wi' n (aq _) (by rw[aJ];lia);rw[hU λz=>by let:=b n z;rwa[Ă ‹_› (bU _)],fW,j7 x _ _ (ag h).1 H,cC,j7 y _ _ (ag h).2 λm e=>by cases e;rwa[bp _ _]]at w;let a1:=a.tail b;let l1:=a1.left λj c d=>by rw[cC]at d⊢;rwa[fD y _ _ _ (λz=>by cases z;rwa[Ă ‹_› (bU _)]) λm e=>by cases e;lia]
  let r1:=a1.right λj c=>fD x _ _ _ λz=>by cases z;lia (λm e=>by cases e;rw[cC]at c;lia);rw[cC]at r1;delta E3;exact(a.at' 0 _ Ŗ,w,mT x _ _ (ag h).1 H l1,mT y _ (O n) (ag h).2 (λm e=>by cases e;rwa[bp _ _]) r1)|.wh v x,n,o,h,b,a=>by
  delta Tr.ok at h;delta rA at a;let H:QA (O n) (n+1):=λm e=>by cases e;rwa[aq _]
  let w:=a.wi' n (aq _) (by rw[aJ];lia);rw[hU λz=>by let:=b n z;rwa[Ă ‹_› (bU _)],j7 x _ _ h H]at w;delta E3;exact(a.at' 0 _ Ŗ,w,mT x _ _ h H (a.tail b))|.tr x z y,n,o,h,b,a=>by
  delta Tr.ok at h;delta rA at a;let H:QA (O n) (n+1):=λm e=>by cases e;rwa[aq _]
  let w:=a.wi' n (aq _) (by rw[aJ];lia);rw[hU λz=>by let:=b n z;rwa[Ă ‹_› (bU _)],fW,j7 x _ _ (ag h).1 H,cC,j7 y _ _ (ag h).2 λm e=>by cases e;rwa[bp _ _]]at w;let a1:=a.tail b;let l1:=a1.left λj c d=>by rw[cC]at d⊢;rwa[fD y _ _ _ (λz=>by cases z;rwa[Ă ‹_› (bU _)]) λm e=>by cases e;lia]
  let r1:=a1.right λj c=>fD x _ _ _ λz=>by cases z;lia (λm e=>by cases e;rw[cC]at c;lia);rw[cC]at r1;delta E3;exact(a.at' 0 _ Ŗ,w,mT x _ _ (ag h).1 H l1,mT y _ (O n) (ag h).2 (λm e=>by cases e;rwa[bp _ _]) r1)theorem mT:∀(ts:Ł Tr)(n:Ń)(o:Ő Ń),pJ ts=J->QA o n->E2 R wi (j9 ts n o) n->Cb R wi ts n
 |[],n,o,h,b,a=>Ť|t::r,n,o,h,b,a=>by
  let h:(t.ok&&pJ r)=true:=h;delta j9 at a;let l1:=a.left λj c d=>by rw[kb]at d⊢;rwa[fD r _ _ _ (λz=>by let:=b j z;rwa[Ă ‹_› (Nat.not_lt_of_le ‹_›)]) λm e=>by cases e;lia]
  let r1:=a.right λj c=>Fo t _ _ _ λz=>by let:=b j z;lia (λm e=>by cases e;rw[kb]at c;lia);rw[kb]at r1;delta Cb;exact(X4 t n o (ag h).1 b l1,mT r _ o (ag h).2 (λm e=>by let:=b m e;rwa[aA ‹_› (bp _ _)]) r1)end
def wy(R:Ł Rw)(wi:Ő Ń->Ϙ):Ł Fn->Ń->ß|[],_=>æ|x::r,n=>(R[n]?=O (.df x.f)/\wi (O n)=je x.rs (n+1)/\Cb R wi x.rs (n+1))/\wy R wi r (n+1+fw x.rs)
theorem pT:∀(fs:Ł Fn)(n:Ń),out k n (pz fs)->qJ k (BS fs n) n=[]|[],n,u=>Ŗ|x::r,n,u=>by let u:out k n (1+fw _+pz r):=u;show qJ k (j9 _ _ _++BS r _) _=[];rw[fW,fD _ _ _ _ λz=>by let:=u n z.symm;lia λm e=>by let:=u m e;lia,cC,pT r _ λm e=>by let:=u m e;lia];rfl
theorem Ky:∀(fs:Ł Fn)(n:Ń),(∀x∈fs,pJ x.rs=J)->E2 R wi (BS fs n) n->wy R wi fs n
 |[],n,h,a=>Ť|x::r,n,h,a=>by
  let a:E2 R wi ((.df x.f,ao)::(j9 _ _ _++BS r _)) n:=a;let hx:=h x aL;let H:QA (O n) (n+1):=λm e=>()
  let w:=a.wi' n (aq _) (by rw[aJ];lia);rw[hU λz=>(),fW,j7 _ _ _ hx H,cC,pT r _ λm e=>(),aK]at w;let a1:=a.tail λm e=>()
  let r1:=a1.right λj b=>fD _ _ _ _ λz=>by lia (λm e=>by rw[cC]at b;lia);rw[cC]at r1;exact((a.at' 0 _ Ŗ,w,mT _ _ _ hx H (a1.left λj b c=>by rw[cC]at c⊢;rwa[pT r _ λm e=>()])),Ky r _ (λy d=>h y (aH _ d)) r1)
end
def Pg.wi(g:Pg)(k:Ő Ń):Ϙ:=qJ k g.fl 0
def Pg.at'{g:Pg}(h:∀x∈g.fs,pJ x.rs=J)(H:pJ g.rs):wy (g.fl.map (·.1)) g.wi g.fs 0/\Cb (g.fl.map (·.1)) g.wi g.rs (pz g.fs)/\g.wi ao=je g.rs (pz g.fs):=by let a:E2 (g.fl.map (·.1)) g.wi _ 0:=(λi p e=>nofun,λm _ _=>Ŗ);let r1:=a.right λj b=>pT _ _ (λm e=>by cases e;rw[iS]at b;lia);rw[iS,cP]at r1;erw[(Ky _ _ h (a.left λj b H=>by rw[iS,cP]at H⊢;rwa[fD _ _ _ _ (λz=>by cases z) λm e=>()]),mT _ _ _ H (λm e=>by cases e) r1,?_)];show qJ _ (BS _ 0++j9 _ _ _) 0=_;rw[fW,pT _ 0 (λm e=>by cases e),iS,cP,j7 _ _ _ H λm e=>by cases e];rfl
def RK{i:Ń}{o:Ú}{ks us:ϑ}{a:Pv->Es->Ő Es}{b:Ss}{N:En}{σ:Es}{h:Hs}(Jc:ϑ->ϑ->Es->Hs->ß)(g:Jc [] ks σ h)(d:∀pre post σ' h',Jc pre post σ' h'->h'[i]?=O (.F o ks us))(step:∀pre x post σ' h',ks=pre++x::post->Jc pre (x::post) σ' h'->match a x σ' with|O c=>b ((wv (oe i o ks us N)).lp (mD (Á h) (Jc (pre++[x]) post)) (mD (Á h) (oe i o ks us N).nx)) c h'|ao=>ŧ)(f:∀σ' h',Jc ks [] σ' h'->N.nx σ' (h'.set i (.C ks us))):RJ i o ks us a b N σ h:=by
 delta RJ;erw[(λj σ' h'=>Jc (ks.take j) (ks.drop j) σ' h',by done,λj σ' h' w=>d _ _ _ _ w,λj x σ' h' H w=>?_,λσ' h' w=>f σ' h' nofun)];let(l,e):=aw.mp H;let E:ks.drop j=x::ks.drop (j+1):=by rw[<-e,jM]
 let z:=step _ x _ σ' h' (rB H) (E▸w);rw[<-wX H]at z;rwa[z]
def uh{h':Hs}(H:∀Q:KP,Q [.p v] h->A N.xc σ h0 Q)(a:∀Q:KP,Q [.r i] h->B N.xc σ h Q)(b:∀Q:KP,Q [.p (.S z)] h->C N.xc σ h Q)(c:h[i]?=O (.C ks us))(f:om (.S z) ks=bb)(l:ks.length<=500000)(d:h.set i (.C (ks++[.S z]) (us++[v]))=h')(q:N.nx σ h'):oQ A B C N σ h0:=by erw[H _ (a _ (b _ ?_))];simp only[c];erw[bT (qN (cc.mpr (dQ ‹_› ⋯))) ?_];delta oJ oK;rw[f];simp only[d];rwa[q]
def cS{α:Type}(f:α->Pv)(l:Ł (Æ×α)):Ob:=.C (l.map λp=>.S p.1) (l.map λp=>f p.2)
theorem uK{α:Type}:∀{l:Ł (Æ×α)},z∉l.map (·.1)->om (.S z) (l.map λp=>Pv.S p.1)=bb|[],_=>Ŗ|p::r,h=>by rw[cq,aB,not_or]at h;show(cQ p.1 z||om _ _)=bb;rw[uK h.2,bq.mpr λe=>h.1 (bX.mp e).symm];rfl
theorem MM:∀{l:Ł _}{p:Æ×α},(l.map (·.1)).Nodup->p∈l->iZ p.1 l=O p.2
 |q::r,p,n,h=>by
  let(N,a):=cR.mp n;show(match cQ q.1 p.1 with|J=>O q.2|bb=>iZ p.1 r)=_;rcases aB.mp h with rfl|h;.rw[bX.mpr Ŗ]
  .rw[bq.mpr λe=>N (cB.mpr (p,h,(bX.mp e).symm))];rwa[MM a h]
def rm:Ł Fn->Ń->Ł (Æ×Ń)|[],_=>[]|x::r,n=>(x.f,n)::rm r (n+1+fw x.rs)
theorem tR:∀{fs:Ł Fn}{n:Ń},(rm fs n).map (·.1)=fs.map Fn.f|[],_=>Ŗ|x::r,n=>cb (x.f::·) tR
theorem lW:∀{l m:Ł _}{n:Ń},xm (l++m) n=xm l n++xm m (n+l.length)
 |[],m,n=>Ŗ|(r,o)::l,m,n=>by
  let e:n+1+l.length=n+(l.length+1):=()
  induction h:DJ r with
  |d=>induction r<;>first|(show _::xm (l++m) _=_::(xm l _++xm m (n+(l.length+1)));rw[lW,e])|cases h
  |e=>rw[List.cons_append,(sy (ws:=[]) h).2.1,(sy (ws:=[]) h).2.1,lW,e];rfl
mutual
theorem YX:∀(t:Tr)(n:Ń)(o:Ő Ń),t.ok=J->xm (rA t n o) n=[]
 |.lf r,n,o,h=>by delta Tr.ok at h;delta rA;cases r<;>first|rfl|cases h
 |.ii v a b,n,o,h=>by delta Tr.ok at h;delta rA;show xm (_++_) (n+1)=[];rw[lW,mY a _ _ (ag h).1,cC,mY b _ _ (ag h).2];rfl|.wh v a,n,o,h=>by delta Tr.ok at h;delta rA;rwa[mY a _ _ h]|.tr a z b,n,o,h=>by delta Tr.ok at h;delta rA;show xm (_++_) (n+1)=[];rw[lW,mY a _ _ (ag h).1,cC,mY b _ _ (ag h).2];rfl
theorem mY:∀(ts:Ł Tr)(n:Ń)(o:Ő Ń),pJ ts=J->xm (j9 ts n o) n=[]|[],n,o,h=>by delta j9;rfl|t::r,n,o,h=>by let h:(t.ok&&pJ r)=true:=h;delta j9;rw[lW,YX t _ _ (ag h).1,kb,mY r _ _ (ag h).2];rfl
end
theorem WB:∀(fs:Ł Fn)(n:Ń),(∀x∈fs,pJ x.rs=J)->xm (BS fs n) n=rm fs n|[],n,h=>Ŗ|x::r,n,h=>by show(x.f,n)::xm _ _=(x.f,n)::rm r _;rw[lW,mY _ _ _ (h x aL),cC,WB r _ λy H=>h y (aH _ H)];rfl
def Pg.acF{g:Pg}(h:∀x∈g.fs,pJ x.rs=J)(H:pJ g.rs):xm g.fl 0=rm g.fs 0:=by show xm (BS _ 0++j9 _ _ _) 0=_;rw[lW,WB _ _ h,iS,cP,mY _ _ _ H,aK]
def Iw:Ł Fn->Ń->Ly->Ł (Æ×Ő Ń)->Ly×Ł (Æ×Ő Ń)|[],_,S,st=>(S,st)|x::r,n,S,st=>Iw r (n+1+fw x.rs) (fS x.rs (n+1) ao ao S).1 (st++[(x.f,(fS x.rs (n+1) ao ao S).2)])
def A9:Ly:=([],[],[],[])
def Pg.lf(g:Pg):Ly×Ł (Æ×Ő Ń):=Iw g.fs 0 A9 []
def Pg.lr(g:Pg):Ly×Ő Ń:=fS g.rs (pz g.fs) ao ao g.lf.1
def Pg.st(g:Pg):Ł (Æ×Ő Ń):=g.lf.2++[(("":Æ),g.lr.2)]
def Pg.ws(g:Pg):Ws:=wn g.fl 0 []
def pb(g:Pg)(ws:Ws)(d st:Ob):Pb:=(g.fl.map (·.1),zc ws,yO ws.length 8,d,st,wH ws)
def Pg.VZ{st:Ob}:Qr (pb g g.ws d st) g.wi:=λk=>by
 let h:=Zw (o:=k) g.ws 8;let e:(Kc k g.ws).getD []=g.wi k:=by let:=EY (k:=k) g.fl 0 [];rwa[this]
 rw[e]at h;rwa[h]
theorem MA:∀{ws:Ws}{j:Ń},ws[j]?=O (o,l)->zc (ws.set j (o,L))=zc ws|p::r,0,h=>by cases h;rfl|p::r,j+1,h=>cb (_::·) (MA h)
def e_:wH (ws.set j (o,l))=(wH ws).set j (.L (l.map iP)):=by delta wH;rw[List.map_set]
theorem FL:∀{k off:Ń},yO (k+1) off=yO k off++[.r (k+off)]|0,off=>by show[Dv.r off]=[.r _];rw[cP]|k+1,off=>by show Dv.r off::yO _ _=Dv.r off::(yO k _++[.r _]);rw[FL,show k+(off+1)=k+1+off by lia]
def Kx{N:En}(H:h[i]?=O (.L xs))(l:xs.length<=500000)(a:∀Q:KP,Q [.p (iP n)] h->C N.xc σ h Q)(q:N.nx σ (h.set i (.L (xs++[iP n])))):gd (SJ DS.c h (.r i)) (vC C Jt N.xc σ h λds b=>DS.o (.r i) ds b λd e=>N.nx σ e):=by
 erw[bT ?_ (a _ ?_)];.show((lA h _).isSome||(ze h _).isSome)=J;rw[d_ H];rfl
 .show(match h[i]? with|O (.L xs)=>gd _ (N.nx σ _)|O (.D xs)=>gd _ (N.nx σ _)|_=>ŧ);rw[H];rwa[bT (qN (cc.mpr (dQ ‹_› ⋯))) q]
def aae{È:Ob}(f:∀Q:KP,Q [.r 1] (hJ (pb g ws D È) A9)->A N.xc σ (hJ (pb g ws D È) A9) Q)(i:∀Q:KP,Q [.p (fq o)] (hJ (pb g ws D È) A9)->B N.xc σ (hJ (pb g ws D È) A9) Q)(H:∀(h':Hs)(Q:KP),Q [.p (iP n)] h'->C N.xc σ h' Q)(v:ws.length<=100000)(k:∀p∈ws,p.2.length<=100000)(q:N.nx σ (hJ (pb g (rg o n ws) D È) A9)):zP (oi DS.c DS.o (Ii A B) (vC C Jt)) N σ (hJ (pb g ws D È) A9):=by
 erw[f _ (bT (by rfl) (i _ ?_))];let h:∃κ,j3 (fq o)=O κ:=by induction o<;>exact(_,Ŗ)
 let(κ,h):=h;erw[bu h (bu (x:=(zc ws,yO _ 8)) Ŗ ?_)];rcases ZD ws 8 with ⟨a,e⟩|⟨j,l,a,e,m⟩
 .rw[e]at q;rw[a];erw[bT (qN (cc.mpr (by delta zc;rw[af];rwa[dQ ‹_› ⋯]))) ?_];let d:(wH ws).length=ws.length:=af _;let lh:(hJ (pb g ws D È) A9).length=ws.length+8:=by show(wH ws).length+8=_;rw[d]
  let s:∀x,(List.set (hJ (pb g ws D È) A9++[Ob.L []]) 1 (Ob.E (zc ws++[fq o]) (yO ws.length 8++[Dv.r (ws.length+8)]))).set (ws.length+8) x=hJ (_,_,_,D,È,(wH ws++[Ob.L []]).set _ x) A9:=λx=>Ŗ;rw[lh];erw[Kx (xs:=[]) ?_ (by rwa[cw _]) (H _) ?_];.show(wH ws++[Ob.L []])[ws.length]?=_;rw[<-d,aI (aq _),eZ];rfl
  .rw[s];let b:(wH ws++[Ob.L []]).set ws.length (Ob.L ([]++[iP n]))=wH (ws++[(o,[n])]):=by delta wH;rw[<-af,List.set_append,bN (bU _),eZ,aN];rfl
   let t:zc ws++[fq o]=zc (ws++[(o,[n])]):=by delta zc;rw[aN];rfl
   rw[b,t,<-FL];let u:ws.length+1=(ws++[á o [n]]).length:=by rw[ai];rfl
   rw[u];rwa[q]
 .rw[m]at q;simp only[a];erw[Kx (xs:=l.map iP) ?_ ?_ (H _) ?_];.show(wH ws)[j]?=_;delta wH;rw[aR,e];rfl
  .rw[af];let:=k _ (aP e);rwa[aA ‹_› ⋯]
  .let b:(hJ (pb g ws D È) A9).set (j+8) (Ob.L (l.map iP++[iP n]))=hJ (pb g (ws.set j (o,l++[n])) D È) A9:=by show hJ (g.fl.map _,zc ws,yO _ 8,D,È,(wH ws).set j _) A9=hJ (_,_,_,D,È,_) A9;rw[MA e,e_,dJ,aN];rfl
   rw[b];rwa[q]
def Xw:Pv->Pv|.T [_,r,_]=>r|_=>.N
theorem GW:∀{l:Ł _}{n:Ń},(fV l n).map Xw=(l.map (·.1)).map Rw.p|[],_=>Ŗ|x::l,n=>cb _ GW
theorem E7:∀{ws:Ws},(rg o n ws).length<=ws.length+1/\∀m,(∀p∈ws,p.2.length<=m)->∀p∈rg o n ws,p.2.length<=m+1
 |[]=>(aq _,λm h p H=>by rw[aG.mp H];rwa[aQ _ _])|q::r=>by
  delta rg;split
  .erw[(⋯,λm h p H=>?_)];rcases aB.mp H with rfl|H;.simp only[ai];let:=h q aL;rwa[fO ‹_›]
   .let:=h p (aH _ H);rwa[aU ‹_›]
  .let(c,a):=E7 (o:=o) (n:=n) (ws:=r);erw[(nofun,λm h p H=>?_)];rcases aB.mp H with rfl|H;.let:=h p aL;rwa[aU ‹_›]
   .rwa[a m (λy b=>h y (aH _ b)) p H]
theorem Gi:∀(fs:Ł Fn)(n:Ń)(S:Ly)(st:Ł _),(Iw fs n S st).2.map (·.1)=st.map (·.1)++fs.map Fn.f|[],n,S,st=>(aK _).symm|x::r,n,S,st=>by show(Iw r _ _ _).2.map _=_;rw[Gi,aN,bL];rfl
theorem Wq:∀{k off m:Ń},k+off<=m->Qz m (yO k off)=J|0,_,_,_=>Ŗ|k+1,off,m,h=>by show(Đ _&&Qz m _)=J;rw[cA (),Wq ()];rfl
theorem Wr:∀{ws:Ws},bH m (wH ws)=J|[]=>Ŗ|p::r=>by show(J&&bH m (wH r))=J;rw[Wr];rfl
def Nl{st:Ob}:(hJ (pb g ws d st) S).length=ws.length+8:=by show(wH ws).length+8=_;delta wH;rw[af]
def aeG{st:Ob}(h:bO (ws.length+8) d)(H:bO (ws.length+8) st):bH (ws.length+8) (hJ (pb g ws d st) S)=true:=by show(J&&(Đ (1<ws.length+8)&&(Đ (2<ws.length+8)&&(Đ (3<ws.length+8)&&(Đ (4<ws.length+8)&&(Đ (5<ws.length+8)&&(Đ (6<ws.length+8)&&(Đ (7<ws.length+8)&&J)))))))&&(Qz _ (yO _ 8)&&(J&&(J&&(J&&(J&&(bO _ d&&(bO _ st&&bH _ (wH ws)))))))))=J;rw[Wq (aq _),h,H,Wr];rfl
inductive JA(g:Pg)(post:ϑ):Es->Hs->ß|mk{l:Ł (Rw×Ő Ń)}{n:Ń}{ws:Ws}{D:Ł (Æ×Ń)}{v2 v3 v4:Ő Dv}(e1:post=fV l n)(e2:wn l n ws=g.ws)(e3:D++xm l n=rm g.fs 0)(h1:ws.length<=n)(h2:∀p∈ws,p.2.length<=n)(h3:n+l.length<=100000):JA g post [O (.r 0),O (.p (.L (fV g.fl 0))),v2,v3,v4,ao] (hJ (pb g ws (cS iP D) (cS fq [])) A9)
theorem zg:∀fs:Ł Fn,fs.length<=pz fs|[]=>aq _|x::r=>by let:=zg r;show r.length+1<=1+fw _+pz r;lia
def ad7(N:(fs.map Fn.f).Nodup)(e:D++(z,n)::r=rm fs 0)(c:pz fs<=100000):z∉D.map (·.1)/\D.length<=100000:=by
 let:=tR (fs:=fs) (n:=0);rw[<-e,aN,cq]at this;erw[(λH=>?_,?_)];.rw[<-this]at N;exact(dF.mp N).2.2 z H z aL Ŗ
 .let h:=cb Á this;rw[ai,af,af]at h;rwa[aA (aA (bp _ _) (eI h)) (aA (zg fs) c)]
def OO{α:Type}{st:Ł (Æ×α)}(hn:st.map (·.1)++r=fs.map Fn.f)(c:pz fs<=100000):st.length<=100000:=by let h:=cb Á hn;rw[ai,af,af]at h;rwa[aA (aA (bp _ _) (eI h)) (aA (zg fs) c)]
def FE:(rm fs n).map (λp=>Pv.S p.1)=fs.map λx=>Pv.S x.f:=by
 let:(rm fs n).map (λp=>Pv.S p.1)=((rm fs n).map (·.1)).map Pv.S:=by rw[aV];rfl
 rw[this,tR,aV];rfl
def Rp:fT ((rm fs 0).map λp=>Pv.S p.1)=O (fs.map Fn.f):=by
 let:(fs.map λx=>Pv.S x.f)=(fs.map Fn.f).map Pv.S:=by rw[aV];rfl
 rw[FE,this];rwa[B7]
def Ro{st:Ob}:(hJ (pb g ws (cS iP D) st) S).set 6 (.C ((D.map λp=>Pv.S p.1)++[.S z]) ((D.map λp=>iP p.2)++[iP n]))=hJ (pb g ws (cS iP (D++[(z,n)])) st) S:=by delta cS;rw[aN,aN];rfl
def GR:(hJ (pb g ws d (cS fq D)) S).set 7 (.C ((D.map λp=>Pv.S p.1)++[.S z]) ((D.map λp=>fq p.2)++[fq n]))=hJ (pb g ws d (cS fq (D++[(z,n)]))) S:=by delta cS;rw[aN,aN];rfl
inductive JB(g:Pg)(ob:Ú)(post:ϑ):Es->Hs->ß|mk{rest:Ł Fn}{n:Ń}{S:Ly}{st:Ł (Æ×Ő Ń)}{v2 v3 v4 v5:Ő Dv}{m:Ń}{pr:Ł (Æ×Ń)}(e1:post=rest.map λx=>Pv.S x.f)(e2:Iw rest n S st=g.lf)(ha:wy (g.fl.map (·.1)) g.wi rest n)(hs:S.le m)(hz:m+3*pz rest<=3*pz g.fs)(hm:∀x∈rest,x∈g.fs)(hn:st.map (·.1)++rest.map Fn.f=g.fs.map Fn.f)(R4:rm g.fs 0=pr++rm rest n):JB g ob post [O (.r 0),O (.p (.L (fV g.fl 0))),v2,v3,v4,v5] (hJ (pb g g.ws (.F ob ((rm g.fs 0).map λp=>Pv.S p.1) ((rm g.fs 0).map λp=>iP p.2)) (cS fq st)) S)
def Yv{st:Ob}(h:L=ws.length+8)(H:bO (ws.length+8) d)(a:bO (ws.length+8) st)(q:R (QN L σ) (hJ (pb g ws d st) S)):mD L R σ (hJ (pb g ws d st) S):=by delta mD;rw[jO (by rw[Nl,h];rwa[aq _])];erw[bT ?_ q];rw[h];rwa[aeG H a]
inductive KN:Ct|mk{g:Pg}{Q:Dv->Hs->ß}{xc:XP}(ok:g.ok)(nd:(g.fs.map Fn.f).Nodup)(ne:∀x∈g.fs,x.f≠"")(q:Q (.p .N) (hJ (pb g g.ws (cS iP (rm g.fs 0)) (cS fq g.st)) g.lr.1)):KN [.r 0,.p (.L (fV g.fl 0))] [.I 3 []] Q xc
def Ja(Jc:Ń->Ct):Ń->Ct|3=>KN|400=>uC 8|401=>KL 8|n=>Jc n
section
variable{ca:Ń->À}{Jc:Ń->Ct}{W:Wd}{k:Ń}
seal oQ zP Oz oi in
def YH(B:LX ca (Ja Jc) W)(S:SX ca W)(Sr:n9 W.K (ca 3) "Paths.__init__" (cW (d0 97) 0) ["self","triples"])(w:W.mg "Paths"=O (.ref (ca 3)))(D:DI ca (Ja Jc) W 400 k):DI ca (Ja Jc) W 3 (k+2):=by erw[Lk.kK ["self","triples","number","row","around","name"] ["self","triples"] bb [] [400] B (.fC 3 0 (.Ft 3 [] (.many [0,1,2]) (.s 1) .no 1) 0<|>.fC 3 1 .Y3 0<|>.fC 3 2 .AU 0<|>.fC 3 3 .AU 0<|>.fC 3 4 .AU 0<|>.fC 3 5 .AU 0<|>.fC 3 6 .AU 0<|>.fC 3 7 .AU 0<|>.foT (.many [2,3,4]) (.p (.s 1)) (.one (.iff (.cmp kJ (.ix 3 (.i 0)) (.s "def")) (.one (.dput 2 (.fld 3 6 0) (.ix 3 (.i 1)))) (.one (.ex (.mt DS (.sdf (.fld 3 1 0) 4) (.u 2))))))<|>.foH (.one 5) (.fld 3 6 0) (.one (.dput (.me 400 0 (.u3 (.dg2 (.fld 3 1 0) (.qK (.fld 3 6 0) 5) (.lst .nil)) (.g 0) (.g 0))) (.fld 3 7 0) 5))<|>.one (.dput (.me 400 0 (.u3 (.dg2 (.fld 3 1 0) (.g 0) (.lst .nil)) (.g 0) (.g 0))) (.fld 3 7 0) (.g 9))) Sr w rfl Ť (D,Ť) λds h Q xc c=>?_];cases c with|@mk g Q xc ok N ne q=>
  let(o1,X,o3,G):=mS ok;let o3:=eB o3;let G:=aj G;let C:∀x∈g.fs,pJ x.rs=true:=λx w=>(ag (aS.mp o1 x w)).1;let(Y,Z,at3):=Pg.at' C X;let edf:=Pg.acF C X;let ln:g.fl.length=pz g.fs+fw g.rs:=by delta Pg.fl;rw[ai,iS,cC]
  let cz:pz g.fs<=100000:=aA (bp _ _) G;erw[(Ŗ,fh Xw Ŗ (λy H=>?_) ?_)];.let(m,r,o,rfl):=zY H;rwa[λR q=>q]
  rw[GW];erw[FQ (fV g.fl 0) (λ_=>JA g) (.mk (ws:=[]) (D:=[]) (v2:=ao) (v3:=ao) (v4:=ao) rfl rfl edf (aq 0) (λp A=>nomatch A) (by rw[ln,cP];rwa[G])) (λ_ _ _ _ _=>Ŗ) (λpre x post a I ex j=>?_) λa I j=>?_]
  .induction j with|@mk l n ws D v2 v3 v4 b e E h1 M P=>cases l with|f=>cases b|g y l=>let(r,o):=y;cases b;rw[aJ]at P;cases hd:DJ r with|d=>
    cases r<;>first|cases hd;all_goals fail|skip
    ext z;let E:D++(z,n)::xm l (n+1)=rm g.fs 0:=E;let(hD,hL):=ad7 N E cz;erw[uh (z:=z) (v:=iP n) (h:=hJ (pb g ws (cS iP D) (cS fq [])) A9) (i:=6) (λ_ q=>q) (λ_ q=>q) (λ_ q=>q) rfl (uK hD) (by rw[af];rwa[aA ‹_› ∅]) Ro ?_];rwa[.mk rfl e (by rw[bL];rwa[E]) (aU ‹_›) (λp A=>aU (M p A)) (by rw[Ai];rwa[P])]|e=>let(w1,w2,_):=sy (o:=o) (l:=l) (n:=n) (ws:=ws) hd;rw[w1]at e;rw[w2]at E;let(a1,a2):=E7 (o:=o) (n:=n) (ws:=ws);let fin:JA g (fV l (n+1)) [O (.r 0),O (.p (.L (fV g.fl 0))),O (.p (iP n)),O (.p r.p),O (.p (fq o)),ao] (hJ (pb g (rg o n ws) (cS iP D) (cS fq [])) A9):=.mk rfl e E () (a2 n M) (by rw[Ai];rwa[P]);induction r<;>first|rwa[ą hd]|rwa[aae (ws:=ws) (o:=o) (n:=n) (λ_ q=>q) (λ_ q=>q) (λ_ _ q=>q) () λp A=>by let:=M p A;lia fin]
  .induction j with|@mk l n ws D v2 v3 v4 b e E h1 M P=>induction l with|g y l=>cases b|f=>
   let e:ws=g.ws:=e;subst e;let E:D++[]=rm g.fs 0:=E;rw[aK]at E;subst E;let ndf:((rm g.fs 0).map (·.1)).Nodup:=by rw[tR];rwa[N]
   erw[bu Rp λob=>RK (λ_=>JB g ob) (.mk (pr:=[]) (m:=0) FE rfl Y (aq _,aq _,aq _,aq _) (eI (cP _)) (λ_ h=>h) rfl rfl) (λpre post a I j=>?_) (λpre x post a I ex j=>?_) λa I j=>?_];.induction j with|mk=>rfl
   .induction j with|@mk t n S st v2 v3 v4 v5 m pr b e T U d hm hn R4=>cases t with|f=>cases b|g x t=>
    cases b;let T:(_/\_/\_)/\_:=T;obtain⟨⟨_,ha1,ha2⟩,ha3⟩:=T;let d:m+3*(1+fw x.rs+pz t)<=3*pz g.fs:=d;let(p1,p2):=ag (aS.mp o1 x (hm x aL));let p2:=eB p2;let A7:=gQ x.rs (n+1) ao ao S m U;let w:iZ x.f (rm g.fs 0)=O n:=MM (p:=(x.f,n)) ndf (by rw[R4];rwa[bG _ aL]);let wB:x.f∉st.map (·.1):=λd=>by rw[<-hn,cq]at N;exact(dF.mp N).2.2 _ d _ aL Ŗ
    let hsl:=OO hn cz;let e:Iw t (n+1+fw x.rs) (fS x.rs (n+1) ao ao S).1 (st++[(x.f,(fS x.rs (n+1) ao ao S).2)])=g.lf:=e;generalize A:fS x.rs (n+1) ao ao S=p at A7 e;erw[uh (z:=x.f) (v:=fq p.2) (h:=hJ (pb g g.ws (.F ob ((rm g.fs 0).map λp=>Pv.S p.1) ((rm g.fs 0).map λp=>iP p.2)) (cS fq st)) p.1) (i:=7) (λQ q=>?_) (λ_ q=>q) (λ_ q=>q) rfl (uK wB) (by rw[af];rwa[aA ‹_› ∅]) GR ?_];.erw[bT (by rfl) ?_];erw[AQ (k:=O n) Pg.VZ (λ_ q=>q) (λ_ q=>bu (qf w) q) (λ_ q=>q) λy H=>?_];rw[ha1]at H;rwa[uC.mk (o:=ao) (c:=ao) Pg.VZ ha2 p1 p2 H U () (by rw[A];rwa[q])]
    .erw[Yv ?_ Ŗ Ŗ (.mk (pr:=pr++[(x.f,n)]) rfl e ha3 A7 () (λy H=>hm y (aH _ H)) ?_ ?_)];.rwa[Nl]
     .rw[aN,bL];rwa[hn]
     .rw[bL];rwa[R4]
   .induction j with|@mk t n S st v2 v3 v4 v5 m pr b e T U d hm hn R4=>induction t with|g x t=>cases b|f=>
    let e:(S,st)=g.lf:=e;let wB:("":Æ)∉st.map (·.1):=λd=>by rw[List.map_nil,aK]at hn;rw[hn]at d;let(x,w,he):=cB.mp d;rwa[ne x w he]
    let hsl:=OO hn cz;delta Pg.st Pg.lr at q;rw[<-e]at q;show oQ _ _ _ _ _ (hJ (pb g g.ws (cS iP (rm g.fs 0)) (cS fq st)) S);erw[uh (z:="") (v:=fq (fS g.rs (pz g.fs) ao ao S).2) (h:=hJ (pb g g.ws (cS iP (rm g.fs 0)) (cS fq st)) (fS g.rs (pz g.fs) ao ao S).1) (i:=7) (λQ q=>?_) (λ_ q=>q) (λ_ q=>q) rfl (uK wB) (by rw[af];rwa[aA ‹_› ∅]) GR q];erw[bT (by rfl) ?_];erw[AQ (k:=ao) Pg.VZ (λ_ q=>q) (λ_ q=>q) (λ_ q=>q) λy H=>?_];rw[at3]at H;rwa[uC.mk (o:=ao) (c:=ao) Pg.VZ Z X o3 H U () q]
def Yr:ϑ->Ń->ϑ|[],_=>[]|_::r,n=>iP n::Yr r (n+1)
def NX(xs:ϑ):Pv:=.dct xs (Yr xs 0)
theorem KY:∀{l:ϐ}{n:Ń},Yr (l.map .S) n=io l n|[],_=>Ŗ|_::_,_=>cb _ KY
def NY:NX (l.map .S)=j4 l:=by delta NX j4;rw[KY]
def Y9:Pv->Pv|.T [a,.T ps,.T os,_]=>.T [a,NX (ps++os)]|_=>.N
def lv(ns:Ł Nm):Pv:=.T (ns.map nP)
def nv:Ő (Ł (Æ×Ł Nm))->Pv|ao=>.N|O w=>.wld (w.map λp=>.T [.S p.1,lv p.2])
def Pg.ow(g:Pg):Ł (Æ×ϐ):=(g.fs.map λx=>(x.f,x.ps++x.os))++[(("":Æ),[])]
def Pg.pn(g:Pg)(s:ϐ)(wd:Ł (Æ×Ł Nm)):Pn where bs:=g.bs.map (·.1);ls:=g.ls.map (·.1);ds:=s;ow:=g.ow;wd:=wd;rw:=g.fl.map (·.1);wi:=.dct (zc g.ws) (g.ws.map λp=>.L (p.2.map iP));bh:=g.lr.1.bh;fs:=g.lr.1.fs;sc:=g.lr.1.sc;ct:=g.lr.1.ct;df:=rm g.fs 0;st:=g.st
theorem LG:∀{ws:Ws}{off:Ń},(∀i,h[i+off]?=(wH ws)[i]?)->oy (o8 h 0 (n+1)) (yO ws.length off)=O (ws.map λp=>.L (p.2.map iP))
 |[],off,_=>Ŗ|p::r,off,H=>by
  let a:=H 0;rw[cP]at a;let e:o8 h 0 (n+1) (.r off)=O (.L (p.2.map iP)):=by rw[o8,a];rfl
  show oy _ (.r off::yO _ _)=_;rw[oy,e,LG λi=>by let:=H (i+1);rw[show i+(off+1)=i+1+off by lia];rwa[this]];rfl
def mc(h:f d=O x)(H:oy f r=O xs):oy f (d::r)=O (x::xs):=by rw[oy,h,H]
def Zg:o8 (hJ (pb g g.ws (cS iP (rm g.fs 0)) (cS fq g.st)) g.lr.1) 0 6 (.r 0)=O (g.pn s w).pa:=by rwa[cb (ê _) (mc (f:=o8 _ 0 5) (d:=.p _) Ŗ (mc (by show ê (Pv.dct (zc _)) (oy _ (yO _ 8))=_;rw[LG (h:=hJ (pb g g.ws (cS iP (rm g.fs 0)) (cS fq g.st)) g.lr.1) (n:=3) (off:=8) λi=>Ŗ];rfl) (mc (d:=.r 2) Ŗ (mc (d:=.r 3) Ŗ (mc (d:=.r 4) Ŗ (mc (d:=.r 5) Ŗ (mc (d:=.r 6) Ŗ (mc (d:=.r 7) (r:=[]) Ŗ Ŗ))))))))]
structure GdM(g:Pg):ß where
 ok:g.ok=J
 nd:(g.fs.map Fn.f).Nodup
 ne:∀x∈g.fs,x.f≠""nb:(g.bs.map (·.1)).Nodup
 nl:(g.ls.map (·.1)).Nodup
 lb:g.bs.length<=100ll:g.ls.length<=100lf:g.fs.length<=90no:∀x∈g.fs,(x.ps++x.os).Nodup/\(x.ps++x.os).length<=50dr:(dW (HW g.fl)).length<=63
def VY(w:Ő (Ł (Æ×Ł Nm))):Ł (Æ×Ł Nm):=w.getD []
def nH(w:Ő (Ł (Æ×Ł Nm))):ß:=((VY w).map (·.1)).Nodup/\(VY w).length<=100
def tT(g:Pg):Ob:=.C (g.ow.map λp=>.S p.1) (g.ow.map λp=>j4 p.2)
def Pg.ol(g:Pg):Ł (Æ×Pv):=g.fs.map λx=>(x.f,j4 (x.ps++x.os))
def olO(g:Pg):Ob:=.C (g.ol.map λp=>.S p.1) (g.ol.map λp=>p.2)
def C8(g:Pg)(o:Ob):Hs:=[.I 2 [.p (j4 (g.bs.map (·.1))),.p (j4 (g.ls.map (·.1))),.r 1],o]
inductive QI:Ct|mk{g:Pg}{w:Ő (Ł (Æ×Ł Nm))}{Q:Dv->Hs->ß}{xc:XP}(G:GdM g)(hw:nH w)(q:∀ss:ϐ,ss.Perm (dW (HW g.fl))->Q (.p .N) [.I 2 [.p (j4 (g.bs.map (·.1))),.p (j4 (g.ls.map (·.1))),.r 1,.p (j4 ss),.p (Rm lv (VY w)),.p (g.pn ss (VY w)).pa],tT g]):QI [.r 0,.p g.p,.p (nv w)] [.I 2 []] Q xc
def Jp(Jc:Ń->Ct):Ń->Ct|2=>QI|3=>KN|n=>Jc n
def Tk(g:Pg)(s:ϐ):Hs:=[.I 2 [.p (j4 (g.bs.map (·.1))),.p (j4 (g.ls.map (·.1))),.r 1,.p (j4 s)],tT g]
def ZJ(h:nH w)(q:Q' [.p (Rm lv (VY w))] (Tk g s)):UW (s1 (Nd bb) (sV 2)) OA (sN WE.o (vC (sV 2) Jt)) x [O (.r 0),O (.p g.p),O (.p (nv w))] (Tk g s) Q':=by induction w with|a=>rwa[q]|c d=>
  let e:(d.map λp=>Pv.T [.S p.1,lv p.2])=(d.map λp=>á p.1 (lv p.2)).map λp=>.T [.S p.1,p.2]:=by rw[aV];rfl
  let E:(d.map λp=>á p.1 (lv p.2)).map (·.1)=d.map (·.1):=by rw[aV];rfl
  show fH _ _ _;rw[e];erw[bu qp (bT (cc.mpr (by rw[af,af];rwa[h.2])) ?_)];rw[la _ _ _ (λ_ _=>Ŗ) (by rw[E];rwa[h.1])];simp only[aV,aV];rwa[q]
seal oQ UW in
def YJ(B:LX ca (Jp Jc) W)(S:SX ca W)(r:n9 W.K (ca 2) "Plan.__init__" (cW (d0 96) 0) ["self","program","world"])(H:W.mg "Plan"=O (.ref (ca 2)))(h:13<=k)(D:DI ca (Jp Jc) W 3 k):DI ca (Jp Jc) W 2 (k+2):=by let R:=xk B S;erw[Lk.kK ["self","program","world"] ["self","program","world"] bb [(34,Yn),(5,oX),(6,CA),(3,Yi),(1,Hr)] [3] B (.fC 2 0 (.cl 34 [] (.u (.cl 5 [] (.u (.ix 1 (.i 0)))))) 0<|>.fC 2 1 (.cl 34 [] (.u (.cl 5 [] (.u (.ix 1 (.i 1)))))) 0<|>.fC 2 2 (.bi acR (.u (.Ft 1 [] (.one 0) (.s (.ix 1 (.i 2))) .no (.tup (.u2 (.ix 0 (.i 0)) (.cl 34 [] (.u (.cl 6 [] (.u 0))))))))) 0<|>.dput .FG (.fld 2 2 0) (.g 9)<|>.fC 2 3 (.cl 34 [] (.u (.cl 3 [] (.u 1)))) 0<|>.fC 2 4 (.L0 (.R8 bb 2) .FG (.bi WE (.u 2))) 0<|>.one (.fC 2 5 (.mE (.m_ 3 (.u (.cl 1 [] (.u 1))))) 0)) r H rfl ((Lb B S).le (),(jD B S).le (),(mX B S).le (),(Q4 B S R).le (aU ‹_›),R.le (),Ť) (D,Ť) λds h Q X c=>?_];induction c with|@mk g w Q X G m q=>
  let n:(g.bs.map Wu).map Dq=(g.bs.map (·.1)).map .S:=by rw[aV,aV];rfl
  let o:(g.ls.map WW).map Dq=(g.ls.map (·.1)).map .S:=by rw[aV,aV];rfl
  let t:(g.fs.map Fn.p).map Y9=g.ol.map λp=>.T [.S p.1,p.2]:=by delta Pg.ol;rw[aV,aV];erw[mH λx _=>?_];show Pv.T [.S x.f,NX (x.ps.map .S++x.os.map .S)]=Pv.T [.S x.f,j4 (x.ps++x.os)];rw[<-aN,NY]
  let b:g.ol.map (·.1)=g.fs.map Fn.f:=by delta Pg.ol;rw[aV];rfl
  let d:g.ol.length=g.fs.length:=by delta Pg.ol;rw[af]
  erw[(Ŗ,.mk λx H=>by let(y,_,rfl):=cB.mp H;rfl ?_)];rw[n];erw[.mk G.nb (by rw[af];rwa[G.lb]) ?_];erw[oX.mk λx H=>by let(y,_,rfl):=cB.mp H;rfl ?_];rw[o];erw[.mk G.nl (by rw[af];rwa[G.ll]) ?_];erw[fh Y9 Ŗ (λy A=>?_) ?_]
  .let(x,H,rfl):=cB.mp A;intro R q;erw[.mk (aA (G.no x H).2 ∅) (.mk (G.no x H).1 (aA (G.no x H).2 ∅) ?_)];let e:Y9 x.p=.T [.S x.f,j4 (x.ps++x.os)]:=by show Pv.T [.S x.f,NX (x.ps.map .S++x.os.map .S)]=_;rw[<-aN,NY]
   rw[e]at q;rwa[q]
  rw[t];erw[bu qp (bT (cc.mpr (by rw[af,d];let:=G.lf;rwa[aA ‹_› ∅])) ?_)];rw[la _ _ _ (λ_ _=>Ŗ) (by rw[b];rwa[G.nd])];erw[uh (z:="") (v:=j4 []) (i:=1) (h:=C8 g (olO g)) (h':=C8 g (tT g)) (λ_ q=>q) (λ_ q=>q) (λ_ q=>q) rfl ?_ ?_ ?_ ?_];.erw[uK λj=>?_];rw[b]at j;let(x,H,C):=cB.mp j;rwa[G.ne x H C]
  .rw[af,d];let:=G.lf;rwa[aA ‹_› ∅]
  .delta tT Pg.ow;delta C8 Pg.ol;rw[aN,aN,aV,aV,aV,aV];rfl
  rwa[.mk G.ok G.dr λl a=>.mk (a.symm.nodup (nh _).1) (by rw[a.length_eq];let:=G.dr;rwa[aA ‹_› ⋯]) (ZJ m (.mk G.ok (KN.mk G.ok G.nd G.ne (bu (x:=.p (g.pn l (VY w)).pa) ((RO).trans (cb _ Zg)) (bT Ŗ (q l a))))))]
end
theorem MN{v:α}:∀{l:Ł _},z∉l.map (·.1)->iZ z (l++[(z,v)])=O v|[],_=>by show(match cQ z z with|J=>O v|bb=>ao)=_;rw[bX.mpr Ŗ]|p::r,h=>by rw[cq,aB,not_or]at h;show(match cQ p.1 z with|J=>O p.2|bb=>iZ z _)=_;rw[bq.mpr λe=>h.1 (bX.mp e).symm];rwa[MN h.2]
def afA(G:GdM g):iZ "" g.st=O g.lr.2:=by erw[MN λh=>?_];simp only[Pg.lf,Gi]at h;let(x,H,e):=cB.mp h;rwa[G.ne x H e]
def Pg.w0(g:Pg)(s:ϐ)(w:Ő (Ł (Æ×Ł Nm))):Wk:=Ũ g (g.pn s (VY w)) g.lr.2
inductive QH:Ct|mk{g:Pg}{w:Ő (Ł (Æ×Ł Nm))}{Q:Dv->Hs->ß}{xc:XP}(G:GdM g)(hw:nH w)(q:∀ss:ϐ,ss.Perm (dW (HW g.fl))->Q (.p .N) [.I 4 [.p (g.pn ss (VY w)).p,.p (g.w0 ss w).p]]):QH [.r 0,.p g.p,.p (nv w)] [.I 4 []] Q xc
inductive QJ:Ct|mk{a b c d:Pv}{Q:Dv->Hs->ß}{xc:XP}(q:Q (.p .N) [.I 5 [.p a,.p b,.p c,.p d]]):QJ [.r 0,.p a,.p b,.p c,.p d] [.I 5 []] Q xc
def Jm:Ń->Ct|5=>QJ|2=>QI|3=>KN|4=>QH|84=>λds h Q x=>QH (ds++[.p .N]) h Q x|400=>uC 8|_=>KL 8
def YI(B:LX ca Jm W)(S:SX ca W)(r:Ck W.K (ca 4) "Machine.__init__" (cW (d0 101) 0) ["self","program","world"] [.none])(x:W.mg "Machine"=O (.ref (ca 4)))(h:4<=k)(D:DI ca Jm W 2 k):DI ca Jm W 4 (k+2)/\DI ca Jm W 84 (k+2):=by erw[Lk.aiH (dd:=[.p .N]) (dvs:=[.g9]) (fn:=vR [(35,QE)]) (fok:=[35]) (iok:=[2]) ["self","program","world"] _ bb B (.fC 4 0 (.mE (.m_ 2 (.u2 1 2))) 0<|>.one (.fC 4 1 (.cl 35 [] (.u2 1 (.fld 4 0 0))) 0)) r x (ko Ŗ) rfl ((wq B S (Lf B S)).le (aU ‹_›),Ť) (D,Ť) (λds h Q X c=>?_) rfl rfl rfl rfl rfl (.cons Ŗ .nil) (λ_ _ _=>(Ŗ,Ť)) λ_ _ _ _ c=>c];induction c with|@mk g w Q X G a q=>
  erw[(Ŗ,QI.mk G a λs H=>?_)];let l:s.length<=100:=by rw[H.length_eq];let:=G.dr;rwa[aA ‹_› ⋯]
  rwa[QE.mk (P:=g.pn s (VY w)) l (afA G) (q s H)]
def JH(n:Î):Þ:=qM 0 n&&BW n 2147483629
def Ez:JH n=J↔0<=n/\n<2147483629:=by delta JH;rw[aE,eD,fF]
inductive Fh:Ct|mk{xs:ϑ}{k:Ń}{Q:Dv->Hs->ß}{xc:XP}(h:xs.all isInt)(q:∀i:Î,Q (.p (.I i)) []):Fh [.p (.scr xs),.p (iP k)] [] Q xc
inductive yn:Ct|mk{a b:Î}{Q:Dv->Hs->ß}{xc:XP}(q:∀n:Î,JH n=J->Q (.r 0) [.L [.I n]]):yn [.p (.I a),.p (.I b)] [] Q xc
inductive rh:Ct|mx{n x:Î}{m:Ń}{Q:Dv->Hs->ß}{xc:XP}(hx:x=(m:Ń))(h:JH n)(h1:1<=m)(h2:m<=1000000)(q:∀(n':Î)(k:Ń),JH n'=J->k<m->Q (.p (.I (k:Ń))) [.L [.I n']]):rh [.r 0,.p (.I x)] [.L [.I n]] Q xc
def rh.mk(h:JH n)(H:1<=m)(a:m<=1000000)(q:∀(N:Î)(k:Ń),JH N=J->k<m->Q (.p (.I k)) [.L [.I N]]):rh [.r 0,.p (.I m)] [.L [.I n]] Q xc:=.mx Ŗ h H a q
def Sc(h:iy i):ym i j=true:=by delta ym;rw[h,B0]
def h_(h:0<=j)(H:j<2147483647):ym i j=true:=by delta ym iy;rw[aZ ()];rfl
def Ξ(e:vA 0 m=pre++x::post):x=.I pre.length/\pre.length<m:=by
 let h:(vA 0 m)[pre.length]?=O x:=by rw[e,aI (aq _),eZ];rfl
 delta vA at h;rw[aR]at h;let(i,a,c):=mp h;let(H,b):=aw.mp a;rw[Ah]at b;rw[eN]at H;exact(nofun,H)
section
variable{ca:Ń->À}{Jc:Ń->Ct}{W:Wd}{k:Ń}
def HG(B:LX ca Jc W)(S:SX ca W):DX ca Jc W 42 2 Fh:=by erw[B.e 2 J [] [] (.iff (.cmp j2 1 (.bi gC (.u 0))) (.re (.ix 0 1)) .nil<|>.re (.i 0)) S.wJ rfl Ť Ť λds h Q a c=>?_];induction c with|@mk X k Q a h q=>
  erw[(Ŗ,sf (λc=>?_) λ_=>q 0)];let c:k<X.length:=by let:=fF.mp c;lia
  let e:=av c;let hi:=aS.mp h _ (kL c);generalize X[k]=x at e hi;cases x<;>first|rwa[ą hi]|rwa[bu e (q _)]
def La(B:LX ca Jc W)(S:SX ca W):DX ca Jc W 43 2 yn:=by erw[B.e 3 bb [] [] (.set 2 (.b2 we (.b2 yi (.b2 gf (.b2 gf 0 (.b2 yi (.i 7919) 1)) (.i 1)) (.i 48271)) (.i 2147483647))<|>.re (.lsm (.u (.b2 we (.b2 gf (.b2 gf (.b2 yi 2 2) (.b2 yi (.i 7) 2)) 1) (.i 2147483629))))) S.Br rfl Ť Ť λds h Q x c=>?_];induction c with|@mk a b Q x q=>exact(Ŗ,bT (Sc Ŗ) (bT (h_ (tH _ ∅) (nW _ ⋯)) (bT (Sc Ŗ) (q _ (Ez.mpr (tH _ ∅,nW _ ⋯))))))
def mW(B:LX ca Jc W)(S:SX ca W):DX ca Jc W 44 2 rh:=by erw[B.e 3 J [] [] (.put (.b2 we (.b2 gf (.b2 yi (.ix 0 (.i 0)) (.i 69621)) (.i 11)) (.i 2147483629)) 0 (.i 0)<|>.set 2 (.b2 we (.b2 yi (.ix 0 (.i 0)) (.ix 0 (.i 0))) (.i 2147483587))<|>.re (.b2 we (.b2 Qu 2 (.i 7)) 1)) S.Ed rfl Ť Ť λds h Q X c=>?_];induction c with|@mx v x m Q X a b d f q=>subst a;let H:JH ((v*69621+11)%2147483629)=true:=Ez.mpr (tH _ ∅,nW _ ⋯);let(g,G):=Ez.mp H;erw[(Ŗ,bT (h_ g ()) (bT (cA (show(0:Î)<m by lia)) ?_))];let k1:(v*69621+11)%2147483629*((v*69621+11)%2147483629)%2147483587/7%m<m:=nW _ ();let q:=q _ ((v*69621+11)%2147483629*((v*69621+11)%2147483629)%2147483587/7%m).toNat H ();rw[Ŷ (tH _ ())]at q;rwa[q]
def aj1:Pv->Þ|.S z=>ub "a" z&&ub z "z"|_=>bb
def zr(z:Æ):Þ:=Ë 1 z.length&&(Ë z.length 6&&(Jw z).all aj1)
def DD(z:Æ)(l:ϐ):Þ:=zr z&&(Kb (.S z) (l.map .S)&&uS (l.map .S))
def lI(bs l:ϐ):Ń->Vx->Þ|0,_=>bb|_+1,.n _=>J|_+1,.b z=>DD z bs|_+1,.s z=>DD z l|d+1,.i z v=>DD z l&&lI bs l d v|d+1,.t v=>lI bs l d v|d+1,.o _ x y=>lI bs l d x&&lI bs l d y
inductive ö(bs ls:ϐ)(d:Ń):Pv->ß|n{m:Nm}:ö bs ls d (.T [.S "number",nP m])|b{z:Æ}(h:DD z bs):ö bs ls d (.T [.S "box",.S z])|l{z:Æ}(h:DD z ls):ö bs ls d (.T [.S "list",.S z])|v{v:Vx}(h:lI bs ls d v):ö bs ls d (.T [.S "value",v.p])
inductive VP(bs ls:ϐ)(d:Ń):Pv->ß|mk{w:Æ}{ks:ϐ}{r:ϑ}(e:iZ w PB=O ks)(l:r.length=ks.length)(h:∀y∈Ac (ks.map .S) r,ö bs ls d y):VP bs ls d (.T (.S w::r))
def pj{α:Type}{P:α->ß}{x:α}(h:P x):∀y ∈[x],P y:=λy H=>by rw[aG.mp H];rwa[h]
def db{α:Type}{P:α->ß}{x z:α}(h:P x)(k:P z):∀y ∈[x,z],P y:=λy H=>(aB.mp H).elim (λe=>by rw[e];rwa[h]) λe=>by rw[aG.mp e];rwa[k]
def VP.of(h:lI bs L (d+1) v):VP bs L d v.p:=by cases v with|n m=>rwa[.mk (ks:=["number"]) (by rfl) Ŗ (pj .n)]|b z=>rwa[.mk (ks:=["box"]) (by rfl) Ŗ (pj (.b h))]|s z=>rwa[.mk (ks:=["list"]) (by rfl) Ŗ (pj (.l h))]|i z v=>rwa[.mk (ks:=["list","value"]) (by rfl) Ŗ (db (.l (ag h).1) (.v (ag h).2))]|t v=>rwa[.mk (ks:=["value"]) (by rfl) Ŗ (pj (.v h))]|o k x y=>rwa[.mk (w:=k.w) (ks:=["value","value"]) (by cases k<;>rfl) Ŗ (db (.v (ag h).1) (.v (ag h).2))]
inductive cT(f:Pv->ß):Ct|mk{x:Pv}{Q:Dv->Hs->ß}{xc:XP}(h:f x)(q:Q (.p (.B J)) []):cT f [.p x] [] Q xc
inductive Ć:Pv->ß|mk{w:Æ}{r:ϑ}:Ć (.T (.S w::r))
inductive Wl:Pv->ß|mk{z:Æ}(h:zr z):Wl (.S z)
inductive ù:Pv->ß|mk{n:Nm}:ù (nP n)
inductive đ:Ct|mk{w:Æ}{ks:ϐ}{Q:Dv->Hs->ß}{xc:XP}(e:iZ w PB=O ks)(q:Q (.p (.T (ks.map .S))) []):đ [.p (.S w)] [] Q xc
inductive ě:Ct|mk{w:Æ}{ks:ϐ}{Q:Dv->Hs->ß}{xc:XP}(e:iZ w Ow=O ks)(q:Q (.p (.T (ks.map .S))) []):ě [.p (.S w)] [] Q xc
inductive ò(d:Ń):Ct|mk{bs ls:ϐ}{v:Vx}{Q:Dv->Hs->ß}{xc:XP}(h:lI bs ls d v)(q:Q (.p (.B J)) []):ò d [.p v.p,.p (.L (bs.map .S)),.p (.L (ls.map .S)),.p (iP d)] [] Q xc
inductive ď(d:Ń):Ct|mk{bs ls:ϐ}{k p:Pv}{i:Î}{Q:Dv->Hs->ß}{xc:XP}(hi:i=(d:Ń))(h:ö bs ls d (.T [k,p]))(q:Q (.p (.B J)) []):ď d [.p k,.p p,.p (.L (bs.map .S)),.p (.L (ls.map .S)),.p (.I i)] [] Q xc
inductive ĕ:Ct|mk{bs ls:ϐ}{v:Vx}{Q:Dv->Hs->ß}{xc:XP}(h:lI bs ls 4 v)(q:Q (.p (.B J)) []):ĕ [.p v.p,.p (.L (bs.map .S)),.p (.L (ls.map .S))] [] Q xc
def j6{α:Type}{xs:Ł α}:xs.all (λ_=>J)=true:=aS.mpr λ_ _=>Ŗ
def uI(B:LX ca Jc W)(S:SX ca W):DX ca Jc W 55 2 (cT Ć):=by erw[B.e 1 J [] [] (.re (.bo (Bm.ac (.bi rq (.u2 0 (.ty 3))) (Bm.ac (.cmp PZ (.bi gC (.u 0)) (.i 0)) (Bm.a1 (.bi rq (.u2 (.ix 0 (.i 0)) (.ty 0)))))))) S.Je rfl Ť Ť λds h Q X c=>?_];induction c with|@mk x Q X h q=>induction h with|mk=>exact(Ŗ,q)
def wt(B:LX ca Jc W)(S:SX ca W):DX ca Jc W 56 2 đ:=by erw[B.e 1 J [] [] (.re (.tg 1 0)) S.zK rfl Ť Ť λds h Q x c=>?_];induction c with|mk e q=>exact(Ŗ,bu e q)
def AN(B:LX ca Jc W)(S:SX ca W):DX ca Jc W 57 2 ě:=by erw[B.e 1 J [] [] (.re (.tg 0 0)) S.Ej rfl Ť Ť λds h Q x c=>?_];induction c with|mk e q=>exact(Ŗ,bu e q)
def jy(B:LX ca Jc W)(S:SX ca W):DX ca Jc W 58 2 (cT Wl):=by erw[B.e 1 J [] [] (.iff (.not (.val (.bi rq (.u2 0 (.ty 0))))) (.re (.c (.B bb))) .nil<|>.re (.bo (Bm.ac (.ch ie ie (.i 1) (.bi acS (.u 0)) (.g 12)) (Bm.a1 (.bi HY (.u (.comp 1 [] (.one 0) (.c 0) .no (.ch S' S' (.s "a") 0 (.s "z"))))))))) S.Od rfl Ť Ť λds h Q X c=>?_];induction c with|@mk x Q X h q=>induction h with|@mk z h=>let(d,f,j):=iY h;let l:=aj f;let H:qC z.length=true:=qN (cc.mpr (aA l ∅));erw[(Ŗ,bT H (jB (eD.mpr (by let:=aj d;lia)) (jB (eD.mpr (by show((z.length:Ń):Î)<=6;lia)) (bT H ?_))))];erw[fh (λ_=>.B J) Ŗ (λy b=>?_) (mR (g:=λ_=>J) (by rw[j6];rwa[q]))];let a:=aS.mp j y b;let(c,_,rfl):=cB.mp b;let(a1,A):=ag a;rwa[λR q=>jB a1 (show R [.p (.B (ub _ _))] []by rw[A];rwa[q])]
def j8(B:LX ca Jc W)(S:SX ca W):DX ca Jc W 59 3 (cT ù):=by erw[B.e 1 J [(4,KO)] [] (.re (.cl 4 [] (.u3 0 (.i 0) (.g 13)))) S.Eh rfl (FC B S,Ť) Ť λds h Q X c=>?_];induction c with|@mk x Q X h q=>induction h with|@mk n=>erw[(Ŗ,.mk Ŗ (show Q (.p (.B (qM 0 (n.val:Ń)&&qM (n.val:Ń) 999999))) []from ?_))];rw[eD.mpr (),eD.mpr (by let:=n.isLt;lia)];rwa[q]
def HN(B:LX ca Jc W)(S:SX ca W)(n:Ń)(D:DX ca Jc W 61 (2*n+3) (ò n)):DX ca Jc W 62 (2*n+4) (ď n):=by erw[B.e (k:=2*n+2) 5 J [(59,cT ù),(58,cT Wl),(61,ò n)] [] (.iff (.cmp kJ 0 (.s "number")) (.re (.cl 59 [] (.u 1))) .nil<|>.iff (.cmp kJ 0 (.s "box")) (.re (.bo (Bm.ac (.cl 58 [] (.u 1)) (Bm.a1 (.cmp ng 1 2))))) .nil<|>.iff (.cmp kJ 0 (.s "list")) (.re (.bo (Bm.ac (.cl 58 [] (.u 1)) (Bm.a1 (.cmp ng 1 3))))) .nil<|>.re (.cl 61 [] (.u4 1 2 3 4))) S.Bu rfl ((j8 B S).le (),(jy B S).le (),D,Ť) Ť λds h Q x c=>?_];induction c with|@mk bs L k p i Q x f h q=>subst f;cases h with|n=>exact(Ŗ,.mk .mk q)|b h=>let(H,a,d):=iY h;exact(Ŗ,.mk (.mk H) (bT d (show Q (.p (.B (Kb _ _))) []by rw[a];rwa[q])))|l h=>let(H,a,d):=iY h;exact(Ŗ,.mk (.mk H) (bT d (show Q (.p (.B (Kb _ _))) []by rw[a];rwa[q])))|v h=>exact(Ŗ,.mk h q)
def IN:Ń->Ct|0=>lm|n+1=>ď n
def xl(B:LX ca Jc W)(S:SX ca W)(n:Ń)(D:DX ca Jc W 62 (2*n+2) (IN n)):DX ca Jc W 61 (2*n+3) (ò n):=by erw[B.e (k:=2*n+1) 5 J [(55,cT Ć),(56,đ),(62,IN n)] [] (.iff (.bo (Wm.oc (.cmp kJ 3 (.i 0)) (Wm.o1 (.not (.val (.cl 55 [] (.u 0))))))) (.re (.c (.B bb))) .nil<|>.set 4 (.cl 56 [] (.u (.ix 0 (.i 0))))<|>.iff (.bo (Wm.oc (.R8 bb 4) (Wm.o1 (.cmp Ww (.bi gC (.u 0)) (.b2 gf (.i 1) (.bi gC (.u 4))))))) (.re (.c (.B bb))) .nil<|>.re (.bi HY (.u (.comp 2 [1,2,3] (.many [0,1]) (.z (.u2 4 (.sl 0 (.of (.i 1)) .no))) .no (.cl 62 [] (.u5 0 1 2 3 (.b2 Cs 4 (.i 1)))))))) S.rW rfl ((uI B S).le (),(wt B S).le (),D,Ť) Ť λds h Q X c=>?_];induction c with|@mk bs L v Q X h q=>cases n with|h=>cases h|j n=>erw[(Ŗ,?_)];let V:=VP.of h;generalize v.p=x at V⊢;induction V with|@mk w K r e l d=>
 erw[.mk .mk (.mk e ?_)];erw[uB (c:=!lg (r.length+1:Ń) (1+((K.map Pv.S).length:Ń))) (by rw[af,ic.mpr ()];rfl) ?_];erw[fh (λ_=>.B J) Ŗ (λy a=>?_) (mR (g:=λ_=>J) (by rw[j6];rwa[q]))];let h:=d y a;let H:((n+1:Ń):Î)-1=(n:Ń):=()
 cases h with|n=>rwa[λR q=>.mk H .n q]|b h=>rwa[λR q=>.mk H (.b h) q]|l h=>rwa[λR q=>.mk H (.l h) q]|v h=>rwa[λR q=>.mk H (.v h) q]
theorem AO(B:LX ca Jc W)(S:SX ca W):∀n,DX ca Jc W 61 (2*n+3) (ò n)|0=>xl B S 0 (Dt.no S.Bu)|n+1=>xl B S _ (HN B S n (AO B S n))
def CN(B:LX ca Jc W)(S:SX ca W):DX ca Jc W 60 12 ĕ:=by erw[B.e 3 J [(61,ò 4)] [] (.re (.cl 61 [] (.u4 0 1 2 (.g 14)))) S.Jf rfl (AO B S 4,Ť) Ť λds h Q x c=>?_];induction c with|mk h q=>exact(Ŗ,.mk h q)
end
structure Cj where
 bs:ϐ
 ls:ϐ
 fs:Ł (Æ×Ń)rt:Þ
def Cj.p(c:Cj):Pv:=.obj 5 [.L (c.bs.map .S),.L (c.ls.map .S),Rm iP c.fs,.B c.rt]
def lfB(c:Cj):Rw->Þ|.st z v=>DD z c.bs&&lI c.bs c.ls 4 v|.pu z v=>DD z c.ls&&lI c.bs c.ls 4 v|.po z y=>DD z c.bs&&DD y c.ls|.pt z u v=>DD z c.ls&&(lI c.bs c.ls 4 u&&lI c.bs c.ls 4 v)|.ak z d=>DD z c.bs&&zr d|.te v=>lI c.bs c.ls 4 v|.fa v=>lI c.bs c.ls 4 v|.ca z f s=>DD z c.bs&&((zr f&&match iZ f c.fs with|O n=>Ì s.length n|ao=>bb)&&s.all (lI c.bs c.ls 4))|.rt v=>c.rt&&lI c.bs c.ls 4 v|_=>bb
mutual
def UU(c:Cj):Tr->Ń->Þ|.lf r,d=>!Nat.beq d 0&&lfB c r|.ii v a b,d=>!Nat.beq d 0&&(lI c.bs c.ls 4 v&&(qu c a (d-1)&&qu c b (d-1)))|.wh v a,d=>!Nat.beq d 0&&(lI c.bs c.ls 4 v&&qu c a (d-1))|.tr a z b,d=>!Nat.beq d 0&&(DD z c.bs&&(qu c a (d-1)&&qu c b (d-1)))def qu(c:Cj):Ł Tr->Ń->Þ|[],_=>J|t::r,d=>UU c t d&&qu c r d
end
inductive Ci(c:Cj)(d:Ń):Pv->ß|r{ts:Ł Tr}(h:qu c ts d):Ci c d (.T [.S "rows",tP ts])|v{v:Vx}(h:lI c.bs c.ls 4 v):Ci c d (.T [.S "value",v.p])|w{vs:Ł Vx}(h:vs.all (lI c.bs c.ls 4)):Ci c d (.T [.S "values",.T (vs.map Vx.p)])|b{z:Æ}(h:DD z c.bs):Ci c d (.T [.S "box",.S z])|l{z:Æ}(h:DD z c.ls):Ci c d (.T [.S "list",.S z])|fu{z:Æ}{n:Ń}(h:zr z)(e:iZ z c.fs=O n):Ci c d (.T [.S "function",.S z])|dr{z:Æ}(h:zr z):Ci c d (.T [.S "door",.S z])
@[elab_as_elim]def Ci.on{d:Ń}{P:Pv->ß}(h:Ci c d y)(f:∀k p,Ci c d (.T [k,p])->P (.T [k,p])):P y:=by cases h<;>rwa[f _ _ (by first|rwa[.r ‹_›]|rwa[.v ‹_›]|rwa[.w ‹_›]|rwa[.b ‹_›]|rwa[.l ‹_›]|rwa[.fu ‹_› ‹_›]|rwa[.dr ‹_›])]
inductive RP(c:Cj)(d:Ń):Pv->ß|mk{w:Æ}{ks:ϐ}{r:ϑ}(e:iZ w Ow=O ks)(l:r.length=ks.length)(h:∀y∈Ac (ks.map .S) r,Ci c d y)(hr:cQ w "return"=J->c.rt)(hc:cQ w "call"=bb):RP c d (.T (.S w::r))|ca{z f:Æ}{vs:Ł Vx}(h:∀y∈Ac ((["box","function","values"]:ϐ).map .S) [.S z,.S f,.T (vs.map Vx.p)],Ci c d y)(e:iZ f c.fs=O vs.length):RP c d (.T [.S "call",.S z,.S f,.T (vs.map Vx.p)])
def zX{α:Type}{P:α->ß}{x z u:α}(h:P x)(k:P z)(l:P u):∀y ∈[x,z,u],P y:=λy H=>(aB.mp H).elim (λe=>by rw[e];rwa[h]) (db k l y)
def RP.of(h:UU c t (d+1)):RP c d t.r.p:=by cases t with|ii v a b=>delta UU at h;let(_,H,g,i):=mS h;rwa[.mk (w:="if") (ks:=["value","rows","rows"]) (by rfl) rfl (zX (.v H) (.r g) (.r i)) Kg (by rfl)]|wh v a=>delta UU at h;let(_,H,g):=iY h;rwa[.mk (w:="while") (ks:=["value","rows"]) (by rfl) rfl (db (.v H) (.r g)) Kg (by rfl)]|tr a z b=>delta UU at h;let(_,H,g,i):=mS h;rwa[.mk (w:="try") (ks:=["rows","box","rows"]) (by rfl) rfl (zX (.r g) (.b H) (.r i)) Kg (by rfl)]|lf r=>delta UU at h;let h:=(ag h).2;cases r with
  |st z v=>rwa[.mk (w:="set") (ks:=["box","value"]) (by rfl) rfl (db (.b (ag h).1) (.v (ag h).2)) Kg (by rfl)]|pu z v=>rwa[.mk (w:="push") (ks:=["list","value"]) (by rfl) rfl (db (.l (ag h).1) (.v (ag h).2)) Kg (by rfl)]|po z y=>rwa[.mk (w:="pop") (ks:=["box","list"]) (by rfl) rfl (db (.b (ag h).1) (.l (ag h).2)) Kg (by rfl)]|pt z u v=>rwa[.mk (w:="put") (ks:=["list","value","value"]) (by rfl) rfl (zX (.l (iY h).1) (.v (iY h).2.1) (.v (iY h).2.2)) Kg (by rfl)]|ak z y=>rwa[.mk (w:="ask") (ks:=["box","door"]) (by rfl) rfl (db (.b (ag h).1) (.dr (ag h).2)) Kg (by rfl)]|te v=>rwa[.mk (w:="tell") (ks:=["value"]) (by rfl) rfl (pj (.v h)) Kg (by rfl)]|fa v=>rwa[.mk (w:="fail") (ks:=["value"]) (by rfl) rfl (pj (.v h)) Kg (by rfl)]|rt v=>rwa[.mk (w:="return") (ks:=["value"]) (by rfl) rfl (pj (.v (ag h).2)) (λ_=>(ag h).1) (by rfl)]|ca z f s=>let(H,g,i):=iY h;let(k,j):=ag g;cases e:iZ f c.fs with|a=>rw[e]at j;cases j|c n=>rw[e]at j;obtain rfl:=aT j;rwa[.ca (zX (.b H) (.fu k e) (.w i)) e]
  |_=>cases h
inductive Ĝ(n:Ń):Ct|mk{c:Cj}{k p:Pv}{i:Î}{Q:Dv->Hs->ß}{xc:XP}(hi:i=5-(n:Ń))(h:Ci c n (.T [k,p]))(q:Q (.p (.B J)) []):Ĝ n [.p k,.p p,.p c.p,.p (.I i)] [] Q xc
inductive Yg(n:Ń):Ct|mk{c:Cj}{ts:Ł Tr}{i:Î}{Q:Dv->Hs->ß}{xc:XP}(hi:i=6-(n:Ń))(h:qu c ts n)(q:Q (.p (.B J)) []):Yg n [.p (tP ts),.p c.p,.p (.I i)] [] Q xc
inductive þ(n:Ń):Ct|mk{c:Cj}{t:Tr}{i:Î}{Q:Dv->Hs->ß}{xc:XP}(hi:i=6-(n:Ń))(h:UU c t n)(q:Q (.p (.B J)) []):þ n [.p t.r.p,.p c.p,.p (.I i)] [] Q xc
inductive Ů(c:Cj)(n:Ń)(ts:Ł Tr)(i:Î)(post:ϑ):Es->Hs->ß|mk{us:Ł Tr}{v:Ő Dv}(e:post=kE us)(h:qu c us n):Ů c n ts i post [O (.p (tP ts)),O (.p c.p),O (.p (.I i)),v] []
section
variable{ca:Ń->À}{Jc:Ń->Ct}{W:Wd}{k:Ń}
def CQ(B:LX ca Jc W)(S:SX ca W)(n:Ń)(D:DX ca Jc W 72 (3*n+12) (Yg n)):DX ca Jc W 74 (3*n+13) (Ĝ n):=by erw[B.e (k:=3*n+11) 4 J [(72,Yg n),(60,ĕ),(58,cT Wl)] [] (.iff (.cmp kJ 0 (.s "rows")) (.re (.cl 72 [] (.u3 1 2 (.b2 gf 3 (.i 1))))) .nil<|>.iff (.cmp kJ 0 (.s "value")) (.re (.cl 60 [] (.u3 1 (.fld 5 0 2) (.fld 5 1 2)))) .nil<|>.iff (.cmp kJ 0 (.s "values")) (.re (.bo (Bm.ac (.bi rq (.u2 1 (.ty 3))) (Bm.a1 (.bi HY (.u (.comp 1 [2] (.one 0) (.s 1) .no (.cl 60 [] (.u3 0 (.fld 5 0 1) (.fld 5 1 1)))))))))) .nil<|>.iff (.not (.val (.cl 58 [] (.u 1)))) (.re (.c (.B bb))) .nil<|>.iff (.cmp kJ 0 (.s "box")) (.re (.cmp ng 1 (.fld 5 0 2))) .nil<|>.iff (.cmp kJ 0 (.s "list")) (.re (.cmp ng 1 (.fld 5 1 2))) .nil<|>.iff (.cmp kJ 0 (.s "function")) (.re (.din bb 1 (.fld 5 2 2))) .nil<|>.re (.cmp kJ 0 (.s "door"))) S.qr rfl (D,(CN B S).le (),(jy B S).le (),Ť) Ť λds h Q x c=>?_];induction c with|@mk c k p i Q x m h q=>subst m;cases h with|r h=>exact(Ŗ,.mk () h q)|v h=>exact(Ŗ,.mk h q)|w h=>erw[(Ŗ,fh (λ_=>.B J) Ŗ (λy o=>?_) (mR (g:=λ_=>J) (by rw[j6];rwa[q])))];let(v,t,rfl):=cB.mp o;rwa[λR q=>.mk (aS.mp h v t) q]|b h=>let(H,a,j):=iY h;exact(Ŗ,.mk (.mk H) (bT j (show Q (.p (.B (Kb _ _))) []by rw[a];rwa[q])))|l h=>let(H,a,j):=iY h;exact(Ŗ,.mk (.mk H) (bT j (show Q (.p (.B (Kb _ _))) []by rw[a];rwa[q])))|fu h e=>exact(Ŗ,.mk (.mk h) (show Q (.p (.B (hW _ _ _).isSome)) []by rw[qf e];rwa[q]))|dr h=>exact(Ŗ,.mk (.mk h) q)
def uH(B:LX ca Jc W)(S:SX ca W)(n:Ń)(D:DX ca Jc W 73 (3*n+11) (þ n)):DX ca Jc W 72 (3*n+12) (Yg n):=by erw[B.e 4 J [(73,þ n)] [] (.iff (.not (.val (.bi rq (.u2 0 (.ty 3))))) (.re (.c (.B bb))) .nil<|>.fo (.one 3) (.s 0) (.one (.iff (.not (.val (.cl 73 [] (.u3 3 1 2)))) (.re (.c (.B bb))) .nil))<|>.re (.c (.B J))) S.IZ rfl (D,Ť) Ť λds h Q X c=>?_];induction c with|@mk c T i Q X H h q=>
 erw[(Ŗ,kn (λpre post=>Ů c n T i post) (.mk (us:=T) (v:=ao) Ŗ h) (λpre x post a b ex j=>?_) λa b j=>?_)];.induction j with|@mk us v e h=>cases us with|f=>cases e|g t us=>injection e with E d;subst E d;let h:(UU c t n&&qu c us n)=true:=h;rwa[.mk H (ag h).1 (.mk Ŗ (ag h).2)]
 .induction j with|@mk us v e h=>rwa[q]
def Yc{a b:Þ}(h:a->b)(y:Y):br a (br (!b) F Y) Y:=by cases a with|e=>rwa[y]|d=>rw[h Ŗ];rwa[y]
def Zz:Ń->Ct|0=>lm|n+1=>Ĝ n
def xj(B:LX ca Jc W)(S:SX ca W)(n:Ń)(D:DX ca Jc W 74 (3*n+10) (Zz n)):DX ca Jc W 73 (3*n+11) (þ n):=by erw[B.e (k:=3*n+9) 4 J [(55,cT Ć),(57,ě),(74,Zz n)] [] (.iff (.bo (Wm.oc (.cmp PZ 2 (.g 19)) (Wm.o1 (.not (.val (.cl 55 [] (.u 0))))))) (.re (.c (.B bb))) .nil<|>.set 3 (.cl 57 [] (.u (.ix 0 (.i 0))))<|>.iff (.bo (Wm.oc (.R8 bb 3) (Wm.o1 (.cmp Ww (.bi gC (.u 0)) (.b2 gf (.i 1) (.bi gC (.u 3))))))) (.re (.c (.B bb))) .nil<|>.iff (.bo (Wm.ac (.cmp kJ (.ix 0 (.i 0)) (.s "return")) (Wm.a1 (.not (.val (.fld 5 3 1)))))) (.re (.c (.B bb))) .nil<|>.iff (.not (.val (.bi HY (.u (.comp 2 [1,2] (.many [0,1]) (.z (.u2 3 (.sl 0 (.of (.i 1)) .no))) .no (.cl 74 [] (.u4 0 1 2 3))))))) (.re (.c (.B bb))) .nil<|>.re (.bo (Bm.oc (.cmp Ww (.ix 0 (.i 0)) (.s "call")) (Bm.o1 (.cmp kJ (.bi gC (.u (.ix 0 (.i 3)))) (.qK (.fld 5 2 1) (.ix 0 (.i 2)))))))) S.UO rfl ((uI B S).le (),(AN B S).le (),D,Ť) Ť λds h Q X c=>?_];induction c with|@mk c t i Q X a h q=>subst a;cases n with|h=>cases t<;>(delta UU at h;cases h)|j n=>
 let R:=RP.of h;generalize t.r.p=x at R⊢;let a:6-((n+1:Ń):Î)=5-(n:Ń):=()
 erw[(Ŗ,uB (c:=BW 5 (6-(n+1:Ń))) (bq.mpr λz=>by let:=fF.mp z;lia) ?_)]
 induction R with|@mk w K r e l b d j=>
  erw[.mk .mk (.mk e ?_)];erw[uB (c:=!lg (r.length+1:Ń) (1+((K.map Pv.S).length:Ń))) (by rw[af,ic.mpr ()];rfl) ?_];erw[Yc d ?_];erw[fh (λ_=>.B J) Ŗ (λy H=>?_) (mR (g:=λ_=>J) ?_)];.rwa[Ci.on (b y H) λk p h R q=>.mk a h q]
  .rw[j6];rwa[jB (c:=!cQ w "call") (by rw[j];rfl) q]|@ca z f v b e=>
  erw[.mk .mk (.mk (by rfl) ?_)];erw[fh (λ_=>.B J) Ŗ (λy H=>?_) (mR (g:=λ_=>J) ?_)];.rwa[Ci.on (b y H) λk p h R q=>.mk a h q]
  .rw[j6];rwa[bu (qf e) (show Q (.p (.B (lg ((v.map Vx.p).length:Ń) (v.length:Ń)))) []by rw[af,ic.mpr Ŗ];rwa[q])]
theorem AM(B:LX ca Jc W)(S:SX ca W):∀n,DX ca Jc W 73 (3*n+11) (þ n)|0=>xj B S 0 (Dt.no S.qr)|n+1=>xj B S _ (CQ B S n (uH B S n (AM B S n)))
inductive E6:Pv->ß|mk{a b:Pv}:E6 (.T [a,b])
inductive ā:Pv->ß|mk{p:Æ×Nm}(h:zr p.1):ā (Wu p)
inductive ÿ:Pv->ß|mk{p:Æ×Ł Nm}(h:zr p.1)(l:p.2.length<=12):ÿ (WW p)
structure Į(x:Fn):ß where
 f:zr x.f=J
 p3:x.ps.length<=3o3:x.os.length<=3p:∀z∈x.ps,zr z=J
 o:∀z∈x.os,zr z=J
inductive Ċ:Pv->ß|mk{x:Fn}(h:Į x):Ċ x.p
inductive ý(j:Ń)(f:Pv->ß):Ct|mk{xs:ϑ}{m:Ń}{i:Î}{Q:Dv->Hs->ß}{xc:XP}(hi:i=(m:Ń))(hm:xs.length<=m)(h:∀x∈xs,f x)(q:Q (.p (.B J)) []):ý j f [.p (.T xs),.p (.I i),.p (.fn j)] [] Q xc
inductive cUn:Ct|mk{l:ϐ}{Q:Dv->Hs->ß}{xc:XP}(nd:l.Nodup)(hl:l.length<=40)(q:Q (.p (.B J)) []):cUn [.p (.L (l.map .S))] [] Q xc
structure PV(g:Pg):ß where
 b6:g.bs.length<=6l3:g.ls.length<=3f4:g.fs.length<=4bn:∀p∈g.bs,zr p.1=J
 ln:∀p∈g.ls,zr p.1=J/\p.2.length<=12un:(g.bs.map (·.1)++g.ls.map (·.1)).Nodup
 fn:∀x∈g.fs,Į x
 uf:(g.fs.map Fn.f).Nodup
 uo:∀x∈g.fs,((g.bs.map (·.1)++g.ls.map (·.1))++(x.ps++x.os)).Nodup
 fr:∀x∈g.fs,qu (g.bs.map (·.1)++(x.ps++x.os),g.ls.map (·.1),g.fs.map λx=>(x.f,x.ps.length),J) x.rs 5=J
 rr:qu (g.bs.map (·.1),g.ls.map (·.1),g.fs.map λx=>(x.f,x.ps.length),bb) g.rs 5=J
 n60:pz g.fs+fw g.rs<=60ok:g.ok=J
inductive Ď:Ct|mk{g:Pg}{Q:Dv->Hs->ß}{xc:XP}(G:PV g)(q:Q (.p .N) []):Ď [.p (.T (g.bs.map Wu)),.p (.T (g.ls.map WW))] [] Q xc
inductive ę:Ct|mk{g:Pg}{Q:Dv->Hs->ß}{xc:XP}(G:PV g)(q:Q (.p .N) []):ę [.p (.T (g.fs.map Fn.p)),.p (.L ((g.bs.map (·.1)++g.ls.map (·.1)).map .S))] [] Q xc
def MY(n:l.Nodup):(dW l).length=l.length:=by let(N,m1):=nh l;exact((List.perm_ext_iff_of_nodup N n).mpr m1).length_eq
inductive ĝ(g:Pg)(post:ϑ):Es->Hs->ß|mk{us:Ł Fn}{v:Ő Dv}(e:post=us.map Fn.p)(h:∀x∈us,x∈g.fs):ĝ g post [O (.p (.T (g.fs.map Fn.p))),O (.p (.L ((g.bs.map (·.1)++g.ls.map (·.1)).map .S))),v] []
def Ff{l:Ł (Æ×Nm)}:(l.map Wu).map Dq=(l.map (·.1)).map .S:=by rw[aV,aV];rfl
def Gp{l:Ł (Æ×Ł Nm)}:(l.map WW).map Dq=(l.map (·.1)).map .S:=by rw[aV,aV];rfl
def acX{l:Ł Fn}:(l.map Fn.p).map Dq=(l.map Fn.f).map .S:=by rw[aV,aV];rfl
def jq{α:Type}{f:α->Pv}{l:Ł α}(h:∀x,RV (f x)=J):∀x∈l.map f,RV x=true:=λx H=>by let(y,_,rfl):=cB.mp H;rwa[h y]
def all_map{α:Type}{f:α->Pv}{l:Ł α}{P:Pv->ß}(h:∀x∈l,P (f x)):∀x∈l.map f,P x:=λx H=>by let(y,a,rfl):=cB.mp H;rwa[h y a]
def km(B:LX ca Jc W)(S:SX ca W)(D:DX ca Jc W j (k+1) (cT f)):DX ca Jc W 66 (k+2) (ý j f):=by erw[B.e 3 J [(j,cT f)] [] (.re (.bo (Bm.ac (.bi rq (.u2 0 (.ty 3))) (Bm.ac (.cmp ie (.bi gC (.u 0)) 1) (Bm.a1 (.bi HY (.u (.comp 1 [2] (.one 0) (.s 0) .no (.clv [] 1 (.u 0)))))))))) S.qt rfl (D,Ť) Ť λds h Q x c=>?_];induction c with|@mk X m i Q x H b h q=>
 subst H;erw[(Ŗ,jB (c:=qM (X.length:Ń) (m:Ń)) (eD.mpr ()) ?_)];erw[fh (λ_=>.B J) Ŗ (λy a=>λR q=>?_) (mR (g:=λ_=>J) (by rw[j6];rwa[q]))];erw[bT (c:=gX j [j]) (by delta gX;simp) ?_];let e:vR [(j,cT f)] j=cT f:=by show(match Ì j j with|J=>cT f|bb=>lm)=_;rw[jP]
 show Iy [] (vR [(j,cT f)] j) [.p y] [] _ _;rw[e];rwa[.mk (h y a) q]
def xi(B:LX ca Jc W)(S:SX ca W):DX ca Jc W 67 2 (cT E6):=by erw[B.e 1 J [] [] (.re (.bo (Bm.ac (.bi rq (.u2 0 (.ty 3))) (Bm.a1 (.cmp kJ (.bi gC (.u 0)) (.i 2)))))) S.Oe rfl Ť Ť λds h Q X c=>?_];induction c with|@mk x Q X h q=>induction h with|mk=>exact(Ŗ,q)
def AL(B:LX ca Jc W)(S:SX ca W):DX ca Jc W 68 4 (cT ā):=by erw[B.e 1 J [(67,cT E6),(58,cT Wl),(59,cT ù)] [] (.re (.bo (Bm.ac (.cl 67 [] (.u 0)) (Bm.ac (.cl 58 [] (.u (.ix 0 (.i 0)))) (Bm.a1 (.cl 59 [] (.u (.ix 0 (.i 1))))))))) S.UN rfl ((xi B S).le ∅,(jy B S).le ∅,j8 B S,Ť) Ť λds h Q X c=>?_];induction c with|@mk x Q X h q=>induction h with|mk h=>exact(Ŗ,.mk .mk (.mk (.mk h) (.mk .mk q)))
def xh(B:LX ca Jc W)(S:SX ca W):DX ca Jc W 69 6 (cT ÿ):=by erw[B.e (k:=4) 1 J [(67,cT E6),(58,cT Wl),(59,cT ù),(66,ý 59 ù)] [] (.re (.bo (Bm.ac (.cl 67 [] (.u 0)) (Bm.ac (.cl 58 [] (.u (.ix 0 (.i 0)))) (Bm.a1 (.cl 66 [] (.u3 (.ix 0 (.i 1)) (.g 1) (.f 59)))))))) S.Oc rfl ((xi B S).le ∅,(jy B S).le ∅,(j8 B S).le ∅,(km (k:=2) B S (j8 B S)).le ∅,Ť) Ť λds h Q X c=>?_];induction c with|@mk x Q X h q=>induction h with|@mk p h l=>exact(Ŗ,.mk .mk (.mk (.mk h) (.mk (m:=12) Ŗ (by rw[af];rwa[l]) (all_map λ_ _=>.mk) q)))
def oH(B:LX ca Jc W)(S:SX ca W):DX ca Jc W 70 6 (cT Ċ):=by erw[B.e (k:=4) 1 J [(58,cT Wl),(66,ý 58 Wl)] [] (.iff (.bo (Wm.oc (.not (.val (.bi rq (.u2 0 (.ty 3))))) (Wm.oc (.cmp Ww (.bi gC (.u 0)) (.i 4)) (Wm.o1 (.not (.val (.cl 58 [] (.u (.ix 0 (.i 0)))))))))) (.re (.c (.B bb))) .nil<|>.iff (.bo (Wm.oc (.not (.val (.cl 66 [] (.u3 (.ix 0 (.i 1)) (.g 18) (.f 58))))) (Wm.o1 (.not (.val (.cl 66 [] (.u3 (.ix 0 (.i 2)) (.g 18) (.f 58)))))))) (.re (.c (.B bb))) .nil<|>.re (.bi rq (.u2 (.ix 0 (.i 3)) (.ty 3)))) S.zJ rfl ((jy B S).le ∅,(km (k:=1) B S (jy B S)).le ∅,Ť) Ť λds h Q X c=>?_];induction c with|@mk x Q X h q=>induction h with|@mk x h=>exact(Ŗ,.mk (.mk h.f) (.mk (m:=3) Ŗ (by rw[af];rwa[h.p3]) (all_map λz H=>.mk (h.p z H)) (.mk (m:=3) Ŗ (by rw[af];rwa[h.o3]) (all_map λz H=>.mk (h.o z H)) q)))
def pX(B:LX ca Jc W)(S:SX ca W):DX ca Jc W 71 2 cUn:=by erw[B.e 1 J [] [] (.re (.cmp kJ (.b_ 0) (.bi gC (.u 0)))) S.Bs rfl Ť Ť λds h Q x c=>?_];induction c with|@mk l Q x n H q=>erw[(Ŗ,bu B7 (bT (cc.mpr (by rw[MY n];lia)) ?_))];show Q (.p (.B (lg ((dW l).length:Ń) ((l.map Pv.S).length:Ń)))) [];rw[MY n,af,ic.mpr Ŗ];rwa[q]
inductive Č:Ct|xa{xs:ϑ}{m:Ń}{i:Î}{Q:Dv->Hs->ß}{xc:XP}(hi:i=(m:Ń))(hm:xs.length<=m)(h:∀x∈xs,ā x)(q:Q (.p (.B J)) []):Č [.p (.T xs),.p (.I i),.p (.fn 68)] [] Q xc|b{xs:ϑ}{m:Ń}{i:Î}{Q:Dv->Hs->ß}{xc:XP}(hi:i=(m:Ń))(hm:xs.length<=m)(h:∀x∈xs,ÿ x)(q:Q (.p (.B J)) []):Č [.p (.T xs),.p (.I i),.p (.fn 69)] [] Q xc
def Pg.Xf(g:Pg):Ł (Æ×Ń):=g.fs.map λx=>(x.f,x.ps.length)
def Pg.sF(g:Pg)(x:Fn):Cj:=(g.bs.map (·.1)++(x.ps++x.os),g.ls.map (·.1),g.Xf,J)
def Pg.sM(g:Pg):Cj:=(g.bs.map (·.1),g.ls.map (·.1),g.Xf,bb)
def ĩ:Pv->Pv|.T (a::.T l::_)=>.T [a,.I l.length]|_=>.N
inductive Ė:Ct|mk{g:Pg}{Q:Dv->Hs->ß}{xc:XP}(G:PV g)(q:Q (.p .N) []):Ė [.p g.p] [] Q xc
inductive sR:Ct|mk{g:Pg}{Q:Dv->Hs->ß}{xc:XP}(G:PV g)(q:Q (.p g.p) []):sR [.p (.T (g.bs.map Wu)),.p (.T (g.ls.map WW)),.p (.T (g.fs.map Fn.p)),.p (tP g.rs)] [] Q xc
inductive ŋ(g:Pg)(post:ϑ):Es->Hs->ß|mk{us:Ł Fn}{v w:Ő Dv}(e:post=us.map Fn.p)(h:∀x∈us,x∈g.fs):ŋ g post [O (.p g.p),O (.p (.T (g.bs.map Wu))),O (.p (.T (g.ls.map WW))),O (.p (.T (g.fs.map Fn.p))),O (.p (tP g.rs)),v,O (.p (Rm iP g.Xf)),w] []
def Ld(B:LX ca Jc W)(S:SX ca W):DX ca Jc W 66 7 Č:=by erw[B.e (k:=5) 3 J [(68,cT ā),(69,cT ÿ)] [] (.re (.bo (Bm.ac (.bi rq (.u2 0 (.ty 3))) (Bm.ac (.cmp ie (.bi gC (.u 0)) 1) (Bm.a1 (.bi HY (.u (.comp 1 [2] (.one 0) (.s 0) .no (.clv [] 1 (.u 0)))))))))) S.qt rfl ((AL B S).le ∅,xh B S,Ť) Ť λds h Q X c=>?_];induction c with|@xa x m i Q X H f h q=>subst H;exact(Ŗ,jB (c:=qM (x.length:Ń) (m:Ń)) (eD.mpr ()) (fh (λ_=>.B J) Ŗ (λy d=>λR q=>.mk (h y d) q) (mR (g:=λ_=>J) (by rw[j6];rwa[q]))))|@b x m i Q X H f h q=>subst H;exact(Ŗ,jB (c:=qM (x.length:Ń) (m:Ń)) (eD.mpr ()) (fh (λ_=>.B J) Ŗ (λy d=>λR q=>.mk (h y d) q) (mR (g:=λ_=>J) (by rw[j6];rwa[q]))))
def pZ(B:LX ca Jc W)(S:SX ca W):DX ca Jc W 63 8 Ď:=by erw[B.e (k:=6) 2 J [(66,Č),(5,oX),(71,cUn),(68,cT ā),(69,cT ÿ)] [] (.iff (.not (.val (.cl 66 [] (.u3 0 (.g 15) (.f 68))))) (.one (.raise 6 (.s "boxes are a tuple of 0 to 6 pairs of a name and a number"))) .nil<|>.iff (.not (.val (.cl 66 [] (.u3 1 (.g 16) (.f 69))))) (.one (.raise 6 (.s "lists are a tuple of 0 to 3 pairs of a name and a tuple of 0 to 12 numbers"))) .nil<|>.one (.iff (.not (.val (.cl 71 [] (.u (.b2 gf (.cl 5 [] (.u 0)) (.cl 5 [] (.u 1))))))) (.one (.raise 6 (.s "two boxes or lists have one name"))) .nil)) S.rV rfl (Ld B S,(jD B S).le ∅,(pX B S).le ∅,(AL B S).le ∅,(xh B S).le ∅,Ť) Ť λds h Q x c=>?_];induction c with|@mk g Q x G q=>let l1:=G.b6;let l2:=G.l3;erw[(Ŗ,.xa (m:=6) Ŗ (by rw[af];rwa[l1]) (all_map λp H=>.mk (G.bn p H)) (.b (m:=3) Ŗ (by rw[af];rwa[l2]) (all_map λp H=>.mk (G.ln p H).1 (G.ln p H).2) (.mk (jq λ_=>Ŗ) (oX.mk (jq λ_=>Ŗ) ?_))))];rw[Ff,Gp];erw[bT (qN (cc.mpr (by rw[af,af,af,af];lia))) ?_];rw[<-aN];rwa[.mk G.un (by rw[ai,af,af];lia) q]
def pY(B:LX ca Jc W)(S:SX ca W):DX ca Jc W 64 9 ę:=by erw[B.e (k:=7) 3 J [(66,ý 70 Ċ),(5,oX),(6,CA),(71,cUn),(70,cT Ċ)] [] (.iff (.not (.val (.cl 66 [] (.u3 0 (.g 17) (.f 70))))) (.one (.raise 6 (.s "functions are a tuple of 0 to 4 tuples of a name, params, owns and rows"))) .nil<|>.iff (.not (.val (.cl 71 [] (.u (.cl 5 [] (.u 0)))))) (.one (.raise 6 (.s "two functions have one name"))) .nil<|>.one (.fo (.one 2) (.s 0) (.one (.iff (.not (.val (.cl 71 [] (.u (.b2 gf 1 (.cl 6 [] (.u 2))))))) (.one (.raise 6 (.s "a param or an own has another one's name, or a box's or a list's"))) .nil)))) S.rT rfl ((km (k:=5) B S (oH B S)).le ∅,(jD B S).le ∅,(mX B S).le ∅,(pX B S).le ∅,(oH B S).le ∅,Ť) Ť λds h Q X c=>?_];induction c with|@mk g Q X G q=>
 let l1:=G.b6;let l2:=G.l3;let l3:=G.f4;erw[(Ŗ,.mk (m:=4) Ŗ (by rw[af];rwa[l3]) (all_map λx hx=>.mk (G.fn x hx)) (.mk (jq λ_=>Ŗ) ?_))];rw[acX];erw[cUn.mk G.uf (by rw[af];lia) ?_];erw[kn (λpre=>ĝ g) (.mk (us:=g.fs) (v:=ao) Ŗ λ_ h=>h) (λpre x post a H ex j=>?_) λa H j=>?_];.induction j with|@mk us v e h=>cases us with|f=>cases e|g x us=>injection e with E d;subst E d;let hx:=h x aL;let b:=G.fn x hx;let l:=b.p3;let b2:=b.o3;erw[CA.mk (by rw[ai];lia) (bT (qN (cc.mpr (by rw[af,af,ai,ai,af,af];lia))) ?_)];rw[<-aN];rwa[.mk (G.uo x hx) (by rw[ai,ai,ai,af,af];lia) (.mk Ŗ λy i=>h y (aH _ i))]
 .induction j with|mk e h=>rwa[q]
end
def Rh(B:LX ca Jm W)(S:n9 W.K (ca 5) "Scope.__init__" (cW (d0 36) 0) ["self","boxes","lists","param_counts","may_return"])(H:W.mg "Scope"=O (.ref (ca 5))):DI ca Jm W 5 2:=by erw[Lk.kK ["self","boxes","lists","param_counts","may_return"] _ J [] [] B (.fC 5 0 1 0<|>.fC 5 1 2 0<|>.fC 5 2 3 0<|>.one (.fC 5 3 4 0)) S H rfl Ť Ť λds h Q x c=>?_];induction c with|mk q=>exact(Ŗ,q)
def yD(B:LX ca Jm W)(S:SX ca W)(I:DI ca Jm W 5 2):DX ca Jm W 65 30 Ė:=by erw[B.e (k:=28) 8 J [(5,oX),(6,CA),(72,Yg 5)] [5] (.Qg [1,2,3,4] 0<|>.set 6 (.bi J0 (.u (.comp 1 [] (.one 0) (.s 3) .no (.tup (.u2 (.ix 0 (.i 0)) (.bi gC (.u (.ix 0 (.i 1)))))))))<|>.fo (.one 5) (.s 3) (.set 7 (.mE (.m_ 5 (.u4 (.b2 gf (.cl 5 [] (.u 1)) (.cl 6 [] (.u 5))) (.cl 5 [] (.u 2)) 6 (.c (.B J)))))<|>.one (.iff (.not (.val (.cl 72 [] (.u3 (.ix 5 (.i 3)) 7 (.i 1))))) (.one (.raise 7 (.s "a row of a function is none"))) .nil))<|>.one (.iff (.not (.val (.cl 72 [] (.u3 4 (.mE (.m_ 5 (.u4 (.cl 5 [] (.u 1)) (.cl 5 [] (.u 2)) 6 (.c (.B bb))))) (.i 1))))) (.one (.raise 7 (.s "a row of the program is none"))) .nil)) S.Bt rfl ((jD B S).le ∅,(mX B S).le ∅,(uH B S 5 (AM B S 5)).le ∅,Ť) (I.le ∅,Ť) λds h Q X c=>?_];induction c with|@mk g Q X G q=>
 let l3:=G.f4;let e:(g.fs.map Fn.p).map ĩ=(g.Xf.map λp=>á p.1 (iP p.2)).map λp=>.T [.S p.1,p.2]:=by delta Pg.Xf;rw[aV,aV,aV];erw[mH λx _=>?_];show Pv.T [.S x.f,.I ((x.ps.map Pv.S).length:Ń)]=.T [.S x.f,iP x.ps.length];rw[af];rfl
 let E:((g.Xf.map λp=>á p.1 (iP p.2)).map (·.1))=g.fs.map Fn.f:=by delta Pg.Xf;rw[aV,aV];rfl
 erw[(Ŗ,fh ĩ Ŗ (λy H=>?_) ?_)];.let(x,hx,rfl):=cB.mp H;rwa[λR q=>q]
 rw[e];erw[bu qp (bT (cc.mpr ?_) ?_)];.delta Pg.Xf;rw[af,af,af];rwa[aA l3 ∅]
 rw[la _ _ _ (λ_ _=>Ŗ) (by rw[E];rwa[G.uf])];simp only[aV,List.nil_append];erw[kn (λpre=>ŋ g) (.mk (us:=g.fs) (v:=ao) (w:=ao) Ŗ λ_ h=>h) (λpre x post a d ex j=>?_) λa d j=>?_];.induction j with|@mk us v w e h=>cases us with|f=>cases e|g x us=>injection e with E l;subst E l;let hx:=h x aL;let b:=G.fn x hx;let m:=b.p3;let b2:=b.o3;let n:=G.b6;erw[oX.mk (jq λ_=>Ŗ) (CA.mk (by rw[ai];lia) ?_)];rw[Ff];erw[bT (qN (cc.mpr (by rw[af,af,af,ai];lia))) (oX.mk (jq λ_=>Ŗ) ?_)];rw[Gp,<-aN];erw[QJ.mk ?_];rwa[Yg.mk (c:=g.sF x) Ŗ (G.fr x hx) (.mk Ŗ λy H=>h y (aH _ H))]
 .induction j with|mk e h=>erw[oX.mk (jq λ_=>Ŗ) (oX.mk (jq λ_=>Ŗ) ?_)];rw[Ff,Gp];erw[QJ.mk ?_];rwa[Yg.mk (c:=g.sM) Ŗ G.rr q]
def yE(B:LX ca Jm W)(S:SX ca W)(I:DI ca Jm W 5 2):DX ca Jm W 39 32 sR:=by erw[B.e (k:=30) 5 J [(63,Ď),(64,ę),(65,Ė),(1,Hr),(5,oX)] [] (.ex (.cl 63 [] (.u2 0 1))<|>.ex (.cl 64 [] (.u2 2 (.b2 gf (.cl 5 [] (.u 0)) (.cl 5 [] (.u 1)))))<|>.iff (.not (.val (.bi rq (.u2 3 (.ty 3))))) (.one (.raise 6 (.s "the program's rows are no tuple"))) .nil<|>.set 4 (.tup (.u4 0 1 2 3))<|>.ex (.cl 65 [] (.u 4))<|>.iff (.cmp PZ (.bi gC (.u (.cl 1 [] (.u 4)))) (.g 20)) (.one (.raise 8 (.s "the program has more than 60 numbers"))) .nil<|>.re 4) S.Bv rfl ((pZ B S).le ∅,(pY B S).le ∅,(yD B S I).le ∅,(xk B S).le ∅,(jD B S).le ∅,Ť) Ť λds h Q x c=>?_];induction c with|@mk g Q x G q=>
 let l1:=G.b6;let l2:=G.l3;erw[(Ŗ,.mk G (oX.mk (jq λ_=>Ŗ) (oX.mk (jq λ_=>Ŗ) ?_)))];rw[Ff,Gp];erw[bT (qN (cc.mpr (by rw[af,af,af,af];lia))) ?_];rw[<-aN];erw[.mk G (.mk G (.mk G.ok ?_))];let H:(fV g.fl 0).length=pz g.fs+fw g.rs:=by rw[nO];show(BS _ _++j9 _ _ _).length=_;rw[ai,iS,cC]
 show br (BW 60 ((fV g.fl 0).length:Ń)) _ _;let:=G.n60;rwa[uB (bq.mpr λz=>by let:=fF.mp z;lia) q]
def jG(w:Wk):Þ:=!w.bk&&match w.fr with|[(_,_,ao)]=>bb|_=>J
def Xe(h:jG w):w.wo="on":=by let(b,l,fr,A,t,bk,rd,W):=w;let(H,a):=ag h;cases bk with|d=>cases H|e=>rcases fr with _|⟨⟨f,n,_|p⟩,_|⟨y,r⟩⟩<;>first|rfl|cases a
structure Fin(g:Pg)(nm:Æ)(v:Pv)(td:Ł Nm)(w:Wk):ß where
 bk:w.bk=bb
 fr:∃f ns,w.fr=[(f,ns,ao)]td:w.td=td
 lb:w.bx.length=g.bs.length
 ll:w.ls.length=g.ls.length
 v:hW (.S nm) ((g.bs.map (·.1)++g.ls.map (·.1)).map .S) (w.bx.map nP++Qc w.ls)=O v
theorem Fin.wo{v:Pv}(h:Fin g nm v t w):w.wo="done":=by let(f,n,e):=h.fr;delta Wk.wo;rw[h.bk,e];rfl
structure E4(g:Pg)(wd:Ł (Æ×Ł Nm))(nm:Æ)(v:Pv)(td:Ł Nm):ß where
 ok:PV g
 hw:nH (O wd)lo:∀ss,(g.pn ss wd).lo=J
 run:∀ss,ss.Perm (dW (HW g.fl))->∃m w' xs,Rn (g.pn ss wd) (g.w0 ss (O wd)) m w' xs/\m<=2000/\Fin g nm v td w'
def Jr(P:Pn):Ń->Wk->Ő Wk|0,w=>bif jG w then ao else O w|n+1,w=>bif jG w then(BA P w).bind λp=>Jr P n p.1 else O w
theorem GH:∀{n:Ń}{w W:Wk},Jr P n w=O W->∃m xs,Rn P w m W xs/\m<=n|0,w,W,h=>by delta Jr at h;cases H:jG w<;>rw[H]at h<;>cases h;exact(0,[],.z,aq _)|n+1,w,W,h=>by delta Jr at h;cases H:jG w with|e=>rw[H]at h;cases h;exact(0,[],.z,cw _)|d=>rw[H]at h;let(p,e,h):=bd h;let(m,xs,r,l):=GH h;exact(m+1,_,.s (Xe H) e r,Nat.succ_le_succ l)
def n7:ϐ->Þ|[]=>J|x::r=>!r.any (cQ x)&&n7 r
theorem zm:∀{l:ϐ},n7 l=J->l.Nodup|[],_=>.nil|x::r,h=>by let(H,a):=ag h;erw[cR.mpr (λb=>?_,zm a)];let:r.any (cQ x)=true:=G5.mpr (x,b,bX.mpr Ŗ);rw[this]at H;cases H
def fnB(x:Fn):Þ:=zr x.f&&(Ë x.ps.length 3&&(Ë x.os.length 3&&(x.ps.all zr&&x.os.all zr)))
def Ÿ(g:Pg):Þ:=Ë g.bs.length 6&&(Ë g.ls.length 3&&(Ë g.fs.length 4&&(g.bs.all (λp=>zr p.1)&&g.ls.all λp=>zr p.1)))&&((n7 (g.bs.map (·.1)++g.ls.map (·.1))&&(g.fs.all fnB&&(n7 (g.fs.map Fn.f)&&g.fs.all λx=>n7 ((g.bs.map (·.1)++g.ls.map (·.1))++(x.ps++x.os)))))&&((g.fs.all λx=>qu (g.sF x) x.rs 5)&&(qu g.sM g.rs 5&&(Ë (pz g.fs+fw g.rs) 60&&g.ok))))
def PV.of(h:Ÿ g)(l:∀p∈g.ls,p.2.length<=12):PV g:=by let(b,c,d):=iY h;let(a1,A,e,f,i):=Qt b;let(B,b2,j,k):=mS c;let(C,m,n,o):=mS d;erw[(aj a1,aj A,aj e,aS.mp f,λp a=>(aS.mp i p a,l p a),zm B,λx H=>?_,zm j,λx H=>zm (aS.mp k x H),aS.mp C,m,aj n,o)];let(d1,d2,D,q,r):=Qt (aS.mp b2 x H);exact(d1,aj d2,aj D,aS.mp q,aS.mp r)
def aea(h:zr z):z≠"":=λe=>by subst e;cases h
theorem Bc:∀{l m:ϐ},l.Nodup->(∀x∈l,x∈m)->l.length<=m.length|[],_,_,_=>cw _|x::r,m,h,k=>by let hx:=k x aL;let(a,b):=cR.mp h;let:=Bc (m:=m.erase x) b λy H=>(List.mem_erase_of_ne λ(e:y=x)=>a (e▸H)).mpr (k y (aH _ H));rw[List.length_erase_of_mem hx]at this;let hp:=List.length_pos_of_mem hx;rw[aJ];lia
theorem Lp:∀{l:Ł _},(HW l).length<=l.length|[]=>aq _|(r,o)::l=>by let:=Lp (l:=l);cases r<;>first|rwa[Nat.succ_le_succ this]|rwa[aU this]
def PV.gd(G:PV g):GdM g:=by
 let l1:=G.b6;let l2:=G.l3;let l3:=G.f4;let n:=G.n60;let(u,u2,_):=dF.mp G.un;erw[(G.ok,G.uf,λx h=>aea (G.fn x h).f,u,u2,(),(),(),λx h=>((dF.mp (G.uo x h)).2.1,?_),?_)];.let:=(G.fn x h).p3;let:=(G.fn x h).o3;rw[ai];lia
 .let(F,d):=nh (HW g.fl);let a:=Bc F λx h=>(d x).mp h;let b:=Lp (l:=g.fl);let c:g.fl.length=pz g.fs+fw g.rs:=by show(BS _ _++j9 _ _ _).length=_;rw[ai,iS,cC]
  lia
def JS(kind:Ń):Rw:=match kind with|0=>.st "x" (.o .ov (.n 1) (.n 0))|1=>.st "x" (.i "l" (.n 2))|2=>.po "x" "l"|3=>.fa (.n 77)|4=>.pu "l" (.n 1)|_=>.pu "l" (.o .ov (.n 1) (.n 0))
def yX(kind:Ń):Tr:=.ii (.b "n") [.lf (.ca "x" "f" [.o .mi (.b "n") (.n 1)])] [.lf (JS kind)]
def DN(kind inner:Ń):Ł Tr:=match inner with|0=>[yX kind,.lf (.rt (.n 5))]|_=>[.tr [yX kind] "y" [.lf (.rt (.o .pl (.b "y") (.n 100)))]]
def Ň(kind:Ń):Ł Nm:=Ð (match kind with|4=>12|5=>12|1=>1|_=>0) 6
def VB(kind:Ń)(c:Nm)(inner:Ń):Pg:=([("x",0),("y",0)],[("l",Ň kind)],[("f",["n"],[],DN kind inner)],[.tr [.lf (.ca "x" "f" [.n c])] "y" [.lf (.st "x" (.n 3))],.lf (.te (.b "y"))])
def Dc(kind:Ń):Nm:=match kind with|0=>1|1=>2|2=>4|3=>77|4=>3|_=>1
def x2(inner:Ń):Nm:=match inner with|0=>3|_=>0
def Ut(n:Nm):Pg:=([("x",9)],[],[("f",["n"],["m"],[.ii (.b "n") [.lf (.ca "m" "f" [.o .mi (.b "n") (.n 1)]),.lf (.rt (.o .ti (.b "n") (.b "m")))] [],.lf (.rt (.n 1))])],[.lf (.ca "x" "f" [.n n]),.lf (.te (.b "x"))])
def Za:Ń->Ń|0=>1|n+1=>Za n*(n+1)
def YU(n:Nm)(t:Þ):Vx:=bif t then .o .pl (.o .mi (.b "n") (.n 1)) (.o .ov (.n 0) (.o .mi (.b "n") (.n (n-6))))else .o .mi (.b "n") (.n 1)
def CT(n:Nm)(t:Þ):Pg:=([("x",0)],[],[("f",["n"],[],[.ii (.b "n") [.lf (.ca "n" "f" [YU n t])] [],.lf (.rt (.o .pl (.b "n") (.n 1)))])],[.tr [.lf (.ca "x" "f" [.n n])] "x" [.lf (.te (.b "x"))]])
def aiN(g:Pg)(nm:Æ)(v:Nm)(t:Ł Nm)(w:Wk):Þ:=!w.bk&&((match w.fr with|[(_,_,ao)]=>J|_=>bb)&&(Đ (w.td=t)&&(Ì w.bx.length g.bs.length&&(Ì w.ls.length g.ls.length&&(match hW (.S nm) ((g.bs.map (·.1)++g.ls.map (·.1)).map .S) (w.bx.map nP++Qc w.ls)with|O (.I i)=>lg i (v.val:Ń)|_=>bb)))))
def HD(g:Pg)(nm:Æ)(v:Nm)(t:Ł Nm):Þ:=Ÿ g&&((g.ls.all λp=>Ë p.2.length 12)&&((g.pn [] []).lo&&((HW g.fl).isEmpty&&match Jr (g.pn [] []) 2000 (g.w0 [] (O []))with|O w=>aiN g nm v t w|ao=>bb)))
def E4.ofB(h:HD g nm v td):E4 g [] nm (nP v) td:=by let(j,k,n,o,H):=Qt h;erw[(.of j λp q=>aj (aS.mp k p q),(.nil,∅),λs=>n,λs b=>?_)];rw[List.isEmpty_iff.mp o]at b;obtain rfl:=qR (show s.Perm []from b);cases e:Jr (g.pn [] []) 2000 (g.w0 [] (O []))with|a=>rw[e]at H;cases H|c w=>
  rw[e]at H;let(m,x,r,l):=GH e;erw[(m,w,x,r,l,?_)];let(c,d,t,u,F):=Qt H;let(F,a):=ag F;erw[(?_,?_,bB t,aT u,aT F,?_)]
  .cases y:w.bk;.rfl
   .rw[y]at c;cases c
  .split at d;.ext f N e;exact(f,N,e)
   .cases d
  .split at a;.ext i e;rw[e,ic.mp a];rfl
   .cases a
def BZ(n:Ń):Nm:=Fin.ofNat 1000000 n
def VC:((Ù 6).all λkind=>(Ù 4).all λc=>(Ù 2).all λi=>HD (VB kind (BZ (c+1)) i) "x" (x2 i) [Dc kind])=true:=∅
def Uu:((Ù 7).all λn=>HD (Ut (BZ n)) "x" (BZ (Za n)) [BZ (Za n)])=true:=∅
def FD:((Ù 12).all λn=>bif Ñ 6 n then HD (CT (BZ n) J) "x" 1 [1]&&HD (CT (BZ n) bb) "x" 5 [5]else HD (CT (BZ n) bb) "x" (BZ (n+1)) [])=true:=∅
def rP(h:(Ù n).all f)(H:i<n):f i=true:=aS.mp h i (ir.mpr H)
def VD{kind:Ń}(h:kind<6)(H:c<4)(a:i<2):E4 (VB kind (BZ (c+1)) i) [] "x" (nP (x2 i)) [Dc kind]:=.ofB (rP (rP (rP VC h) H) a)
def Uv(h:n<7):E4 (Ut (BZ n)) [] "x" (nP (BZ (Za n))) [BZ (Za n)]:=.ofB (rP Uu h)
def YW(h:n<7):E4 (CT (BZ n) bb) [] "x" (nP (BZ (n+1))) []:=by let:=rP FD (show n<12 by lia);rw[show Ñ 6 n=bb from bq.mpr λz=>by let:=aj z;lia]at this;rwa[.ofB this]
def YV(h:6<n)(H:n<12)(t:Þ):E4 (CT (BZ n) t) [] "x" (nP (bif t then 1 else 5)) [bif t then 1 else 5]:=by let:=rP FD H;rw[show Ñ 6 n=J from aZ h]at this;let(a,b):=ag this;cases t with|d=>rwa[.ofB a]|e=>rwa[.ofB b]
def Wk.w(s:Wk)(rd wr:Ł (Ł cs)):Wk:={s with rd:=rd,wr:=wr}
def ut(P:Pn)(s t:Wk):ß:=∀rd a,∃r W x,BA P (s.w rd a)=O (t.w r W,x)
inductive Go(P:Pn):Wk->Ń->Wk->ß|z{s:Wk}:Go P s 0 s|s{s t u:Wk}{n:Ń}(hw:jG s)(h:ut P s t)(g:Go P t n u):Go P s (n+1) u
def Go.trans{s:Wk}(a:Go P s m t)(b:Go P t n u):Go P s (m+n) u:=by induction a with|z=>rw[cP];rwa[b]|s H h _ i=>rw[Nat.succ_add];rwa[.s H h (i b)]
def Go.rn{s:Wk}(g:Go P s n t):∀rd W,∃R a xs,Rn P (s.w rd W) n (t.w R a) xs:=by induction g with|z=>rwa[λrd W=>(rd,W,[],.z)]|s H h _ i=>intro rd W;let(b,c,x,e):=h rd W;let(d,f,xs,r):=i b c;exact(d,f,_,.s (Xe H) e r)
def E4.go(ok:PV g)(H:nH (O W))(lo:(g.pn [] []).lo)(h:∀s,s.Perm (dW (HW g.fl))->∃m t,Go (g.pn s W) (g.w0 s (O W)) m t/\m<=2000/\∀rd a,Fin g nm v td (t.w rd a)):E4 g W nm v td:=by erw[(ok,H,λs=>lo,λs b=>?_)];let(m,t,G,l,f):=h s b;let(rd,a,x,r):=G.rn [] [];exact(m,_,x,r,l,f rd a)
def HV(x y:Nm):Pg:=([("a",x),("b",y),("c",0)],[],[],[.wh (.b "b") [.lf (.st "c" (.o .re (.b "a") (.b "b"))),.lf (.st "a" (.b "b")),.lf (.st "b" (.b "c"))]])
def dS(a b c:Nm)(p:Ő Ń):Wk:=([a,b,c],[],[("",[],p)],[],[],bb,[],[])
def MZ{n:Nm}(h:0<n.val):∃k h,n=(k+1,h):=by let(n,hn):=n;cases n with|h=>rwa[Ă h (bU 0)]|j k=>exact(k,hn,Ŗ)
unseal pI in def div_one(h:0<b.val):Go ((HV x y).pn [] []) (dS a b c (O 0)) 4 (dS b (a%b) (a%b) (O 0)):=by let(n,hn,rfl):=MZ h;rwa[.s (t:=dS a ⟨n+1,hn⟩ c (O 1)) Ŗ (λrd w=>(_,_,_,Ŗ)) (.s (t:=dS a ⟨n+1,hn⟩ (a%⟨n+1,hn⟩) (O 2)) Ŗ (λrd w=>(_,_,_,Ŗ)) (.s (t:=dS ⟨n+1,hn⟩ ⟨n+1,hn⟩ (a%⟨n+1,hn⟩) (O 3)) Ŗ (λrd w=>(_,_,_,Ŗ)) (.s Ŗ (λrd w=>(_,_,_,Ŗ)) .z)))]
unseal pI in def yJ:Go ((HV x y).pn [] []) (dS a 0 c (O 0)) 1 (dS a 0 c ao):=.s Ŗ (λrd w=>(_,_,_,Ŗ)) .z
def MW(h:0<b):2*(a%b)<a\/a<b:=by
 rcases Nat.lt_or_ge a b with l|l;.rwa[.inr l]
 .let h1:=Aj a h;let h2:=Nat.div_add_mod a b;let H:1<=a/b:=(Nat.le_div_iff_mul_le h).mpr ();let c:b*1<=b*(a/b):=Nat.mul_le_mul_left b H;rwa[.inl ()]
def YZ:∀(j:Ń)(a b c:Nm),b.val<2^j->∃m A C,Go ((HV x y).pn [] []) (dS a b c (O 0)) m (dS A 0 C ao)/\m<=8*j+1/\A.val=ë a.val b.val:=by intro j;induction j with|h=>intro a b c h;obtain rfl:b=0:=PR (Nat.lt_one_iff.mp h);exact(1,a,c,yJ,aQ _ _,(n0 _).symm)|j j i=>
  intro a b c h;rcases Nat.eq_zero_or_pos b.val with e|p;.obtain rfl:b=0:=PR e;exact(1,a,c,yJ,aQ _ _,(n0 _).symm)
  let g:ë a.val b.val=ë b.val (a%b).val:=by rw[mM,Fk,mM];rfl
  let G:=div_one (x:=x) (y:=y) (a:=a) (c:=c) p;generalize H:a%b=r at g G;let o:r.val<b.val:=by rw[<-H];rwa[Aj _ p]
  rcases Nat.eq_zero_or_pos r.val with e|P;.obtain rfl:r=0:=PR e;exact(5,b,0,G.trans yJ,(),by rw[g];exact(n0 _).symm)
  let d:ë b.val r.val=ë r.val (b%r).val:=by rw[mM,Fk,mM];rfl
  let f:=div_one (x:=x) (y:=y) (a:=b) (c:=r) P;let k:(b%r).val<2^j:=by let h1:=(MW (a:=b.val) P).resolve_right ();let q:(b%r).val=b.val%r.val:=Ŗ;rw[Nat.pow_succ]at h;lia
  let(m,A,C,n,l,e):=i r (b%r) (b%r) k;exact(4+(4+m),A,C,G.trans (f.trans n),(),by rw[g,d,e])
def Rr(h:y.val<1024):E4 (HV x y) [] "a" (.I (ë x.val y.val:Ń)) []:=by erw[.go (.of Ŗ λp H=>nomatch H) (.nil,∅) Ŗ λs a=>?_];obtain rfl:=qR (show s.Perm []from a);let(m,A,c,G,l,e):=YZ (x:=x) (y:=y) 10 x y 0 h;exact(m,_,G,(),λrd w=>(Ŗ,(_,_,Ŗ),Ŗ,Ŗ,Ŗ,by show O (nP A)=_;rw[<-e];rfl))
def FU:Pg:=([("s",0),("x",0)],[],[],[.lf (.ak "x" "d"),.wh (.b "x") [.lf (.st "s" (.o .pl (.b "s") (.b "x"))),.lf (.ak "x" "d")],.lf (.te (.b "s"))])
def sS(s x:Nm)(k:Ń)(t:Ł Nm)(p:Ő Ń):Wk:=([s,x],[],[("",[],p)],[k],t,bb,[],[])
def sP(ns:Ł Nm):Pn:=FU.pn ["d"] [("d",ns)]
unseal pI in def Vl(h:0<x.val):Go (sP ns) (sS s x k [] (O 1)) 3 (sS (s+x) (ns[k]?.getD 0) (k+1) [] (O 1)):=by let(n,hn,rfl):=MZ h;rwa[.s (t:=sS s ⟨n+1,hn⟩ k [] (O 2)) Ŗ (λrd w=>(_,_,_,Ŗ)) (.s (t:=sS (s+⟨n+1,hn⟩) ⟨n+1,hn⟩ k [] (O 3)) Ŗ (λrd w=>(_,_,_,Ŗ)) (.s Ŗ (λrd w=>(_,_,_,Ŗ)) .z))]
unseal pI in def Vi:Go (sP ns) (sS 0 0 0 [] (O 0)) 1 (sS 0 (ns[0]?.getD 0) 1 [] (O 1)):=.s Ŗ (λrd w=>(_,_,_,Ŗ)) .z
unseal pI in def Vk:Go (sP ns) (sS s 0 k [] (O 1)) 2 (sS s 0 k [s] ao):=.s (t:=sS s 0 k [] (O 4)) Ŗ (λrd w=>(_,_,_,Ŗ)) (.s Ŗ (λrd w=>(_,_,_,Ŗ)) .z)
def qB:Ł Nm->Ń|[]=>0|x::r=>x.val+qB r
theorem OT:∀(post pre:Ł Nm)(s:Nm),ns=pre++post->(∀x∈post,0<x.val)->s.val+qB post<1000000->∃m s' k,Go (sP ns) (sS s (ns[pre.length]?.getD 0) (pre.length+1) [] (O 1)) m (sS s' 0 k [s'] ao)/\m<=3*post.length+2/\s'.val=s.val+qB post
 |[],pre,s,e,_,_=>by rw[e,aK,er (aq _)];exact(2,s,_,Vk,aq _,Ŗ)|x::post,pre,s,e,h,H=>by
  let a:ns[pre.length]?=O x:=by rw[e,aI (aq _),eZ];rfl
  rw[a];let G:=Vl (ns:=ns) (s:=s) (x:=x) (k:=pre.length+1) (h x aL);let H:s.val+(x.val+qB post)<1000000:=H;let E:(s+x).val=s.val+x.val:=by show(s.val+x.val)%1000000=_;rwa[G9 ()]
  let(m,s',k,g,l,b):=OT (ns:=ns) post (pre++[x]) (s+x) (by rw[bL];rwa[e]) (λy c=>h y (aH _ c)) (by rw[E];lia);rw[ai,bM]at g;exact(3+m,s',k,G.trans g,by rw[aJ];lia,by rw[b,E];show _=s.val+(x.val+qB post);lia)
def Vj(h:∀x∈ns,0<x.val)(b:ns.length<=20)(s:qB ns<1000000):E4 FU [("d",ns)] "s" (.I (qB ns:Ń)) [(qB ns,s)]:=by erw[.go (.of Ŗ λp H=>nomatch H) (by show(["d"]:ϐ).Nodup;decide,by show 1<=100;decide) Ŗ λS H=>?_];obtain rfl:=List.perm_singleton.mp (show S.Perm ["d"]from H);let(m,a,k,G,l,e):=OT (ns:=ns) ns [] 0 rfl h (by show 0+_<_;lia);let e:a=(qB ns,s):=PR (by rw[e];rwa[cP _]);subst e;exact(1+m,_,Vi.trans G,(),λrd w=>(Ŗ,(_,_,Ŗ),Ŗ,Ŗ,Ŗ,Ŗ))
def F1(ts:Ł Nm):Pg:=([("x",0)],[("l",ts),("m",[])],[],[.wh (.s "l") [.lf (.po "x" "l"),.lf (.pu "m" (.b "x"))],.lf (.st "x" (.s "m"))])
def Wk.vQ{w:Wk}(h:w.bk=bb):w.cl.w w.rd w.wr=w:=by let(a,b,c,d,e,f,g,i):=w;cases h;rfl
def OQ(h:s.cl=s)(hn:vk P s=O n)(e:xo P s n=O (w1,ao))(H:w1.bk=bb)(a:(D2 w1.rd&&D2 w1.wr))(b:w1.cl=t):ut P s t:=λrd W=>by subst b;erw[(w1.rd,w1.wr,W5 (s.w rd W) n (Dr P.rw[n]?) w1 ao,?_)];let c:vk P (s.w rd W)=O n:=hn;let d:(s.w rd W).cl=s:=h;delta BA;rw[c];show(xo P (s.w rd W).cl n).bind _=_;rw[d,e];show(bif D2 w1.rd&&D2 w1.wr then O (á w1 _)else ao)=_;rw[a,Wk.vQ H];rfl
def rZ(h:s.cl=s)(hn:vk P s=O n)(H:P.rw[n]?=O r)(p:plain r=ao)(o:Gr r=O d)(e:d P s r=O (w1,ao))(b:w1.bk=bb)(a:(D2 w1.rd&&D2 w1.wr))(c:w1.cl=t):ut P s t:=by erw[OQ h hn ?_ b a c];delta xo;rw[H];show(match plain r with|O d=>_|ao=>_)=_;rw[p];show(Gr r).bind _=_;rw[o];rwa[e]
def EB(h:s.cl=s)(hn:vk P s=O n)(H:P.rw[n]?=O r)(p:plain r=O d)(e:d P s r=O (w1,ao))(a:vg n P.bh=O q)(m:move w1 q=O w2)(b:w2.bk=bb)(c:(D2 w2.rd&&D2 w2.wr))(f:w2.cl=t):ut P s t:=by erw[OQ h hn ?_ b c f];delta xo;rw[H];show(match plain r with|O d=>_|ao=>_)=_;rw[p];show(d P s r).bind _=_;rw[e];show(vg n P.bh).bind _=_;rw[a];show Bh (move w1 q)=_;rw[m];rfl
def LA(e:mq P w z=O (w1,l))(h:l.length<1000000):ev P (.s z) w=O (w1,.v (l.length,h)):=by delta ev;rw[e];show(U5 l).map _=_;delta U5;rw[dif_pos h];rfl
def G0(h:qo w=O (O k))(e:ev P v w=O (w1,.v x))(hz:Ì x.val 0=b)(H:(bif b then vg k P.bh else vg k P.fs)=O q)(m:move w1 q=O w2):lu P w (.wh v a)=O (w2,ao):=by subst hz;delta lu pI;dsimp only;rw[h];show(ev P v w).bind _=_;rw[e];show(bif Ì x.val 0 then vg k P.bh else vg k P.fs).bind _=_;rw[H];show Bh (move w1 q)=_;rw[m];rfl
def aeV(e:mq P w y=O (w1,l++[x]))(h:sA P w1 y l=O w2)(H:oS P w2 z x=O w3):HE P w (.po z y)=O (w3,ao):=by delta HE;dsimp only;rw[e];show(match(l++[x]).getLast? with|ao=>_|O n=>_)=_;rw[List.getLast?_concat];show(sA P w1 y (l++[x]).dropLast).bind _=_;rw[T1,h];show Bh (oS P w2 z x)=_;rw[H];rfl
def aeX(H:ev P v w=O (w1,.v x))(e:mq P w1 z=O (w2,l))(h:l.length<12)(a:sA P w2 z (l++[x])=O w3):xg P w (.pu z v)=O (w3,ao):=by delta xg pI;dsimp only;rw[H];show(mq P w1 z).bind _=_;rw[e];show(bif Ë 12 l.length then _ else Bh (sA P w2 z (l++[x])))=_;rw[bq.mpr λq=>Ă (aj q) (Nat.not_le_of_lt h),a];rfl
def afB(h:ev P v w=O (w1,.v x))(H:oS P w1 z x=O w3):HF P w (.st z v)=O (w3,ao):=by delta HF pI;dsimp only;rw[h];show Bh (oS P w1 z x)=_;rw[H];rfl
def tS(x:Nm)(l m:Ł Nm)(p:Ő Ń):Wk:=([x],[l,m],[("",[],p)],[],[],bb,[],[])
abbrev tP':Pn:=(F1 []).pn [] []
def VJ(H:l.length<=10)(a:m.length<=10):Go tP' (tS x (l++[t]) m (O 0)) 3 (tS t l (m++[t]) (O 0)):=by
 let h:(l++[t]).length<1000000:=by rw[ai,bM];lia
 erw[.s (t:=tS x (l++[t]) m (O 1)) Ŗ (rZ rfl rfl rfl rfl rfl (G0 rfl (LA Ŗ h) (b:=bb) (by show Ì (l++[t]).length 0=bb;rw[ai];rfl) rfl rfl) rfl rfl rfl) ?_];erw[.s (t:=tS t l m (O 2)) Ŗ (EB rfl rfl rfl rfl (aeV (l:=l) (x:=t) Ŗ Ŗ Ŗ) rfl rfl rfl rfl rfl) ?_];rwa[.s Ŗ (EB rfl rfl rfl rfl (aeX (x:=t) (l:=m) rfl rfl () rfl) rfl rfl rfl rfl rfl) .z]
def aaL{m0:Ń}:∀(l m:Ł Nm)(x:Nm),l.length+m.length<=10->∃n X,Go tP' (tS x l m (O 0)) n (tS X [] (m++l.reverse) ao)/\n<=3*l.length+2:=by intro l;induction h:l.length generalizing l with|h=>
  intro m x a;obtain rfl:=qS.mp h;rw[List.reverse_nil,aK];let H:m.length<1000000:=()
  exact(2,(m.length,H),.s (t:=tS x [] m (O 3)) Ŗ (rZ rfl rfl rfl rfl rfl (G0 rfl (LA (l:=[]) Ŗ (Nat.zero_lt_succ _)) (b:=J) rfl rfl rfl) rfl rfl rfl) (.s Ŗ (EB rfl rfl rfl rfl (afB (LA (l:=m) Ŗ H) Ŗ) rfl rfl rfl rfl rfl) .z),aq _)|j k i=>intro m x a;obtain⟨L,t,rfl⟩:∃L t,l=L++[t]:=(l.dropLast,l.getLast (λe=>by rw[e]at h;cases h),(List.dropLast_concat_getLast _).symm);rw[ai,bM]at h;let(n,X,G,e):=i L () (m++[t]) t (by rw[ai,bM];lia);rw[bL]at G;rw[Ŵ];exact(3+n,X,(VJ () ()).trans G,())
def VI(h:ts.length<=8):E4 (F1 ts) [] "m" (.T ((ts.reverse).map nP)) []:=by
 erw[.go (.of Ŗ λp H=>?_) (.nil,∅) Ŗ λs a=>?_]
 .rcases aB.mp H with rfl|H;.rwa[aA h ∅]
  .rw[aG.mp H];rwa[cw _]
 obtain rfl:=qR (show s.Perm []from a);let(n,x,G,l):=aaL (m0:=0) ts [] 0 (by show ts.length+0<=10;lia);exact(n,_,G,(),λrd w=>(Ŗ,(_,_,Ŗ),Ŗ,Ŗ,Ŗ,Ŗ))
def Rv(E:ev P u w=O (w1,.v x))(a:ev P v w1=O (w2,.v y))(e:f.f x y=o):ev P (.o f u v) w=O (w2,o):=by subst e;delta ev pI;rw[E];show(ev P v w1).bind _=_;rw[a];rfl
def Ū(E:ev P v w=O (w1,.v x))(a:mq P w1 z=O (w2,l))(e:lx l x=o):ev P (.i z v) w=O (w2,o):=by subst e;delta ev pI;rw[E];show(mq P w1 z).map _=_;rw[a];rfl
def WO(h:qo w=O (O k))(e:ev P v w=O (w1,.v x))(hz:Ì x.val 0=b)(H:(bif b then vg k P.sc else vg k P.fs)=O q)(m:move w1 q=O w2):k8 P w (.ii v a c)=O (w2,ao):=by subst hz;delta k8 pI;dsimp only;rw[h];show(ev P v w).bind _=_;rw[e];show(bif Ì x.val 0 then vg k P.sc else vg k P.fs).bind _=_;rw[H];show Bh (move w1 q)=_;rw[m];rfl
def U'(ts:Ł Nm):Pg:=([("x",0)],[("l",ts)],[("f",[],["k"],[.wh (.o .le (.b "k") (.s "l")) [.ii (.o .sa (.i "l" (.b "k")) (.n 3)) [.lf (.rt (.b "k"))] [],.lf (.st "k" (.o .pl (.b "k") (.n 1)))],.lf (.rt (.n 99))])],[.lf (.ca "x" "f" [])])
def pS(ts:Ł Nm)(k:Nm)(p:Ő Ń):Wk:=([0],[ts],[("f",[k],p),("",[],O 6)],[],[],bb,[],[])
def pE(ts:Ł Nm)(x:Nm):Wk:=([x],[ts],[("",[],ao)],[],[],bb,[],[])
abbrev pP:Pn:=(U' []).pn [] []
unseal pI in def Up:Go pP ([0],[ts],[("",[],O 6)],[],[],bb,[],[]) 1 (pS ts 0 (O 1)):=.s Ŗ (λrd w=>(_,_,_,Ŗ)) .z
unseal pI in def V':Go pP (pS ts k (O 3)) 1 (pE ts k):=.s Ŗ (λrd w=>(_,_,_,Ŗ)) .z
unseal pI in def W':Go pP (pS ts k (O 5)) 1 (pE ts 99):=.s Ŗ (λrd w=>(_,_,_,Ŗ)) .z
unseal pI in def aeU:Go pP (pS ts k (O 4)) 1 (pS ts (k+1) (O 1)):=.s Ŗ (λrd w=>(_,_,_,Ŗ)) .z
def Xl(l:ts.length<=100)(b:Þ)(H:Ñ k.val ts.length=b):Go pP (pS ts k (O 1)) 1 (pS ts k (O (bif b then 2 else 5))):=by
 let h:ts.length<1000000:=()
 erw[.s Ŗ ?_ .z];cases b with|d=>rwa[rZ rfl rfl rfl rfl rfl (G0 rfl (Rv Ŗ (LA Ŗ h) (cb (λb:Þ=>Ou.v (bif b then 1 else 0)) H)) (b:=bb) rfl rfl rfl) rfl rfl rfl]|e=>rwa[rZ rfl rfl rfl rfl rfl (G0 rfl (Rv Ŗ (LA Ŗ h) (cb (λb:Þ=>Ou.v (bif b then 1 else 0)) H)) (b:=J) rfl rfl rfl) rfl rfl rfl]
def aeT(H:ts[k.val]?=O t)(b:Þ)(h:Ì t.val 3=b):Go pP (pS ts k (O 2)) 1 (pS ts k (O (bif b then 3 else 4))):=by
 let e:lx ts k=.v t:=by delta lx;rw[H]
 erw[.s Ŗ ?_ .z];cases b with|d=>rwa[rZ rfl rfl rfl rfl rfl (WO rfl (Rv (Ū Ŗ Ŗ e) Ŗ (cb (λb:Þ=>Ou.v (bif b then 1 else 0)) h)) (b:=bb) rfl rfl rfl) rfl rfl rfl]|e=>rwa[rZ rfl rfl rfl rfl rfl (WO rfl (Rv (Ū Ŗ Ŗ e) Ŗ (cb (λb:Þ=>Ou.v (bif b then 1 else 0)) h)) (b:=J) rfl rfl rfl) rfl rfl rfl]
def yU:Ł Nm->Ń->Ń|[],_=>99|t::r,i=>bif Ì t.val 3 then i else yU r (i+1)
theorem NZ(H:ts.length<=100):∀(post pre:Ł Nm)(k:Nm),ts=pre++post->k.val=pre.length->∃n x,Go pP (pS ts k (O 1)) n (pE ts x)/\n<=3*post.length+3/\x.val=yU post pre.length
 |[],pre,k,e,h=>(2,99,(Xl H bb (bq.mpr λz=>by let:=aj z;rw[e,aK]at this;lia)).trans W',(),Ŗ)|t::post,pre,k,e,h=>by
  let lt:k.val<ts.length:=by rw[e,ai,aJ];lia
  let E:ts[k.val]?=O t:=by rw[e,h,aI (aq _),eZ];rfl
  let a:=Xl (ts:=ts) H J (aZ lt);let g:=aeT (ts:=ts) E _ Ŗ;show ∃(n:Ń)(x:Nm),_/\_/\x.val=bif Ì t.val 3 then pre.length else yU post (pre.length+1);cases b:Ì t.val 3 with|d=>rw[b]at g;exact(3,k,a.trans (g.trans V'),(),h)|e=>
   rw[b]at g;let c:(k+1).val=(pre++[t]).length:=by show(k.val+1)%1000000=_;rw[ai,bM,G9 (),h]
   let(n,x,G,l,ex):=NZ H post (pre++[t]) (k+1) (by rw[bL];rwa[e]) c;rw[ai,bM]at ex;exact(1+(1+(1+n)),x,a.trans (g.trans (aeU.trans G)),by rw[aJ];lia,ex)
def Uq(h:ts.length<=8):E4 (U' ts) [] "x" (.I (yU ts 0:Ń)) []:=by
 erw[.go (.of Ŗ λp H=>?_) (.nil,∅) Ŗ λs a=>?_];.rw[aG.mp H];rwa[aA h ∅]
 obtain rfl:=qR (show s.Perm []from a);let(n,x,G,l,e):=NZ (aA h ∅) ts [] 0 rfl rfl;exact(1+n,_,Up.trans G,(),λrd w=>(Ŗ,(_,_,Ŗ),Ŗ,Ŗ,Ŗ,by show O (nP x)=_;rw[<-show x.val=yU ts 0 from e];rfl))
def frP(g:Pg)(w:Ł (Æ×Ł Nm))(nm:Æ)(v:Pv)(t:Ł Nm):Pv:=.T [g.p,nv (O w),.T [.S nm,v],.T (t.map nP)]
inductive sQ:Ct|mk{n:Î}{Q:Dv->Hs->ß}{xc:XP}(h:JH n)(q:∀n' g wd nm v td,JH n'=J->E4 g wd nm v td->FH 59 v->Q (.p (frP g wd nm v td)) [.L [.I n']]):sQ [.r 0] [.L [.I n]] Q xc
inductive ó:Ct|mk{x:Pv}{Q:Dv->Hs->ß}{xc:XP}(q:Q (.p (.T [.S "number",x])) []):ó [.p x] [] Q xc
inductive QF:Ct|mk{x:Pv}{Q:Dv->Hs->ß}{xc:XP}(q:Q (.p (.T [.S "box",x])) []):QF [.p x] [] Q xc
inductive JD(G:Ń)(r:Pv)(g:Pg)(n:Î):Ń->Es->Hs->ß|mk{a b:Ń}(e:ë a b=G):JD G r g n b [O (.r 0),O (.p (iP a)),O (.p (iP b)),O (.p r),O (.p g.p)] [.L [.I n]]
section
variable{ca:Ń->À}{W:Wd}{k:Ń}
def Q8(B:LX ca Jm W)(S:SX ca W):DX ca Jm W 45 2 ó:=by erw[B.e 1 J [] [] (.re (.tup (.u2 (.s "number") 0))) S.UD rfl Ť Ť λds h Q x c=>?_];induction c with|mk q=>exact(Ŗ,q)
def CO(B:LX ca Jm W)(S:SX ca W):DX ca Jm W 46 2 QF:=by erw[B.e 1 J [] [] (.re (.tup (.u2 (.s "box") 0))) S.UC rfl Ť Ť λds h Q x c=>?_];induction c with|mk q=>exact(Ŗ,q)
def HH(B:LX ca Jm W)(S:SX ca W)(D:DX ca Jm W 39 32 sR):DX ca Jm W 47 34 sQ:=by erw[B.e (k:=32) 5 J [(44,rh),(46,QF),(39,sR)] [] (.set 1 (.cl 44 [0] (.u2 0 (.i 1000)))<|>.set 2 (.cl 44 [0] (.u2 0 (.i 1000)))<|>.set 3 (.tup (.u3 (.tup (.u3 (.s "set") (.s "c") (.tup (.u3 (.s "rest") (.cl 46 [] (.u (.s "a"))) (.cl 46 [] (.u (.s "b"))))))) (.tup (.u3 (.s "set") (.s "a") (.cl 46 [] (.u (.s "b"))))) (.tup (.u3 (.s "set") (.s "b") (.cl 46 [] (.u (.s "c")))))))<|>.set 4 (.cl 39 [] (.u4 (.tup (.u3 (.tup (.u2 (.s "a") 1)) (.tup (.u2 (.s "b") 2)) (.tup (.u2 (.s "c") (.i 0))))) (.tup .nil) (.tup .nil) (.tup (.u (.tup (.u3 (.s "while") (.cl 46 [] (.u (.s "b"))) 3))))))<|>.wh (.cmp PZ 2 (.i 0)) (.one (.par 1 2 (.u2 2 (.b2 we 1 2))))<|>.re (.tup (.u4 4 (.wU .nil) (.tup (.u2 (.s "a") 1)) (.tup .nil)))) S.wK rfl ((mW B S).le ∅,(CO B S).le ∅,D.le ∅,Ť) Ť λds h Q X c=>?_];induction c with|@mk n Q X h q=>
 erw[(Ŗ,rh.mk (m:=1000) h ∅ ∅ λr x l d=>rh.mk (m:=1000) l ∅ ∅ λN y o t=>?_)];let d:x<1000000:=()
 let H:y<1000000:=()
 let C:=Rr (x:=(x,d)) (y:=(y,H)) (by show y<1024;lia);erw[.mk (.mk (.mk (.mk (.mk (sR.mk (g:=HV (x,d) (y,H)) C.ok ?_)))))];erw[(JD (ë x y) _ (HV (x,d) (y,H)) N,(y,.mk Ŗ),λf p v j=>?_)];induction j with|@mk a b e=>
 erw[sf (c:=BW 0 (b:Ń)) (λc=>?_) λc=>?_]
 .let c:0<b:=by let:=fF.mp c;lia
  erw[bT (cA (show(0:Î)<(b:Ń)by lia)) ?_];exact(a%b,Aj _ c,.mk (by rw[<-e,mM a b,Fk b a,mM]))
 .obtain rfl:b=0:=Nat.eq_zero_of_not_pos λz=>by rw[fF.mpr ()]at c;cases c
  obtain rfl:a=ë x y:=by rw[<-e];exact(n0 _).symm
  rwa[q N _ [] "a" _ [] o C rfl]
inductive ģ(r1 r2 r3 r4:Pv)(g:Pg)(m:Ń)(n:Î)(k:Ń):Es->Hs->ß|mk{v:Ő Dv}:ģ r1 r2 r3 r4 g m n k [O (.r 0),O (.p (iP m)),O (.p r2),O (.p r3),O (.p r4),O (.p g.p),O (.p (iP (Za k))),v] [.L [.I n]]
def r9(h:m<1000000):BZ m=(m,h):=PR (G9 h)
def Zb(h:m<7):Za m<1000000:=by
 obtain rfl|rfl|rfl|rfl|rfl|rfl|rfl:m=0\/m=1\/m=2\/m=3\/m=4\/m=5\/m=6:=()
 all_goals decide
def HQ(B:LX ca Jm W)(S:SX ca W)(D:DX ca Jm W 39 32 sR):DX ca Jm W 48 34 sQ:=by erw[B.e (k:=32) 8 J [(44,rh),(46,QF),(45,ó),(39,sR)] [] (.set 1 (.cl 44 [0] (.u2 0 (.i 7)))<|>.set 2 (.tup (.u3 (.s "minus") (.cl 46 [] (.u (.s "n"))) (.cl 45 [] (.u (.i 1)))))<|>.set 3 (.tup (.u2 (.tup (.u4 (.s "call") (.s "m") (.s "f") (.tup (.u 2)))) (.tup (.u2 (.s "return") (.tup (.u3 (.s "times") (.cl 46 [] (.u (.s "n"))) (.cl 46 [] (.u (.s "m")))))))))<|>.set 4 (.tup (.u (.tup (.u4 (.s "if") (.cl 46 [] (.u (.s "n"))) 3 (.tup .nil)))))<|>.set 5 (.cl 39 [] (.u4 (.tup (.u (.tup (.u2 (.s "x") (.i 9))))) (.tup .nil) (.tup (.u (.tup (.u4 (.s "f") (.tup (.u (.s "n"))) (.tup (.u (.s "m"))) (.b2 gf 4 (.tup (.u (.tup (.u2 (.s "return") (.cl 45 [] (.u (.i 1)))))))))))) (.tup (.u2 (.tup (.u4 (.s "call") (.s "x") (.s "f") (.tup (.u (.cl 45 [] (.u 1)))))) (.tup (.u2 (.s "tell") (.cl 46 [] (.u (.s "x")))))))))<|>.set 6 (.i 1)<|>.fo (.one 7) (.r (.u 1)) (.one (.set 6 (.b2 yi 6 (.b2 gf 7 (.i 1)))))<|>.re (.tup (.u4 5 (.wU .nil) (.tup (.u2 (.s "x") 6)) (.tup (.u 6))))) S.wL rfl ((mW B S).le ∅,(CO B S).le ∅,(Q8 B S).le ∅,D.le ∅,Ť) Ť λds h Q X c=>?_];induction c with|@mk n Q X h q=>
 erw[(Ŗ,rh.mk (m:=7) h ∅ ∅ λb m d H=>?_)];let Y:m<1000000:=()
 let hf:=Zb H;let C:=Uv H;rw[r9 Y,r9 hf]at C;erw[.mk (.mk (.mk (.mk (.mk (.mk (.mk (.mk (sR.mk (g:=Ut (m,Y)) C.ok ?_))))))))];erw[bT (rX ()) (kn (λpre _=>ģ .N _ _ _ (Ut (m,Y)) m b pre.length) (.mk (v:=ao)) (λpre x post a f ex j=>?_) λa f j=>?_)];.induction j with|@mk v=>let(rfl,l):=Ξ ex;erw[bT (h_ () ()) ?_];rw[ai];rwa[.mk]
 .induction j with|@mk v=>rw[nK];rwa[q b _ [] "x" _ _ d C rfl]
inductive JVs(f:Nm->ß)(i:Ń):ϑ->Hs->ß|mk{vs:Ł Nm}{n:Î}{acc:ϑ}(ea:acc=vs.map nP)(h:JH n)(hi:vs.length=i)(hf:∀v∈vs,f v):JVs f i acc [.L [.I n]]
def JVs.snoc{vs:Ł Nm}(E:acc=vs.map nP)(h:JH n)(H:∀v∈vs,f v)(a:f v):JVs f (vs.length+1) (acc++[nP v]) [.L [.I n]]:=.mk (vs:=vs++[v]) (by rw[E,aN];rfl) h (by rw[ai];rfl) λy b=>(eR.mp b).elim (H y) λe=>by rw[aG.mp e];rwa[a]
theorem y6:∀{vs:Ł Nm},sj (vs.map nP)=O (vs.map λv=>((v.val:Ń):Î))|[]=>Ŗ|v::r=>by show(sj (r.map nP)).map _=_;rw[y6];rfl
theorem F7:∀{vs:Ł Nm},sj (vs.map nP++[.I 3])=O ((vs.map λv=>((v.val:Ń):Î))++[3])|[]=>Ŗ|v::r=>by show(sj (r.map nP++[.I 3])).map _=_;rw[F7];rfl
theorem OV:∀{vs:Ł Nm},tu (vs.map λv=>((v.val:Ń):Î))=(qB vs:Ń)|[]=>Ŗ|v::r=>by show((v.val:Ń):Î)+tu (r.map _)=((v.val+qB r:Ń):Î);rw[OV];rfl
theorem OU:∀{vs:Ł Nm},(∀v∈vs,v.val<=9)->qB vs<=9*vs.length|[],_=>aq _|v::r,h=>by let:=h v aL;let:=OU (vs:=r) λy H=>h y (aH _ H);show v.val+qB r<=9*(r.length+1);lia
theorem AW:∀{vs:Ł Nm},uS (vs.map nP)=J|[]=>Ŗ|v::r=>by show(J&&uS _)=J;rw[AW];rfl
def Y0{vs:Ł Nm}:FH 59 (.T (vs.map nP))=true:=aS.mpr λx h=>by let(v,_,rfl):=cB.mp h;rfl
def Le(B:LX ca Jm W)(S:SX ca W)(D:DX ca Jm W 39 32 sR):DX ca Jm W 49 34 sQ:=by erw[B.e (k:=32) 5 J [(44,rh),(46,QF),(39,sR)] [] (.set 1 (.bi AV (.u (.comp 1 [0] (.one 0) (.r (.u (.cl 44 [0] (.u2 0 (.i 9))))) .no (.cl 44 [0] (.u2 1 (.i 50))))))<|>.set 2 (.tup (.u2 (.tup (.u3 (.s "pop") (.s "x") (.s "l"))) (.tup (.u3 (.s "push") (.s "m") (.cl 46 [] (.u (.s "x")))))))<|>.set 3 (.tup (.u (.tup (.u3 (.s "set") (.s "x") (.tup (.u2 (.s "size") (.s "m")))))))<|>.set 4 (.cl 39 [] (.u4 (.tup (.u (.tup (.u2 (.s "x") (.i 0))))) (.tup (.u2 (.tup (.u2 (.s "l") 1)) (.tup (.u2 (.s "m") (.tup .nil))))) (.tup .nil) (.b2 gf (.tup (.u (.tup (.u3 (.s "while") (.tup (.u2 (.s "size") (.s "l"))) 2)))) 3)))<|>.re (.tup (.u4 4 (.wU .nil) (.tup (.u2 (.s "m") (.rev 1))) (.tup .nil)))) S.zF rfl ((mW B S).le ∅,(CO B S).le ∅,D.le ∅,Ť) Ť λds h Q x c=>?_];induction c with|@mk n Q x h q=>
 erw[(Ŗ,rh.mk (m:=9) h ∅ ∅ λz m H A=>bT (rX (n:=m) ()) ?_)];delta uG;erw[(JVs λ_=>æ,.mk (vs:=[]) Ŗ H Ŗ (λv p=>nomatch p),λi y a t F j=>?_,λa t j=>?_)];.induction j with|@mk vs N a E d f l=>subst f;rwa[rh.mk (m:=50) d ∅ ∅ λG b w I=>.snoc (v:=(b,())) E w l Ť]
 .induction j with|@mk vs N a E d f l=>subst E;rw[nK]at f;let C:=VI (ts:=vs) ();erw[.mk (sR.mk (g:=F1 vs) C.ok ?_)];let o:=q N _ [] "m" _ [] d C Y0;rw[G7]at o;rwa[o]
def acB(B:LX ca Jm W)(S:SX ca W)(D:DX ca Jm W 39 32 sR):DX ca Jm W 50 34 sQ:=by erw[B.e (k:=32) 4 J [(44,rh),(46,QF),(39,sR)] [] (.set 1 (.bi AV (.u (.comp 1 [0] (.one 0) (.r (.u (.cl 44 [0] (.u2 0 (.i 9))))) .no (.b2 gf (.i 1) (.cl 44 [0] (.u2 1 (.i 9)))))))<|>.set 2 (.tup (.u2 (.tup (.u3 (.s "set") (.s "s") (.tup (.u3 (.s "plus") (.cl 46 [] (.u (.s "s"))) (.cl 46 [] (.u (.s "x"))))))) (.tup (.u3 (.s "ask") (.s "x") (.s "d")))))<|>.set 2 (.tup (.u3 (.tup (.u3 (.s "ask") (.s "x") (.s "d"))) (.tup (.u3 (.s "while") (.cl 46 [] (.u (.s "x"))) 2)) (.tup (.u2 (.s "tell") (.cl 46 [] (.u (.s "s")))))))<|>.set 3 (.cl 39 [] (.u4 (.tup (.u2 (.tup (.u2 (.s "s") (.i 0))) (.tup (.u2 (.s "x") (.i 0))))) (.tup .nil) (.tup .nil) 2))<|>.re (.tup (.u4 3 (.wU (.u (.tup (.u2 (.s "d") 1)))) (.tup (.u2 (.s "s") (.bi Ş (.u 1)))) (.tup (.u (.bi Ş (.u 1))))))) S.IY rfl ((mW B S).le ∅,(CO B S).le ∅,D.le ∅,Ť) Ť λds h Q x c=>?_];induction c with|@mk n Q x h q=>
 erw[(Ŗ,rh.mk (m:=9) h ∅ ∅ λz m o A=>bT (rX (n:=m) ()) ?_)];delta uG;erw[(JVs λv=>0<v.val/\v.val<=9,.mk (vs:=[]) Ŗ o Ŗ (λv H=>nomatch H),λi y a p F j=>?_,λa p j=>?_)];.induction j with|@mk vs N a d f l E=>subst l;erw[rh.mk (m:=9) f ∅ ∅ λG b t I=>?_];rwa[.snoc (v:=(1+b,())) d t E (aY Nat.one_pos (bp _ _),by show 1+b<=9;lia)]
 .induction j with|@mk vs N a d f l E=>
  subst d;rw[nK]at l;let hs:=OU λv H=>(E v H).2;let w:qB vs<1000000:=()
  let C:=Vj (ns:=vs) (λv H=>(E v H).1) () w;erw[.mk (.mk (.mk (.mk (sR.mk (g:=FU) C.ok ?_))))];erw[bu y6 (bu y6 ?_)];rw[OV];rwa[q N _ _ "s" _ _ f C rfl]
theorem Mu:∀{vs:Ł Nm}{i:Ń},Kb (.I 3) (vs.map nP)=J->i' 3 ((vs.map λv=>((v.val:Ń):Î))++[3]) i=O (yU vs i)|[],i,h=>by cases h|v::r,i,h=>by let h:(lg (v.val:Ń) 3||Kb (.I 3) (r.map nP))=true:=h;show(bif lg (v.val:Ń) 3 then O i else i' 3 (r.map _++[3]) (i+1))=O (bif Ì v.val 3 then i else yU r (i+1));rw[show lg (v.val:Ń) 3=Ì v.val 3 from Ŗ]at h⊢;cases H:Ì v.val 3 with|d=>rfl|e=>rw[H]at h;rwa[Mu h]
theorem M7:∀{vs:Ł Nm}{i:Ń},Kb (.I 3) (vs.map nP)=bb->yU vs i=99|[],i,h=>Ŗ|v::r,i,h=>by let h:(lg (v.val:Ń) 3||Kb (.I 3) (r.map nP))=false:=h;show(bif Ì v.val 3 then i else yU r (i+1))=99;rw[show lg (v.val:Ń) 3=Ì v.val 3 from Ŗ]at h;cases H:Ì v.val 3 with|d=>rw[H]at h;cases h|e=>rw[H]at h;rwa[M7 h]
def Rb(B:LX ca Jm W)(S:SX ca W)(D:DX ca Jm W 39 32 sR):DX ca Jm W 52 34 sQ:=by erw[B.e (k:=32) 5 J [(44,rh),(46,QF),(45,ó),(39,sR)] [] (.set 1 (.bi AV (.u (.comp 1 [0] (.one 0) (.r (.u (.cl 44 [0] (.u2 0 (.i 8))))) .no (.cl 44 [0] (.u2 1 (.i 4))))))<|>.set 2 (.tup (.u2 (.tup (.u4 (.s "if") (.tup (.u3 (.s "same") (.tup (.u3 (.s "item") (.s "l") (.cl 46 [] (.u (.s "k"))))) (.cl 45 [] (.u (.i 3))))) (.tup (.u (.tup (.u2 (.s "return") (.cl 46 [] (.u (.s "k"))))))) (.tup .nil))) (.tup (.u3 (.s "set") (.s "k") (.tup (.u3 (.s "plus") (.cl 46 [] (.u (.s "k"))) (.cl 45 [] (.u (.i 1)))))))))<|>.set 3 (.tup (.u2 (.tup (.u3 (.s "while") (.tup (.u3 (.s "less") (.cl 46 [] (.u (.s "k"))) (.tup (.u2 (.s "size") (.s "l"))))) 2)) (.tup (.u2 (.s "return") (.cl 45 [] (.u (.i 99)))))))<|>.set 4 (.cl 39 [] (.u4 (.tup (.u (.tup (.u2 (.s "x") (.i 0))))) (.tup (.u (.tup (.u2 (.s "l") 1)))) (.tup (.u (.tup (.u4 (.s "f") (.tup .nil) (.tup (.u (.s "k"))) 3)))) (.tup (.u (.tup (.u4 (.s "call") (.s "x") (.s "f") (.tup .nil)))))))<|>.re (.tup (.u4 4 (.wU .nil) (.tup (.u2 (.s "x") (.L0 (.cmp ng (.i 3) 1) (.mt akj (.b2 gf (.bi Y8 (.u 1)) (.lst (.u (.i 3)))) (.u (.i 3))) (.i 99)))) (.tup .nil)))) S.Bq rfl ((mW B S).le ∅,(CO B S).le ∅,(Q8 B S).le ∅,D.le ∅,Ť) Ť λds h Q x c=>?_];induction c with|@mk n Q x h q=>
 erw[(Ŗ,rh.mk (m:=8) h ∅ ∅ λw m H z=>bT (rX (n:=m) ()) ?_)];delta uG;erw[(JVs λ_=>æ,.mk (vs:=[]) Ŗ H Ŗ (λv o=>nomatch o),λi y a p A j=>?_,λa p j=>?_)];.induction j with|@mk vs N a d E f l=>subst f;rwa[rh.mk (m:=4) E ∅ ∅ λF b t G=>.snoc (v:=(b,())) d t l Ť]
 .induction j with|@mk vs N a d E f l=>
  subst d;rw[nK]at f;let C:=Uq (ts:=vs) ();erw[.mk (.mk (.mk (.mk (.mk (.mk (.mk (sR.mk (g:=U' vs) C.ok ?_)))))))];erw[bT AW (sf (λc=>?_) λc=>?_)];.erw[bT (qN (n:=(vs.map nP).length+1) (cc.mpr (by rw[af];lia))) ?_];erw[bu F7 (bT (aZ (by rw[ai,af,bM];lia)) (bu (Mu c) ?_))];rwa[q N _ [] "x" _ [] E C rfl]
  .rw[M7 (i:=0) c]at C;rwa[q N _ [] "x" _ [] E C rfl]
inductive LT(k c i:Ń)(n:Î)(r2 r4 r6 r7 r8:Pv):Es->Hs->ß|mk:LT k c i n r2 r4 r6 r7 r8 [O (.r 0),O (.p (iP k)),O (.p r2),O (.p (iP c)),O (.p r4),O (.p (iP i)),O (.p r6),O (.p r7),O (.p r8),O (.p (.T ((Ň k).map nP))),ao,ao] [.L [.I n]]
inductive LS(k c:Ń)(n:Î)(r2:Pv):Es->Hs->ß|mk:LS k c n r2 [O (.r 0),O (.p (iP k)),O (.p r2),O (.p (iP c)),ao,ao,ao,ao,ao,ao,ao,ao] [.L [.I n]]
inductive LU(m:Ń)(b:Þ)(n:Î)(hm:m<1000000)(t:Ń):Es->Hs->ß|mk(v:Ő Dv):LU m b n hm t [O (.r 0),O (.p (iP m)),O (.p (YU (m,hm) b).p),O (.p (iP t)),v,ao,ao,ao] [.L [.I n]]
def LU.mk'(e:x=(YU (m,h) b).p):LU m b n h t [O (.r 0),O (.p (iP m)),O (.p x),O (.p (iP t)),v,ao,ao,ao] [.L [.I n]]:=by subst e;rwa[.mk v]
def Lc(B:LX ca Jm W)(S:SX ca W)(D:DX ca Jm W 39 32 sR):DX ca Jm W 51 34 sQ:=by erw[B.e (k:=32) 12 J [(44,rh),(46,QF),(45,ó),(39,sR)] [] (.set 1 (.cl 44 [0] (.u2 0 (.i 6)))<|>.set 2 (.ix (.lst (.cons (.tup (.u3 (.s "set") (.s "x") (.tup (.u3 (.s "over") (.cl 45 [] (.u (.i 1))) (.cl 45 [] (.u (.i 0))))))) (.u5 (.tup (.u3 (.s "set") (.s "x") (.tup (.u3 (.s "item") (.s "l") (.cl 45 [] (.u (.i 2))))))) (.tup (.u3 (.s "pop") (.s "x") (.s "l"))) (.tup (.u2 (.s "fail") (.cl 45 [] (.u (.i 77))))) (.tup (.u3 (.s "push") (.s "l") (.cl 45 [] (.u (.i 1))))) (.tup (.u3 (.s "push") (.s "l") (.tup (.u3 (.s "over") (.cl 45 [] (.u (.i 1))) (.cl 45 [] (.u (.i 0)))))))))) 1)<|>.cut (.set 3 (.b2 gf (.i 1) (.cl 44 [0] (.u2 0 (.i 4))))) (.set 4 (.tup (.u4 (.s "if") (.cl 46 [] (.u (.s "n"))) (.tup (.u (.tup (.u4 (.s "call") (.s "x") (.s "f") (.tup (.u (.tup (.u3 (.s "minus") (.cl 46 [] (.u (.s "n"))) (.cl 45 [] (.u (.i 1))))))))))) (.tup (.u 2))))<|>.set 5 (.cl 44 [0] (.u2 0 (.i 2)))<|>.set 6 (.tup (.u2 (.s "return") (.tup (.u3 (.s "plus") (.cl 46 [] (.u (.s "y"))) (.cl 45 [] (.u (.i 100)))))))<|>.set 7 (.ix (.lst (.u2 (.tup (.u2 4 (.tup (.u2 (.s "return") (.cl 45 [] (.u (.i 5))))))) (.tup (.u (.tup (.u4 (.s "try") (.tup (.u 4)) (.s "y") (.tup (.u 6)))))))) 5)<|>.set 8 (.tup (.u2 (.tup (.u4 (.s "try") (.tup (.u (.tup (.u4 (.s "call") (.s "x") (.s "f") (.tup (.u (.cl 45 [] (.u 3)))))))) (.s "y") (.tup (.u (.tup (.u3 (.s "set") (.s "x") (.cl 45 [] (.u (.i 3))))))))) (.tup (.u2 (.s "tell") (.cl 46 [] (.u (.s "y")))))))<|>.cut (.set 9 (.b2 KC (.tup (.u (.i 6))) (.b2 gf (.b2 yi (.i 12) (.bi Y7 (.u (.cmp PZ 1 (.i 3))))) (.bi Y7 (.u (.cmp kJ 1 (.i 1))))))) (.set 10 (.cl 39 [] (.u4 (.tup (.u2 (.tup (.u2 (.s "x") (.i 0))) (.tup (.u2 (.s "y") (.i 0))))) (.tup (.u (.tup (.u2 (.s "l") 9)))) (.tup (.u (.tup (.u4 (.s "f") (.tup (.u (.s "n"))) (.tup .nil) 7)))) 8))<|>.set 11 (.ix (.lst (.cons (.i 1) (.u5 (.i 2) (.i 4) (.i 77) (.i 3) (.i 1)))) 1)<|>.re (.tup (.u4 10 (.wU .nil) (.tup (.u2 (.s "x") (.ix (.lst (.u2 (.i 3) (.ix (.lst (.u2 (.b2 gf 11 (.i 100)) (.i 0))) (.bi Y7 (.u (.cmp PZ 3 (.i 0))))))) 5))) (.tup (.u 11))))))) S.zE rfl ((mW B S).le ∅,(CO B S).le ∅,(Q8 B S).le ∅,D.le ∅,Ť) Ť λds h Q X c=>?_];induction c with|@mk n Q X h q=>
 erw[(Ŗ,rh.mk (m:=6) h ∅ ∅ λw k t a=>?_)];erw[.mk (.mk (.mk (.mk (.mk (.mk (.mk (bu (x:=(JS k).p) ?_ ?_)))))))];.match k,a with|0,_=>rfl|1,_=>rfl|2,_=>rfl|3,_=>rfl|4,_=>rfl|5,_=>rfl
 erw[Exists.intro (λσ h=>∃N c,JH N=J/\c<4/\LS k (c+1) N (JS k).p σ h) (And.intro (rh.mk (m:=4) t ∅ ∅ λN c f j=>(N,c,f,j,?_)) λσ h c=>?_)]
 .let e:(1:Î)+(c:Ń)=((c+1:Ń):Î):=()
  show LS k (c+1) N (JS k).p [O (.r 0),O (.p (iP k)),O (.p (JS k).p),O (.p (.I (1+(c:Ń)))),ao,ao,ao,ao,ao,ao,ao,ao] [.L [.I N]];rw[e];rwa[.mk]
 let(N,c,f,j,st):=c;induction st;erw[.mk (.mk (.mk (rh.mk (m:=2) f ∅ ∅ λl i v d=>?_)))];erw[.mk (.mk (.mk (bu (x:=tP (DN k i)) ?_ ?_)))];.match i,d with|0,_=>rfl|1,_=>rfl
 let H:c+1<1000000:=()
 let C:=VD a j d;rw[r9 H]at C;erw[.mk (.mk (.mk ?_))];erw[Exists.intro (LT k (c+1) i l (JS k).p (yX k).r.p (Rw.rt (.o .pl (.b "y") (.n 100))).p (tP (DN k i)) (tP (VB k (c+1,H) i).rs)) (And.intro ?_ λσ h c=>?_)];.clear C;match k,a with|0,_=>rwa[.mk]|1,_=>rwa[.mk]|2,_=>rwa[.mk]|3,_=>rwa[.mk]|4,_=>rwa[.mk]|5,_=>rwa[.mk]
 induction c;erw[sR.mk (g:=VB k (c+1,H) i) C.ok (bu (x:=nP (Dc k)) ?_ ?_)];.clear C;match k,a with|0,_=>rfl|1,_=>rfl|2,_=>rfl|3,_=>rfl|4,_=>rfl|5,_=>rfl
 erw[bu (x:=nP (x2 i)) ?_ ?_];.clear C;match i,d with|0,_=>rfl|1,_=>rfl
 erw[q l _ [] "x" _ _ v C ?_];clear C;match i,d with|0,_=>rfl|1,_=>rfl
def Yz(B:LX ca Jm W)(S:SX ca W)(D:DX ca Jm W 39 32 sR):DX ca Jm W 53 34 sQ:=by erw[B.e (k:=32) 8 J [(44,rh),(46,QF),(45,ó),(39,sR)] [] (.set 1 (.cl 44 [0] (.u2 0 (.i 12)))<|>.set 2 (.tup (.u3 (.s "minus") (.cl 46 [] (.u (.s "n"))) (.cl 45 [] (.u (.i 1)))))<|>.set 3 (.cl 44 [0] (.u2 0 (.i 2)))<|>.cut (.iff (.bo (Wm.ac (.cmp kJ 3 (.i 1)) (Wm.a1 (.cmp PZ 1 (.i 6))))) (.set 4 (.tup (.u3 (.s "over") (.cl 45 [] (.u (.i 0))) (.tup (.u3 (.s "minus") (.cl 46 [] (.u (.s "n"))) (.cl 45 [] (.u (.b2 Cs 1 (.i 6))))))))<|>.one (.set 2 (.tup (.u3 (.s "plus") 2 4)))) .nil) (.set 5 (.tup (.u2 (.tup (.u4 (.s "if") (.cl 46 [] (.u (.s "n"))) (.tup (.u (.tup (.u4 (.s "call") (.s "n") (.s "f") (.tup (.u 2)))))) (.tup .nil))) (.tup (.u2 (.s "return") (.tup (.u3 (.s "plus") (.cl 46 [] (.u (.s "n"))) (.cl 45 [] (.u (.i 1)))))))))<|>.set 6 (.tup (.u (.tup (.u4 (.s "try") (.tup (.u (.tup (.u4 (.s "call") (.s "x") (.s "f") (.tup (.u (.cl 45 [] (.u 1)))))))) (.s "x") (.tup (.u (.tup (.u2 (.s "tell") (.cl 46 [] (.u (.s "x")))))))))))<|>.set 7 (.cl 39 [] (.u4 (.tup (.u (.tup (.u2 (.s "x") (.i 0))))) (.tup .nil) (.tup (.u (.tup (.u4 (.s "f") (.tup (.u (.s "n"))) (.tup .nil) 5)))) 6))<|>.iff (.cmp PZ 1 (.i 6)) (.re (.tup (.u4 7 (.wU .nil) (.tup (.u2 (.s "x") (.ix (.lst (.u2 (.i 5) (.i 1))) 3))) (.tup (.u (.ix (.lst (.u2 (.i 5) (.i 1))) 3)))))) .nil<|>.re (.tup (.u4 7 (.wU .nil) (.tup (.u2 (.s "x") (.b2 gf 1 (.i 1)))) (.tup .nil))))) S.Eb rfl ((mW B S).le ∅,(CO B S).le ∅,(Q8 B S).le ∅,D.le ∅,Ť) Ť λds h Q x c=>?_];induction c with|@mk n Q x h q=>
 erw[(Ŗ,rh.mk (m:=12) h ∅ ∅ λF m w y=>?_)];let Y:m<1000000:=()
 erw[.mk (.mk (rh.mk (m:=2) w ∅ ∅ λa t A r=>?_))];erw[Exists.intro (LU m (Ì t 1&&Ñ 6 m) a Y t) (And.intro ?_ λσ h c=>?_)];.match t,r with
  |0,_=>rwa[.mk _]|1,_=>
   erw[sf (c:=BW 6 (m:Ń)) (λe=>?_) λe=>?_];.let H:Ñ 6 m=true:=aZ (by let:=fF.mp e;lia);rw[H];erw[.mk (.mk (.mk (LU.mk' ?_)))];show Pv.T [_,_,.T [_,_,.T [_,_,.T [_,.I ((m:Ń)-6)]]]]=_;rw[show(m:Î)-6=((m-6:Ń):Î)by let:=fF.mp e;lia];let:((m,Y)-6:Nm)=(m-6,()):=PR (by let:=fF.mp e;rw[Fin.sub_def];show(1000000-6+m)%1000000=m-6;lia);show _=(Vx.o .pl (.o .mi (.b "n") (.n 1)) (.o .ov (.n 0) (.o .mi (.b "n") (.n ((m,Y)-6))))).p;rw[this];rfl
   .let H:Ñ 6 m=false:=bq.mpr λz=>by rw[fF.mpr (by let:=aj z;lia)]at e;cases e
    rw[H];rwa[.mk _]
 let K:∀(g:Pg)(N:Æ)(v f:Pv)(d:Ł Nm),E4 g [] N v d->f=v->FH 59 v->Q (.p (.T [g.p,nv (O []),.T [.S N,f],.T (d.map nP)])) [.L [.I a]]:=λg N v f d h e l=>by subst e;rwa[q a g [] N _ d A h l]
 induction c with|mk v=>
 by_cases e:6<m
 .let C:=YV e y (Ì t 1&&Ñ 6 m);rw[r9 Y]at C;erw[.mk (.mk (.mk (.mk (.mk (sR.mk (g:=CT (m,Y) (Ì t 1&&Ñ 6 m)) C.ok ?_)))))];let H:Ñ 6 m=true:=aZ e;rw[H]at C⊢;erw[sf (c:=BW 6 (m:Ń)) (λ_=>?_) λE=>by rw[fF.mpr ()]at E;cases E]
  match t,r with|0,_=>rwa[K _ _ _ _ _ C rfl rfl]|1,_=>rwa[K _ _ _ _ _ C rfl rfl]
 .let H:Ñ 6 m=false:=bq.mpr λz=>e (aj z);let C:=YW (n:=m) ();let j:m+1<1000000:=()
  rw[r9 Y,r9 j]at C;rw[H,vU];erw[.mk (.mk (.mk (.mk (.mk (sR.mk (g:=CT (m,Y) bb) C.ok ?_)))))];erw[sf (c:=BW 6 (m:Ń)) (λE=>Ă (fF.mp E) ()) λ_=>?_];rwa[K _ _ _ _ _ C rfl rfl]
def YA(B:LX ca Jm W)(S:SX ca W)(D:DX ca Jm W 39 32 sR):DX ca Jm W 54 35 sQ:=by erw[B.e (k:=33) 2 J [(44,rh),(47,sQ),(48,sQ),(49,sQ),(50,sQ),(51,sQ),(52,sQ),(53,sQ)] [] (.set 1 (.cl 44 [0] (.u2 0 (.i 7)))<|>.iff (.cmp j2 1 (.i 2)) (.re (.cli [0] (.ix (.lst (.u2 (.f 47) (.f 48))) 1) (.u 0))) .nil<|>.iff (.cmp j2 1 (.i 4)) (.re (.cli [0] (.ix (.lst (.u2 (.f 49) (.f 50))) (.b2 Cs 1 (.i 2))) (.u 0))) .nil<|>.re (.cli [0] (.ix (.lst (.u3 (.f 51) (.f 52) (.f 53))) (.b2 Cs 1 (.i 4))) (.u 0))) S.Ec rfl ((mW B S).le ∅,HH B S D,HQ B S D,Le B S D,acB B S D,Lc B S D,Rb B S D,Yz B S D,Ť) Ť λds h Q x c=>?_];induction c with|@mk n Q x h q=>erw[(Ŗ,rh.mk (m:=7) h ∅ ∅ λN m H a=>?_)];match m,a with|0,_=>rwa[sQ.mk H q]|1,_=>rwa[sQ.mk H q]|2,_=>rwa[sQ.mk H q]|3,_=>rwa[sQ.mk H q]|4,_=>rwa[sQ.mk H q]|5,_=>rwa[sQ.mk H q]|6,_=>rwa[sQ.mk H q]
end
end W2
namespace F
open L2
def Ms.aiO{K:Å}{a:Æ->Ő _}{st:É}{ps:ϐ}(B:Ms Γ t)(z:Þ)(p:BQ K x l st f e)(F:cU N ps (ay st))(g:Gk J Γ t k S P w K a b)(u:B.ck (S.at N (ay st) J) (bR st)=J)(j:∀ds h Q X,C ds h Q X->ds.length=ps.length/\B.m (hZ z h.length Q λ_ _=>ŧ) (pK N.length ds) h)(D:∀ds h Q X,C ds h Q X->C ds h Q λ_ _=>ŧ):iB P w K a b BP (k+2) f e ps (dB (K,a,t) C):=by
 let(oc,Y,kV,doc,pm,an,eK,ct,rQ,rfl,lk,I):=p.ex;let ln:∀v H Q E,dB (K,a,t) C v H Q E->Á v=Á ps:=λv H Q E t=>t.ln λ_ _ _ _ c=>(j _ _ _ _ c).1;let z:iB P w K a _ _ (k+2) f _ ps λv H Q E=>dB _ C v H Q λ_ _ _=>ŧ:=xq lk I F (λv H Q E t=>ln v H Q _ t) λA o s H v Q E d Z=>by let(G,M,h,ds,n,X,r,i,c,out,L):=Z;exact(_,B.ps (Gk.Kh g rfl rfl rfl (gM.pass nq nB) d λ_=>(nq,nB),F.nd,λy _=>.inl Ŗ,pD,F.kind,g.exc) u,(G,M,_,h,_,nc r (nD N i) out λ_ _ _ _ _ _ q=>q.elim,(j _ _ _ _ c).2))
 erw[(ln,λA o s H args U v Q E d R T W q=>?_)];let(G,M,h,ds,n,X,r,i,c,out,_):=q;erw[eg (z.run A _ s H _ U v Q (λ_ _ _=>ŧ) d R T W (G,M,h,ds,n,_,r,i,D _ _ _ _ c,out,λ_ _ _ _ _ _ q=>q.elim)) λr s' q=>?_];delta CR at q⊢;split at q;.rwa[q]
 .left
 .let(_,_,_,_,_,_,q):=q;rwa[q.elim]
end F
namespace W2
open L2 F
inductive Yj:Ct|mk{xs:ϑ}{Q:Dv->Hs->ß}{xc:XP}(h:xs.all isInt)(q:Q (.p (.B J)) []):Yj [.p (.scr xs)] [] Q xc
def lwN:ϐ:=["_law_script","_law_program","_law_world","_law_cell","_law_told","_law_machine","_law_state_here","_law_names","_law_boxes"]
def HS{xs:ϐ}(h:xs.Nodup)(H:xs.length=us.length)(e:hW (.S z) (xs.map .S) us=O v):hW (.S z) (oj (xs.map .S) us ([],[])).1 (oj (xs.map .S) us ([],[])).2=O v:=by
 let E:((xs.zip us).map λp=>Pv.S p.1)=xs.map Pv.S:=by let:=cb (List.map Pv.S) (List.map_fst_zip (l₁:=xs) (l₂:=us) (eI H));rw[aV]at this;rwa[this]
 let a:((xs.zip us).map λp=>p.2)=us:=List.map_snd_zip (eI H.symm);let n:=la (xs.zip us) [] [] (λ_ _=>Ŗ) (by rw[List.map_fst_zip (eI H)];rwa[h]);rw[E,a]at n;rw[n];rwa[e]
def acJ{vs:Ł Nm}:FH 60 (.T (vs.map nP))=true:=aS.mpr λx h=>by let(v,_,rfl):=cB.mp h;rfl
def R5:Pv->Pv|.T [n,_]=>n|_=>.N
def AI{H:Hs}{xs ys:ϑ}{e:Pv->Ő Es}{A:Es->Hs->KP->ß}{Q:ϑ->Hs->ß}(f:Pv->Pv)(b:xs.map f=ys)(c:bH (Á H) H)(step:∀y∈xs,match e y with|O a=>∀R:KP,R [.p (f y)] H->A a H R|ao=>ŧ)(q:Q ys H):uG H xs e (λ_ h R=>R [.p (.B J)] h) A Q:=by subst b;rwa[fh f c step q]
theorem Lm:∀{n:Ń}{x:Pv},FH n x=J->FH (n+1) x=J
 |0,x,h=>by let h:qc x=true:=h;cases x<;>first|rwa[h]|cases h
 |n+1,x,h=>by
  delta FH at h⊢;split at h;.rwa[aS.mpr λy H=>Lm (aS.mp h y H)]
  .rwa[h]
section
variable{ca:Ń->À}{W:Wd}{k:Ń}
def ajZ{f:À}{F:c'}{st:É}{l:Ł _}{iok:Ϙ}{Jc:Ń->Ct}{M:Ss}{C:Ct}(B:LX ca Jc W)(N:ϐ)(a:BQ W.K "law" "law" st f F)(b:Ms ((Lx ca Jc).G l iok) (Lx ca Jc).t)(g:(Ie N ["_law_script"] (ay st)&&b.ck ((Lx ca Jc).S.at N (ay st) J) (bR st))=J)(H:All (Lx ca Jc) W (k+1) l)(i:vP (Lx ca Jc) W k iok)(c:∀ds h Q x,C ds h Q x->ds.length=1/\M (hZ J h.length Q λ_ _=>ŧ) (pK N.length ds) h)(X:∀ds h Q x,C ds h Q x->C ds h Q λ_ _=>ŧ)(d:autoParam (b.m=M) ñ):iB W.P W.w W.K W.mg W.base BP (k+2) f F ["_law_script"] (dB ((Lx ca Jc).y W) C):=by subst d;rwa[b.aiO _ a (ko (ag g).1) (B.gk (wY.of H.at) i) (ag g).2 c X]
abbrev G1:Ł (Ń×Ct):=[(38,Ht),(42,Fh),(43,yn),(54,sQ)]
def acy(B:LX ca Jm W)(G:BQ W.K "law" "law" (d0 124) f d)(I:All (Lx ca Jm) W (k+1) G1)(M:vP (Lx ca Jm) W k [4,90]):iB W.P W.w W.K W.mg W.base BP (k+2) f d ["_law_script"] (dB ((Lx ca Jm).y W) Yj):=by
 erw[ajZ B lwN G (l:=G1) (iok:=[4,90]) (k:=k) (.Qg [1,2,3,4] (.cl 54 [0] (.u (.cl 43 [] (.u2 (.cl 42 [] (.u2 0 (.i 0))) (.i 1)))))<|>.set 5 (.mE (.m_ 4 (.u2 1 2)))<|>.set 6 (.cl 38 [] (.u2 5 (.cld [] 90 (.u 5))))<|>.iff (.bo (Wm.oc (.cmp Ww (.ix 6 (.i 5)) (.s "done")) (Wm.oc (.cmp aip (.ix 6 (.i 4)) 4) (Wm.o1 (.cmp Ww (.bi gC (.u (.ix 6 (.i 2)))) (.i 1)))))) (.re (.c (.B bb))) .nil<|>.set 7 (.b2 gf (.comp 2 [] (.many [0,1]) (.s (.ix 1 (.i 0))) .no 0) (.comp 2 [] (.many [0,1]) (.s (.ix 1 (.i 1))) .no 0))<|>.set 8 (.Y2 (.u2 7 (.b2 gf (.ix 6 (.i 0)) (.ix 6 (.i 1)))))<|>.re (.cmp aik (.qK 8 (.ix 3 (.i 0))) (.ix 3 (.i 1)))) rfl I M (λds h Q X c=>?_) λ_ _ _ _ c=>by induction c with|mk h q=>rwa[.mk h q]]
 induction c with|@mk xs Q X N q=>
 erw[(Ŗ,?_)];erw[Fh.mk N λi0=>yn.mk λn hn=>sQ.mk hn λn1 g T nm v td U C dv=>?_];erw[QH.mk (g:=g) (w:=O T) C.ok.gd C.hw λb e=>?_];let(m,Y,ys,rn,j,F):=C.run b e;erw[KJ.ok (C.lo b) rn j (.inr (by rw[F.wo];decide)) (aq _) (Ht.ok (C.lo b) rn j ?_)];clear rn e;let(Z,ls,fr,ak,td',bk,rd,wr):=Y;obtain⟨o,⟨f0,ns,p⟩,r,t,A,a⟩:=F;dsimp only at o p r t A a;subst o p r;erw[((Ŗ,acJ),?_)];erw[AI (ys:=(g.bs.map (·.1)).map .S) R5 (by rw[aV,aV];rfl) rfl (λy H=>?_) ?_];.let(x,_,rfl):=cB.mp H;rwa[λR q=>q]
 erw[AI (ys:=(g.ls.map (·.1)).map .S) R5 (by rw[aV,aV];rfl) rfl (λy H=>?_) ?_];.let(x,_,rfl):=cB.mp H;rwa[λR q=>q]
 let b6:=C.ok.b6;let l3:=C.ok.l3;let un:=C.ok.un;clear C;let ln:((g.bs.map (·.1)).map Pv.S++(g.ls.map (·.1)).map Pv.S)=(g.bs.map (·.1)++g.ls.map (·.1)).map Pv.S:=by rw[aN]
 let L:(g.bs.map (·.1)++g.ls.map (·.1)).length=(Z.map nP++Qc ls).length:=by delta Qc;simp only[ai,af];rw[t,A]
 let E:(g.bs.map (·.1)++g.ls.map (·.1)).length=g.bs.length+g.ls.length:=by simp only[ai,af]
 let l0:0<g.bs.length+g.ls.length:=by erw[Nat.pos_of_ne_zero λz=>?_];rw[lM (E.trans z)]at a;cases a
 let D:=HS un L a;rw[<-ln]at D;erw[bT (qN (n:=_+_) (cc.mpr (by simp only[af];lia))) ?_];erw[bT (qN (n:=_+_) (cc.mpr (by delta Qc;simp only[af];lia))) ?_];erw[bu (x:=g.bs.map (·.1)++g.ls.map (·.1)) (by rw[ln];rwa[B7]) (bT ?_ (bu D ((Ŗ,?_),q)))];.rw[<-L,E,jP,aZ (),show Ñ 0 _=J from aZ l0];rfl
 .rwa[Lm dv]
end
def ye{α:Type}(P:α->ß):Ł α->ß|[]=>æ|x::r=>P x/\ye P r
def iQ(a:ye P l):∀x∈l,P x:=by induction l with|f=>rwa[λ_ h=>nomatch h]|g y r i=>rwa[λx h=>(aB.mp h).elim (λz=>z▸a.1) λz=>i a.2 x z]
abbrev RG:Ń->Æ:=λi=>ì (vu į "" i)
abbrev hX(l:Ł (Æ×Ń)):Æ->Ő ϐ:=λx=>(iZ x l).map λn=>Ð n ""
structure ė(w:ce)(K:Å)(mg:c4)(a0 a1 a2 a3 a4 a5:À):ß where
 z:ye (λx=>mg x=ao) Ya
 is:ye (λp:Æ×Î=>∃t,mg p.1=O (.int p.2 t)) [("NO_ROW",-1),("MOST_THINGS",12),("BEYOND",1000000),("BY_NOTHING",1),("NO_PLACE",2),("FULL_LIST",3),("EMPTY_LIST",4),("TOO_DEEP",5),("MOST_FRAMES",8),("WORD",5),("MOST_STEPS",2000),("MOST_LETTERS",6),("GREATEST",999999),("DEEPEST",4),("MOST_BOXES",6),("MOST_LISTS",3),("MOST_FUNCTIONS",4),("MOST_NAMES",3),("DEEPEST_ROW",5),("MOST_NUMBERS",60)]st:∃t,mg "NO_FUNCTION"=O (.str "" t)ms:ye (λp:Æ×À=>mg p.1=O (.ref p.2)) [("ROW_FORMS",a0),("KINDS",a1),("PLAIN_DEEDS",a2),("DEEDS",a3),("OF_TWO",a4),("VALUE_FORMS",a5)]t0:uy w K a0 λx=>iZ x Ow
 t1:Hk w K a1 λx=>iZ x Z8
 t2:sL w K mg RG a2 (hX μ)t3:sL w K mg RG a3 (hX Y1)t4:sL w K mg RG a4 (hX E_)t5:uy w K a5 λx=>iZ x PB
structure Kp(K:Å)(mg:c4)(x:Æ)(C:À)(fs:ϐ):ß where
 m:mg x=O (.ref C)cl:L2.J7 K C
 na:ye (λf=>mQ K C f) fs
nonrec def P0(C c a b d e f g h F:À):Ń->À|0=>C|1=>c|2=>a|3=>b|4=>d|5=>e|6=>f|7=>g|8=>h|_=>F
def gJ(h:∃t,W.mg x=O (.int i t)):∃u v,W.mg x=O u/\RelV v u/\∀G M H,eo (((Lx ca Jc).y W).z G) M H (.I i) v:=let (t,h):=h;(_,.I i,h,(t,Ŗ),λ_ _ _=>by rfl)
def Zk(h:∃t,W.mg x=O (.str i t)):∃u v,W.mg x=O u/\RelV v u/\∀G M H,eo (((Lx ca Jc).y W).z G) M H (.S i) v:=let (t,h):=h;(_,.S i,h,(t,Ŗ),λ_ _ _=>by rfl)
nonrec abbrev ZC:ϐ:=["plan","boxes","lists","frames","asked","told","broken","reads","wrote"]
nonrec abbrev ġ:ϐ:=["box_places","list_places","own_places","door_places","door_numbers","paths"]
nonrec abbrev SF:ϐ:=["rows","within","behind","firsts","seconds","catchers","defs","starts"]
nonrec abbrev Ś:ϐ:=["plan","beginning"]
abbrev LM:ϐ:=["boxes","lists","param_counts","may_return"]
def adZ{K:Å}(T:ė w K m A a1 u v y B)(D:Kp K m "Work" p ZC)(E:Kp K m "Plan" q ġ)(G:Kp K m "Paths" r SF)(H:Kp K m "Machine" s Ś)(L:Kp K m "Scope" t LM)(mC:m "NoStep"=O (.ref C))(M:As K C)(N:m "NoProgram"=O (.ref c))(Q:As K c)(R:m "NoRow"=O (.ref a))(S:As K a)(U:m "TooLong"=O (.ref d))(W:As K d)(X:m "Fault"=O (.ref F))(Y:Hi K F):Lk (Lx (P0 C p q r s t c a d F) Jm) (P,w,K,m,b) where
 bl:=iQ (P:=λx=>m x=ao) (l:=Ya) T.z;gl:=by let(Z,i1,i2,i3,i4,i5,i6,i7,i8,i9,i,I,e,f,g,h,j,k,n,o,_):=T.is;rwa[iQ (l:=[0,1,2,3,4,5,6,7,8,9,10,11,12,13,14,15,16,17,18,19,20]) (gJ Z,gJ i1,gJ i2,gJ i3,gJ i4,gJ i5,gJ i6,gJ i7,gJ i8,Zk T.st,gJ i9,gJ i,gJ I,gJ e,gJ f,gJ g,gJ h,gJ j,gJ k,gJ n,gJ o,Ť)]
 tab:=by let(m0,m1,m2,m3,m4,m5,_):=T.ms;rwa[iQ (l:=[0,1,50,100,101,102]) ((A,m0,T.t0),(B,m5,T.t5),(a1,m1,T.t1),(u,m2,T.t2),(v,m3,T.t3),(y,m4,T.t4),Ť)]
 cls:=iQ (l:=[1,2,3,4,5]) ((D.cl,iQ D.na,l9 Ŗ),(E.cl,iQ E.na,l9 Ŗ),(G.cl,iQ G.na,l9 Ŗ),(H.cl,iQ H.na,l9 Ŗ),(L.cl,iQ L.na,l9 Ŗ),Ť);exc:=iQ (l:=[0,6,7,8,999]) ((mC,M),(N,Q),(R,S),(U,W),(X,Y),Ť)
def GQ(K:Å):Sp:=λv H Q _=>∃(a:À)(n:Ł Î),v=[.A a]/\gB K H a (n.map V.I)/\∀h,Q (.B J) h
def ZM(ns:Ł Î):aW Z M H (ns.map .I) (ns.map V.I):=by induction ns with|f=>done|g n ns i=>exact(by rfl,i)
def a_{L:Lw}(h:GQ W.K vs H Q E):dB (L.y W) Yj vs H Q E:=by
 let(a,n,rfl,S,q):=h;erw[([],[],[],[.p (.scr (n.map .I))],λd b=>d=.p (.B J),λ_ _=>ŧ,(jN,(λ_ h=>nomatch h),Ŗ,(λ_ h=>nomatch h),λi a o h=>by simp at h),(?_,Ť),.mk ?_ Ŗ,?_,λ_ _ _ _ _ _ h=>h.elim)]
 .show eo _ _ _ _ _;erw[(a,_,Ŗ,?_,ZM n)];rcases S with r|c;.rwa[.inl (((λh=>nomatch h),λh=>nomatch h),r)]
  .rwa[.inr (.inr c)]
 .show(n.map Pv.I).all isInt=J;rw[List.all_map];rwa[aS.mpr λ_ _=>Ŗ]
 .rintro d b M e v _ _ i rfl;rw[Kq i];rwa[q e]
section
variable{w:ce}{K:Å}{mg:c4}{h:Ç}
def ab9{α:Type}{f g:Ł Â->α}(hn:n<=5)(h:∀a b c d e,f ([a,b,c,d,e].take n)=g ([a,b,c,d,e].take n))(us:Ł Â)(q:us.length=n):f us=g us:=by
 subst q;let o:Â:=.none;rcases us with _|⟨a,_|⟨b,_|⟨c,_|⟨d,_|⟨e,_|⟨x,r⟩⟩⟩⟩⟩⟩;.rwa[h o o o o o]
 .rwa[h a o o o o]
 .rwa[h a b o o o]
 .rwa[h a b c o o]
 .rwa[h a b c d o]
 .rwa[h a b c d e]
 .rwa[Ă hn (Nat.not_le_of_lt (aQ 6 _))]
structure At(K:Å)(x cN:Æ)(st:É)(ps:ϐ)(f:À):ß where ex:∃fd,BQ K x cN st f fd/\Binds K fd ps []
def Ax{st:É}{kV:Â}(hn:ps.length<=5)(H:∀(kV doc p:Â)(A:Ő À)(E C a b c d e:Â),bindArgs (fnOf x q (hV st) (bR st) (ay st) .none kV doc p A E C) ([a,b,c,d,e].take ps.length,[])=pure (ps.zip ([a,b,c,d,e].take ps.length)))(l:K.lookup f=O (oc,o,.func (fnOf x q (hV st) (bR st) (ay st) .none kV doc p A E C),r))(c:codeIn K E q)(k:keepIn K (.ref f)):At K x q st ps f:=have F:=Zh (st:=st) l c k;(_,F,F.binds λkV doc p A E C=>ab9 hn (H kV doc p A E C))
def aak{st:É}(X:K.In h)(G:h.Ns c3 mg)(a:nsIn K c3 x=O (O (.ref f)))(A:At K x x st ps f):Src K mg x st ps:=let (_,F,B):=A.ex;(f,_,F,aX X G a,B)
def Va{st:É}(a:findIn K (.ref C) "__init__"=O (O (.ref f)))(i:isFn K (.ref f))(mk:makesIn K C)(k:keepIn K (.ref C))(A:At K "__init__" q st ps f):n9 K C q st ps:=let (_,F,B):=A.ex;(f,_,F,(mk,a,i,k),B)
def Vc{st:É}(a:findIn K (.ref C) x=O (O (.ref f)))(i:isFn K (.ref f))(k:keepIn K (.ref f))(A:At K x q st ps f):gW K C x q st ps:=let (_,F,B):=A.ex;(f,_,F,(a,i,k),B)
structure Ę(K:Å)(x cN:Æ)(st:É)(ps:ϐ)(dv:Â)(f:À):ß where ex:∃fd,XR K x cN st f fd/\Binds K fd ps []/\Binds K fd ps [dv]
def Wt{ps qs:ϐ}(X:K.In s.heap)(H:fd.defaults=.ref T)(l:K.lookup T=O (oc,o,.seq #[dv] n,r))(h:∃k,bindArgs fd (us,[])=seqItems? fd.defaults>>=k/\k (O #[dv])=pure (ps.zip es)):BindsTo s fd (us,[]) (ps.zip es):=let (_,a,b):=h;.of_defaults H (X _ _ l) Ŗ a b
def Kz{st:É}{kV:Â}(hn:ps.length=2\/ps.length=3)(g:∀a b c,∃k,bindArgs (fnOf x q (hV st) (bR st) (ay st) (.ref T) kV doc p A E C) ([a,b,c].take ps.length,[])=seqItems? (.ref T)>>=k/\k (O #[dv])=pure (ps.zip ([a,b,c].take ps.length)))(i:∀a b,∃k,bindArgs (fnOf x q (hV st) (bR st) (ay st) (.ref T) kV doc p A E C) ([a,b].take (ps.length-1),[])=seqItems? (.ref T)>>=k/\k (O #[dv])=pure (ps.zip ([a,b].take (ps.length-1)++[dv])))(L:K.lookup T=O (o,j,.seq #[dv] n,m))(l:K.lookup f=O (oc,t,.func (fnOf x q (hV st) (bR st) (ay st) (.ref T) kV doc p A E C),R))(c:codeIn K E q)(k:keepIn K (.ref f)):Ę K x q st ps dv f:=by
 erw[(_,((oc,t,.ref T,kV,doc,p,A,E,C,R,Ŗ,l,c),k),λs u X H=>?_,λs u X H=>?_)]
 .rw[aK]at H⊢;erw[Wt (qs:=ps) X Ŗ L ?_];rcases hn with e|e;.rw[e]at H g;rcases u with _|⟨a,_|⟨b,_|⟨c,r⟩⟩⟩<;>first|rwa[g a b .none]|cases H
  .rw[e]at H g;rcases u with _|⟨a,_|⟨b,_|⟨c,_|⟨d,r⟩⟩⟩⟩<;>first|rwa[g a b c]|cases H
 .erw[Wt (qs:=ps) X Ŗ L ?_];rw[ai]at H;rcases hn with e|e;.rw[e]at H i;rcases u with _|⟨a,_|⟨b,r⟩⟩<;>first|rwa[i a .none]|(simp at H;all_goals fail)
  .rw[e]at H i;rcases u with _|⟨a,_|⟨b,_|⟨c,r⟩⟩⟩<;>first|rwa[i a b]|(simp at H;all_goals fail)
def U9{st:É}(X:K.In h)(G:h.Ns c3 mg)(a:nsIn K c3 x=O (O (.ref f)))(A:Ę K x x st ps dv f):Av K mg x st ps [dv]:=let (_,F,B):=A.ex;(f,_,F,aX X G a,B)
def Vb{st:É}(a:findIn K (.ref C) "__init__"=O (O (.ref f)))(i:isFn K (.ref f))(mk:makesIn K C)(k:keepIn K (.ref C))(A:Ę K "__init__" q st ps dv f):Ck K C q st ps [dv]:=let (_,F,B):=A.ex;(f,_,F,(mk,a,i,k),B)
def se(w:ce){α:Type}(V:α->Â->ß):Ł (Æ×α)->Ł gc->ß|[],[]=>æ|p::r,e::E=>(∃t v,e=(PyData.keyHash w.params p.1,.str p.1 t,v)/\V p.2 v)/\se w V r E|_,_=>ŧ
def rgc{V:α->Â->ß}(e:h'=PyData.keyHash w.params x)(Q:V a v)(q:se w V r es):se w V ((x,a)::r) ((h',.str x t,v)::es):=by subst e;exact((t,v,Ŗ,Q),q)
def GG{α:Type}{V:α->Â->ß}{x:Æ}{r:Ł (Æ×α)}:∀{es:Ł gc},se w V r es->KeysLit w.params es/\match iZ x r with|O a=>∃v,((es.find? λe=>ã x e.key).map (·.val))=O v/\V a v|ao=>((es.find? λe=>ã x e.key).map (·.val))=none:=by induction r with
 |f=>intro es q;cases es with|f=>exact(Ť,Ŗ)|g _ _=>rwa[q.elim]
 |g p r i=>intro es q;cases es with|f=>rwa[q.elim]|g _ es=>obtain⟨⟨t,v,e,Q⟩,q⟩:=q;subst e;let(I,b):=i q;erw[(((_,_,Ŗ,Ŗ),I),?_)];delta iZ;cases e:cQ p.1 x with|d=>let e:=bX.mp e;exact(v,by rw[List.find?_cons_of_pos (by show(p.1==x)=J;rw[e];simp)];rfl,Q)|e=>rw[List.find?_cons_of_neg λz=>by rw[bX.mpr (wW (show(p.1==x)=J from z))]at e;cases e];rwa[b]
def zN{α:Type}{V:α->Â->ß}{r:Ł (Æ×α)}{es:Array gc}(q:se w V r es.toList)(x:Æ):match iZ x r with|O a=>∃v,findBy ã es x=O v/\V a v|ao=>findBy ã es x=none:=by let h:=(GG (x:=x) q).2;delta findBy;rw[<-Ag];rwa[h]
def vK(K:Å)(ks:ϐ)(v:Â):ß:=∃b,v=.ref b/\∃(o:Ú)(i:Array Â)(m:Ń),K.lookup b=O o/\o.cls=.type "tuple"/\o.data=.seq i m/\i.size<=Ã/\Vals (ks.map V.S) i.toList
def vS(ks:ϐ)(v:Â):ß:=∃y t,ks=[y]/\v=.str y t
def vF(mg:c4)(n:Ń)(v:Â):ß:=∃f,v=.ref f/\mg (RG n)=O (.ref f)
def aga(l:K.lookup b=O o)(c:o.cls=.type "tuple")(d:o.data=.seq its m)(z:its.size<=Ã)(v:Vals (ks.map V.S) its.toList):vK K ks (.ref b):=(b,Ŗ,o,its,m,l,c,d,z,v)
def af9(X:K.In h)(G:h.Ns c3 mg)(a:nsIn K c3 (RG n)=O (O (.ref f))):vF mg n (.ref f):=(f,Ŗ,aX X G a)
section
variable{a:À}{es:Array gc}{n:Ń}(l:K.lookup a=O (.type "dict",ao,.dict es n,#[]))(lo:(a==e9)=bb)
include l lo
def Vw(q:se w (vK K) r es.toList):uy w K a λx=>iZ x r:=((es,n,l,(GG (x:="") q).1,λx=>by let h:=zN q x;cases e:iZ x r with|a=>rw[e]at h;rwa[h]|c k=>rw[e]at h;let(v,H,b,rfl,c):=h;exact(b,H,c)),lo)
def Vy(q:se w vS r es.toList):Hk w K a λx=>iZ x r:=((es,n,l,(GG (x:="") q).1,λx=>by let h:=zN q x;cases e:iZ x r with|a=>rw[e]at h;rwa[h]|c k=>rw[e]at h;let(v,H,y,t,b,rfl):=h;exact(y,t,b,H)),lo)
def Vv(q:se w (vF mg) r es.toList):sL w K mg RG a (hX r):=((es,n,l,(GG (x:="") q).1,λx=>by let h:=zN q x;show match(iZ x r).map λn=>Ð n ("":Æ)with|O k=>_|ao=>_;cases e:iZ x r with|a=>rw[e]at h;rwa[h]|c m=>rw[e]at h;let(v,H,f,rfl,b):=h;exact(f,H,by rw[cF];rwa[b])),lo)
end
def Yq(X:K.In h)(G:h.Ns c3 mg)(m:nsIn K c3 x=O (O (.ref C)))(p:plainGet K C Str.empty)(H:hasDictIn K C)(P:plainOver K C)(s:findIn K (.ref C) "__setattr__"=O (O (.builtin "object.__setattr__")))(n:ye (λf=>findIn K (.ref C) f=O ao) fs):Kp K mg x C fs:=(aX X G m,(p,H,P,s),n)
def nac(h:findIn K (.ref C) f=O ao)(t:ye (λf=>findIn K (.ref C) f=O ao) r):ye (λf=>findIn K (.ref C) f=O ao) (f::r):=(h,t)
def ϱ:cU ["self","number"] ["self","number"] (ay (cW (d0 56) 0)):=ko ∅
def Zc{C N f:À}{nm q:Æ}{bs sub:Ł Â}{sn:ϐ}{ab:Þ}{col:Ő Þ}{dd:Ő À}{k0 k1 k2 k3 k5:Ő Â}{c:ClassData}{o:Ú}{a:Â}{d:Ő À}{es:Array gc}{ep:Ń}{sN:Array (Ő Â)}(l:K.lookup C=O (hY nm q C N bs ul J sn sub ab col dd k0 k1 k2 k3 k5 "Exception.__new__"))(L:K.lookup N=O (a,d,.dict es ep,sN))(k:(es.toList.all λe=>match e.key with|.str _ _=>J|_=>bb)=J)(n:nsIn K N "__init__"=O (O (.ref f)))(b:nsIn K N "__setattr__"=O ao)(g:nsIn K N "__getattribute__"=O ao)(i:nsIn K N "__getattr__"=O ao)(j:nsIn K N "number"=O ao)(H:typeIn K (.ref C)=O (.type "type"))(m:clsIn K C=O c)(p:subIn K (.ref C) (.type "BaseException")=O J)(r:subIn K (.ref C) (.ref C)=O J)(lf:K.lookup f=O o)(s:o.cls=.type "function")(A:At K "__init__" "Fault.__init__" (cW (d0 56) 0) ["self","number"] f):Hi K C:=by let(t,F,B):=A.ex;exact((f,t,_,_,_,_,_,_,o,(_,_,N,_,_,_,_,_,_,_,_,_,_,_,l,by delta nsOkIn;rw[L];rwa[Array.all_toList.symm.trans k],n,b,g,i,j),F,ϱ,Ŗ,B,lf,s),(H,by rw[m];rfl,p),r)
end
def Z9{l:OpenLaw}{K:Å}{M:c4}(X:K.In h)(G:h.Ns c3 M)(o:M "law"=O (.ref u))(T:ė w K M Y a1 Z a3 a4 a5)(y:Kp K M "Work" c ZC)(z:Kp K M "Plan" b ġ)(L:Kp K M "Paths" d SF)(N:Kp K M "Machine" f Ś)(P:Kp K M "Scope" g LM)(mC:nsIn K c3 "NoStep"=O (O (.ref C)))(eC:excIn K C xB "ValueError.__new__"=J)(m6:nsIn K c3 "NoProgram"=O (O (.ref i)))(e6:excIn K i xB "ValueError.__new__"=J)(m7:nsIn K c3 "NoRow"=O (O (.ref j)))(e7:excIn K j xB "ValueError.__new__"=J)(m8:nsIn K c3 "TooLong"=O (O (.ref n)))(e8:excIn K n xB "ValueError.__new__"=J)(nF:nsIn K c3 "Fault"=O (O (.ref F)))(eF:Hi K F)(M1:n9 K c "Work.__init__" (cW (d0 57) 0) ["self","plan","state"])(M2:n9 K b "Plan.__init__" (cW (d0 96) 0) ["self","program","world"])(M3:n9 K d "Paths.__init__" (cW (d0 97) 0) ["self","triples"])(M4:Ck K f "Machine.__init__" (cW (d0 101) 0) ["self","program","world"] [.none])(M5:n9 K g "Scope.__init__" (cW (d0 36) 0) ["self","boxes","lists","param_counts","may_return"])(M6:Av K M "run_length" (d0 108) ["machine","most"] [.int 2000 tok])(S:Sg (P0 C c b d f g i j n F) K M)(a:nsIn K c3 "law"=O (O (.ref x)))(A:At K "law" "law" (d0 124) ["_law_script"] x):∃p:c',(∀(s:am)(v:Â),BindsTo s p ([v],[]) [("_law_script",v)])/\∀base:Ç,K.In base->base.Ns c3 M->iB l.prog w K M base BP 44 u p ["_law_script"] (GQ K):=by let e:=o.symm.trans (aX X G a);cases e;let(p,R,B3):=A.ex;let F4:=R;let(oc,od,kV,doc,pm,an,eK,ct,rQ,rfl,lk,oN):=R.ex;erw[(fnOf "law" "law" (hV (d0 124)) (bR (d0 124)) (ay (d0 124)) .none kV doc pm an eK ct,λs v=>.of_eq Ŗ,λbase _ _=>?_)];let B:Lk (Lx (P0 C c b d f g i j n F) Jm) (l.prog,w,K,M,base):=adZ T y z L N P (aX X G mC) eC (aX X G m6) e6 (aX X G m7) e7 (aX X G m8) e8 (aX X G nF) eF;let Wm:=YS B S M1 y.m;let U:=Q6 B S;let W:DI (P0 C c b d f g i j n F) Jm (l.prog,w,K,M,base) 501 21:=YR B S Wm ∅ (K8 (k:=18) B S Wm ∅ (Q2 B S Wm 6)) (QZ B S Wm);let I:DI (P0 C c b d f g i j n F) Jm (l.prog,w,K,M,base) 400 36:=YE (Jc:=Jm) B S 8;let I:DI (P0 C c b d f g i j n F) (Ja Jm) (l.prog,w,K,M,base) 400 36:=I;let q:DI (P0 C c b d f g i j n F) (Ja Jm) (l.prog,w,K,M,base) 3 38:=YH (LX.to B) S M3 L.m I;let q:DI (P0 C c b d f g i j n F) (Jp Jm) (l.prog,w,K,M,base) 3 38:=q;let r:DI (P0 C c b d f g i j n F) (Jp Jm) (l.prog,w,K,M,base) 2 40:=YJ (LX.to B) S M2 z.m ∅ q;let r:DI (P0 C c b d f g i j n F) Jm (l.prog,w,K,M,base) 2 40:=r;let(I6,I7):=YI B S M4 N.m ∅ r;let D:=wm B S (FC B S);let t:=CS (k:=21) B S ∅ D W U;let(D40,I8):=yF (k:=21) B M6 ∅ D W U;exact(acy (k:=42) B F4 (t.le ∅,(HG B S).le ∅,(La B S).le ∅,(YA B S (yE B S (Rh B M5 P.m))).le ∅,Ť) (I6,I8.le ∅,Ť)).imp λvs H Q E h=>a_ h
def aaM{K:Å}{m:c4}(X:K.In h)(G:h.Ns c3 m)(z0:nsIn K c3 "len"=O ao)(z1:nsIn K c3 "isinstance"=O ao)(z2:nsIn K c3 "zip"=O ao)(z3:nsIn K c3 "range"=O ao)(z4:nsIn K c3 "list"=O ao)(z5:nsIn K c3 "tuple"=O ao)(z6:nsIn K c3 "int"=O ao)(z7:nsIn K c3 "bool"=O ao)(z8:nsIn K c3 "set"=O ao)(z9:nsIn K c3 "dict"=O ao)(z:nsIn K c3 "max"=O ao)(Z:nsIn K c3 "min"=O ao)(n:nsIn K c3 "sorted"=O ao)(o:nsIn K c3 "reversed"=O ao)(p:nsIn K c3 "enumerate"=O ao)(q:nsIn K c3 "str"=O ao)(r:nsIn K c3 "all"=O ao)(s:nsIn K c3 "sum"=O ao)(m0:nsIn K c3 "NO_ROW"=O (O (.int (-1) I)))(m1:nsIn K c3 "MOST_THINGS"=O (O (.int 12 L)))(m2:nsIn K c3 "BEYOND"=O (O (.int 1000000 N)))(m3:nsIn K c3 "BY_NOTHING"=O (O (.int 1 P)))(m4:nsIn K c3 "NO_PLACE"=O (O (.int 2 Q)))(m5:nsIn K c3 "FULL_LIST"=O (O (.int 3 R)))(m6:nsIn K c3 "EMPTY_LIST"=O (O (.int 4 S)))(m7:nsIn K c3 "TOO_DEEP"=O (O (.int 5 U)))(m8:nsIn K c3 "MOST_FRAMES"=O (O (.int 8 W)))(m9:nsIn K c3 "WORD"=O (O (.int 5 Y)))(M:nsIn K c3 "MOST_STEPS"=O (O (.int 2000 t)))(u:nsIn K c3 "MOST_LETTERS"=O (O (.int 6 T)))(v:nsIn K c3 "GREATEST"=O (O (.int 999999 d)))(y:nsIn K c3 "DEEPEST"=O (O (.int 4 e)))(B:nsIn K c3 "MOST_BOXES"=O (O (.int 6 f)))(C:nsIn K c3 "MOST_LISTS"=O (O (.int 3 g)))(D:nsIn K c3 "MOST_FUNCTIONS"=O (O (.int 4 i)))(E:nsIn K c3 "MOST_NAMES"=O (O (.int 3 j)))(F:nsIn K c3 "DEEPEST_ROW"=O (O (.int 5 k)))(H:nsIn K c3 "MOST_NUMBERS"=O (O (.int 60 l)))(ms:nsIn K c3 "NO_FUNCTION"=O (O (.str "" ts)))(y0:nsIn K c3 "ROW_FORMS"=O (O (.ref a)))(y1:nsIn K c3 "KINDS"=O (O (.ref a1)))(y2:nsIn K c3 "PLAIN_DEEDS"=O (O (.ref A)))(y3:nsIn K c3 "DEEDS"=O (O (.ref b)))(y4:nsIn K c3 "OF_TWO"=O (O (.ref c)))(y5:nsIn K c3 "VALUE_FORMS"=O (O (.ref a5)))(b0:uy w K a λx=>iZ x Ow)(b1:Hk w K a1 λx=>iZ x Z8)(b2:sL w K m RG A (hX μ))(b3:sL w K m RG b (hX Y1))(b4:sL w K m RG c (hX E_))(b5:uy w K a5 λx=>iZ x PB):ė w K m a a1 A b c a5:=((bQ X G z0,bQ X G z1,bQ X G z2,bQ X G z3,bQ X G z4,bQ X G z5,bQ X G z6,bQ X G z7,bQ X G z8,bQ X G z9,bQ X G z,bQ X G Z,bQ X G n,bQ X G o,bQ X G p,bQ X G q,bQ X G r,bQ X G s,Ť),((_,aX X G m0),(_,aX X G m1),(_,aX X G m2),(_,aX X G m3),(_,aX X G m4),(_,aX X G m5),(_,aX X G m6),(_,aX X G m7),(_,aX X G m8),(_,aX X G m9),(_,aX X G M),(_,aX X G u),(_,aX X G v),(_,aX X G y),(_,aX X G B),(_,aX X G C),(_,aX X G D),(_,aX X G E),(_,aX X G F),(_,aX X G H),Ť),(_,aX X G ms),(aX X G y0,aX X G y1,aX X G y2,aX X G y3,aX X G y4,aX X G y5,Ť),b0,b1,b2,b3,b4,b5)
def walk{l:OpenLaw}{XP:c4->Ç->ß}{K:Params->Å}(hn:l.most=O 63)(Z:d.params.defaults=[])(H:∀(w:ce)(h:Ç),Y w h->(K w.params).In h)(F:∀(w:ce)(m:c4)(b:À)(h:Ç),(K w.params).In h->h.Ns c3 m->m d.name=O (.ref b)->∃c:c',(∀(s:am)(u:Â),BindsTo s c ([u],[]) [("_law_script",u)])/\∀base:Ç,(K w.params).In base->base.Ns c3 m->iB l.prog w (K w.params) m base BP 44 b c ["_law_script"] (GQ (K w.params))):WalkO q L XP Y l.row.toRowW d [] λf vs=>PySem.call f vs:=L2.VX (n:=63) (k:=44) (x:="_law_script") (CX:=λ_=>BP) (sp:=λw=>GQ (K w.params)) hn ∅ Z (Ŗ,∅,∅) H F (λ_ _ a N e _ S=>(a,N,Ŗ,S,λ_=>Ŗ)) λ_ _ _ _ _ z=>z
end W2
open PySem.W
namespace PySem.W.Fast
local macro_rules(kind:=Lean.Parser.Command.print)|s=>let l:=(s[1].isStrLit?.getD "").toList;return Lean.mkNullNode ((List.range (l.length/10)).map fun i=>Ø s ("0 0 0 0 0 0 0 7Command.declModifiers 'theorem `tw"++toString (((l.drop (10*i)).take 10).foldl (fun n x=>n*90+x.toNat-if x.toNat>92 then 37 else if x.toNat>64 then 36 else 35) 0)++" 0 2Command.declId 0 ': `True 2Term.typeSpec 2Command.declSig ':= `True.intro 0 0 2Termination.suffix 0 4Command.declValSimple 4Command.theorem 2Command.declaration")).toArray
#print"6M4,QKoMtlRP'~FVByh,#?6/#-$D6+MMw~KE9?i,.4O(-}JoDGP)=Za&kraM<%Eh~I;B:#S?f5=blB}sG,U8w$Uj<Q<~y_6CCQbA.$B<>1e<$I$qJG')5+^(N,D:R:q/$4Qw'[LE&m;5CQp<m#Gz7CBOntlG]{&&Ee#%bFO<:~EB_rmYSeJ8O34,4dP&Oc5KtlZ(D<z&FA+aIDKYSsIPr]65S&D$B4jQ#6WWh~<Gf.J0NAeR0R^#32tJ)24F`Y#?'%57)'~Hz/V~<7#dN9cw;f[^O7)Vn9C;6)*ohK4r{UWy8WYrm+BfTw4X%zarLfBu+BLQVond0=8+4`{Np.nq.7n*C^sM]SJ>XKQ^gsAD6,jGTJ.'z5?^%K4$LAqU%aQsH|H{/-9r>kqRZt[Q(Z:1C+vVCLE}fN-$~F#E,9a5tpG4[*H=`2?`C.HBPg25GEYO+0M_10qcJ:bK&g-t^WF]C?H-NS'4>c-B0kB}3g[w'f+DvH^TN3Ud<zLWs_On&~5<I0jehj/V7R.+je[WLE$.Z1&5X'h*K|7`E#=s5A&CkMqR0nj3JTQ~ZN4y#P9^s{W8{53X/g+FSwse.$&Hi}]tf(0~=j&I0G4-fk.CmW-UJKC2.r0LSfN+5eS57tu.L#wX,4;{&9BDS%5C{WR~[Of4)[eO~*VH-r53E-&,}|}7*aoLbiO~(e&2Ry#oo8575f^}X.R=Tg*#Ze}L3KwfPI'u3G8f^DP^/d.qnJz8.9Dn</Kp14*mjEr'=}Ge5%X>`#~IYK'Ax+kubP^?QRN^t`J;+DDFj12iYjycIIpVZq:J:%<IxG663qd_4q$zX#.[=O<o*9i`+rz.0Jd`l%g7UL%:2WY%b>Q.>4T2DeaXzLJ2iz$*pBl)Q)00zCT)a{:*LuTpz[|DN=ia8JbD&$<t9`1Qto8xIj<.vzX1:SBCy;H15L]aL:jau3l4fs.w0XmW%c9K'CEhEvIv;n>]*L]p_7Q;&E1D:Q)1w~Nx%.pc2m[_R'~{:fi>ExSJ$zZ;^E`>NYr%r)o.=M(A|,+p+>f>*`D4QaN-5(&(OO7-6AdT%-}YHZzSP&0_4Fhf(=V1GP*?/LgMAQQ}'Ctr$Z.lJe3wm<LZe[2u0A}w*{QY'_FF1Zj{CRC[gfK|H'uRGePyEYk.NA;?]Nkk~x+<P5#8HN3Mk8-,)-kJ/veMCj;6s~[lhEA+^-lrAbeAA;M|olmCX6FEBEPc+5H^)m{Z`>Zs;+:b5]T4fj$q#OcU*zl'.A*=S&n83/?l,=fI0NVb-5M6f.zicq04>^oQ_*d||s?WNaL(Bj5Q-Lr*_yPJ5nMk/g+KxR/_N~ZGJ-B=iO:WD4m*i..+2_Mv]4f/rVOAMrh5k/V}C.n52R~e[SDR*bW=n39J<c<8B/uda|#7Wd9ONmeDL90|kQt})N,B%>v:V>$Z($2-Fv60.m'6>{Q%jDS^,cNH<'YJth5I1#&c#PC+M}z%pAQpuz8BL.QHagEKJL`;I.k,NM<,YeFq1VeME2?=>&l[|5Cw}Z#BBUfe-hyf;MY)>`H:^m[3d6+E>n_3M?]X*XF/k%/?F:ub-Y`S5xD#a)='g[&huV,^%#.~5,XM.%><[rxG%[<a4}SPg8'Y{q,uf]z;,Ip.(a~OW1|M<}=u/;>5JNrxF9#sGCQSi[7Fbf(/gS,'$W;r[9x9FEI:3'uS=CdO&%c=b'PaP<=A7n,bXLQEF.<Ql$m7IU%62,YWsd9H*kD]lC3f^LN_fIt_8TAe<;h4n8C^?1M1zLV|eeokGjoC+W%cgi:QQ6%gS.mv3'GEQUbe)]&Ut[4E8'SP0Yrev}0RB.85f=66:x]?DqCF3ApZg.G~K=UicBtGGihQIk1X%nI1_J$O^9Vt<]$7P7p^mv'l3/W9e6efJ?383(~EKe>Q5;9u$>LwOIc*t4[XDCGWQ(F$&%-yP(_zPU{/^I28mZCZ<)lA7Wv6gC+'bf6^/R%BpZ,v8dx*_mh3Q~4SP0lw}#iuQg1jCx)].hL$N1Q,J5j|A$_kF-`P?+LH[D:zD14|N__1gJ6CjB:t7{{j{VVw>Nw6n&CM&1$(_u-r];>,QTBfifY50:IpS4<&cpJ_O%Y8y?70-FM}UoT,TRp6?wITk50V3WGc9Ae3_;$vFb5}-gN#e^9O2}i4YDK/'{t2o'YS`hNI?/t2=<sW0QF9(ptqUC9hneQf-^fy7]jm10ObCS0.8:YD5-(X*1qkP48RW~44LW6Jh]~6*pLV)_LY3d#Wr{=$x]iBQbw`l%2U;['4PkV+HoxAGqW:hkn*<5.8L?=[W)xa&FJpWuCyWM2<E7fSZ#UZ1.wYVj%b=0CwK<S/v%f-8XS0>}w<8+Hnbg#O<(;XHBQ0K7/c5<=g_K2IEz=B<}+tV-`1Zd#CL>6x&mMI5:cJu,~%M?I}(jpfun]X*Fa,LB3P(oG9yvld(|l$,,rdplLLU>:y1k-|~(&vR.%E)AS[S#423MH&R3aGR/w`mhASb5G`zH~,HAJxQ=h|&F%2&XC+Ygu,hqvELDMl:(035s#CwQJkDA,g/_Y_=s$C#ARHbz`EDA|-5LvT&C]'0ISGmi(cj7i5Fwg{Iz_]_#J8^7/N(=8j=Zeg/7Wl)`5-A5K&:.SUIT=Vz6fTj]5[w&/Q$]%''1PQ%BkCtI:>-lr-RQ&j7s{b^7RHxL6I&]q:mos?'4ep]UBIIeIZmbgq8XAeM8xHGZ;o}GIBJAubV&;YD.);p|jI:fS3)A=1$7EADAbSwdYm6Q7iyb4e,=R]JZ9QKftlQmPt&>7QA|3)>o^^~M[3)b$/-9X#GwUI<QV3~i5}MD-T'S0$ozb]/}890HW:j['?qi5OGun]:U4;Ww?ciMPq69#cXzD).8b7l<UH>AP/lf0Rowc9O2j+(YBna<94|R_rYA8`&'8R4G5jr&-o;gsjrK#=+z`0K063sjNkNmW1#<;V&Ts63u~Y^uFmfSV$HFu7ROw%*:%a5yPmL4efVLJ:(<Q>2q0;a>/eq1>UTHlGQJS>].I3AO"
end PySem.W.Fast
end
set_option maxRecDepth 100000 in
set_option maxHeartbeats 0 in
theorem PySem.Challenge.cw_retrace_k25_whole_reckoned_holds : PySem.Challenge.rw_retrace_k25_whole_reckoned.Holds := by
 w_on;o_law;k_head;(case hw=>w_witness2);k_fill;refine W2.walk (l:=PySem.Challenge.rw_retrace_k25_whole_reckoned) rfl rfl (λw h Y=>PySem.W.kIn_of Y) ?F;case F=>intro w mg fa h KX G P7;refine' W2.Z9 KX G P7 ?T ?V1 ?V2 ?V3 ?V4 ?V5 ?mC ?eC ?m6 ?e6 ?m7 ?e7 ?m8 ?e8 ?nF ?eF ?M1 ?M2 ?M3 ?M4 ?M5 ?M6 ⟨?S0,?S1,?S2,?S3,?S4,?S5,?S6,?S7,?S8,?S9,?S10,?S11,?S12,?S13,?S14,?S15,?S16,?S17,?S18,?S19,?S20,?S21,?S22,?S23,?S24,?S25,?S26,?S27,?S28,?S29,?S30,?S31,?S32,?S33,?S34,?S35,?S36,?S37,?S38,?S39,?S40,?S41,?S42,?S43,?S44,?S45,?S46,?S47,?S48,?S49,?S50,?S51,?S52,?S53,?S54,?S55,?S56,?S57,?S58,?S59,?S60,?S61,?S62,?S63,?S64,?S65,?S66,?S67,?S68,?S69,?S70,?S71,?S72,?S73,?S74,?S75,?S76,?S77,?S78,?S79,?S80,?S81,?S82,?S83,?S84,?S85,?S86,?S87,?S88,?S89,?S90⟩ ?a ?A;(case a|mC|m6|m7|m8|nF=>k_is);(case A=>(refine' W2.Ax (by decide) (λ_ _ _ _ _ _ _ _ _ _ _=>rfl) ?l ?c ?k;(case l|c|k=>k_is)));(case V1|V2|V3|V4|V5=>refine' W2.Yq KX G ?m ?pg ?hd ?po ?sa ?na;(case m|pg|hd|po|sa=>k_is);(case na=>(repeat(refine' W2.nac ?q1 ?_;(case q1=>k_is)));exact trivial));(case eC|e6|e7|e8=>k_exc);(case M1|M2|M3|M5=>refine' W2.Va ?a ?i ?mk ?kc ?A;(case a|i|mk|kc=>k_is);(case A=>(refine' W2.Ax (by decide) (λ_ _ _ _ _ _ _ _ _ _ _=>rfl) ?l ?c ?k;(case l|c|k=>k_is))));(case M4=>refine' W2.Vb ?a ?i ?mk ?kc ?A;(case a|i|mk|kc=>k_is);(case A=>(refine' W2.Kz (by decide) (λ_ _ _=>⟨_,rfl,rfl⟩) (λ_ _=>⟨_,rfl,rfl⟩) ?lT ?l ?c ?k;(case l|lT|c|k=>k_is))));(case M6=>refine' W2.U9 KX G ?a ?A;(case a=>k_is);(case A=>(refine' W2.Kz (by decide) (λ_ _ _=>⟨_,rfl,rfl⟩) (λ_ _=>⟨_,rfl,rfl⟩) ?lT ?l ?c ?k;(case l|lT|c|k=>k_is))));(case S0|S1|S2|S3|S4|S5|S6|S7|S8|S9|S10|S11|S12|S13|S14|S15|S16|S17|S18|S19|S20|S21|S22|S23|S24|S25|S26|S27|S28|S29|S30|S31|S32|S33|S34|S35|S36|S37|S38|S39|S40|S41|S42|S43|S44|S45|S46|S47|S48|S49|S50|S51|S52|S53|S54|S55|S56|S57|S58|S59|S60|S61|S62|S63|S64|S65|S66|S67|S68|S69|S70|S71|S72|S73=>refine' W2.aak KX G ?a ?A;(case a=>k_is);(case A=>(refine' W2.Ax (by decide) (λ_ _ _ _ _ _ _ _ _ _ _=>rfl) ?l ?c ?k;(case l|c|k=>k_is))));(case S74|S75|S76|S77|S78|S79|S80|S81|S82|S83|S84|S85|S86|S87|S88|S89|S90=>refine' W2.Vc ?a ?i ?k ?A;(case a|i|k=>k_is);(case A=>(refine' W2.Ax (by decide) (λ_ _ _ _ _ _ _ _ _ _ _=>rfl) ?l ?c ?k;(case l|c|k=>k_is))));(case T=>refine' W2.aaM KX G ?z0 ?z1 ?z2 ?z3 ?z4 ?z5 ?z6 ?z7 ?z8 ?z9 ?z10 ?z11 ?z12 ?z13 ?z14 ?z15 ?z16 ?z17 ?m0 ?m1 ?m2 ?m3 ?m4 ?m5 ?m6 ?m7 ?m8 ?m9 ?m10 ?m11 ?m12 ?m13 ?m14 ?m15 ?m16 ?m17 ?m18 ?m19 ?ms ?y0 ?y1 ?y2 ?y3 ?y4 ?y5 ?b0 ?b1 ?b2 ?b3 ?b4 ?b5;(case z0|z1|z2|z3|z4|z5|z6|z7|z8|z9|z10|z11|z12|z13|z14|z15|z16|z17|m0|m1|m2|m3|m4|m5|m6|m7|m8|m9|m10|m11|m12|m13|m14|m15|m16|m17|m18|m19|ms|y0|y1|y2|y3|y4|y5=>k_is);(case b0|b5=>(refine' W2.Vw ?tla ?to ?tq;(case tla=>k_is);(case to=>decide);(case tq=>(repeat(refine' W2.rgc ?ke ?kv ?_;(case ke=>rfl);(case kv=>(refine' W2.aga ?kl ?kc ?kd ?kz ?kw;(case kl=>k_is);(case kc|kd=>rfl);(case kz=>decide);(case kw=>repeat(first|exact .nil|refine .cons ⟨_,rfl⟩ ?_))))));exact trivial)));(case b1=>(refine' W2.Vy ?tla ?to ?tq;(case tla=>k_is);(case to=>decide);(case tq=>(repeat(refine' W2.rgc ?ke ?kv ?_;(case ke=>rfl);(case kv=>exact⟨_,_,rfl,rfl⟩)));exact trivial)));(case b2|b3|b4=>(refine' W2.Vv ?tla ?to ?tq;(case tla=>k_is);(case to=>decide);(case tq=>(repeat(refine' W2.rgc ?ke ?kv ?_;(case ke=>rfl);(case kv=>refine' W2.af9 KX G ?ka;(case ka=>k_is))));exact trivial))));(case eF=>refine' W2.Zc ?l ?lN ?ke ?n1 ?n2 ?n3 ?n4 ?n5 ?h1 ?h2 ?h3 ?h4 ?lf ?cf ?A;(case l|lN|n1|n2|n3|n4|n5|h1|h2|h3|h4|lf=>k_is);(case cf|ke=>rfl);(case A=>(refine' W2.Ax (by decide) (λ_ _ _ _ _ _ _ _ _ _ _=>rfl) ?l ?c ?k;(case l|c|k=>k_is))))
