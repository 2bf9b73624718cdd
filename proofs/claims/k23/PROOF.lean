import PyProof.Rows.All
import Wide.All
import OpenK.AllK
import Wide.FinOn
import Lean
import PyProof.EqAt
import PyProof.EqKinds
import PyProof.TupleCall
import PySem.Challenge.RW_retrace_k23_runs
set_option genSizeOf false
set_option compiler.extract_closed false
set_option bootstrap.genMatcherCode false
set_option Elab.async false
set_option linter.all false
set_option autoImplicit true
set_option maxHeartbeats 4000000
set_option maxRecDepth 100000
open PySem renaming Shared→bn,wpAny→bv,Program→cp,mainGlobals→c',model→cc,World→ce,Around→cr,bootBuiltins→em,starEach→d4,FuncData→ed,foldedSetIterable→hG,rawInt→ef,attributeBase→g6,sysModules→ft,assignEach→ge,SetTable→fm,pyNext→eR,behindInMarks→hU,DictEntry→gt,codeAny→gc,backTo→e9,swapsWith→hF,noteFrame→hA,keywordEach→hX,Keyword→g5,excClassObj→io
open PySem renaming wpAny_bind→aa,wpAny_pure→ai,wpAny_holding→bS,wpAny_newObj_type→bW,wpAny_callSpecial?_slot→bY,wpAny_call_entry→bZ,wpAny_field→b7,wpAny_setField→cO,wpAny_mono→cV,codeAny_builtin→dM,codeAny_mono→dO,wpAny_loadPart_at→d0,wpAny_seqItems→d7,wpAny_attempt→eD,wpAny_ite_split→eP,wpAny_Call_Name_kw→fB,wpAny_setState_of→fO,wpAny_setEntries_of→fX,wpAny_typeNameOfWhole_keyiter→gz,wpAny_setField_rec→gI,wpAny_execs_nil→gP,wpAny_passesOwn→gQ,plainId_quiet→gW,wpAny_truthy_bool→hW,wpAny_newFunctionEnv_cells→iB,wpAny_typeLookup_exc→iC,wpAny_isInstance→iM,mem_of_lookup→jk,wpAny_standAt→jw,call_meets→jM,tupleKind_room_in1→jO,wpAny_call→jP,wpAny_rule→jQ,sizeLine_eq→jZ,wpAny_fieldsOf→kD,wpAny_typeOf→kE,codeAny_call_function→lD,wpAny_askSetting→lG,codeAny_call_builtin→mn,wpAny_of_eq→mq,isSubtype_stop→oX,strKind_is→oY,wpAny_pyIter_tuple→oZ,wpAny_pyIter_slot→qe,wpAny_throw→qf,wpAny_handled→ql,wpAny_typeNameOf_keyiter→qm,wpAny_execs_cons→rO,wpAny_runValue→w8,wpAny_updateSeq_pair→w9,wpAny_onRaise→AM,typeIs_int→AW,call_meetsIn→CP,codeAny_func→CQ,fits_of_scanBound→CS,wpAny_dictEntries→CT,wpAny_pyIter_list→CU,plainObj_wpAny_Assign_Attribute→FG,entryFor_of_tree→HQ,noFill_tuple_add→HU,wpAny_getItem_of→HV,wpAny_dictEpoch→KZ,wpAny_specialOf→K0,wpAny_load→QK,wpAny_newTuple→QL,wpAny_binaryOp_repeat_ref→Wr,seq_tuple_add→X4,wpAny_newList→X5,concat_meets→GC,meets_dict_get_default→ŋ,seqIndex_neg→Dl,wpAny_Call_method_late→L1,wpAny_isOneOf_keyiter→SI,wpAny_isTrue_Compare1→ĺ,wpAny_notOrdered_dict→NE,seqIndex_of→Ev,wpAny_letGo→Cf,wpAny_loadName_local→Z2,wpAny_pyIter_keyiter→Ē,wpAny_pyIter_revIter→ZV,wpAny_isSubtype_exc→Qs,wpAny_loadName_cell→X'
open List renaming length_map→ae,length_append→aq,getElem?_eq_getElem→ar,getElem?_eq_some_iff→aw,mem_cons→ax,mem_singleton→aE,mem_cons_of_mem→aG,map_append→aH,mem_cons_self→aJ,mem_of_getElem?→aL,getElem?_map→aM,getElem?_append_right→aQ,length_cons→aR,append_nil→aT,mem_append_right→aW,getElem?_append_left→aX,size_toArray→aZ,append_assoc→bw,mem_append→bE,map_map→bI,all_eq_true→bJ,length_take→bX,length_singleton→b6,all_cons→b8,mem_map→cx,length_replicate→cC,map_cons→cF,length_set→cH,getElem?_set_ne→cW,mem_append_left→cX,getElem?_set_self→c5,nodup_append→dg,nodup_cons→dA,not_mem_nil→dU,length_drop→eA,length_range→eM,take_length→fe,drop_zero→fz,getElem?_eq_none→fC,mem_of_mem_take→fJ,take_sublist→fK,getElem?_replicate→fY,getElem_mem→fZ,take_of_length_le→gF,nodup_nil→iA,getElem_inj→iH,lookup_cons→iJ,filterMap_cons→ji,length_reverse→jj,getElem?_take_of_lt→jv,find?_cons→jH,forIn_cons→jI,of_mem_zip→jJ,getElem_cons_drop→kq,getElem?_toArray→lC,eq_nil_of_length_eq_zero→mj,getElem?_of_mem→mm,getD_eq_getElem?_getD→oR,mem_filterMap→oS,take_left→oU,take_add_one→qc,any_cons→qh,map_take→qi,cons_append→rH,length_eq_zero_iff→rJ,take_append_drop→uR,map_congr_left→yR,replicate_succ→yS,any_eq_false→CN,mem_range→QI,drop_eq_getElem_cons→Wn,map_drop→X2,getElem?_cons_succ→ZW,concat_eq_append→Qw,eq_nil_or_concat→QU,getElem?_reverse→Ō,length_eraseIdx→Qv
open PySem.Heap renaming get?_push_of_some→af,lt_size→ay,get?_push_size→aA,get?_update_self→bF,get?_update_other→bG,size_push→iz,get?_push_ne→qb,size_update→rG,get?_update_ne→yQ,get?_none_of_le→ł
open Nat renaming le_refl→ah,le_trans→aj,ble_eq_true_of_le→aB,le_add_left→aD,le_of_ble_eq_true→aI,zero_le→aN,le_add_right→aO,ne_of_lt→aP,le_succ_of_le→aS,eq_of_beq_eq_true→aV,le_succ→bj,lt_of_lt_of_le→bp,lt_of_le_of_lt→b9,lt_succ_of_le→cA,zero_add→cB,lt_irrefl→cR,not_lt→c6,lt_of_succ_le→dh,le_of_lt→dE,add_assoc→dH,lt_succ_self→eB,le_of_lt_succ→eN,ne_of_gt→eW,lt_succ_of_lt→fL,sub_self→fM,add_sub_cancel_left→f6,lt_of_succ_lt_succ→gG,le_of_eq→iK,ble_eq→jL,beq_refl→tF,add_right_comm→AS,add_sub_cancel→AU,min_le_right→HP,mul_le_mul→QJ,succ_pos→FV
open Bool renaming false_ne_true→aF,and_eq_true→aK,eq_false_iff→bB,false_eq_true→fw,or_eq_true→jG,beq_eq_decide_eq→lB,or_true→nC,false_bne→oP,true_bne→qg,eq_iff_iff→KW,and_false→QG,or_eq_false_iff→ĝ
open PySem.W renaming mg_of→bu,mg_none_of→cg,kia_one→c9,callWith_K→fA,nsMap_none_of_in→fR,cellsFrom_some→gH,mapOf_K→mZ,codeRec_of→oV,plainGet_of→yU,isNs_of_in→AV,methodCall_KW→Ĉ,looks_subIn→Ŋ
open PySem.Obj renaming data_mapFields→bP,isFreed_of_fields→cZ,cls_mapFields→kr
open Array renaming length_toList→cj,getElem?_toList→dc,getElem?_eq_getElem→eh,getElem?_eq_some_iff→fq,getElem?_eq_none→gD,getD_eq_getD_getElem?→nB,find?_toList→AR,size_eq_one_iff→af3,mem_toList_iff→ahw
open PySem.Heap.SameBut renaming update→cq
open Ne renaming symm→c4
open PyProof.Rows renaming slot_tuple_getitem→dy,callWith_type1→eX,size_push'→jN,subscriptTail_builtinR→ky,gl_int→qk,take_snoc→xT,foldl_rep→HS,vals1→KD,Constant_none→X1,listUpdate_at→X3,add_int→ot,entry_proto_collect'→ZQ,seqEpoch_at→AC,entry_tuple_getitem→No
open Option renaming map_eq_some_iff→dF,isSome_iff_exists→fQ,isSome_map→CO
open Option.some renaming inj→dJ
open PySem.Calls renaming spliced_cons→dP,evalArgs_plain→fG,spliced_nil→hV,callWith_builtin→kn,Name_function_global→QH,call_function_entry→Wl
open PySem.F renaming slot_dict_keyiterator_next→dQ,slot_tuple_iterator_next→dZ,slot_dict_get→g8,slot_tuple_mul→iG,args_tuple_iterator_next_1→mX,entry_tuple_iterator_next→nD,args_tuple_mul_2→oQ,slot_dict_getitem→pJ,entry_tuple_mul→qa,args_tuple_add_2→qj,args_dict_get_3→rL,entry_tuple_add→rM,plainAttrs_dict→rN,entry_dict_get→tG,slot_tuple_add→tH,slot_int_rmul→ud,slot_set_iter→ue,slot_zip_next→uf,args_dict_keyiterator_next_1→yT,entry_dict_keyiterator_next→AL,slot_dict_setdefault→KY,excBase_Exception→Wo,plain_extend_loop→Wq,attr_ValueError→ZT,plain_list_iadd→XX,slot_dict_iter→IZ,entry_bexc_ga→Ĵ,type_dict_get→Ć,args_bexc_ga→W4
open Int renaming toNat_natCast→fH,emod_lt_of_pos→jK,ofNat_eq_natCast→mh,emod_nonneg→mY,toNat_of_nonneg→ĩ
open PySem.PassesOwn renaming leaving→ku,never→ug
open PySem.Around renaming under_plainId→md
open PyProof.Rows.F renaming plain_set_update_loop→rF,entry_set_update_loop→UV
open List.Perm renaming refl→w6
open PySem.Value renaming isStrOf_shape→yV
open PySem.Paired renaming length→AK
open PyProof.Rows.IsTup renaming new→HN
open LawfulBEq renaming eq_of_beq→HR
nonrec def Ö(s:Lean.Syntax)(p:String):Lean.Syntax:=((p.splitOn " ").foldl (fun t w=>let r:=(w.drop 1).toString
 match w.front with
 |'\''=>.atom .none r::t
 |'`'=>Lean.mkIdent r.toName::t
 |'@'=>r.toList.foldl (fun s c=>s[c.toNat-48]) s::t
 |'/'=>.node .none (Lean.Name.mkStr4 "Lean" "Parser" "Tactic" "tacticSeq") #[.node .none (Lean.Name.mkStr4 "Lean" "Parser" "Tactic" "tacticSeq1Indented") #[.node .none (.mkSimple "null") #[t.headD s]]]::t.drop 1
 |c=>let n:=c.toNat-48
  .node .none (if r==""then .mkSimple "null"else if r.front=='T'||r.front=='C'then ("Lean.Parser."++r).toName else r.toName) (t.take n).reverse.toArray::t.drop n) []).headD s
def v0:Lean.Syntax:=Ö .missing "'rfl 1Tactic.tacticRfl /"
def P3:Lean.Syntax:=Ö .missing "'decide 0 1Tactic.optConfig 2Tactic.decide /"
def hH:Lean.Syntax:=Ö .missing "'first '| 'exact '. `inl 2Term.dotIdent `rfl 1 2Term.app 2Tactic.exact / 2group '| 'exact '. `inr 2Term.dotIdent `rfl 1 2Term.app 2Tactic.exact / 2group '| 'assumption 1Tactic.assumption / 2group 3 2Tactic.first /"
def lv:Lean.Syntax:=Ö .missing "'decide '+ `kernel 2Tactic.posConfigItem 1Tactic.configItem 1 1Tactic.optConfig 2Tactic.decide /"
def hY:Lean.Syntax:=Ö .missing "'intro '_ 1Term.hole 1 2Tactic.intro '; 'rfl 1Tactic.tacticRfl 3 1Tactic.tacticSeq1Indented 1Tactic.tacticSeq"
open Option renaming some→O,none→ao
open Bool renaming true→J,false→bb
open List renaming length→Á,replicate→Ò,range→ä,foldl→ù
open Nat renaming ble→Ë,beq→Ì,blt→Ñ
open PySem.Value renaming ref→Ð,none→Ô,isStrOf→ã,type→à,builtin→ñ,str→ü
open PySem renaming strKind→Ú,Const→ė,Within→ā
open PySem.Heap renaming SameBut→Û,IsTupleIter→î,ExtBut→é,IsListIter→ą
open PySem.Obj renaming mapFields→â,mapSeq→ï,putSet→þ
open Bool renaming noConfusion→ê
open PySem.NameKind renaming free→å
open PySem.Data renaming noConfusion→ì
open False renaming elim→á
open True renaming intro→ç
open ForInStep renaming yield→ô
open PySem.Builtin.Slice renaming slicePlaces→Ą,sliceAdjust→ĭ
open PySem.SetTable renaming grown→õ,below→ú
open PySem.Str renaming ofString→í
open Option renaming map→è
open Sum renaming inr→Ü
open Prod renaming mk→Ý
open Exists renaming intro→ö
open PySem.Builtin.List renaming listExtendWith→Ī,listSameRef→Ĝ
open And renaming intro→ó
open PySem PySem.Spec PyProof.Rows
open PySem renaming Addr→À,Value→Â,sizeLine→Ã,Str→Å,Expr→Æ,Heap→È,Stmt→É,eval→Ê,Scope→Í,cLine→Ï,Pos→Ó,Env→Ø,Obj→Ù
open PySem.W renaming Frag→Ä
noncomputable section
def Ğ:Lean.Syntax:=Ö .missing "'exact 'fun '_ 1Term.hole '_ 1Term.hole 2 0 '=> `rfl 4Term.basicFun 2Term.fun 2Tactic.exact /"
def ĉ:Lean.Syntax:=Ö .missing "'exact `Or.inl `rfl 1 2Term.app 2Tactic.exact /"
def ϲ:Lean.Syntax:=Ö .missing "'first '| 'exact `Or.inl `rfl 1 2Term.app 2Tactic.exact / 2group '| 'exact `Or.inr `Or.inl `rfl 1 2Term.app 1 2Term.app 2Tactic.exact / 2group '| 'exact `Or.inr `Or.inr `rfl 1 2Term.app 1 2Term.app 2Tactic.exact / 2group 3 2Tactic.first /"
def ë:Lean.Syntax:=Ö .missing "'exact `Xm '_ 1Term.hole 1 2Term.app 2Tactic.exact /"
def Ķ6:Lean.Syntax:=Ö .missing "'exact `nfC '_ 1Term.hole 1 2Term.app 2Tactic.exact /"
nonrec def Ū(D L K T:List (String×String))(s:Lean.Syntax):Lean.Syntax:=match s with
 |.atom _ v=>.atom .none v
 |.ident _ r v p=>
  let o:=.ident .none r v p
  match v with
  |.str .anonymous x=>match D.lookup x with
   |.some y=>if y=="Prop"then Ö s "'Prop 1Term.prop"else Lean.mkIdent y.toName
   |_=>match L.lookup x with
    |.some y=>Ö s ("`List `"++y++" 1 2Term.app")
    |_=>o
  |_=>o
 |.node _ k a=>
  let s:Lean.Syntax:=.node .none k a
  match k with
  |.str _ x=>match T.lookup x with
   |.some y=>Ö s y
   |_=>
   if x=="tuple"&&!s[0].isAtom then if s[1].getNumArgs==0 then Ö s "'by 'lia 0 1Tactic.optConfig 2Tactic.lia / 2Term.byTactic"else Ö (Lean.mkNullNode (#[s[1][0],.atom .none ","]++s[1][2].getArgs)) "'⟨ @ '⟩ 3Term.anonymousCtor"
   else if x=="delta"&&s[1].getNumArgs<3 then Ö s "'unfold @1 @2 3Tactic.unfold"
   else if x=="ext"then if s[1].getNumArgs==0 then Ö s "'decide '+ `kernel 2Tactic.posConfigItem 1Tactic.configItem 1 1Tactic.optConfig 2Tactic.decide"else Ö (Lean.mkNullNode (s[1].getArgs.map fun p=>Ö p (if p[0][0].isIdent then "@00 1Lean.binderIdent"else "'_ 1Term.hole 1Lean.binderIdent"))) "'rename_i @ 2Tactic.renameI"
   else if x=="inductionAltLHS"then match K.lookup s[1][1].getId.toString with
    |.some y=>s.setArg 1 (s[1].setArg 1 (Lean.mkIdent (.mkSimple y)))
    |_=>s
   else if x=="tacticLet__"then
    let q:=s[2][0]
    if q[0][1].getNumArgs>0&&q[0].getNumArgs==3 then Ö (Lean.mkNullNode #[Lean.mkNullNode (q[0][1].getArgs.map fun y=>if y.isAtom then y else Ö y ((if y.isIdent then "@ 1Tactic.rcasesPat.one"else "'_ 1Tactic.rcasesPat.ignore")++" 1 1Tactic.rcasesPatMed 0 2Tactic.rcasesPatLo")),q[4]]) "'obtain '⟨ @0 '⟩ 3Tactic.rcasesPat.tuple 1 1Tactic.rcasesPatMed 1 0 ':= @1 1 2 4Tactic.obtain"
    else if q[2][0][1].getId==.mkSimple "Tx"then s else Ö s "'have @1 @2 3Tactic.tacticHave__"
   else s
  |_=>s
 |s=>s
nonrec def Ķ(s:Lean.Syntax):Lean.Syntax:=
 let z(a b c:String):=(a.splitOn " ").zip (b.splitOn c)
 let D:=z "Ł Ő Ń Î Þ ß ŧ æ ø Ŗ Ť Ă Đ" "List Option Nat Int Bool Prop False True autoParam rfl trivial absurd decide" " "
 let L:=z "ϑ ϐ Ϙ ϕ" "Pv Str Nat V" " "
 let K:=z "a c d e f g h j" "none some true false nil cons zero succ" " "
 let T:=z "tacticRwa__ tacticErw___ done left omission term∅ nofun term_<|>_ char" "'exact @1101 2Tactic.exact;'refine @2101 2Tactic.refine;'trivial 1Tactic.tacticTrivial;'simp_all 0 1Tactic.optConfig 0 0 0 5Tactic.simpAll;'by 'simp 0 1Tactic.optConfig 0 0 0 0 6Tactic.simp / 2Term.byTactic;'by 'decide '+ `kernel 2Tactic.posConfigItem 1Tactic.configItem 1 1Tactic.optConfig 2Tactic.decide / 2Term.byTactic;'by 'simp_all 0 1Tactic.optConfig 0 0 0 5Tactic.simpAll / 2Term.byTactic;'. `seq 2Term.dotIdent @0 @2 2 2Term.app;`yx `t `X 2 2Term.app" ";"
 s.rewriteBottomUp (Ū D L K T)
local macro_rules(kind:=Lean.Parser.Command.declaration)|s=>do
 if s.getPos?.isNone then Lean.Macro.throwUnsupported
 let s:=Ķ s
 return if s[1].getKind==`Lean.Parser.Command.structure then Ö s "'set_option `genInjectivity 0 'false 4Command.set_option 'in @ 3Command.in"else if s[0][4].getNumArgs+s[0][6].getNumArgs==0&&(s[1].getKind==`Lean.Parser.Command.definition||s[1].getKind==`Lean.Parser.Command.abbrev)then s.setArg 0 (s[0].setArg 4 (Ö s "'noncomputable 1Command.noncomputable 1"))else s
local macro_rules(kind:=Lean.Parser.Command.mutual)|s=>if s.getPos?.isNone then Lean.Macro.throwUnsupported else return Ķ s
local macro_rules(kind:=Lean.Parser.Command.variable)|s=>if s.getPos?.isNone then Lean.Macro.throwUnsupported else return Ķ s
abbrev dC:=PySem.Value->PySem.Shared->ß
open PySem.Builtin.SmallTypes renaming nextOf→q0',ownedTupleHandOut→q1',ownedTupleIsFree→q2'
abbrev dN:=Ł (PySem.Addr×PySem.Obj)
abbrev db:=PySem.Str->Ő PySem.Value
section
def bL:=@of_decide_eq_true
def bM:=@if_neg
def bU:=@congrArg
def b5:=@if_pos
def cw:=@decide_eq_false
def cM:=@decide_eq_true
def da:=@beq_eq_false_iff_ne
def fN:=@decide_eq_true_eq
def iL:=@beq_self_eq_true
def kx:=@if_false
def oW:=@beq_iff_eq
def qd:=@if_true
end
open PySem.W(instObj Frag lookIn plainGet hasDictIn findIn handedIn isFn plainOver takerIn Looks makesIn typeIn emptyDict keepIn specialIn takesIn mroIn kitOne fnOf codeIn OpenLaw WalkO KeysLit excIn nsOkIn clsIn subIn KitX nsIn KdlSrc kitAny kitCls findObj kIn_of)
namespace L2
abbrev cs:=Sum Î Å
def yj:cs->Â->Þ|.inl k,v=>Value.isInt k v|.inr x,v=>ã x v
def ajo(w:ce):cs->Î|.inl k=>hashInt k|.inr x=>hashStr w x
def eS:∀{k:cs}{v:Â},yj k v=J->(∃i t,k=Sum.inl i/\v=Value.int i t)\/∃x t,k=Ü x/\v=ü x t|.inl i,v,h=>by let(t,e):=Value.isInt_shape h;rwa[.inl (i,t,Ŗ,e)]|.inr x,v,h=>by let(t,e):=yV h;rwa[.inr (x,t,Ŗ,e)]
def Jh(i:Î)(t:Tok):yj (.inl i) (.int i t)=true:=by simp[yj,Value.isInt]
def Ji(x:Å)(t:Tok):yj (.inr x) (.str x t)=true:=by simp[yj,ã]
def r_(a b:Î):Đ ((Sum.inl a:cs)=Sum.inl b)=(a==b):=by
 by_cases e:a=b;.subst e;simp
 .left
def s_(a b:Å):Đ ((Ü a:cs)=Ü b)=Đ (a=b):=⋯
def d8(prog:cp)(w:ce):PySem.KeyKind prog w cs where
 is:=yj;hash:=ajo w;inj:=λv a b d c=>by
  rcases eS d with ⟨i,t,rfl,rfl⟩|⟨x,t,rfl,rfl⟩
  .rcases eS c with ⟨j,u,rfl,e⟩|⟨y,u,rfl,e⟩;.injection e with E _;rw[E]
   .rwa[nomatch e]
  .rcases eS c with ⟨j,u,rfl,e⟩|⟨y,u,rfl,e⟩;.rwa[nomatch e]
   .injection e with E _;rw[E]
 byValue:=λk v h=>by rcases eS h with ⟨i,t,rfl,rfl⟩|⟨x,t,rfl,rfl⟩<;>rfl
 pyHash:=λH h=>by
  rcases eS H with ⟨i,t,rfl,rfl⟩|⟨x,t,rfl,rfl⟩;.rwa[wpAny_pyHash_int h]
  .rwa[wpAny_pyHash_str h]
 eqBool:=λhu H h=>by
  rcases eS hu with ⟨i,t,rfl,rfl⟩|⟨x,t,rfl,rfl⟩
  .rcases eS H with ⟨j,u,rfl,rfl⟩|⟨y,u,rfl,rfl⟩;.rw[r_]at h;rwa[wpAny_eqBool_int h]
   .rwa[SeqAt.EqAt.int_str i t y u _ _ _ _ h]
  .rcases eS H with ⟨j,u,rfl,rfl⟩|⟨y,u,rfl,rfl⟩;.rwa[SeqAt.EqAt.str_int x t j u _ _ _ _ h]
   .rw[s_]at h;rwa[wpAny_eqBool_str h]
 «strs»:=λk x t v h=>by
  rcases eS h with ⟨i,u,rfl,e⟩|⟨y,u,rfl,e⟩;.lia
  .injection e with E _;subst E;cases v<;>rfl
def sY(prog:cp)(w:ce)(i:Î)(t:Tok):(d8 prog w).is (.inl i) (.int i t)=true:=Jh i t
def sZ(prog:cp)(w:ce)(x:Å)(t:Tok):(d8 prog w).is (.inr x) (.str x t)=true:=Ji x t
inductive V where|iq|B(b:Þ)|I(i:Î)|S(x:Å)|byt(b:Array UInt8)|Se(b:UInt64)|A(a:À)|ty(n:String)deriving DecidableEq
def RelV:V->Â->ß|.iq,u=>u=Ô|.B b,u=>u=Value.bool b|.I i,u=>∃t,u=Value.int i t|.S x,u=>∃t,u=ü x t|.byt b,u=>∃t,u=Value.bytes b t|.Se b,u=>∃t,u=Value.float b t|.A a,u=>u=Ð a|.ty n,u=>u=à n
abbrev Vals:ϕ->Ł Â->ß:=Paired RelV
theorem Vals.length(r:Vals xs us):Á xs=Á us:=AK r
theorem Vals.get:∀{xs:ϕ}{us:Ł _}{i:Ń}{x:V},Vals xs us->xs[i]?=O x->∃u,us[i]?=O u/\RelV x u|_,_,_,_,.nil,e=>by grind|_,_,0,_,.cons r _,e=>by grind|_,_,i+1,x,.cons _ t,e=>by let(u,H,h):=Vals.get t (by done);exact(u,by done,h)
theorem Vals.set(r:RelV x u):∀{xs:ϕ}{us:Ł _}(i:Ń),Vals xs us->Vals (xs.set i x) (us.set i u)|_,_,_,.nil=>.nil|_,_,0,.cons _ t=>.cons r t|_,_,i+1,.cons q t=>.cons q (Vals.set r i t)
def Vals.append:∀{xs ys:ϕ}{us ws:Ł _},Vals xs us->Vals ys ws->Vals (xs++ys) (us++ws):=by intro xs ys us ws a b;induction a with|f=>rwa[b]|g r t i=>rwa[.cons r i]
theorem Vals.take:∀{xs:ϕ}{us:Ł _}(n:Ń),Vals xs us->Vals (xs.take n) (us.take n)|_,_,0,_=>.nil|_,_,_+1,.nil=>.nil|_,_,n+1,.cons r t=>.cons r (Vals.take n t)
theorem Vals.drop:∀{xs:ϕ}{us:Ł _}(n:Ń),Vals xs us->Vals (xs.drop n) (us.drop n)|_,_,0,r=>r|_,_,_+1,.nil=>.nil|_,_,n+1,.cons _ t=>Vals.drop n t
def nj:Ő V->Ő Â->ß|O v,O u=>RelV v u|ao,ao=>æ|_,_=>ŧ
def KV{κ:Type}:Ł (κ×V)->Ł (κ×Â)->ß:=Paired λp q=>p.1=q.1/\RelV p.2 q.2
def kV:cs->V|.inl i=>.I i|.inr x=>.S x
inductive HO where|L(xs:ϕ)|T(xs:ϕ)|dK(aU:Ł (cs×V))|dT(aU:Ł (Ł cs×V))|set(S:Î->Þ)(n:Ń)|ins(C dx:À)(fs:Ł (Å×V))|own(x:À)|xd(fs:Ł (Å×V))|met(f x:À)|rng(lo hi:Î)|lM(o:Ù)(u:HO)|VP(ps:Array Â)|ext(φ:È->ß)
abbrev Hp:=À->Ő HO
def dq(H:Hp)(a:À)(o:HO):Hp:=λb=>if b=a then O o else H b
def bC:dq H a o a=O o:=by delta dq;rw[b5 Ŗ]
def bA(h:b≠a):dq H a o b=H b:=by delta dq;rw[bM h]
def ad6{H:Hp}(h:H a=O o)(h':H b=O u)(d:o≠u):a≠b:=by intro e;subst e;rw[h]at h';rwa[d (dJ h')]
def cn{H:Hp}(h:H a=O o)(h':H b=ao):a≠b:=()
section
variable(P:cp)(w:ce)
def fF(H:Hp)(h:È)(a:À):HO->ß|.L X=>Á X<=Ã/\∃(b:Ł _)(n:Ń),Vals X b/\h.get? a=O {cls:=.type "list",data:=.seq b.toArray n}|.T X=>Á X<=Ã/\∃b:Ł _,Vals X b/\IsTup h a b.toArray|.dK A=>Á A<=Ã/\(a==ft)=bb/\∃s,KV A s/\h.DictOf (d8 P w) a s|.dT A=>Á A<=Ã/\(a==ft)=bb/\∃X:Ł _,Paired (λp q=>p.1=q.1/\H q.2.1=O (.T (p.1.map kV))/\RelV p.2 q.2.2) A X/\∃o e E,h.get? a=O o/\o.ExactDict/\o.data=.dict e E/\e.toList=X.map (entryOfKey (tupleKind (d8 P w)))/\(X.map (·.1)).Nodup|.set S n=>h.SetOf (intKind P w) a S n|.ins C d fs=>H d=O (.own a)/\Á fs<=1000/\d≠a/\h.get? a=O (instObj C d)/\∃m,h.Ns1 d m/\(∀f,nj (fs.lookup f) (m f))/\ā m (fs.map (·.1))|.own _=>∃o,h.get? a=O o|.xd fs=>∃m,h.Ns1 a m/\∀f,nj (fs.lookup f) (m f)|.rng lo i=>∃t u v,h.get? a=O {cls:=.type "range",data:=.fields #[.int lo t,.int i u,.int 1 v]}|.lM o u=>h.get? a=O o/\fF H h a u|.VP ps=>h.get? a=O {cls:=.none,data:=.fields ps}|.met f x=>h.get? a=O (PySem.W.methodObj (.ref f) (.ref x))|.ext φ=>φ h/\(∃o,h.get? a=O o)/\∀c g:È,φ c->(∀o,c.get? a=O o->g.get? a=O o)->φ g
def kG(H:Hp)(h:È):ß:=∀a o,H a=O o->fF P w H h a o
end
theorem fF.lt(x:fF P w H h a o):a<h.objs.size:=by cases o with|L X=>let(_,_,_,_,e):=x;rwa[ay e]|T X=>let(_,_,_,p):=x;rwa[p.lt]|dK A=>let(_,_,_,_,o,_,_,e,_):=x;rwa[ay e]|dT A=>let(_,_,_,_,o,_,_,e,_):=x;rwa[ay e]|set S n=>let(o,_,_,_,e,_):=x;rwa[ay e]|ins C d fs=>let(_,_,_,e,_):=x;rwa[ay e]|own y=>let(_,e):=x;rwa[ay e]|xd fs=>obtain⟨_,⟨_,_,_,e,_⟩,_⟩:=x;rwa[ay e]|rng lo i=>let(_,_,_,e):=x;rwa[ay e]|lM b u=>let(e,_):=x;rwa[ay e]|VP ps=>rwa[ay x]|met f y=>rwa[ay x]|ext φ=>obtain⟨_,⟨_,e⟩,_⟩:=x;rwa[ay e]
def Paired.ad2:∀{l:Ł α}{l₂:Ł β},Paired F l l₂->(∀a b,F a b->G a b)->Paired G l l₂:=by intro l l₂ h f;induction h with|f=>rwa[.nil]|g r t i=>rwa[.cons (f _ _ r) i]
def fF.tY(x:fF P w H h a o)(k:∀b u,b=a\/H b=O (.own a)->h.get? b=O u->h'.get? b=O u)(l:∀b,H b=O (.own a)->H' b=O (.own a))(s:∀b xs,H b=O (.T xs)->H' b=O (.T xs)):fF P w H' h' a o:=by induction o with|L xs=>let(z,B,n,r,e):=x;exact(z,B,n,r,k _ _ (.inl Ŗ) e)|T xs=>let(z,B,r,g,e,c):=x;exact(z,B,r,g,k _ _ (.inl Ŗ) e,c)|dK A=>let(z,y,D,r,g,E,i,e,c):=x;exact(z,y,D,r,g,E,i,k _ _ (.inl Ŗ) e,c)|dT A=>let(z,y,xs,r,g,E,i,e,c):=x;exact(z,y,xs,Paired.ad2 r λp q z=>(z.1,s _ _ z.2.1,z.2.2),g,E,i,k _ _ (.inl Ŗ) e,c)|set S n=>let(g,E,i,t,e,c):=x;exact(g,E,i,t,k _ _ (.inl Ŗ) e,c)|ins C G fs=>obtain⟨d,z,N,e,m,⟨j,E,i,F,c⟩,r⟩:=x;exact(l _ d,z,N,k _ _ (.inl Ŗ) e,m,(j,E,i,k _ _ (.inr d) F,c),r)|own y=>let(g,e):=x;exact(g,k _ _ (.inl Ŗ) e)|xd fs=>obtain⟨m,⟨j,E,i,e,c⟩,r⟩:=x;exact(m,(j,E,i,k _ _ (.inl Ŗ) e,c),r)|rng lo K=>let(t,u,v,e):=x;exact(t,u,v,k _ _ (.inl Ŗ) e)|lM g u I=>let(e,q):=x;exact(k _ _ (.inl Ŗ) e,I q)|VP ps=>let e:=x;rwa[k a _ (.inl Ŗ) e]|met f y=>rwa[k a _ (.inl Ŗ) x]|ext φ=>obtain⟨p,⟨o,e⟩,st⟩:=x;exact(st _ _ p λo q=>k _ _ (.inl Ŗ) q,(o,k _ _ (.inl Ŗ) e),st)
theorem kG.lt(x:kG P w H h)(e:H a=O o):a<h.objs.size:=(x a o e).lt
def kG.fresh{a:À}(x:kG P w H h)(e:h.objs.size<=a):H a=none:=by cases q:H a with|a=>rfl|c u=>rwa[Ă (bp (x.lt q) e) (cR _)]
def kG.kept(x:kG P w H h)(k:∀b u,h.get? b=O u->h'.get? b=O u):kG P w H h':=λa o e=>(x a o e).tY (λb u _ q=>k b u q) (λ_ q=>q) λ_ _ q=>q
def kG.laid{a:À}(x:kG P w H h)(k:∀b u,h.get? b=O u->h'.get? b=O u)(p:h.objs.size<=a)(new:fF P w (dq H a o) h' a o):kG P w (dq H a o) h':=λb u e=>by
 let hn:=x.fresh p;by_cases d:b=a;.subst d;rw[bC]at e;cases e;rwa[new]
 .rw[bA d]at e;exact(x b u e).tY (λc v _ q=>k c v q) (λc q=>by rw[bA (cn q hn)];rwa[q]) λc X q=>by rw[bA (cn q hn)];rwa[q]
def Rd(H:Hp)(a:À)(u:HO):ß:=H a=O u\/∃o,H a=O (.lM o u)
def Rd.ok{H:Hp}{h:È}{a:À}{u:HO}(r:Rd H a u)(x:kG P w H h):fF P w H h a u:=by
 rcases r with r|⟨o,r⟩;.rwa[x a u r]
 .let(_,q):=x a _ r;rwa[q]
def nS:Ő HO->ß|O (.L _)=>æ|O (.dK _)=>æ|O (.dT _)=>æ|O (.set _ _)=>æ|O (.ins _ _ _)=>æ|O (.ext _)=>æ|_=>ŧ
def kG.write(ok:kG P w H h)(m:nS (H x))(g:e=x\/H e=O (.own x))(k:∀b u,b≠e->h.get? b=O u->h'.get? b=O u)(o:∃u,h'.get? e=O u)(new:fF P w (dq H x o') h' x o'):kG P w (dq H x o') h':=λb u q=>by
 let A:∀c y,H c=O (.own y)->c≠x:=λc y r z=>by subst z;rw[r]at m;rwa[m]
 by_cases d:b=x;.subst d;rw[bC]at q;cases q;rwa[new]
 .rw[bA d]at q;by_cases a:b=e
  .let Q:H b=O (.own x):=by
    rcases g with z|z;.rwa[Ă (a.trans z) d]
    .rw[a];rwa[z]
   rw[q]at Q;cases Q;let(v,i):=o;exact(v,by rw[a];rwa[i])
  .erw[(ok b u q).tY (λc v f r=>k c v ?_ r) (λc r=>by rw[bA (A c b r)];rwa[r]) λc X r=>by rw[bA ((λc X r z=>by subst z;rw[r]at m;rwa[m]) c X r)];rwa[r]]
   rcases f with rfl|f;.done
   .rintro rfl;rcases g with z|z;.rwa[A c b f z]
    .lia
structure Un(fs ex:Ł À)(H H':Hp)(h h':È):ß where
 keep:∀b o,h.get? b=O o->H b=ao->b∉fs->b∉ex->h'.get? b=O o
 slot:∀b o,h.get? b=O o->H b=ao->b∈fs->b∉ex->∃sl,h'.get? b=O {o with slots:=sl}free:∀b o,h.get? b=O o->H b=ao->b∉ex->H' b=ao
 there:∀b o,h.get? b=O o->b∉ex->∃o',h'.get? b=O o'
 ph:∀b xs,H b=O (.T xs)->H' b=O (.T xs)nr:∀b o u,H b=O (.lM o u)->H' b=O (.lM o u)pd:∀b ps,H b=O (.VP ps)->∃more,H' b=O (.VP (ps++more))
def Un.any(u:Un fs ex H H1 h h1)(q:h.get? b=O c)(n:H b=ao)(d:b∉ex):∃sl,h1.get? b=O {c with slots:=sl}:=by
 by_cases f:b∈fs;.rwa[u.slot b c q n f d]
 .exact(_,u.keep b c q n f d)
def Un.kept(k:∀b u,h.get? b=O u->h'.get? b=O u):Un fs ex H H h h':=(λb c q _ _ _=>k b c q,λb c q _ _ _=>(_,k b c q),λ_ _ _ n _=>n,λb c q _=>(c,k b c q),λ_ _ q=>q,λ_ _ _ q=>q,λ_ ps q=>(#[],by done))
def Un.refl:Un fs ex H H h h:=Un.kept λ_ _ q=>q
def Un.laid{h:È}{a:À}(k:∀b u,h.get? b=O u->h'.get? b=O u)(p:h.objs.size<=a)(hn:H a=ao):Un fs ex H (dq H a o) h h' where
 keep:=λb u q _ _ _=>k b u q;slot:=λb u q _ _ _=>(_,k b u q);free:=λb u q n _=>by rw[bA (aP (bp (ay q) p))];rwa[n]
 there:=λb u q _=>(u,k b u q);ph:=λb X q=>by rw[bA (cn q hn)];rwa[q]
 nr:=λb u X q=>by rw[bA (cn q hn)];rwa[q]
 pd:=λb ps q=>(#[],by rw[bA (cn q hn),q];simp)
def Un.write(M:nS (H x))(i:e=x\/H e=O (.own x))(k:∀b u,b≠e->h.get? b=O u->h'.get? b=O u)(f:∃u,h'.get? e=O u):Un fs ex H (dq H x o) h h':=by
 let g:∀b,H b=ao->b≠x:=λb n z=>by subst z;rw[n]at M;rwa[M]
 let d:∀b,H b=ao->b≠e:=λb n z=>nofun
 let m:∀b u,H b=O u->¬nS (O u)->b≠x:=λb u q N z=>nofun
 erw[(λb u q n _ _=>k b u (d b n) q,λb u q n _ _=>(_,k b u (d b n) q),λb u q n _=>by rw[bA (g b n)];rwa[n],λb u q _=>?_,λb X q=>by rw[bA (m b _ q λz=>z)];rwa[q],λb u X q=>by rw[bA (m b _ q λz=>z)];rwa[q],λb ps q=>(#[],by rw[bA (m b _ q λz=>z),q];simp))];by_cases c:b=e;.left
 .exact(u,k b u c q)
def trk(h:È)(H:Hp):Ł À:=(ä h.objs.size).filter λa=>(H a).isSome
def zS(h:È)(H:Hp):È:=PySem.W.hideAll h (trk h H)
def IY(h:È)(H:Hp):(zS h H).objs.size=h.objs.size:=PySem.W.hideAll_size _ _
def MB(e:h.get? b=O o)(n:H b=ao):(zS h H).get? b=O o:=PySem.W.hideAll_get _ e λm=>by let q:=(List.mem_filter.mp m).2;rw[n]at q;simp at q
def Ua(e:(zS h H).get? b=O o):h.get? b=O o/\H b=none:=by let E:=PySem.W.of_hideAll _ e;erw[(E,?_)];cases q:H b with|a=>rfl|c x=>let z:(zS h H).get? b=none:=PySem.W.hideAll_none _ (List.mem_filter.mpr (QI.mpr (ay E),by simp[q]));rw[z]at e;cases e
structure Mod(K:Ä)(mg:db)(base:È):ß where
 CJ:K.In base
 glob:base.Ns c' mg
 blt:∃mb,base.Ns builtinsNs mb/\∀x:Å,x≠"__name__"->mb x=em x
 nolimit:base.NoLimit
structure Cx where
 prog:cp
 w:ce
 K:Ä
 mg:db
 base:È
 A:cr
 N:ϐ
 s₀:bn
 H₀:Hp
 env:Ø
 outer:Ł Ø
 stack:Ł Ø
 ex:Ł À
 fn:Å->Þ
 calm:Þ
 pn:dN
 xe:dC
def pC(l:Ł Ø):Ł À:=l.filterMap (·.frame)
abbrev Cx.fs(X:Cx):Ł À:=pC X.outer
def Wz(sc:Í)(x:Å):ß:=sc.names.lookup x=O .local\/sc.names.lookup x=O .cell\/sc.names.lookup x=O .free
def Loc(sc:Í)(x:Å):ß:=sc.names.lookup x=O .local\/sc.names.lookup x=O .cell
def ahR(env:Ø)(h:È)(m:db)(x:Å)(u:Â):ß:=env.kindOf x=O .local/\m x=O u\/(env.kindOf x=O .cell\/env.kindOf x=O .free)/\∃c,env.cells.lookup x=O c/\h.IsCell c (O u)
structure Cx.Ok(X:Cx):ß where
 mod:Mod X.K X.mg X.base
 kind:X.env.scope.kind=.function
 glob:X.env.globals=c'
 blt:X.env.builtins=builtinsNs
 above:X.s₀.heap.objs.size<=X.env.locals
 inj:∀x y c,X.env.cells.lookup x=O c->X.env.cells.lookup y=O c->x=y
 has:∀x,X.env.kindOf x=O .cell\/X.env.kindOf x=O .free->∃c,X.env.cells.lookup x=O c
 Ll:∀x c,X.fn x=J->X.env.cells.lookup x=O c->X.s₀.heap.objs.size<=c
 hd:X.calm=J->X.A.handled=ao
 frames:X.A.frames=O X.stack
 KU:X.stack=X.outer\/(X.stack=X.env::X.outer/\X.env.frame=O X.env.locals)Qp:∀b∈X.ex,b≠X.env.locals/\∀x c,X.env.cells.lookup x=O c->c≠b
 bs:∀b o,X.base.get? b=O o->X.s₀.heap.get? b=O o/\X.H₀ b=ao
 zg:X.base.objs.size<=X.s₀.heap.objs.size
 sk:∀b o,X.base.get? b=O o->b∉X.ex
 vH:∀b∈X.ex,b∉X.fs
 j5:X.s₀.heap.FunFrames X.base X.outer
 DS:∀b∈X.fs,X.H₀ b=ao
structure Inv(X:Cx)(be:dN)(σ:Ł (Ő V))(H:Hp)(s:bn):ß where
 ok:X.Ok
 os:s.os=X.s₀.os
 bare:AllBare s.gens
 base:Un X.fs X.ex X.H₀ H X.s₀.heap s.heap
 loc:∃m,s.heap.Ns X.env.locals m/\∀(i:Ń)(x:Å)(v:V),X.N[i]?=O x->σ[i]?=O (O v)->Wz X.env.scope x->∃u,RelV v u/\ahR X.env s.heap m x u
 cell:∀x c,X.env.cells.lookup x=O c->∃v,s.heap.IsCell c v
 free:H X.env.locals=ao
 fT:∀x c,X.env.cells.lookup x=O c->H c=ao
 pin:∀p∈X.pn++be,s.heap.get? p.1=O p.2/\H p.1=ao/\p.1≠X.env.locals/\p.1∉X.fs/\∀v,p.2.data≠.cell v
 cY:kG X.prog X.w H s.heap
 len:Á σ=Á X.N
def Cx.Ok.ajT{X:Cx}(ok:X.Ok)(e:X.base.get? b=O o):b∉X.fs:=λh=>by let:=(ok.j5.mem h).1;rw[e]at this;cases this
theorem Inv.bs(I:Inv X be σ H s):∀b o,X.base.get? b=O o->s.heap.get? b=O o/\H b=none:=λb o e=>(I.base.keep b o (I.ok.bs b o e).1 (I.ok.bs b o e).2 (I.ok.ajT e) (I.ok.sk b o e),I.base.free b o (I.ok.bs b o e).1 (I.ok.bs b o e).2 (I.ok.sk b o e))
def Inv.bk(I:Inv X be σ H s):∀b o,X.base.get? b=O o->s.heap.get? b=O o:=λb o e=>(I.bs b o e).1
theorem Inv.mod(I:Inv X be σ H s):Mod X.K X.mg X.base:=I.ok.mod
def Inv.kZ(I:Inv X be σ H s):X.K.In s.heap:=I.ok.mod.CJ.keeps I.bk
theorem Inv.lt(I:Inv X be σ H s):X.env.locals<s.heap.objs.size:=let (_,hn,_):=I.loc;hn.lt
def Inv.sz(I:Inv X be σ H s):X.s₀.heap.objs.size<=s.heap.objs.size:=aj I.ok.above (dE I.lt)
def Inv.ajU(I:Inv X be σ H s){a:À}(h:s.heap.objs.size<=a):a∉X.fs:=λb=>by let(_,o,c,_):=I.ok.j5.mem b;rwa[Ă (bp (ay c) (aj I.sz h)) (cR _)]
def Inv.Rp(I:Inv X be σ H s):∀x c,X.env.cells.lookup x=O c->c≠X.env.locals:=λx c e z=>by let(v,o,h,d):=I.cell x c e;obtain⟨m,⟨a,E,p,C,K,_⟩,_⟩:=I.loc;rw[z,C]at h;cases h;rw[K]at d;cases d
theorem Inv.j5(I:Inv X be σ H s):s.heap.FunFrames X.base X.outer:=by
 let all:∀(l:Ł Ø),(∀b∈pC l,b∈X.fs)->X.s₀.heap.FunFrames X.base l->s.heap.FunFrames X.base l:=by intro l;induction l with|f=>intro _ _;done|g E r i=>intro d f;obtain⟨k,⟨L,o,h,hn,g,j⟩,m⟩:=f;let a:=d L (by delta pC;rw[ji,h];rwa[aJ]);let(sl,e):=I.base.slot L o g (I.ok.DS L a) a λz=>I.ok.vH L z a;exact(k,(L,_,h,hn,e,j),i (λb c=>d b (by delta pC;rw[ji,h];rwa[aG _ c])) m)
 rwa[all _ (λ_ c=>c) I.ok.j5]
theorem Inv.stack(I:Inv X be σ H s):s.heap.FunFrames X.base X.stack:=by
 rcases I.ok.KU with e|⟨e,h⟩;.rw[e];rwa[I.j5]
 .rw[e];let(m,hn,_):=I.loc;rwa[.cons (by rw[I.ok.kind];decide) h hn (ł (aj I.ok.zg I.ok.above)) I.j5]
def Inv.wG(I:Inv X be σ H s):∀b∈pC X.stack,b∈X.env.locals::X.fs:=λb h=>by
 rcases I.ok.KU with e|⟨e,f⟩;.rw[e]at h;rwa[aG _ h]
 .rw[e]at h;delta pC at h;rw[ji,f]at h;rwa[h]
def Inv.qX(I:Inv X be σ H s):∀b∈pC X.stack,H b=none:=λb h=>by
 rcases ax.mp (I.wG b h)with e|h;.rw[e];rwa[I.free]
 .let(_,o,a,_):=I.ok.j5.mem h;rwa[I.base.free b o a (I.ok.DS b h) λz=>I.ok.vH b z h]
def Inv.step{ch:Ł _}(I:Inv X be σ H s)(Q:∀b∈ch,(b∈X.ex\/X.s₀.heap.objs.size<=b)/\b≠X.env.locals/\(∀x c,X.env.cells.lookup x=O c->c≠b)/\∀p∈X.pn++be,p.1≠b)(keep:∀b o,b≠X.env.locals->b∉X.fs->b∉ch->s.heap.get? b=O o->H b=ao->h'.get? b=O o)(slot:∀b o,b≠X.env.locals->b∈X.fs->b∉ch->s.heap.get? b=O o->H b=ao->∃sl,h'.get? b=O {o with slots:=sl})(f:∀b o,b∉ch->s.heap.get? b=O o->H b=ao->H' b=ao)(there:∀b o,b∉ch->s.heap.get? b=O o->∃j,h'.get? b=O j)(P:∀b xs,H b=O (.T xs)->H' b=O (.T xs))(K:∀b o u,H b=O (.lM o u)->H' b=O (.lM o u))(R:∀b ps,H b=O (.VP ps)->∃M,H' b=O (.VP (ps++M)))(ns:∀m,s.heap.Ns X.env.locals m->h'.Ns X.env.locals m)(Y:kG X.prog X.w H' h')(U:AllBare g'):Inv X be σ H' {s with heap:=h',gens:=g',drawn:=d',toks:=t'}:=by
 let L:∀b o,X.s₀.heap.get? b=O o->b≠X.env.locals:=λb o e=>aP (bp (ay e) I.ok.above);let y:∀b o,X.s₀.heap.get? b=O o->b∉X.ex->b∉ch:=λb o e h a=>by
  rcases(Q b a).1 with z|z;.rwa[h z]
  .rwa[Ă (bp (ay e) z) (cR _)]
 let C:∀x c,X.env.cells.lookup x=O c->∀v,s.heap.IsCell c v->h'.IsCell c v:=λx c e v Z=>by
  let(o,g,A):=Z;let N:=λz=>(Q c z).2.2.1 x c e Ŗ;by_cases B:c∈X.fs;.let(sl,q):=slot c o (I.Rp x c e) B N g (I.fT x c e);exact(_,q,A)
  .exact(o,keep c o (I.Rp x c e) B N g (I.fT x c e),A)
 erw[(I.ok,I.os,U,(λb o e n a h=>keep b o (L b o e) a (y b o e h) (I.base.keep b o e n a h) (I.base.free b o e n h),λb o e n a h=>?_,λb o e n h=>?_,λb o e h=>?_,λb xs e=>P b xs (I.base.ph b xs e),λb o xs e=>K b o xs (I.base.nr b o xs e),λb ps e=>?_),?_,λx c e=>?_,?_,λx c e=>?_,λp D=>?_,Y,I.len)];.let(sl,E):=I.base.slot b o e n a h;let(S,t):=slot b _ (L b o e) a (y b o e h) E (I.base.free b o e n h);exact(S,t)
 .let(j,E):=I.base.there b o e h;rwa[f b j (y b o e h) E (I.base.free b o e n h)]
 .let(j,E):=I.base.there b o e h;rwa[there b j (y b o e h) E]
 .let(m1,E):=I.base.pd b ps e;let(m2,t):=R b _ E;exact(_,by rw[t,Array.append_assoc])
 .let(m,hn,W):=I.loc;erw[(m,ns m hn,λi x v E t e3=>?_)];let(u,r,l):=W i x v E t e3;erw[(u,r,?_)];rcases l with l|⟨k,c,e,z⟩;.rwa[.inl l]
  .rwa[.inr (k,c,e,C x c e _ z)]
 .let(v,z):=I.cell x c e;exact(v,C x c e v z)
 .obtain⟨m,⟨o,_,_,g,_⟩,_⟩:=I.loc;rwa[f _ o (λz=>(Q _ z).2.1 Ŗ) g I.free]
 .let(v,o,g,A):=I.cell x c e;rwa[f c o (λz=>(Q c z).2.2.1 x c e Ŗ) g (I.fT x c e)]
 .let(e,n,F,G,d):=I.pin p D;let N:=λz=>(Q p.1 z).2.2.2 p D Ŗ;exact(keep p.1 p.2 F G N e n,f p.1 p.2 N e n,F,G,d)
def Inv.un(I:Inv X be σ H s)(u:Un X.fs [] H H' s.heap h')(c:kG X.prog X.w H' h'):Inv X be σ H' {s with heap:=h',toks:=t'}:=by obtain⟨m,⟨o,f,p,a,r⟩,_⟩:=id I.loc;let(sl,L):=u.any a I.free ⋯;rwa[I.step (ch:=[]) (λ_ z=>nomatch z) (λb o _ h _ e n=>u.keep b o e n h ⋯) (λb o _ h _ e n=>u.slot b o e n h ⋯) (λb o _ e n=>u.free b o e n ⋯) (λb o _ e=>u.there b o e ⋯) u.ph u.nr u.pd (λg d=>by let(i,M,E,C,R):=d;rw[a]at C;cases C;exact(_,M,E,L,R)) c I.bare]
def Inv.call(I:Inv X be σ H s)(u:Un (pC X.stack) ch H H' s.heap h')(Y:kG X.prog X.w H' h')(g:AllBare g')(Q:∀b∈ch,(b∈X.ex\/X.s₀.heap.objs.size<=b)/\b≠X.env.locals/\(∀x c,X.env.cells.lookup x=O c->c≠b)/\∀p∈X.pn++be,p.1≠b):Inv X be σ H' {s with heap:=h',gens:=g',drawn:=d',toks:=t'}:=by obtain⟨m,⟨o,i,j,a,r⟩,_⟩:=id I.loc;let(sl,L):=u.any a I.free λz=>(Q _ z).2.1 Ŗ;rwa[I.step Q (λb o L d h e n=>u.keep b o e n (λz=>(ax.mp (I.wG b z)).elim L d) h) (λb o _ _ h e n=>u.any e n h) (λb o h e n=>u.free b o e n h) (λb o h e=>u.there b o e h) u.ph u.nr u.pd (λk f=>by let(l,M,E,C,R):=f;rw[a]at C;cases C;exact(_,M,E,L,R)) Y g]
def Inv.turned(I:Inv X be σ H s)(k:∀b o,b≠it->s.heap.get? b=O o->h'.get? b=O o)(hn:H it=ao)(L:it≠X.env.locals)(a:it∈X.ex\/X.s₀.heap.objs.size<=it)(d:∀x c,X.env.cells.lookup x=O c->c≠it)(f:∀p∈X.pn++be,p.1≠it):Inv X be σ H {s with heap:=h',toks:=t'}:=by
 let N:∀b u,H b=O u->b≠it:=λb u e z=>()
 erw[I.step (ch:=[it]) (λb g=>?_) (λb o _ _ h e _=>k b o (λz=>h (by simp[z])) e) (λb o _ _ h e _=>(_,k b o (λz=>h (by simp[z])) e)) (λ_ _ _ _ n=>n) (λb o h e=>(o,k b o (λz=>h (by simp[z])) e)) (λ_ _ e=>e) (λ_ _ _ e=>e) (λb ps e=>(#[],by done)) (λm i=>?_) (λb u e=>?_) I.bare]
 .let e:=by simpa using g
  subst e;exact(a,L,d,f)
 .let(o,E,j,l,r):=i;exact(o,E,j,k _ o (c4 L) l,r)
 .erw[(I.cY b u e).tY (λc v h q=>k c v ?_ q) (λ_ q=>q) λ_ _ q=>q];rcases h with z|z;.rw[z];rwa[N b u e]
  .rwa[N c _ z]
def Inv.tok(I:Inv X be σ H s)(t:Ń):Inv X be σ H {s with toks:=t}:=I.un Un.refl I.cY
theorem Inv.kept(I:Inv X be σ H s)(k:∀b u,s.heap.get? b=O u->h'.get? b=O u):Inv X be σ H {s with heap:=h',toks:=t'}:=I.un (Un.kept k) (I.cY.kept k)
theorem Inv.laid{a:À}(I:Inv X be σ H s)(k:∀b u,s.heap.get? b=O u->h'.get? b=O u)(h:s.heap.objs.size<=a)(new:fF X.prog X.w (dq H a o) h' a o):Inv X be σ (dq H a o) {s with heap:=h',toks:=t'}:=I.un (Un.laid k h (I.cY.fresh h)) (I.cY.laid k h new)
theorem Inv.write(I:Inv X be σ H s)(m:nS (H x))(a:e=x\/H e=O (.own x))(k:∀b u,b≠e->s.heap.get? b=O u->h'.get? b=O u)(h:∃u,h'.get? e=O u)(new:fF X.prog X.w (dq H x o) h' x o):Inv X be σ (dq H x o) {s with heap:=h',toks:=t'}:=I.un (Un.write m a k h) (I.cY.write m a k h new)
def Inv.Ap{o:Ł _}(I:Inv X be σ H s)(h:∀p∈o,s.heap.get? p.1=O p.2/\H p.1=ao/\p.1≠X.env.locals/\p.1∉X.fs/\∀v,p.2.data≠.cell v):Inv X o σ H s:=(I.ok,I.os,I.bare,I.base,I.loc,I.cell,I.free,I.fT,λp a=>(bE.mp a).elim (λz=>I.pin p (cX _ z)) (h p),I.cY,I.len)
def wm{N:ϐ}(h:N.Nodup){j:Ń}(a:N[i]?=O x)(b:N[j]?=O x):i=j:=by let(c,e):=aw.mp a;let(d,E):=aw.mp b;exact(iH h).mp (e.trans E.symm)
def Kh{E:dC}(I:Inv X be σ H s)(hN:X.N.Nodup)(hi:X.N[i]?=O x)(B:Loc X.env.scope x)(r:RelV v u)(h:∀s',Inv X be (σ.set i (O v)) H s'->(∃a,Û a s.heap s'.heap/\(a=X.env.locals\/X.env.cells.lookup x=O a))->Q ⟨⟩ s')(hf:ø (X.fn x=J\/X.env.scope.names.lookup x=O .local) hH):bv M A (storeName X.env x u) Q E s:=by
 let(m,hn,hl):=id I.loc;let U:(X.env.scope.kind==.class||X.env.scope.kind==.module&&X.env.locals !=X.env.globals)=false:=by rw[I.ok.kind];rfl
 let L:i<Á σ:=by rw[I.len];exact(aw.mp hi).1
 let Rp:=I.Rp;let t:∀{a:À}{h':È},(∃o,s.heap.get? a=O o/\H a=ao)->Û a s.heap h'->kG X.prog X.w H h':=λ{a h'}ha f b ob e=>by
  let(_,_,Bs):=ha;erw[(I.cY b ob e).tY (λc W l q=>(f.2 c ?_).trans q) (λ_ q=>q) λ_ _ q=>q];rintro rfl;rcases l with rfl|l;.rw[Bs]at e;cases e
  .rw[Bs]at l;cases l
 rcases B with K|K
 .erw[wpAny_storeName_local K hn (λh' WZ f=>?_) U];let(oL,_,_,SO,_):=id hn;erw[h _ (I.ok,I.os,I.bare,(λb o e n D B=>?_,λb o e n D B=>?_,I.base.free,λb o e B=>?_,I.base.ph,I.base.nr,I.base.pd),(_,WZ,λj y Y g C Z=>?_),λy c e=>?_,I.free,I.fT,λp hp=>?_,t (oL,SO,I.free) f,by simpa using I.len) (_,f,.inl Ŗ)];.exact(f.2 b (aP (bp (ay e) I.ok.above))).trans (I.base.keep b o e n D B)
  .let(sl,g):=I.base.slot b o e n D B;exact(sl,(f.2 b (aP (bp (ay e) I.ok.above))).trans g)
  .let(o',g):=I.base.there b o e B;exact(o',(f.2 b (aP (bp (ay e) I.ok.above))).trans g)
  .by_cases F:j=i;.subst F;rw[hi]at g;cases g;rw[c5 L]at C;cases C;exact(u,r,.inl (K,⋯))
   .rw[cW (c4 F)]at C;let(u',r',q):=hl j y Y g C Z;erw[(u',r',?_)];rcases q with ⟨k,e⟩|⟨k,c,e,z⟩;.erw[.inl (k,?_)];let:y≠x:=λe=>F (wm hN g (e▸hi));simp[this,e]
    .rwa[.inr (k,c,e,z.sameBut f (Rp y c e))]
  .let(W,z):=I.cell y c e;exact(W,z.sameBut f (Rp y c e))
  .let(e,n,S,nf,d):=I.pin p hp;exact((f.2 p.1 S).trans e,n,S,nf,d)
 .let G:X.fn x=true:=nofun
  let(c,l):=I.ok.has x (.inl K);let(W,z):=I.cell x c l;erw[wpAny_storeName_cell I.ok.kind K l z λh' P f=>?_];let(oc,W3,ai0):=id z;erw[h _ (I.ok,I.os,I.bare,(λb o e n D B=>(f.2 b (aP (bp (ay e) (I.ok.Ll x c G l)))).trans (I.base.keep b o e n D B),λb o e n D B=>?_,I.base.free,λb o e B=>?_,I.base.ph,I.base.nr,I.base.pd),(m,hn.sameBut f (c4 (Rp x c l)),λj y Y g C Z=>?_),λy T e=>?_,I.free,I.fT,λp hp=>?_,t (oc,W3,I.fT x c l) f,by simpa using I.len) (c,f,.inr l)];.let(sl,g):=I.base.slot b o e n D B;exact(sl,(f.2 b (aP (bp (ay e) (I.ok.Ll x c G l)))).trans g)
  .let(o',g):=I.base.there b o e B;exact(o',(f.2 b (aP (bp (ay e) (I.ok.Ll x c G l)))).trans g)
  .by_cases F:j=i;.subst F;rw[hi]at g;cases g;rw[c5 L]at C;cases C;exact(u,r,.inr (.inl K,c,l,P))
   .rw[cW (c4 F)]at C;let(u',r',q):=hl j y Y g C Z;erw[(u',r',?_)];rcases q with q|⟨k,T,e,z'⟩;.rwa[.inl q]
    .erw[.inr (k,T,e,z'.sameBut f ?_)];rintro rfl;rwa[F (wm hN g (I.ok.inj _ _ _ e l▸hi))]
  .by_cases R:T=c;.subst R;exact(_,P)
   .let(w2,z2):=I.cell y T e;exact(w2,z2.sameBut f R)
  .let(e,n,S,nf,d):=I.pin p hp;erw[((f.2 p.1 ?_).trans e,n,S,nf,d)];intro q;rw[q,W3]at e;rwa[d W (by rw[<-dJ e];rwa[ai0])]
def lY{E:dC}(I:Inv X be σ H s)(a:X.N.Nodup)(hi:X.N[i]?=O x)(b:Loc X.env.scope x)(r:RelV v u)(h:∀s',Inv X be (σ.set i (O v)) H s'->Q ⟨⟩ s')(f:ø (X.fn x=J\/X.env.scope.names.lookup x=O .local) hH):bv M A (storeName X.env x u) Q E s:=Kh I a hi b r (λs' c _=>h s' c) f
def Inv.Ba(I:Inv X be σ H s)(h:s'.os=s.os)(u:Un (pC X.stack) ch H H' s.heap s'.heap)(C:kG X.prog X.w H' s'.heap)(g:AllBare s'.gens)(Q:∀b∈ch,(b∈X.ex\/X.s₀.heap.objs.size<=b)/\b≠X.env.locals/\(∀x c,X.env.cells.lookup x=O c->c≠b)/\∀p∈X.pn++be,p.1≠b):Inv X be σ H' s':=by let(h',G,d,t,o):=s';subst h;rwa[I.call u C g Q]
abbrev XK:=Â->Ő À->Hp->ß
abbrev Ç:=Ł (Ő V)
abbrev VK:=V->Hp->ß
abbrev TE:=Ç->Hp->VK->ß
abbrev TT:=Ç->Hp->(Þ->Hp->ß)->ß
abbrev TA:=Ç->Hp->(ϕ->Hp->ß)->ß
structure Õ where
 nx:Ç->Hp->ß
 rt:VK
 bk:Ç->Hp->ß:=λ_ _=>ŧ
 ct:Ç->Hp->ß:=λ_ _=>ŧ
abbrev TS:=Õ->Ç->Hp->ß
def EP(X:Cx)(p:dN)(σ:Ç)(Q:VK)(u:Â)(s':bn):ß:=∃v H,Inv X p σ H s'/\RelV v u/\Q v H
def TP(X:Cx)(p:dN)(σ:Ç)(Q:Þ->Hp->ß)(b:Þ)(s':bn):ß:=∃H,Inv X p σ H s'/\Q b H
def AP(X:Cx)(p:dN)(σ:Ç)(Q:ϕ->Hp->ß)(us:Ł Â)(s':bn):ß:=∃v H,Inv X p σ H s'/\Vals v us/\Q v H
def SP(X:Cx)(p:dN)(D:Õ)(f:Flow)(s':bn):ß:=match f with|.next=>∃a H,Inv X p a H s'/\D.nx a H|.brk=>∃a H,Inv X p a H s'/\D.bk a H|.cont=>∃a H,Inv X p a H s'/\D.ct a H|.ret u=>∃v a H,Inv X p a H s'/\RelV v u/\D.rt v H
def PE(X:Cx)(e:Æ)(t:TE):ß:=∀(p:Ł _)(s:bn)(σ:Ç)(H:Hp)(Q:VK),Inv X p σ H s->t σ H Q->bv (cc X.prog X.w) X.A (Ê e X.env) (EP X p σ Q) X.xe s
def PT(X:Cx)(e:Æ)(t:TT):ß:=∀(p:Ł _)(s:bn)(σ:Ç)(H:Hp)(Q:Þ->Hp->ß),Inv X p σ H s->t σ H Q->bv (cc X.prog X.w) X.A (isTrue e X.env (Ê e X.env)) (TP X p σ Q) X.xe s
def PW(X:Cx)(e:Æ)(t:TT):ß:=∀(whole:Sem _)(p:Ł _)(s:bn)(σ:Ç)(H:Hp)(Q:Þ->Hp->ß),Inv X p σ H s->t σ H Q->bv (cc X.prog X.w) X.A (isTrue e X.env whole) (TP X p σ Q) X.xe s
def PW.pt(h:PW X e t):PT X e t:=h _
def PA(X:Cx)(es:Ł Æ)(t:TA):ß:=∀(pos:Ó)(p:Ł _)(s:bn)(σ:Ç)(H:Hp)(Q:ϕ->Hp->ß),Inv X p σ H s->t σ H Q->bv (cc X.prog X.w) X.A (spliced (e9 pos (d4 es X.env))) (AP X p σ Q) X.xe s
def PS(X:Cx)(st:É)(t:TS):ß:=∀(p:Ł _)(s:bn)(σ:Ç)(H:Hp)(D:Õ),Inv X p σ H s->t D σ H->bv (cc X.prog X.w) X.A (exec st X.env) (SP X p D) X.xe s
def jt(X:Cx)(st:Ł É)(t:TS):ß:=∀(p:Ł _)(s:bn)(σ:Ç)(H:Hp)(D:Õ),Inv X p σ H s->t D σ H->bv (cc X.prog X.w) X.A (execs st X.env) (SP X p D) X.xe s
def iZ{M:Model}{A:cr}{E:dC}{s:bn}(h:bv M A t Q E s)(H:∀a s,Q a s->q a s):bv M A t q E s:=cV h H λ_ _ x=>x
def kh{a:dC}{E:dC}(h:bv M A t (EP X p σ Q) E s)(k:∀u s v H,Inv X p σ H s->RelV v u->Q v H->a u s):bv M A t a E s:=iZ h λu s (v,H,I,r,q)=>k u s v H I r q
def XW{E:dC}(h:bv M A t (AP X p σ Q) E s)(k:∀u s v H,Inv X p σ H s->Vals v u->Q v H->a u s):bv M A t a E s:=iZ h λu s (v,H,I,r,q)=>k u s v H I r q
def cps{A:ß}(h:∀G:ß,(A->G)->G):A:=h A id
def AH(i:Ń):TE:=λσ H Q=>∃v,σ[i]?=O (O v)/\Q v H
def tC(v:V):TE:=λ_ H Q=>Q v H
def wu(b:X.N[i]?=O x)(g:Wz X.env.scope x)(d:ø ((x==("__debug__":Å))=bb) P3)(n:ø ((x==("__classdict__":Å))=bb) P3):PE X (.Name x pos) (AH i):=by
 intro p s σ H Q I h;let(v,e,h):=h;let(m,hn,j):=I.loc;let(u,r,l):=j i x v b e g;let f:EP X _ σ Q u s:=(v,H,I,r,h);rcases l with ⟨k,o⟩|⟨k,c,a,G⟩;.rwa[wpAny_Name (Z2 I.ok.kind k hn o f) d]
 .rcases k with k|k;.rwa[wpAny_Name (X' I.ok.kind k a G f) d]
  .rwa[wpAny_Name (wpAny_loadName_free I.ok.kind k a G f n) d]
def EL{i j pos}:PE X (.Constant (.int i) j pos) (tC (.I i)):=λ_ _ _ H _ I h=>wpAny_Constant_int (.I i,H,I.tok _,(_,Ŗ),h)
def Ź{b j pos}:PE X (.Constant (.bool b) j pos) (tC (.B b)):=λ_ _ _ H _ I h=>Constant_bool (.B b,H,I,Ŗ,h)
def P'{j pos}:PE X (.Constant .none j pos) (tC .iq):=λ_ _ _ H _ I h=>X1 (.iq,H,I,Ŗ,h)
def Oe{x j pos}:PE X (.Constant (.str x) j pos) (tC (.S x)):=λ_ _ _ H _ I h=>Calls.Constant_str (.S x,H,I.tok _,(_,Ŗ),h)
def Gl(X:Cx)(x:Å):ß:=X.env.kindOf x=O .globalImplicit
def jh{E:dC}{σ:Ç}{Q:dC}(I:Inv X p σ H s)(g:Gl X x)(m:X.mg x=O u)(h:Q u s)(d:ø ((x==("__debug__":Å))=bb) P3):bv (cc X.prog X.w) X.A (Ê (.Name x pos) X.env) Q E s:=QH I.ok.kind g (Calls.loadGlobal_global (by rw[I.ok.glob];rwa[I.mod.glob.keeps I.bk]) m h) d
def pW{E:dC}{σ:Ç}{Q:dC}(I:Inv X p σ H s)(g:Gl X x)(m:X.mg x=ao)(v:em x=O u)(h:Q u s)(hn:ø (x≠"__name__") P3)(d:ø ((x==("__debug__":Å))=bb) P3):bv (cc X.prog X.w) X.A (Ê (.Name x pos) X.env) Q E s:=by let(M,a,b):=I.mod.blt;rwa[QH I.ok.kind g (Calls.loadGlobal_builtin (by rw[I.ok.glob];rwa[I.mod.glob.keeps I.bk]) m (by rw[I.ok.blt];rwa[a.keeps I.bk]) ((b x hn).trans v) h) d]
def gh(g:Gl X x)(m:X.mg x=O u)(r:RelV v u)(d:ø ((x==("__debug__":Å))=bb) P3):PE X (.Name x pos) (tC v):=λ_ _ _ H _ I h=>jh I g m (v,H,I,r,h) d
def Um(g:Gl X x)(m:X.mg x=ao)(a:em x=O u)(r:RelV v u)(hn:ø (x≠"__name__") P3)(d:ø ((x==("__debug__":Å))=bb) P3):PE X (.Name x pos) (tC v):=λ_ _ _ H _ I h=>pW I g m a (v,H,I,r,h) hn d
def PC(X:Cx)(o:CmpOp)(a b:Æ)(t:TE):ß:=∀(p:Ł _)(s:bn)(σ:Ç)(H:Hp)(Q:VK),Inv X p σ H s->t σ H Q->bv (cc X.prog X.w) X.A (Ê a X.env) (λv S=>bv (cc X.prog X.w) X.A (Ê b X.env) (λu c=>bv (cc X.prog X.w) X.A (compareOp o v u) (EP X p σ Q) X.xe c) X.xe S) X.xe s
def akQ(ta:TE):TE:=λσ H Q=>ta σ H λx h=>Q (.B (Đ (x=.iq))) h
def afy(ta:TE):TE:=λσ H Q=>ta σ H λx h=>Q (.B ! Đ (x=.iq)) h
def RelV.BL(r:RelV x v):(v==Ô)=Đ (x=.iq):=by cases x with|iq=>cases r;rfl|B _=>cases r;rfl|I _=>let(t,rfl):=r;rfl|S _=>let(t,rfl):=r;rfl|byt _=>let(t,rfl):=r;rfl|Se _=>let(t,rfl):=r;rfl|A _=>cases r;rfl|ty _=>cases r;rfl
def K'{j p}(c:PE X a ta):PC X .Is a (.Constant .none j p) (akQ ta):=by intro P s σ H Q I h;rwa[iZ (c _ s σ H _ I h) λv s1 z=>by let(x,d,i,r,q):=z;exact(X1 (is_none_gen (_,d,i,by rw[r.BL];rfl,q)))]
def Ul{j p}(c:PE X a ta):PC X .IsNot a (.Constant .none j p) (afy ta):=by intro P s σ H Q I h;rwa[iZ (c _ s σ H _ I h) λv s1 z=>by let(x,d,i,r,q):=z;exact(X1 (isnot_none_gen (_,d,i,by rw[r.BL];rfl,q)))]
def tB(t:TE):TT:=λσ H Q=>t σ H λx h=>∃c,x=.B c/\Q c h
def Ω{X:Cx}{a b:Æ}{pos:Ó}{o:CmpOp}{t:TE}(h:PC X o a b t)(e:hU o b=false:=by first|rwa[A _ ∅ ∅]|rfl):PT X (.Compare a [o] [b] pos) (tB t):=by intro p s σ H Q I w;erw[ĺ (iZ (h _ s σ H _ I w) λv s1 e=>iZ e λu s2 f=>iZ f λc s3 x=>?_) e];let(x,g,i,r,j):=x;let(d,rfl,q):=j;cases r;rwa[hW (g,i,q)]
def Ϥ(h:PE X e t)(c:ø (∀whole,isTrue e X.env whole=do let v<-whole;standAt e.pos;holding [v] (truthy v)) hY):PT X e (tB t):=by intro p s σ H Q I w;erw[isTrue_plain (kh (h _ s σ H _ I w) λv s1 x f i r g=>?_) (c _)];let(d,rfl,q):=g;cases r;rwa[hW (f,i,q)]
def ı(t u:TT):TT:=λσ H Q=>t σ H λc h=>if c=J then u σ h Q else Q bb h
def ķ(t u:TT):TT:=λσ H Q=>t σ H λc h=>if c=J then Q J h else u σ h Q
def Ď(t:TT):TT:=λσ H Q=>t σ H λc h=>Q (!c) h
def U2(d:PT X a tA):PW X (.BoolOp .And [a] pos) tA:=by intro wh p s σ H Q I h;erw[isTrue_and (iZ (d _ s σ H Q I h) λc s1 e=>?_)];cases c with|d=>rwa[isTrue_and_nil e]|e=>rwa[e]
def ų(d:PT X a tA):PW X (.BoolOp .Or [a] pos) tA:=by intro wh p s σ H Q I h;erw[isTrue_or (iZ (d _ s σ H Q I h) λc s1 e=>?_)];cases c with|e=>rwa[isTrue_or_nil e]|d=>rwa[e]
def aaf(d:PT X a tA)(e:PW X (.BoolOp .And (b::rest) pos) tB'):PW X (.BoolOp .And (a::b::rest) pos) (ı tA tB'):=by intro wh p s σ H Q I h;erw[isTrue_and (iZ (d _ s σ H _ I h) λc s1 (f,i,q)=>?_)];cases c with|d=>rwa[e wh _ s1 σ f Q i q]|e=>done
def aeM(d:PT X a tA)(e:PW X (.BoolOp .Or (b::rest) pos) tB'):PW X (.BoolOp .Or (a::b::rest) pos) (ķ tA tB'):=by intro wh p s σ H Q I h;erw[isTrue_or (iZ (d _ s σ H _ I h) λc s1 (f,i,q)=>?_)];cases c with|d=>done|e=>rwa[e wh _ s1 σ f Q i q]
def ů(c:PT X a tA):PT X (.UnaryOp .Not a pos) (Ď tA):=by intro p s σ H Q I h;rwa[isTrue_not (c _ s σ H _ I h)]
def afo(ta tb:TE):TE:=λσ H Q=>ta σ H λx h=>∃c,x=.B c/\if c=J then tb σ h Q else Q (.B bb) h
def ϰ(ta:TE):TE:=λσ H Q=>ta σ H λx h=>∃c,x=.B c/\Q (.B !c) h
def W'{o}(h:PE X a t):PE X (.BoolOp o [a] pos) t:=λp s σ H Q I w=>BoolOp_one (h _ s σ H Q I w)
def N2(e:PE X a ta)(f:PE X (.BoolOp .And (b::rest) pos) tb):PE X (.BoolOp .And (a::b::rest) pos) (afo ta tb):=by intro p s σ H Q I h;erw[BoolOp_and (kh (e _ s σ H _ I h) λv s1 x d i r q=>?_)];let(c,rfl,q):=q;cases r;erw[hW ?_];cases c with|d=>rwa[f _ s1 σ d Q i q]|e=>exact(.B _,d,i,Ŗ,q)
def U'(d:PE X a ta):PE X (.UnaryOp .Not a pos) (ϰ ta):=by intro p s σ H Q I h;erw[UnaryOp_ (kh (d p s σ H _ I h) λv s1 x e i r q=>?_)];let(c,rfl,q):=q;cases r;rwa[not_of (hW (.B !c,e,i,Ŗ,q))]
def ZP(t:TT)(ta tb:TE):TE:=λσ H Q=>t σ H λc h=>if c=J then ta σ h Q else tb σ h Q
def N9(f:PT X c tA)(g:PE X a ta)(j:PE X b tb):PE X (.IfExp c a b pos) (ZP tA ta tb):=by intro p s σ H Q I h;erw[wpAny_IfExp (iZ (f _ s σ H _ I h) λd s1 (e,i,q)=>?_)];cases d with|d=>rwa[g _ s1 σ e Q i q]|e=>rwa[j _ s1 σ e Q i q]
def gA(K:Ä)(H:Hp)(a:À)(xs:ϕ):ß:=Rd H a (.L xs)\/∃(o:Ù)(b:Array _)(n:Ń),K.lookup a=O o/\o.cls=.type "list"/\o.dict=ao/\o.data=.seq b n/\b.size<=Ã/\Vals xs b.toList
def g9(K:Ä)(H:Hp)(a:À)(xs:ϕ):ß:=Rd H a (.T xs)\/∃(o:Ù)(b:Array _)(n:Ń),K.lookup a=O o/\o.cls=.type "tuple"/\o.data=.seq b n/\b.size<=Ã/\Vals xs b.toList
def ahV:Â->Ő V|.none=>O .iq|.bool b=>O (.B b)|.int i _=>O (.I i)|.str x _=>O (.S x)|.bytes b _=>O (.byt b)|.float b _=>O (.Se b)|.ref a=>O (.A a)|.type n=>O (.ty n)|_=>ao
def RelV.abs(r:RelV x u):ahV u=O x:=by cases x with|iq=>cases r;rfl|B _=>cases r;rfl|I _=>let(t,rfl):=r;rfl|S _=>let(t,rfl):=r;rfl|byt _=>let(t,rfl):=r;rfl|Se _=>let(t,rfl):=r;rfl|A _=>cases r;rfl|ty _=>cases r;rfl
def RelV.inj(r:RelV x u)(q:RelV y u):x=y:=dJ (r.abs.symm.trans q.abs)
theorem Vals.inj:∀{xs ys:ϕ}{us:Ł _},Vals xs us->Vals ys us->xs=ys:=by intro xs ys us a;induction a generalizing ys with|f=>intro b;cases b;rfl|g r t i=>intro b;cases b with|g R T=>rw[r.inj R,i T]
def gA.of{K:Ä}(h:H a=O (.L xs)):gA K H a xs:=.inl (.inl h)
def g9.of{K:Ä}(h:H a=O (.T xs)):g9 K H a xs:=.inl (.inl h)
def Inv.list{σ:Ç}(I:Inv X be σ H s)(h:gA X.K H a xs):∃b:Ł _,Vals xs b/\PlainL s.heap a b.toArray/\Á xs<=Ã:=by
 rcases h with h|⟨o,b,n,k,c,d,f,g,r⟩;.let(z,b,n,r,e):=h.ok I.cY;exact(b,r,(_,n,e,Ŗ,Ŗ,Ŗ),z)
 .erw[(_,r,(o,n,I.kZ a o k,c,d,by done),?_)];let e:=r.length;simp only[cj]at e;lia
def Inv.tuple{σ:Ç}(I:Inv X be σ H s)(h:g9 X.K H a xs):∃b:Ł _,Vals xs b/\IsTup s.heap a b.toArray/\Á xs<=Ã:=by
 rcases h with h|⟨o,b,n,k,c,d,f,r⟩;.let(z,b,r,p):=h.ok I.cY;exact(b,r,p,z)
 .erw[(_,r,(o,I.kZ a o k,c,n,by done),?_)];let e:=r.length;simp only[cj]at e;lia
def Inv.qO{σ:Ç}(I:Inv X be σ H s)(h:gA X.K H a xs)(h':gA X.K H a ys):xs=ys:=by
 obtain⟨b,r,⟨o,n,e,_,_,d⟩,_⟩:=I.list h;obtain⟨B,R,⟨c,N,E,_,_,D⟩,_⟩:=I.list h';rw[e]at E;cases E;rw[d]at D;injection D with d1 _;let:=by simpa using bU Array.toList d1
 subst this;rwa[r.inj R]
def Inv.yL{σ:Ç}(I:Inv X be σ H s)(h:g9 X.K H a xs)(h':g9 X.K H a ys):xs=ys:=by
 obtain⟨b,r,⟨o,e,_,n,d⟩,_⟩:=I.tuple h;obtain⟨B,R,⟨c,E,_,N,D⟩,_⟩:=I.tuple h';rw[e]at E;cases E;rw[d]at D;injection D with d1 _;let:=by simpa using bU Array.toList d1
 subst this;rwa[r.inj R]
abbrev Cx.uc(X:Cx)(E:dC):Cx:={X with xe:=E}
abbrev Cx.BN(X:Cx):Cx:=X.uc λ_ _=>ŧ
theorem Cx.Ok.uc{X:Cx}(ok:X.Ok)(E:dC):(X.uc E).Ok:=(ok.mod,ok.kind,ok.glob,ok.blt,ok.above,ok.inj,ok.has,ok.Ll,ok.hd,ok.frames,ok.KU,ok.Qp,ok.bs,ok.zg,ok.sk,ok.vH,ok.j5,ok.DS)
def Cx.Ok.mT{X:Cx}(ok:(X.uc E).Ok):X.Ok:=(ok.mod,ok.kind,ok.glob,ok.blt,ok.above,ok.inj,ok.has,ok.Ll,ok.hd,ok.frames,ok.KU,ok.Qp,ok.bs,ok.zg,ok.sk,ok.vH,ok.j5,ok.DS)
theorem Inv.uc{σ:Ç}(I:Inv X be σ H s)(E:dC):Inv (X.uc E) be σ H s:=(I.ok.uc E,I.os,I.bare,I.base,I.loc,I.cell,I.free,I.fT,I.pin,I.cY,I.len)
theorem Inv.mT{σ:Ç}(I:Inv (X.uc E) be σ H s):Inv X be σ H s:=(I.ok.mT,I.os,I.bare,I.base,I.loc,I.cell,I.free,I.fT,I.pin,I.cY,I.len)
theorem SP.mT(h:SP (X.uc E) be D f s'):SP X be D f s':=by cases f with|next=>let(a,b,I,q):=h;exact(a,b,I.mT,q)|brk=>let(a,b,I,q):=h;exact(a,b,I.mT,q)|cont=>let(a,b,I,q):=h;exact(a,b,I.mT,q)|ret u=>let(v,a,b,I,r,q):=h;exact(v,a,b,I.mT,r,q)
theorem jt.BN{st:Ł _}(h:jt X.BN st t):jt X st t:=λbe s σ H D I w=>cV (h _ s σ H D (I.uc _) w) (λ_ _ q=>q.mT) λ_ _ z=>á z
def afv:TS:=λD σ H=>D.nx σ H
def VJ(t u:TS):TS:=λD σ H=>t {D with nx:=u D} σ H
def U0:jt X [] afv:=λ_ _ σ H _ I h=>gP (σ,H,I,h)
def kb{st:É}(b:PS X st t)(c:jt X rest u):jt X (st::rest) (VJ t u):=by intro p s σ H D I h;erw[rO (iZ (b _ s σ H _ I h) λf s1 q=>?_)];cases f with|next=>let(a,d,i,q):=q;rwa[c _ s1 a d D i q]|ret v=>rwa[q]|brk=>rwa[q]|cont=>rwa[q]
def oJ{st:É}(a:PS X st t):jt X [st] t:=by intro p s σ H D I h;erw[rO (iZ (a _ s σ H D I h) λf s1 q=>?_)];cases f with|next=>rwa[gP q]|ret v=>rwa[q]|brk=>rwa[q]|cont=>rwa[q]
def ϱ:TS:=λD σ H=>D.ct σ H
def BX:PS X (.Continue pos) ϱ:=λ_ _ σ H _ I h=>wpAny_Continue (σ,H,I,h)
def Inv.quiet{p:Ł _}{σ:Ç}(I:Inv X p σ H s):interactive X.env=false:=by simp[interactive,I.ok.kind]
def aft(te:TE):TS:=λD σ H=>te σ H λ_ h=>D.nx σ h
def UW(a:PE X e te)(b:ø (hF e ao pos.line X.env=pure bb) v0):PS X (.Expr e pos) (aft te):=by intro p s σ H D I h;rwa[wpAny_Expr_any (iZ (a _ s σ H _ I h) λv s1 z=>by let(x,c,i,r,q):=z;exact(σ,c,i,q)) I.quiet b]
def akR(te:TE):TS:=λD σ H=>te σ H D.rt
def Ar(a:PE X e te):PS X (.Return (O e) pos) (akR te):=by intro p s σ H D I h;rwa[wpAny_Return_some (iZ (a _ s σ H _ I h) λv s1 z=>by let(x,b,i,r,q):=z;exact(x,σ,b,i,r,q))]
def akP(c:TT)(t u:TS):TS:=λD σ H=>c σ H λb h=>if b=J then t D σ h else u D σ h
def aeL(g:PT X c T)(j:jt X a t)(k:jt X b u):PS X (.If c a b pos) (akP T t u):=by intro p s σ H D I h;erw[wpAny_If (iZ (g _ s σ H _ I h) λd s1 (f,i,q)=>?_)];cases d with|d=>rwa[j _ s1 σ f D i q]|e=>rwa[k _ s1 σ f D i q]
abbrev TG:=V->Ç->Hp->(Ç->Hp->ß)->ß
abbrev Wy:=ϕ->Ç->Hp->(Ç->Hp->ß)->ß
def PG(X:Cx)(T:Æ)(t:TG):ß:=∀(p:Ł _)(s:bn)(σ:Ç)(H:Hp)(v:V)(u:Â)(Q:Ç->Hp->ß),Inv X p σ H s->RelV v u->t v σ H Q->bv (cc X.prog X.w) X.A (assign T X.env u) (λ_ S=>∃a h,Inv X p a h S/\Q a h) X.xe s
def Wx(X:Cx)(T:Ł Æ)(t:Wy):ß:=∀(p:Ł _)(s:bn)(σ:Ç)(H:Hp)(v:ϕ)(u:Ł _)(Q:Ç->Hp->ß),Inv X p σ H s->Vals v u->t v σ H Q->bv (cc X.prog X.w) X.A (assignInOrder ((ge T X.env).map (·.2)) u) (λ_ S=>∃a h,Inv X p a h S/\Q a h) X.xe s
abbrev Yh:=V->V->V->Hp->(Hp->ß)->ß
def K7(X:Cx)(t:Yh):ß:=∀(p:Ł _)(s:bn)(σ:Ç)(H:Hp)(o i v:V)(a I u:Â)(Q:Hp->ß),Inv X p σ H s->RelV o a->RelV i I->RelV v u->t o i v H Q->bv (cc X.prog X.w) X.A (setItem a I u) (λ_ S=>∃h,Inv X p σ h S/\Q h) X.xe s
abbrev vx:=V->V->Hp->VK->ß
def SQ(X:Cx)(o:Operator)(t:vx):ß:=∀(p:dN)(s:bn)(σ:Ç)(H:Hp)(x y:V)(v u:Â)(Q:VK),Inv X p σ H s->RelV x v->RelV y u->t x y H Q->bv (cc X.prog X.w) X.A (inplaceOp o v u) (EP X p σ Q) X.xe s
def lO(i:Ń):TG:=λv σ H Q=>Q (σ.set i (O v)) H
def UJ{X:Cx}{pos:Ó}{i:Ń}{x:Å}(a:X.N.Nodup)(hi:ø (X.N[i]?=O x) v0)(b:autoParam (Loc X.env.scope x) ĉ)(f:ø (X.fn x=J\/X.env.scope.names.lookup x=O .local) hH):PG X (.Name x pos) (lO i):=by intro p s σ H v u Q I r h;rwa[wpAny_assign_Name (lY I a hi b r (λS c=>(_,H,c,h)) f)]
def ō:Wy:=λv σ H Q=>v=[]/\Q σ H
def WX(t:TG)(u:Wy):Wy:=λs σ H Q=>∃v r,s=v::r/\t v σ H λa h=>u r a h Q
def UL:Wx X [] ō:=by intro p s σ H v u Q I r h;let(e,h):=h;rwa[assignInOrder_nil (σ,H,I,h)]
def Ow(b:PG X e t)(c:Wx X es u)(d:ø ((ge (e::es) X.env).map (·.2)=assign e X.env::(ge es X.env).map (·.2)) v0):Wx X (e::es) (WX t u):=by intro p s σ H g U Q I r h;let(v,j,E,h):=h;subst E;cases r with|g r R=>rw[d];rwa[assignInOrder_cons (iZ (b _ s σ H _ _ _ I r h) λ_ s1 z=>by let(a,f,i,q):=z;exact(c _ s1 a f _ _ Q i R q))]
def ZH(K:Ä)(n:Ń)(t:Wy):TG:=λv σ H Q=>∃a x,v=.A a/\g9 K H a x/\Á x=n/\t x σ H Q
def İ(to ti:TE)(t:Yh):TG:=λv σ H Q=>to σ H λo h=>ti σ h λi a=>t o i v a λb=>Q σ b
def ψ(c:PE X o to)(hi:PE X i ti)(d:K7 X t)(e:ø (∀v,assign (.Subscript o i pos) X.env v=do
   let a<-holding [v] (Ê o X.env)let b<-holding [v,a] (Ê i X.env)standAt pos
   holding [v,a,b] (setItem a b v)release [v,a,b] []) hY):PG X (.Subscript o i pos) (İ to ti t):=by intro p s σ H v u Q I r h;rw[e];rwa[aa (bS (iZ (c _ s σ H _ I h) λa s1 z=>by let(x,f,g,R,q):=z;exact(aa (bS (iZ (hi _ s1 σ f _ g q) λb s2 z=>by let(y,j,k,l,m):=z;exact(aa (jw (aa (bS (iZ (d _ s2 σ j x y v a b u _ k R l r m) λ_ s3 (n,w,A)=>wpAny_release (σ,n,w,A)))))))))))]
def tZ(t:TE)(g:TG):TS:=λD σ H=>t σ H λx h=>g x σ h D.nx
def OG(a:PE X e T)(b:PG X t g)(c:ø (swapsWithSole [t] e pos.line X.env=pure bb) v0)(w:ø (swappedStores [t] e X.env=pure ao) v0)(d:ø ((ge [t] X.env).map (·.2)=[assign t X.env]) v0):PS X (.Assign [t] e pos) (tZ T g):=by intro p s σ H D I h;erw[wpAny_Assign_stores (kh (a _ s σ H _ I h) λv s1 x f i r Q=>?_) c w];rw[d];rwa[iZ (b _ s1 σ f x v _ i r Q) λ_ s2 q=>q]
def As(a:X.N.Nodup)(hi:X.N[i]?=O x)(b:Loc X.env.scope x)(c:PE X e t)(d:ø (hF e (O (.Name x p)) pos.line X.env=pure bb) v0)(f:ø (X.fn x=J\/X.env.scope.names.lookup x=O .local) hH):PS X (.Assign [.Name x p] e pos) (tZ t (lO i)):=by intro P s σ H D I h;rwa[wpAny_Assign_Name (iZ (c _ s σ H _ I h) λv s1 z=>by let(y,g,j,r,q):=z;exact(lY j a hi b r (λs2 k=>(_,g,k,q)) f)) d]
def Uf(i:Ń)(t:TE)(ti:vx):TS:=λD σ H=>∃x,σ[i]?=O (O x)/\t σ H λy h=>ti x y h λz a=>D.nx (σ.set i (O z)) a
def Ξ(g:X.N.Nodup)(hi:X.N[i]?=O x)(d:Loc X.env.scope x)(j:PE X e t)(n:SQ X o ti)(q:ø (X.fn x=J\/X.env.scope.names.lookup x=O .local) hH):PS X (.AugAssign (.Name x P) o e pos) (Uf i t ti):=by
 intro p s σ H D I h;let(v,E,h):=h;let(m,hn,B):=I.loc;let f:Wz X.env.scope x:=by rcases d with k|k;rwa[.inl k];rwa[.inr (.inl k)]
 let(u,r,l):=B i x v hi E f;erw[wpAny_AugAssign_Name ?_];let go:bv (cc X.prog X.w) X.A (Ê e X.env) (λw S=>bv (cc X.prog X.w) X.A (inplaceOp o u w) (λr b=>bv (cc X.prog X.w) X.A (storeName X.env x r) (λ_=>SP X p D .next) X.xe b) X.xe S) X.xe s:=by erw[kh (j p s σ H _ I h) λw s1 y C F R Q=>?_];erw[kh (n p s1 σ C v y u w _ F r R Q) λz s2 Z G K L M=>?_];rwa[lY K g hi d L (λs3 T=>(_,G,T,M)) q]
 rcases l with ⟨a,U⟩|⟨a,c,W,Y⟩;.rwa[Z2 I.ok.kind a hn U go]
 .rcases a with a|a;.rwa[X' I.ok.kind a W Y go]
  .rcases d with k|k;.let:X.env.scope.names.lookup x=O .free:=a;rw[k]at this;cases this
   .let:X.env.scope.names.lookup x=O .free:=a;rw[k]at this;cases this
def Ņ(f:Î->Î->Î):vx:=λx y H Q=>∃i j,x=.I i/\y=.I j/\Q (.I (f i j)) H
def Z8:SQ X .Add (Ņ λi j=>i+j):=by intro p s σ H x y v u Q I r R h;let(i,j,e,E,q):=h;subst e;subst E;let(t,rfl):=r;let(T,rfl):=R;rwa[iadd_int (.I _,H,I.tok _,(_,Ŗ),q)]
def UY{X:Cx}{pos:Ó}(i:Ń){x:Å}{e:Æ}{t:TE}{p:Ó}(h:X.N.Nodup)(H:PE X e t)(hi:ø (X.N[i]?=O x) v0)(a:autoParam (Loc X.env.scope x) ĉ)(s:ø (hF e (O (.Name x p)) pos.line X.env=pure bb) v0)(f:ø (X.fn x=J\/X.env.scope.names.lookup x=O .local) hH):PS X (.Assign [.Name x p] e pos) (tZ t (lO i)):=As h hi a H s f
def PL(c:TT)(tb:TS):TS:=λD σ H=>∃W:Ń->Ç->Hp->ß,(∃m,W m σ H)/\∀m σ H,W m σ H->c σ H λb h=>if b=J then ∃N:Ç->Hp->ß,(∀a d,N a d->∃M,M<m/\W M a d)/\tb {D with nx:=N,ct:=N,bk:=D.nx} σ h else D.nx σ h
def OJ(p:PassesOwn (cc X.prog X.w) X.A X.env X.xe)(z:PT X c T)(C:jt X B tb):PS X (.While c B [] pos) (PL T tb):=by intro P s σ H D I h;obtain⟨W,⟨M,w0⟩,t⟩:=h;erw[wpAny_While (codeAny_whileLoop (λn S=>∃e o,Inv X _ e o S/\W n e o) ?_ M (σ,H,I,w0))];rintro n s1 ⟨d,r,E,F⟩;erw[gQ p (iZ (z _ s1 d r _ E (t n d r F)) λb s2 (u,x,q)=>?_)];cases b with
 |d=>let(N,y,q):=q;erw[gQ p (iZ (C _ s2 d u _ x q) λf s3 Q=>?_)];cases f with|next=>let(a,g,i,j):=Q;let(m,k,l):=y a g j;exact(m,k,a,g,i,l)|cont=>let(a,g,i,j):=Q;let(m,k,l):=y a g j;exact(m,k,a,g,i,l)|brk=>done|ret v=>done
 |e=>rwa[gP (d,u,x,q)]
structure It where
 go:Ń->Hp->ß
 yld:Ń->Hp->V->Hp->ß
 stop:Ń->Hp->ß
def mr(X:Cx)(P:dN)(H:Hp)(b:À):ß:=H b=ao/\b≠X.env.locals/\b∉X.fs/\(b∈X.ex\/X.s₀.heap.objs.size<=b)/\(∀x c,X.env.cells.lookup x=O c->c≠b)/\∀p∈X.pn++P,p.1≠b
def Inv.DR{P:Ł _}{σ:Ç}{b:À}(I:Inv X P σ H s)(h:s.heap.objs.size<=b)(hn:H' b=ao):mr X P H' b:=by erw[(hn,eW (bp I.lt h),I.ajU h,.inr (aj I.sz h),λx c e z=>?_,λp a z=>Ă (bp (ay (I.pin p a).1) nofun) (cR _))];.let(v,q):=I.cell x c e;rwa[Ă (bp q.lt nofun) (cR _)]
structure xk(P:cp)(w:ce)(K:Ä)(tg:Æ)(a:It)(fp:Ł À)(it:À)(tn:Ń->È->ß):ß where
 mem:it∈fp
 obj:∀i h,tn i h->∀b∈fp,∃o,h.get? b=O o/\∀v,o.data≠.cell v
 keep:∀i h h',tn i h->(∀b∈fp,∀o,h.get? b=O o->h'.get? b=O o)->tn i h'
 item:∀(X:Cx),X.prog=P->X.w=w->X.K=K->X.calm->∀(i:Ń)(be:dN)(s:bn)(σ:Ç)(H:Hp)(E:dC),Inv X be σ H s->(∀b∈fp,mr X be H b)->tn i s.heap->a.go i H->bv (cc P w) X.A (eR (.ref it)) (λr s1=>∃u,r=O u/\bv (cc P w) X.A (letOwnedTupleGo tg (.ref it) u) (λ_ s2=>∃x H',Inv X be σ H' s2/\RelV x u/\a.yld i H x H'/\tn (i+1) s2.heap/\∀b∈fp,H' b=ao) E s1) E s
 done:∀(X:Cx),X.prog=P->X.w=w->X.K=K->X.calm->∀(i:Ń)(be:dN)(s:bn)(σ:Ç)(H:Hp)(E:dC),Inv X be σ H s->(∀b∈fp,mr X be H b)->tn i s.heap->a.stop i H->bv (cc P w) X.A (eR (.ref it)) (λr s1=>r=ao/\Inv X be σ H s1) E s
 self:∀(A:cr)(i:Ń)(s:bn)(Q:dC)(E:dC),tn i s.heap->Q (.ref it) s->bv (cc P w) A (pyIter (.ref it)) Q E s
abbrev TI:=Ç->Hp->(It->Hp->ß)->ß
def A'(X:Cx)(p:dN)(σ:Ç)(T:Æ)(R:It->Hp->ß)(i:Â)(s2:bn):ß:=∃(I:À)(f:Ł _)(t:Ń->È->ß)(j:It)(H:Hp),i=.ref I/\Inv X p σ H s2/\xk X.prog X.w X.K T j f I t/\t 0 s2.heap/\(∀b∈f,mr X p H b)/\R j H
def PI(X:Cx)(t iter:Æ)(wi:TI):ß:=∀(p:Ł _)(s:bn)(σ:Ç)(H:Hp)(R:It->Hp->ß),Inv X p σ H s->wi σ H R->bv (cc X.prog X.w) X.A (Ê iter X.env) (λv s1=>bv (cc X.prog X.w) X.A (pyIter v) (A' X p σ t R) X.xe s1) X.xe s
def ac5{E:dC}(a:s.heap.get? i=O o)(c:o.cls=.type n)(d:o.data=.fields vs)(hn:["enumerate","zip","dict_itemiterator","dict_reverseitemiterator","odict_iterator","itertools.zip_longest","itertools.pairwise"].contains n=bb)(H:Q ⟨⟩ s):bv M A (letOwnedTupleGo t (.ref i) u) Q E s:=by cases t<;>first|rwa[ai H]|(cases u<;>first|rwa[ai H]|(erw[aa (QK a ?_)];rw[c,d];show bv M A (if(["enumerate","zip","dict_itemiterator","dict_reverseitemiterator","odict_iterator","itertools.zip_longest","itertools.pairwise"].contains n&&vs[0]?==O _)=J then _ else _) Q E s;rw[bM (by intro h;rw[hn]at h;cases h)];rwa[ai H]))
def Gc(K:Ä)(a:À):It:=(λi H=>∃X x,gA K H a X/\X[i]?=O x,λi H x h=>h=H/\∀X,gA K H a X->X[i]?=O x,λi H=>∃X,gA K H a X/\Á X<=i)
def FM(K:Ä)(a:À):It:=(λi H=>∃X x,g9 K H a X/\X[i]?=O x,λi H x h=>h=H/\∀X,g9 K H a X->X[i]?=O x,λi H=>∃X,g9 K H a X/\Á X<=i)
def tp(lo:Î)(n:Ń):It:=(λi _=>i<n,λi H x h=>h=H/\x=.I (lo+i),λi _=>n<=i)
def oy{K:Ä}(hn:["enumerate","zip","dict_itemiterator","dict_reverseitemiterator","odict_iterator","itertools.zip_longest","itertools.pairwise"].contains n=bb)(M:∀{i h},T i h->∃(o:Ù)(vs:Array _),h.get? t=O o/\o.cls=.type n/\o.data=.fields vs)(keep:∀{i h h'},T i h->(∀o,h.get? t=O o->h'.get? t=O o)->T i h')(nx:∀{X:Cx}{i p s σ H E}{Q:Ő Â->bn->ß},X.prog=P->X.w=w->X.K=K->X.calm->Inv X p σ H s->T i s.heap->j.go i H->(∀u x h' N,RelV x u->j.yld i H x H->T (i+1) h'->é t s.heap h'->Q (O u) {s with heap:=h',toks:=N})->bv (cc P w) X.A (eR (.ref t)) Q E s)(no:∀{X:Cx}{i p s σ H E}{Q:Ő Â->bn->ß},X.prog=P->X.w=w->X.K=K->X.calm->Inv X p σ H s->T i s.heap->j.stop i H->(∀h',é t s.heap h'->Q ao {s with heap:=h'})->bv (cc P w) X.A (eR (.ref t)) Q E s)(self:∀{A s i E}{Q:dC},T i s.heap->Q (.ref t) s->bv (cc P w) A (pyIter (.ref t)) Q E s):xk P w K S j [t] t T where
 mem:=.head _;obj:=λi h st b a=>by rw[aE.mp a];let(o,vs,e,c,d):=M st;exact(o,e,λv z=>by rw[d]at z;cases z)
 keep:=λi h h' st k=>keep st λo e=>k t (.head _) o e;item:=λX g l m q i p s σ H E I f st r=>by let(F,B,W,C,D,G):=f t (.head _);erw[nx g l m q I st r λu x h' N U y R L=>(u,Ŗ,?_)];let(o,vs,e,c,d):=M R;rwa[ac5 e c d hn (x,H,I.turned L F B C D G,U,y,R,λb a=>(f b a).1)]
 done:=λX g l m q i p s σ H E I f st r=>let (F,B,_,C,D,G):=f t (.head _);no g l m q I st r λh' L=>(Ŗ,I.turned L F B C D G);self:=λ_ _ _ _ _ st h=>self st h
def Ko{K:Ä}(a t:À):xk P w K T (Gc K a) [t] t λi h=>h.IsListIter t a i:=oy (n:="list_iterator") rfl (λ(o,e,c,d)=>(o,_,e,c,d)) (λst k=>st.at k) (λ{X i b s σ H E Q}g j l v I st m q=>by subst g j l;let(y,x,f,r):=m;let(B,R,p,z):=I.list f;let(u,hu,A):=R.get r;rwa[wpAny_pyNext_list_item st p.isList (by simpa using hu) λC D S=>q u x C _ A (Ŗ,λY F=>by rw[I.qO F f];rwa[r]) D S.extBut]) (λ{X i b s σ H E Q}g j l v I st m q=>by subst g j l;let(y,f,r):=m;let(B,R,p,z):=I.list f;let hl:=R.length;rwa[wpAny_pyNext_list_end (I.ok.hd v) st p.isList nofun q]) λst h=>wpAny_pyIter_listiter st h
def Fx{K:Ä}(a t:À):xk P w K T (FM K a) [t] t λi h=>h.IsTupleIter t a i:=oy (n:="tuple_iterator") rfl (λ(o,e,c,d)=>(o,_,e,c,d)) (λst k=>st.at k) (λ{X i b s σ H E Q}g j l v I st m q=>by subst g j l;let(y,x,f,r):=m;let(B,R,p,z):=I.tuple f;let(u,hu,A):=R.get r;rwa[wpAny_pyNext_tuple_item st p (by simpa using hu) λC D S=>q u x C _ A (Ŗ,λY F=>by rw[I.yL F f];rwa[r]) D S.extBut]) (λ{X i b s σ H E Q}g j l v I st m q=>by subst g j l;let(y,f,r):=m;let(B,R,p,z):=I.tuple f;let hl:=R.length;rwa[wpAny_pyNext_tuple_end (I.ok.hd v) st p (by simp;lia) q]) λst h=>wpAny_pyIter_tupleiter st h
def Fw{K:Ä}(a:À)(lo:Î)(n:Ń):xk P w K T (tp lo n) [a] a λi h=>IsRangeIter h a (lo+i*1) (n-i) 1:=oy (n:="range_iterator") rfl (λst=>(_,_,st,Ŗ,Ŗ)) (λst k=>k _ st) (λ{X i p s σ H E Q}c d f g I st j q=>by subst c d f;erw[(Walks.range (prog:=X.prog) (w:=X.w) (I.ok.hd g) a lo 1 n).item i s _ _ j st λv l m r x u=>?_];let(t,rfl):=r;rwa[q _ (.I (lo+i)) l m (t,by rw[Int.mul_one]) (Ŗ,Ŗ) x λb o y e=>u b o (by simpa using y) e]) (λc d f g I st j q=>by subst c d f;rwa[wpAny_pyNext_range_end (I.ok.hd g) st (by let:=j;rwa[Int.sub_nonpos_of_le (Int.ofNat_le.mpr this)]) q]) λst h=>wpAny_pyIter_rangeiter st h
def OX{p:Ł _}{σ:Ç}{E:dC}{lo:Î}(I:Inv X p σ H s)(h:-2^62<=lo)(a:lo<2^62)(c:-2^62<=hi)(d:hi<2^62)(q:R (tp lo (hi-lo).toNat) H):bv (cc X.prog X.w) X.A (pyIter (.ref s.heap.objs.size)) (A' X p σ tg R) E {s with heap:=s.heap.push {cls:=.type "range",data:=.fields #[.int lo t,.int hi u,.int 1 v]},toks:=T}:=by
 erw[wpAny_pyIter_range (IsRange.new ..) (small_one h a c d) ?_];let i:Inv X _ σ H {s with heap:=s.heap.push {cls:=.type "range",data:=.fields #[.int lo t,.int hi u,.int 1 v]},toks:=T}:=I.kept λb o e=>af _ e;erw[(_,_,_,_,H,Ŗ,i.kept λb o e=>af _ e,Fw _ lo _,?_,λb f=>?_,q)]
 .let g:lo+(0:Ń)*1=lo:=⋯
  let j:(hi-lo).toNat-(0:Ń)=Builtin.Range.rangeSize lo hi 1:=by rw[rangeSize_one];split<;>lia
  rw[g,j];rwa[aA _ Ŗ]
 .let e:b=(s.heap.push {cls:=.type "range",data:=.fields #[.int lo t,.int hi u,.int 1 v]}).objs.size:=by simpa using f
  subst e;rwa[i.DR (ah _) (i.cY.fresh (ah _))]
def adG(t:TA):TI:=λσ H R=>t σ H λv h=>∃j:Î,v=[.I j]/\-2^62<=j/\j<2^62/\R (tp 0 j.toNat) h
def JH(g:Gl X "range")(m:X.mg "range"=ao)(b:PA X [a] T)(c:ø (d4 [a] X.env=[(bb,Ê a X.env)]) v0):PI X tg (.Call (.Name "range" p) [a] [] pos) (adG T):=by intro P s σ H R I h;erw[Call_ (pW I g m boot_range (eX (XW (b pos _ s σ H _ I h) λu s1 v l i d Q=>?_) c Ŗ))];let(j,e,Q,f,q):=Q;subst e;cases d with|g r k=>cases k;let(t,rfl):=r;rwa[call_range_1 (OX i () () Q f (by simpa using q))]
def Kj(wi:TI)(g:TG)(tb:TS):TS:=λD σ H=>wi σ H λj c=>∃W:Ń->Ń->Ç->Hp->ß,(∃m,W 0 m σ c)/\∀i m σ H,W i m σ H->j.stop i H/\D.nx σ H\/j.go i H/\∃N:Ç->Hp->ß,(∀a h,N a h->∃M,M<m/\W (i+1) M a h)/\∀x h,j.yld i H x h->g x σ h λb d=>tb {D with nx:=N,ct:=N,bk:=D.nx} b d
def wA(f:Ł À)(h:È):dN:=f.filterMap λb=>(h.get? b).map λo=>(b,o)
def j8(H:b∈f)(e:h.get? b=O o):(b,o)∈wA f h:=oS.mpr (b,H,by rw[e];rfl)
def Jr(H:p∈wA f h):p.1∈f/\h.get? p.1=O p.2:=by let(b,a,e):=oS.mp H;cases q:h.get? b with|a=>left|c o=>rw[q]at e;let E:=dJ e;subst E;exact(a,q)
def Inv.pinned{P:Ł _}{σ:Ç}(I:Inv X P σ H s)(a:∀b∈f,mr X P H b)(c:∀b∈f,∃o,s.heap.get? b=O o/\∀v,o.data≠.cell v):Inv X (P++wA f s.heap) σ H s:=I.Ap λp g=>(bE.mp g).elim (λz=>I.pin p (aW _ z)) λz=>by let(h,e):=Jr z;let(F,i,j,_):=a p.1 h;let(o,E,d):=c p.1 h;rw[e]at E;cases E;exact(e,F,i,j,d)
def Inv.lZ{P:Ł _}{σ:Ç}(I:Inv X (P++l) σ H s):Inv X P σ H s:=I.Ap λp h=>I.pin p (aW _ (cX _ h))
def ER(t:PassesOwn (cc X.prog X.w) X.A X.env X.xe)(Z:X.calm)(hi:PI X tg iter wi)(hg:PG X tg g)(c:jt X B tb)(hs:ø (∀x,hG iter X.env x=pure x) hY):PS X (.For tg iter B [] pos) (Kj wi g tb):=by
 intro P s σ H D I h;erw[wpAny_For (iZ (hi _ s σ H _ I h) λv s1 h1=>iZ h1 λitv s2 h2=>cps λR k0=>?_) hs];obtain⟨it,F,tn,j,H2,e,I2,T,QF,f2,W,⟨m0,w0⟩,y⟩:=h2;subst e;let L:∀{H':Hp},(∀b∈F,H' b=ao)->∀b∈F,mr X _ H' b:=λhn b c=>(hn b c,(f2 b c).2);erw[k0 (codeAny_forLoop_any (λn s'=>∃i k H',Inv X _ k H' s'/\tn i s'.heap/\(∀b∈F,H' b=ao)/\W i n k H') ?_ m0 (0,σ,H2,I2,QF,λb c=>(f2 b c).1,w0))];erw[λn s3 z=>cps λR k1=>?_];let(i,l,K,I3,C,E,w3):=z;rcases y i n l K w3 with ⟨stop,qn⟩|⟨go,N,hN,step⟩;.erw[k1 (gQ t (iZ (T.done X rfl rfl rfl Z i _ s3 l K _ I3 (L E) C stop) λr s4 (M,I4)=>?_))];subst M;rwa[gP (l,K,I4,qn)]
 .erw[k1 (gQ t (iZ (T.item X rfl rfl rfl Z i _ s3 l K _ I3 (L E) C go) λr s4 (u,M,h4)=>?_))];subst M;erw[gQ t (iZ h4 λ_ s5 x=>?_)];let(x,H5,I5,r5,y5,S,U):=x;erw[gQ t (iZ (hg _ s5 l H5 x u _ (I5.pinned (L U) (T.obj _ _ S)) r5 (step x H5 y5)) λ_ s6 Y=>?_)];let(Y,H6,I6,q6):=Y;erw[gQ t (iZ (c _ s6 Y H6 _ I6 q6) λf s7 Q=>?_)];let again:∀{a:Ç}{p:Hp},Inv X (P++wA F _) a p s7->N a p->∃m,m<n/\∃i k H',Inv X _ k H' s7/\tn i _/\(∀b∈F,H' b=ao)/\W i m k H':=λ{a p}q G=>by let(m',hm,w7):=hN a p G;erw[(m',hm,_,a,p,q.lZ,T.keep _ _ _ S λb c o e=>(q.pin _ (aW _ (aW _ (j8 c e)))).1,λb c=>?_,w7)];let(o,e,d):=T.obj _ _ S b c;exact(q.pin _ (aW _ (aW _ (j8 c e)))).2.1
  cases f with|next=>let(a,p,q,G):=Q;rwa[again q G]|cont=>let(a,p,q,G):=Q;rwa[again q G]|brk=>let(a,p,q,Q):=Q;exact(a,p,q.lZ,Q)|ret v=>let(x7,a,p,q,r7,Q):=Q;exact(x7,a,p,q.lZ,r7,Q)
abbrev R2:=V->V->Hp->VK->ß
def kH(X:Cx)(f:Â->Â->Sem Â)(r:R2):ß:=∀(p:Ł _)(s:bn)(σ:Ç)(H:Hp)(x y:V)(v u:Â)(Q:VK),Inv X p σ H s->RelV x v->RelV y u->r x y H Q->bv (cc X.prog X.w) X.A (f v u) (EP X p σ Q) X.xe s
def Yj(X:Cx)(f:Â->Sem Â)(r:V->Hp->VK->ß):ß:=∀(p:Ł _)(s:bn)(σ:Ç)(H:Hp)(x:V)(v:Â)(Q:VK),Inv X p σ H s->RelV x v->r x H Q->bv (cc X.prog X.w) X.A (f v) (EP X p σ Q) X.xe s
def eE(X:Cx)(f:Â)(r:ϕ->Hp->VK->ß):ß:=∀(p:Ł _)(s:bn)(σ:Ç)(H:Hp)(x:ϕ)(u:Ł _)(Q:VK),Inv X p σ H s->Vals x u->r x H Q->bv (cc X.prog X.w) X.A (call f u) (EP X p σ Q) X.xe s
def ng(r:R2)(t tb:TE):TE:=λσ H Q=>t σ H λx h=>tb σ h λy a=>r x y a Q
def į(r:V->Hp->VK->ß)(t:TE):TE:=λσ H Q=>t σ H λx h=>r x h Q
def rI(C:Î->Î->ß)(g:Î->Î->V):R2:=λx y H Q=>∃i j,x=.I i/\y=.I j/\C i j/\Q (g i j) H
def EX(g:Î->Î->V):R2:=λx y H Q=>∃i j,x=.I i/\y=.I j/\Q (g i j) H
def rU(g:Î->V):V->Hp->VK->ß:=λx H Q=>∃i,x=.I i/\Q (g i) H
def Yu(i:PE X a ta)(j:PE X b tb){p:Ł _}{σ:Ç}{R:V->V->Hp->ß}(I:Inv X p σ H s)(h:ta σ H λx g=>tb σ g λy d=>R x y d){Q:dC}{f:Â->Â->Sem _}(k:∀v u s2 x y d,Inv X p σ d s2->RelV x v->RelV y u->R x y d->bv (cc X.prog X.w) X.A (f v u) Q X.xe s2):bv (cc X.prog X.w) X.A (Ê a X.env) (λv S=>bv (cc X.prog X.w) X.A (Ê b X.env) (λu e=>bv (cc X.prog X.w) X.A (f v u) Q X.xe e) X.xe S) X.xe s:=by rwa[kh (i _ s σ H _ I h) λv s1 x g l r q=>kh (j _ s1 σ g _ l q) λu s2 y d m n o=>k v u s2 x y d m r n o]
def aeD(d:kH X (binaryOp o) r)(e:PE X a ta)(f:PE X b tb):PE X (.BinOp a o b pos) (ng r ta tb):=by intro p s σ H Q I h;rwa[wpAny_BinOp (Yu e f I h λv u s2 x y g i R j q=>d _ s2 σ g x y v u Q i R j q)]
def aeE(d:Yj X (unaryOp o) r)(e:PE X a ta):PE X (.UnaryOp o a pos) (į r ta):=by intro p s σ H Q I h;rwa[UnaryOp_ (iZ (e _ s σ H _ I h) λv s1 z=>by let(x,f,i,R,q):=z;rwa[d _ s1 σ f x v Q i R q])]
def xp{g:Î->Î->Î}(rule:∀(i j:Î)(t u:Tok)(s:bn)(Q:dC)(E:dC),C i j->Q (.int (g i j) s.toks) {s with toks:=s.toks+1}->bv (cc X.prog X.w) X.A (f (.int i t) (.int j u)) Q E s):kH X f (rI C λi j=>.I (g i j)):=by intro p s σ H x y v u Q I r R h;let(i,j,rfl,rfl,d,q):=h;let(t,rfl):=r;let(T,rfl):=R;rwa[rule i j t T s _ _ d (.I _,H,I.tok _,(_,Ŗ),q)]
def Mz{g:Î->Î->Î}(rule:∀(i j:Î)(t u:Tok)(s:bn)(Q:dC)(E:dC),Q (.int (g i j) s.toks) {s with toks:=s.toks+1}->bv (cc X.prog X.w) X.A (f (.int i t) (.int j u)) Q E s):kH X f (EX λi j=>.I (g i j)):=by intro p s σ H x y v u Q I r R h;let(i,j,rfl,rfl,q):=h;let(t,rfl):=r;let(T,rfl):=R;rwa[rule i j t T s _ _ (.I _,H,I.tok _,(_,Ŗ),q)]
def Uc{g:Î->Î->Þ}(rule:∀(i j:Î)(t u:Tok)(s:bn)(Q:dC)(E:dC),Q (.bool (g i j)) s->bv (cc X.prog X.w) X.A (f (.int i t) (.int j u)) Q E s):kH X f (EX λi j=>.B (g i j)):=by intro p s σ H x y v u Q I r R h;let(i,j,rfl,rfl,q):=h;let(t,rfl):=r;let(T,rfl):=R;rwa[rule i j t T s _ _ (.B _,H,I,Ŗ,q)]
def MJ(i j:Î):ß:=0<j/\j<1073741824
def ğ(i j:Î):ß:=0<=j/\j<=1000000/\i.natAbs<2^64
def K1(i j:Î):ß:=-2^64<i/\i<2^64\/-2^64<j/\j<2^64
def K1.ok(h:K1 i j):IntMulOk i j:=by
 rcases h with ⟨H,d⟩|⟨H,d⟩;.rwa[.of_left (intBits_le_64 H d)]
 .rwa[.of_right (intBits_le_64 H d)]
def O_:kH X (binaryOp .Add) (EX λi j=>.I (i+j)):=Mz λ_ _ _ _ _ _ _ q=>ot q
def B':kH X (binaryOp .Sub) (EX λi j=>.I (i-j)):=Mz λ_ _ _ _ _ _ _ q=>sub_int q
def V_:kH X (binaryOp .Mult) (rI K1 λi j=>.I (i*j)):=xp λ_ _ _ _ _ _ _ h q=>mul_int q h.ok
def Ug:kH X (binaryOp .FloorDiv) (rI MJ λi j=>.I (i/j)):=xp λi j _ _ _ _ _ h q=>by let h1:=h.1;let h2:=h.2;rwa[floordiv_int () (by rw[Int.fdiv_eq_ediv_of_nonneg i ()];rwa[q]) (.inl (PyProof.noPylong_small ()))]
def U_:kH X (binaryOp .Mod) (rI (λ_ j=>0<j) λi j=>.I (i%j)):=xp λi j _ _ _ _ _ h q=>by rwa[mod_int' () (by rw[Int.fmod_eq_emod_of_nonneg i ()];rwa[q])]
def Y_:kH X (binaryOp .Pow) (rI ğ λi j=>.I (i^j.toNat)):=xp λ_ _ _ _ _ _ _ h q=>pow_int_small h.1 h.2.1 h.2.2 q
def unI{g:Î->Î}(rule:∀(i:Î)(t:Tok)(s:bn)(Q:dC)(E:dC),Q (.int (g i) s.toks) {s with toks:=s.toks+1}->bv (cc X.prog X.w) X.A (f (.int i t)) Q E s):Yj X f (rU λi=>.I (g i)):=by intro p s σ H x v Q I r h;let(i,rfl,q):=h;let(t,rfl):=r;rwa[rule i t s _ _ (.I _,H,I.tok _,(_,Ŗ),q)]
def ϴ:Yj X (unaryOp .USub) (rU λi=>.I (-i)):=unI λ_ _ _ _ _ q=>neg_int q
def aey:kH X (compareOp .Lt) (EX λi j=>.B (Đ (i<j))):=Uc λ_ _ _ _ _ _ _ q=>lt_int q
def aex:kH X (compareOp .LtE) (EX λi j=>.B (Đ (i<=j))):=Uc λ_ _ _ _ _ _ _ q=>le_int q
def aew:kH X (compareOp .Gt) (EX λi j=>.B (Đ (j<i))):=Uc λ_ _ _ _ _ _ _ q=>gt_int q
def ό:kH X (compareOp .GtE) (EX λi j=>.B (Đ (j<=i))):=Uc λ_ _ _ _ _ _ _ q=>ge_int q
def kH.or(h:kH X f r)(h':kH X f R):kH X f λx y H Q=>r x y H Q\/R x y H Q:=by
 intro p s σ H x y v u Q I d e q;rcases q with q|q;.rwa[h _ s σ H x y v u Q I d e q]
 .rwa[h' _ s σ H x y v u Q I d e q]
def Up(d:kH X (compareOp o) r)(e:PE X a ta)(f:PE X b tb)(m:hU o b=bb):PE X (.Compare a [o] [b] pos) (ng r ta tb):=by intro p s σ H Q I h;rwa[wpAny_Compare1 (Yu e f I h λv u s2 x y g i R j q=>d _ s2 σ g x y v u Q i R j q) m]
def afI(t:TE):TT:=λσ H Q=>t σ H λx h=>∃k,x=.B k/\Q k h
def Hm(d:kH X (compareOp o) r)(f:PE X a ta)(g:PE X b tb)(m:hU o b=bb):PT X (.Compare a [o] [b] pos) (afI (ng r ta tb)):=by intro p s σ H Q I h;erw[ĺ (kh (f _ s σ H _ I h) λv s1 x i j R q=>kh (g _ s1 σ i _ j q) λu s2 y l n t w=>kh (d _ s2 σ l x y v u _ n R t w) λc s3 z A B C (k,e,D)=>?_) m];subst e;cases C;rwa[hW (A,B,D)]
def PB(r R:R2)(ta tb tc:TE):TE:=λσ H Q=>ta σ H λx d=>tb σ d λy e=>r x y e λz h=>∃k,z=.B k/\if k=J then tc σ h λw f=>R y w f Q else Q (.B bb) h
def N5{X:Cx}{a b c:Æ}{ta tb tc:TE}{pos:Ó}{p o:CmpOp}{r R:R2}(j:kH X (compareOp p) r)(C:kH X (compareOp o) R)(l:PE X a ta)(m:PE X b tb)(n:PE X c tc)(t:lastMarks [p,o] [b,c]=false:=by with_unfolding_all rfl):PE X (.Compare a [p,o] [b,c] pos) (PB r R ta tb tc):=by intro P s σ H Q I h;erw[Compare_chain (kh (l _ s σ H _ I h) λv s1 x w A D E=>chain_link (kh (m _ s1 σ w _ A E) λu s2 y F G f K=>kh (j _ s2 σ F x y v u _ G D f K) λd s3 z g i L (k,e,q)=>?_)) t];subst e;cases L;erw[hW ?_];cases k with|e=>rwa[ite_ff (.B _,g,i,Ŗ,q)]|d=>rwa[ite_tt (chain_last (iZ (n _ s3 σ g _ i q) λW S Z=>by let(M,N,T,U,Y):=Z;rwa[C _ S σ N y M u W Q T f U Y]))]
def vY:Ã<2^63:=∅
def EH:kH X (binaryOp .Add) λx y H Q=>∃i j,x=.S i/\y=.S j/\i.length+j.length<=Ã/\Q (.S (i++j)) H:=by intro p s σ H x y v u Q I r R h;let(i,j,rfl,rfl,z,q):=h;let(t,rfl):=r;let(T,rfl):=R;rwa[add_str (λT k=>(.S _,H,I.tok _,(_,Ŗ),q)) z]
def KD(r:Vals [x] us):∃u,us=[u]/\RelV x u:=by cases r with|g R d=>cases d;exact(_,Ŗ,R)
def XZ(r:Vals [x,y] us):∃u w',us=[u,w']/\RelV x u/\RelV y w':=by cases r with|g R d=>cases d with|g e f=>cases f;exact(_,_,Ŗ,R,e)
def Ir(e:X.calm):eE X (.builtin "max") λxs H Q=>∃i j,xs=[.I i,.I j]/\Q (.I (if j>i then j else i)) H:=by
 intro p s σ H xs U Q I r h;let(i,j,rfl,q):=h;obtain⟨u,w,rfl,⟨t,rfl⟩,⟨T,rfl⟩⟩:=XZ r;erw[max_two_ints (I.ok.hd e) λf g k=>(_,H,I.kept k,?_,q)];by_cases d:j>i;.rw[b5 d,b5 d];exact(_,Ŗ)
 .rw[bM d,bM d];exact(_,Ŗ)
def Iv(e:X.calm):eE X (.builtin "min") λxs H Q=>∃i j,xs=[.I i,.I j]/\Q (.I (if j<i then j else i)) H:=by
 intro p s σ H xs U Q I r h;let(i,j,rfl,q):=h;obtain⟨u,w,rfl,⟨t,rfl⟩,⟨T,rfl⟩⟩:=XZ r;erw[min_two_ints (I.ok.hd e) λf g k=>(_,H,I.kept k,?_,q)];by_cases d:j<i;.rw[b5 d,b5 d];exact(_,Ŗ)
 .rw[bM d,bM d];exact(_,Ŗ)
def Il:eE X (.type "int") λxs H Q=>(∃i,xs=[.I i]/\Q (.I i) H)\/∃k,xs=[.B k]/\Q (.I (if k then 1 else 0)) H:=by
 intro p s σ H xs U Q I r h;rcases h with ⟨i,rfl,q⟩|⟨k,rfl,q⟩;.let(u,rfl,t,rfl):=KD r;rwa[call_int_int (.I i,H,I,(_,Ŗ),q)]
 .let(u,rfl,R):=KD r;cases R;rwa[call_int_bool (.I _,H,I.tok _,(_,Ŗ),q)]
structure CW(h:È)(x dx C:À)(mA:db):ß where
 obj:h.get? x=O (instObj C dx)ns:h.Ns1 dx mA
 ne:dx≠x
def Jk{h:È}(n:h.Ns1 d m):∃b,h.get? d=O b/\∀name,lookIn name b=O (m name):=by
 let(o,E,p,H,c,k,_,f):=n;erw[(o,H,λname=>?_)];let e:=f name;delta nsFind findBy at e;rw[<-AR]at e;delta lookIn;rw[c];dsimp only;split;.ext y q;rw[q]at e;rwa[bU _ e]
 .ext q;rw[q]at e;let a:E.toList.any (·.refKey)=false:=by rw[CN];intro y g;let(z,t,B):=k y (ahw.mp g);simp[DictEntry.refKey,B]
  rw[bM (by rw[a];rwa[aF])];rwa[bU _ e]
def CW.look{m:Å->Ő _}(I:CW h x d C m):∃o,PySem.W.InstAt h x (instObj C d) C (O o)/\∀name,lookIn name o=O (m name):=let (o,H,l):=Jk I.ns;(o,(I.obj,Ŗ,Ŗ,H),l)
def SA{E:dC}{K:Ä}{Q:dC}(X:K.In s.heap)(I:CW s.heap x dx C mA)(g:plainGet K C name)(a:hasDictIn K C)(b:findIn K (.ref C) name=O ao)(c:mA name=O v)(H:handedIn v)(h:Q v {s with toks:=s.toks+1}):bv (cc prog w) A (getAttr (.ref x) name e) Q E s:=by let(o,j,l):=I.look;rwa[PySem.W.get_value X j (yU g).1 (PySem.W.findObj_own a b Ŗ nofun) H h]
def Mx{E:dC}{K:Ä}(X:K.In s.heap)(I:CW s.heap x dx C mA)(H:plainGet K C name)(a:findIn K (.ref C) name=O (O (.ref f)))(t:isFn K (.ref f))(b:mA name=ao)(h:Q (.ref f,[.ref x]) s):bv (cc prog w) A (getMethod (.ref x) name p) Q E s:=by let(o,j,l):=I.look;rwa[PySem.W.method_fn X j (yU H).1 (yU H).2 a (oW.mp t) (by show(lookIn _ o).map _=O _;rw[l,b];rfl) h]
def Vo{E:dC}{K:Ä}(X:K.In s.heap)(I:CW s.heap x dx C mA)(d:findIn K (.ref C) "__setattr__"=O (O (.builtin "object.__setattr__")))(p:plainOver K C)(t:takerIn K C name=O ao)(e:hasDictIn K C)(g:ā mA ns)(R:Á ns<=Ã)(h:∀h',CW h' x dx C (λy=>if y=name then O v else mA y)->Û dx s.heap h'->Q ⟨⟩ {s with heap:=h',toks:=s.toks+2}):bv (cc prog w) A (setAttr (.ref x) name v) Q E s:=by let(o,j,n):=I.look;erw[PySem.W.set_plain X j d (PySem.W.osa_open X j p t λb=>?_)];let(r,i,k):=PySem.W.any_some e;erw[aa (ai (aa (aa (wpAny_loadPart I.obj (aa (Looks.here (PySem.W.looks_clsIn X i) ?_))))))];rw[k];erw[ai (aa (ai (aa ?_)))];erw[wpAny_nsSet1 I.ns λh' q c=>?_];let(u,l,m,H,D,a):=q.count (PySem.Within.cons _ v g);rwa[aa (wpAny_lookBehind H (by rw[D];rwa[pastItsLine_dict (aj a nofun)]) (ai (h _ ((c.2 _ (c4 I.ne)).trans I.obj,q,I.ne) c)))]
def NG{s:bn}{K:Ä}(X:K.In s.heap)(H:makesIn K C)(hi:findIn K (.ref C) "__init__"=O (O (.ref f)))(a:typeIn K (.ref f)=O (.type "function"))(h:gc (cc prog w) (A.under (.builtin "type.__call__" (.ref C::vs,k))) (.call (.ref f) (.ref (s.heap.objs.size+1)::vs,k)) (PySem.W.InitBack (s.heap.objs.size+1) R) {s with heap:=(s.heap.push emptyDict).push (instObj C s.heap.objs.size)}):gc (cc prog w) A (.call (.ref C) (vs,k)) R s:=by rwa[PySem.W.make_core (PySem.W.makes_of X H) (PySem.W.looks_findIn X hi) (λself=>PySem.W.bind_fn X _ a) (.inl Ŗ) h]
def jW(f:Å)(v:V):Ł (Å×V)->Ł (Å×V)|[]=>[(f,v)]|(g,x)::r=>if g=f then(g,v)::r else(g,x)::jW f v r
theorem sX(f g:Å)(v:V):∀fs:Ł _,(jW f v fs).lookup g=if g=f then O v else fs.lookup g
 |[]=>by
  show List.lookup g [(f,v)]=_;by_cases h:g=f;.grind
  .grind|(k,x)::r=>by
  let i:=sX f g v r;rw[show jW f v _=if k=f then(k,v)::r else(k,x)::jW f v r from Ŗ];by_cases H:k=f;.grind
  .grind
theorem se(f:Å)(v:V):∀fs:Ł _,f∈(jW f v fs).map (·.1)/\∀g,g∈fs.map (·.1)->g∈(jW f v fs).map (·.1)
 |[]=>(by simp[jW],λg h=>by grind)|(k,x)::r=>by
  let(i,I):=se f v r;rw[show jW f v _=if k=f then(k,v)::r else(k,x)::jW f v r from Ŗ];by_cases H:k=f;.grind
  .grind
theorem sW(f:Å)(v:V):∀fs:Ł _,Á (jW f v fs)<=Á fs+1
 |[]=>by simp[jW]|(k,x)::r=>by
  let i:=sW f v r;rw[show jW f v _=if k=f then(k,v)::r else(k,x)::jW f v r from Ŗ];by_cases h:k=f;.grind
  .grind
def nj.some_of(r:nj (O v) o):∃u,o=O u/\RelV v u:=by cases o with|a=>exact(r).elim|c u=>exact(u,Ŗ,r)
def nj.none_of(r:nj ao o):o=none:=by cases o with|a=>rfl|c u=>exact(r).elim
def IW(r:RelV v u):handedIn u=true:=by cases v with|iq=>cases r;rfl|B b=>cases r;rfl|I i=>let(t,e):=r;cases e;rfl|S x=>let(t,e):=r;cases e;rfl|byt b=>let(t,e):=r;cases e;rfl|Se b=>let(t,e):=r;cases e;rfl|A a=>cases r;rfl|ty n=>cases r;rfl
def uy(c:kG P w H h)(e:H a=O (.ins C dx fs)):∃m,CW h a dx C m/\(∀f,nj (fs.lookup f) (m f))/\ā m (fs.map (·.1))/\Á fs<=1000/\H dx=O (.own a):=by let(d,z,N,o,m,n,r,q):=c a _ e;exact(m,(o,n,N),r,q,z,d)
structure KG(K:Ä)(C:À):ß where
 pg:plainGet K C Str.empty=J
 hd:hasDictIn K C=J
 po:plainOver K C=J
 sa:findIn K (.ref C) "__setattr__"=O (O (.builtin "object.__setattr__"))
def KG.get{K:Ä}(c:KG K C)(f:Å):plainGet K C f=true:=c.pg
def nE(K:Ä)(C:À)(f:Å):ß:=findIn K (.ref C) f=O ao
def nE.afK{K:Ä}(n:nE K C f):takerIn K C f=O none:=by delta takerIn;rw[n];rfl
structure yY(K:Ä)(C:À)(m:Å)(f:À):ß where
 at_:findIn K (.ref C) m=O (O (.ref f))fn:isFn K (.ref f)=J
 kp:keepIn K (.ref f)=J
def DT{σ:Ç}{E:dC}{Q:dC}(I:Inv X be σ H s)(e:H a=O (.ins C dx fs))(c:KG X.K C)(n:nE X.K C f)(l:fs.lookup f=O v)(h:∀u s',Inv X be σ H s'->RelV v u->Q u s'):bv (cc X.prog X.w) A (getAttr (.ref a) f b) Q E s:=by let(m,o,r,_,_,_):=uy I.cY e;let(u,hu,R):=nj.some_of (by rw[<-l];rwa[r f]);rwa[SA I.kZ o (c.get f) c.hd n hu (IW R) (h u _ (I.tok _) R)]
def vM{σ:Ç}{E:dC}(I:Inv X be σ H s)(e:H a=O (.ins C dx fs))(c:KG X.K C)(k:yY X.K C m g)(l:fs.lookup m=ao)(h:Q (.ref g,[.ref a]) s):bv (cc X.prog X.w) A (getMethod (.ref a) m p) Q E s:=by let(M,o,r,_,_,_):=uy I.cY e;rwa[Mx I.kZ o (c.get m) k.at_ k.fn (nj.none_of (by rw[<-l];rwa[r m])) h]
def E9{σ:Ç}{E:dC}(I:Inv X be σ H s)(e:H a=O (.ins C dx fs))(c:KG X.K C)(n:nE X.K C f)(t:Á fs<1000)(R:RelV y u)(h:∀s',Inv X be σ (dq H a (.ins C dx (jW f y fs))) s'->Q ⟨⟩ s'):bv (cc X.prog X.w) A (setAttr (.ref a) f u) Q E s:=by
 let(m,d,r,wi,_,j):=uy I.cY e;erw[Vo I.kZ d c.sa c.po n.afK c.hd wi (by rw[ae,jZ];rwa[aj ‹_› ∅]) λx i S=>h _ ?_];erw[I.write (by rw[e];rwa[ç]) (.inr j) (λb q k z=>(S.2 b k).trans z) (let (o,_,_,l,_):=i.ns;(o,l)) ?_];erw[(by rw[bA d.ne];rwa[j],?_,d.ne,i.obj,_,i.ns,λg=>?_,λg p=>?_)];.let:=sW f y fs;rwa[aj ‹_› ‹_›]
 .rw[sX];by_cases q:g=f;.rw[b5 q,b5 q];rwa[R]
  .rw[bM q,bM q];rwa[r g]
 .by_cases q:g=f;.rw[q];exact(se f y fs).1
  .erw[(se f y fs).2 g (wi g λz=>p ?_)];show(if g=f then O u else m g)=ao;rw[bM q];rwa[z]
def Inv.made{σ:Ç}(I:Inv X be σ H s):Inv X be σ (dq (dq H s.heap.objs.size (.own (s.heap.objs.size+1))) (s.heap.objs.size+1) (.ins C s.heap.objs.size [])) {s with heap:=(s.heap.push emptyDict).push (instObj C s.heap.objs.size)}:=by let c:(s.heap.push emptyDict).get? _=O _:=aA _ Ŗ;erw[(I.laid (o:=.own (s.heap.objs.size+1)) (t':=s.toks) (λb u q=>af _ q) (ah _) (_,c)).laid (λb u q=>af _ q) (iK (iz _ _)) ?_];let n:s.heap.objs.size≠s.heap.objs.size+1:=aP (eB _);exact(by rw[bA n,bC],aN _,n,by let:=aA (s.heap.push emptyDict) (o:=instObj C s.heap.objs.size) Ŗ;rw[iz]at this;assumption,_,(Heap.Ns1.of_empty (_,#[],_,c,Ŗ,λe h=>Ă h ⋯,λ_=>Ŗ)).at λo q=>af _ q,λ_=>ç,λy d=>Ă Ŗ d)
def FU{E:dC}{Q:dC}(b:g6 e f env (Ê e env)=Ê e env)(h:bv (cc prog w) A (Ê e env) (λo S=>bv (cc prog w) A (getAttr o f J) Q E S) E s):bv (cc prog w) A (Ê (.Attribute e f pos) env) Q E s:=Attribute_any_ h (by rw[arm_eval_Attribute,b])
def ϝ(K:Ä)(t:TE)(f:Å):TE:=λσ H Q=>t σ H λx h=>∃a C d fs v,x=.A a/\h a=O (.ins C d fs)/\KG K C/\nE K C f/\fs.lookup f=O v/\Q v h
def W5(K:Ä)(t T:TE)(f:Å):TS:=λD σ H=>T σ H λy b=>t σ b λx h=>∃a C d fs,x=.A a/\h a=O (.ins C d fs)/\KG K C/\nE K C f/\Á fs<1000/\D.nx σ (dq h a (.ins C d (jW f y fs)))
def L'(b:PE X e ta)(d:g6 e f X.env (Ê e X.env)=Ê e X.env):PE X (.Attribute e f pos) (ϝ X.K ta f):=by intro p s σ H Q I h;erw[FU d (kh (b _ s σ H _ I h) λu s1 x g i r a=>?_)];let(a,C,D,fs,v,ex,E,c,n,l,q):=a;subst ex;obtain rfl:u=Ð a:=r;rwa[DT i E c n l λU s2 j R=>(v,g,j,R,q)]
def Φ(b:PE X o ta)(v:PE X eq tv)(d:hF eq (O (.Attribute o f pos')) pos.line X.env=pure bb):PS X (.Assign [.Attribute o f pos'] eq pos) (W5 X.K ta tv f):=by intro p s σ H D I h;erw[FG (kh (v _ s σ H _ I h) λu s1 y g i r q=>kh (b _ s1 σ g _ i q) λj s2 x t k R a=>?_) d];let(a,C,w,fs,ex,E,c,n,l,Q):=a;subst ex;obtain rfl:j=Ð a:=R;rwa[E9 k E c n l r λs3 m=>(σ,_,m,Q)]
section
variable{X:Cx}{be:dN}{σ:Ç}{H:Hp}{s:bn}{A:cr}{E:dC}{Q:dC}{c:Â}{b:Þ}
inductive rR(K:Ä)(H:Hp):V->Â->ß where|iq:rR K H .iq (.type "NoneType")|bl(x:Þ):rR K H (.B x) (.type "bool")|int(i:Î):rR K H (.I i) (.type "int")|str(x:Å):rR K H (.S x) (.type "str")|Se(x:UInt64):rR K H (.Se x) (.type "float")|lst{a:À}{xs:ϕ}(e:H a=O (.L xs)):rR K H (.A a) (.type "list")|lM{a:À}{o:Ù}{xs:ϕ}(e:H a=O (.lM o (.L xs))):rR K H (.A a) (.type "list")|tup{a:À}{xs:ϕ}(e:H a=O (.T xs)):rR K H (.A a) (.type "tuple")|dK{a:À}{aU:Ł (cs×V)}(e:H a=O (.dK aU)):rR K H (.A a) (.type "dict")|dT{a:À}{aU:Ł (Ł cs×V)}(e:H a=O (.dT aU)):rR K H (.A a) (.type "dict")|ins{a C dx:À}{fs:Ł (Å×V)}(e:H a=O (.ins C dx fs))(cl:KG K C)(ha:findIn K (.ref C) "__class__"=O (O (.builtin "object.__class__")))(hn:specialIn K (.builtin "object.__class__") "__get__"=O (O (.builtin "getset_descriptor.__get__")))(htk:takesIn K (.builtin "object.__class__")=O J)(hm:mroIn K C (.type "object")=O J):rR K H (.A a) (.ref C)
def Jf(I:Inv X be σ H s)(r:RelV x u)(ty:rR X.K H x t)(e:kitOne X.K t c=O b)(h:∀T,Q (.bool b) {s with toks:=T}):bv (cc X.prog X.w) A (call (.builtin "isinstance") [u,c]) Q E s:=by cases ty with|iq=>cases r;rwa[c9 PySem.W.kitx_none I.kZ ç e (λz=>nomatch z) h]|bl y=>cases r;rwa[c9 PySem.W.kitx_bool I.kZ ç e (λz=>nomatch z) h]|int i=>let(t,q):=r;cases q;rwa[c9 PySem.W.kitx_int I.kZ ç e (λz=>nomatch z) h]|str y=>let(t,q):=r;cases q;rwa[c9 PySem.W.kitx_str I.kZ ç e (λz=>nomatch z) h]|Se y=>let(t,q):=r;cases q;rwa[c9 PySem.W.kitx_float I.kZ ç e (λz=>nomatch z) h]|@lst a l f=>cases show u=Ð a from r;let(_,_,n,_,g):=I.cY a _ f;rwa[c9 PySem.W.kitx_list I.kZ (_,g,Ŗ) e (λz=>nomatch z) h]|@lM a G l f=>cases r;let(_,_,_,n,_,g):=I.cY a _ f;rwa[c9 PySem.W.kitx_list I.kZ (_,g,Ŗ) e (λz=>nomatch z) h]|@tup a l f=>cases show u=Ð a from r;let(_,_,_,p):=I.cY a _ f;let(o,g,k,_):=p;rwa[c9 PySem.W.kitx_tuple I.kZ (o,g,k) e (λz=>nomatch z) h]|@dK a U f=>cases show u=Ð a from r;let(_,_,L,_,p):=I.cY a _ f;let(o,v,B,g,k,_):=p;rwa[c9 PySem.W.kitx_dict I.kZ (o,g,k.1) e (λz=>nomatch z) h]|@dT a U f=>cases show u=Ð a from r;let(_,_,l,_,o,v,B,g,k,_):=I.cY a _ f;rwa[c9 PySem.W.kitx_dict I.kZ (o,g,k.1) e (λz=>nomatch z) h]|@ins a C M fs f cl D hn m F=>cases r;let(N,d,_):=uy I.cY f;let(P,j,_):=d.look;rwa[c9 (PySem.W.kitx_own (cl.get _) cl.hd D hn m F) I.kZ j e (λz=>nomatch z) h]
end
structure ff(k:Ń)(A:cr):ß where
 hd:A.handled=ao
 dp:A.depth+3*k+5<recursionLimit
 un:A.units+16*k+200<Ï
def ff.mono(r:ff k A)(h:j<=k):ff j A:=(r.hd,by let:=r.dp;lia,by let:=r.un;lia)
theorem ff.deeper(r:ff (k+1) A)(env:Ø):ff k (A.deeper env):=(r.hd,by let:=r.dp;show A.depth+1+3*k+5<_;lia,by let:=r.un;show A.units+3+16*k+200<_;lia)
def Ey{A:cr}:(A.under (.builtin "type.__call__" (.ref C::us,k))).depth=A.depth+1:=rfl
def Ez{A:cr}:(A.under (.builtin "type.__call__" (.ref C::us,k))).units=A.units+1:=rfl
def ff.make(r:ff (k+1) A)(C:À)(us:Ł _)(K:Ł _):ff k (A.under (.builtin "type.__call__" (.ref C::us,K))):=(r.hd,by let:=r.dp;rw[Ey];lia,by let:=r.un;rw[Ez];lia)
theorem ff.depth(r:ff k A):A.depth<recursionLimit:=by let:=r.dp;lia
def ŏ:TA:=λ_ H Q=>Q [] H
def XQ(t:TE)(tr:TA):TA:=λσ H Q=>t σ H λx h=>tr σ h λX a=>Q (x::X) a
def iX:PA X [] ŏ:=λ_ _ _ _ H Q I h=>hV ([],H,I,.nil,h)
def Ui(a:PE X e te)(r:PA X es t)(b:ø (d4 (e::es) X.env=(bb,Ê e X.env)::d4 es X.env) v0):PA X (e::es) (XQ te t):=by intro pos p s σ H Q I h;rw[b];show bv _ _ (spliced ((bb,Ê e _)::e9 pos _)) _ _ s;rwa[dP (iZ (a _ s σ H _ I h) λu s1 z=>by let(x,c,i,R,q):=z;exact(iZ (r pos _ s1 σ c _ i q) λU s2 z=>by let(k,d,f,g,j):=z;exact(_,d,f,.cons R g,j)))]
def ĕ(t:TA):TE:=λσ H Q=>t σ H λx h=>Á x<=Ã/\∀p,h p=ao->Q (.A p) (dq h p (.T x))
def GD(t:TA):TE:=λσ H Q=>t σ H λx h=>Á x<=Ã/\∀p,h p=ao->Q (.A p) (dq h p (.L x))
def An{x}(h:PA X es t):PE X (.Tuple es x pos) (ĕ t):=by intro p s σ H Q I a;erw[wpAny_Tuple_spliced (XW (h pos _ s σ H _ I a) λU s1 c d i r (z,q)=>(by rw[<-r.length];rwa[z],?_))];erw[(.A _,_,i.laid (λb u e=>af _ e) (ah _) ?_,Ŗ,q _ (i.cY.fresh (ah _)))];exact(z,U,r,(_,aA _ Ŗ,Ŗ,_,Ŗ))
def EM(h:PA X es t):PE X (.List es pos) (GD t):=by intro p s σ H Q I a;erw[wpAny_List_spliced (XW (h pos _ s σ H _ I a) λU s1 x c i r (z,q)=>(by rw[<-r.length];rwa[z],?_))];erw[(.A _,_,i.laid (λb u e=>af _ e) (ah _) ?_,Ŗ,q _ (i.cY.fresh (ah _)))];exact(z,U,0,r,aA _ Ŗ)
abbrev Sp:=ϕ->Hp->VK->XK->ß
abbrev uS:=Ł Ø->Hp->bn->XK->Â->bn->ß
structure xh(P:cp)(w:ce)(K:Ä)(mg:db)(base:È)(A:cr)(outer:Ł Ø)(s:bn)(H:Hp):ß where
 frames:A.frames=O outer
 mod:Mod K mg base
 bs:∀b o,base.get? b=O o->s.heap.get? b=O o/\H b=ao
 zg:base.objs.size<=s.heap.objs.size
 j5:s.heap.FunFrames base outer
 DS:∀b∈pC outer,H b=ao
 cY:kG P w H s.heap
 bare:AllBare s.gens
def CE(o:Ł Ø)(P:cp)(w:ce)(H:Hp)(s:bn)(Q:VK)(u:Â)(s':bn):ß:=∃v h,s'.os=s.os/\AllBare s'.gens/\Un (pC o) [] H h s.heap s'.heap/\kG P w h s'.heap/\RelV v u/\Q v h
def CR(CX:uS)(o:Ł Ø)(P:cp)(w:ce)(H:Hp)(s:bn)(Q:VK)(E:XK)(r:Result)(s':bn):ß:=match r with|.ok (.ret u)=>CE o P w H s Q u s'|.ok _=>ŧ|.error e=>CX o H s E e s'
structure iN(P:cp)(w:ce)(K:Ä)(mg:db)(base:È)(CX:uS)(k:Ń)(f:À)(fd:ed)(ps:ϐ)(sp:Sp):ß where len:∀vs H Q E,sp vs H Q E->Á vs=(Á ps)run:∀(A:cr)(outer:Ł Ø)(s:bn)(H:Hp)(args:Args)(us:Ł Â)(vs:ϕ)(Q:VK)(E:XK),ff k A->xh P w K mg base A outer s H->BindsTo s fd args (ps.zip us)->Vals vs us->sp vs H Q E->gc (cc P w) A (.call (.ref f) args) (CR CX outer P w H s Q E) s
theorem iN.mono{K:Ä}{m:Å->Ő _}(F:iN P w K m base CX j f d ps sp)(h:j<=k):iN P w K m base CX k f d ps sp:=(F.len,λA o s H args u v Q E r=>F.run A _ s H _ u v Q E (r.mono h))
def iN.imp{K:Ä}{m:Å->Ő _}(F:iN P w K m base CX k f d ps sp)(h:∀vs H Q E,xO vs H Q E->sp vs H Q E):iN P w K m base CX k f d ps xO:=(λvs H Q E q=>F.len vs H Q E (h _ _ _ _ q),λA o s H args u vs Q E r e b v a=>F.run A _ s H _ u vs Q E r e b v (h _ _ _ _ a))
def xh.make{K:Ä}{m:Å->Ő _}(e:xh P w K m base A o s H)(C:À)(us:Ł _)(k:Ł _):xh P w K m base (A.under (.builtin "type.__call__" (.ref C::us,k))) o s H:=(by first|rwa[e.frames]|lia,e.mod,e.bs,e.zg,e.j5,e.DS,e.cY,e.bare)
def Inv.IM{σ:Ç}(I:Inv X be σ H s):xh X.prog X.w X.K X.mg X.base X.A X.stack s H:=(I.ok.frames,I.ok.mod,I.bs,aj I.ok.zg I.sz,I.stack,I.qX,I.cY,I.bare)
def Inv.after{σ:Ç}(I:Inv X be σ H s)(h:CE X.stack X.prog X.w H s Q u s'):EP X be σ Q u s':=by let(v,a,os,B,un,c,r,q):=h;let(e,g,d,t,o):=s';obtain rfl:o=s.os:=os;exact(v,a,I.call un c B λb z=>Ă z ⋯,r,q)
def yI(sp:Sp)(dvs:ϕ)(E:XK)(t:TA):TE:=λσ H Q=>t σ H λv h=>sp (v++dvs) h Q E
def XR(C:À)(m:Å)(sp:Sp)(dvs:ϕ)(E:XK)(T:TE)(t:TA):TE:=λσ H Q=>T σ H λx h=>∃a d fs,x=.A a/\h a=O (.ins C d fs)/\fs.lookup m=ao/\t σ h λv b=>sp (x::(v++dvs)) b Q E
def Ž(C:À)(sp:Sp)(dvs:ϕ)(E:XK)(t:TA):TE:=λσ H Q=>t σ H λs h=>∀x d,h x=ao->h d=ao->d≠x->sp (.A x::(s++dvs)) (dq (dq h d (.own x)) x (.ins C d [])) (λv a=>v=.iq/\Q (.A x) a) E
def Binds(K:Ä)(f:ed)(ps:ϐ)(ds:Ł Â):ß:=∀(s:bn)(u:Ł _),K.In s.heap->Á (u++ds)=Á ps->BindsTo s f (u,[]) (ps.zip (u++ds))
def Binds.all{K:Ä}(h:∀us:Ł _,Á us=Á ps->bindArgs f (us,[])=pure (ps.zip us)):Binds K f ps []:=λs us _ H=>by rw[aT]at H⊢;rwa[.of_eq (h us H)]
def gR(CX:uS)(X:Cx)(E:XK):ß:=∀(p:Ł _)(σ:Ç)(H:Hp)(s:bn)(e:Â)(S:bn),Inv X p σ H s->CX X.stack H s E e S->X.xe e S
section
variable{X:Cx}{CX:uS}{k:Ń}{f C:À}{fd:ed}{ps:ϐ}{sp:Sp}{dvs:ϕ}{ds:Ł Â}{E:XK}{x m:Å}{p pos cN:Ó}{e o:Æ}{es:Ł Æ}{ta:TE}{t:TA}
def E3{P:Ł _}{σ:Ç}(F:iN X.prog X.w X.K X.mg X.base CX k f fd ps sp)(a:ff k X.A)(b:Binds X.K fd ps ds)(d:Vals dvs ds)(c:gR CX X E)(I:Inv X P σ H s)(r:Vals vs us)(h:sp (vs++dvs) H Q E):bv (cc X.prog X.w) X.A (call (.ref f) us) (EP X P σ Q) X.xe s:=by let R:=r.append d;erw[jP (dO (F.run X.A _ s H _ _ _ Q E a I.IM (b s us I.kZ (by rw[<-R.length];rwa[F.len _ _ _ _ h])) R h) λr S q=>?_)];cases r with|error e=>rwa[c _ σ H s e S I q]|ok fl=>cases fl with|ret u=>rwa[I.after q]|next=>assumption|brk=>assumption|cont=>assumption
def Uo(F:iN X.prog X.w X.K X.mg X.base CX k f fd ps sp)(a:ff k X.A)(g:Gl X x)(b:X.mg x=O (.ref f))(c:keepIn X.K (.ref f))(d:Binds X.K fd ps ds)(j:Vals dvs ds)(l:gR CX X E)(n:PA X (e::es) t)(U:ø ((x==("__debug__":Å))=bb) P3)(u:ø (d4 (e::es) X.env=(bb,Ê e X.env)::d4 es X.env) v0)(D:ø ((e9 pos (d4 es X.env)).any (·.1)=bb) v0):PE X (.Call (.Name x p) (e::es) [] pos) (yI sp dvs E t):=by intro P s σ H Q I h;rwa[fB (jh I g b (fA I.ok.mod.CJ c (iZ (n pos _ s σ H _ I h) λv s1 z=>by let(y,B,i,r,q):=z;exact(i.kZ,E3 F a d j l i r q)) u D) U)]
structure Mk(K:Ä)(C f:À):ß where
 makes:makesIn K C=J
 init:findIn K (.ref C) "__init__"=O (O (.ref f))fn:isFn K (.ref f)=J
 kp:keepIn K (.ref C)=J
def O6{P:Ł _}{σ:Ç}(M:Mk X.K C f)(F:iN X.prog X.w X.K X.mg X.base CX k f fd ps sp)(b:ff (k+1) X.A)(c:Binds X.K fd ps ds)(g:Vals dvs ds)(j:gR CX X E)(I:Inv X P σ H s)(r:Vals vs us)(h:∀x d,H x=ao->H d=ao->d≠x->sp (.A x::(vs++dvs)) (dq (dq H d (.own x)) x (.ins C d [])) (λv l=>v=.iq/\Q (.A x) l) E):bv (cc X.prog X.w) X.A (call (.ref C) us) (EP X P σ Q) X.xe s:=by
 let hq:=h (s.heap.objs.size+1) _ (I.cY.fresh (bj _)) (I.cY.fresh (ah _)) (aP (eB _));let i:=Inv.made (C:=C) I;let R:Vals (V.A (s.heap.objs.size+1)::(vs++dvs)) _:=.cons Ŗ (r.append g);let hl:=by let e:=R.length;rw[F.len _ _ _ _ hq]at e;rwa[e.symm]
 erw[jP (NG I.kZ M.makes M.init (oW.mp M.fn) (dO (F.run _ _ _ _ _ _ _ _ E (b.make C us []) (i.IM.make C us []) (c _ _ i.kZ hl) R hq) λr S a=>?_))];cases r with|error e=>rwa[j _ σ _ _ e S i a]|ok fl=>cases fl with|ret u=>let(v,n,q,y,ev,z):=i.after a;subst ev;exact(y,(V.A _,n,q,Ŗ,z))|next=>assumption|brk=>assumption|cont=>assumption
end
structure cP(N P:ϐ)(sc:Í):ß where
 kind:sc.kind=.function
 co:sc.isCoroutine=bb
 gen:sc.isGenerator=bb
 nd:N.Nodup
 pre:N.take (Á P)=P
 par:∀x∈P,sc.names.lookup x=O .local\/sc.names.lookup x=O .cell
 F_:∀y∈sc.names,y.2≠.free
theorem xZ{kindOf:Å->Ő _}:∀{binds:Ł _}{m:Å->Ő _},(∀v,(x,v)∉binds)->bindL kindOf binds m x=m x
 |[],_,_=>Ŗ|(n,v)::r,m,h=>by
  delta bindL;rw[xZ λw H=>h w (aG _ H)];split;.grind
  .rfl
theorem xX{kindOf:Å->Ő _}:∀{binds:Ł _}{m:Å->Ő _},(∀v,(x,v)∉binds)->bindC kindOf binds m x=m x
 |[],_,_=>Ŗ|(n,v)::r,m,h=>by
  delta bindC;rw[xX λw H=>h w (aG _ H)];split;.rfl
  .grind
theorem xY{kindOf:Å->Ő _}{x:Å}{v:Â}:∀{P:ϐ}{vs:Ł _}{i:Ń}{m:Å->Ő _},P.Nodup->P[i]?=O x->vs[i]?=O v->kindOf x=O .local->bindL kindOf (P.zip vs) m x=O v|[],_,_,_,_,h,_,_=>by grind|_::_,[],_,_,_,_,h,_=>by grind|p::P,w::vs,0,m,n,H,a,k=>by simp at H a;subst H;subst a;show bindL _ ((p,w)::P.zip vs) m p=_;delta bindL;rw[xZ λv b=>(dA.mp n).1 (jJ b).1,b5 k];simp|p::P,w::vs,i+1,m,n,H,a,k=>by show bindL _ ((p,w)::P.zip vs) m x=_;rwa[xY (dA.mp n).2 (by done) (by done) k]
theorem xW{kindOf:Å->Ő _}{x:Å}{v:Â}:∀{P:ϐ}{vs:Ł _}{i:Ń}{m:Å->Ő _},P.Nodup->P[i]?=O x->vs[i]?=O v->kindOf x≠O .local->bindC kindOf (P.zip vs) m x=O v|[],_,_,_,_,h,_,_=>by grind|_::_,[],_,_,_,_,h,_=>by grind|p::P,w::vs,0,m,n,H,a,k=>by simp at H a;subst H;subst a;show bindC _ ((p,w)::P.zip vs) m p=_;delta bindC;rw[xX λv b=>(dA.mp n).1 (jJ b).1,bM k];simp|p::P,w::vs,i+1,m,n,H,a,k=>by show bindC _ ((p,w)::P.zip vs) m x=_;rwa[xW (dA.mp n).2 (by done) (by done) k]
def start(N:ϐ)(vs:ϕ):Ç:=vs.map O++Ò (Á N-Á vs) ao
def mG(CX:uS)(P:cp)(w:ce)(K:Ä)(mg:db)(base:È)(N:ϐ)(q:Å)(S:Í)(f:À)(c:Â)(A:cr)(outer:Ł Ø)(s:bn)(H:Hp)(E:XK):Cx where prog:=P;w:=w;K:=K;mg:=mg;base:=base;A:=A.deeper (envOfC q S s.heap.objs.size f c);N:=N;s₀:=s;H₀:=H;env:=envOfC q S s.heap.objs.size f c;outer:=outer;stack:=envOfC q S s.heap.objs.size f c::outer;ex:=[];calm:=J;fn:=λ_=>J;pn:=[];xe:=λe a=>bv (cc P w) (A.deeper (envOfC q S s.heap.objs.size f c)) (leaving (envOfC q S s.heap.objs.size f c) e) (λ_ j=>CX outer H s E e j) (λb j=>CX outer H s E b j) a
def Bd{sc:Í}(h:sc.names.lookup x=O .cell):∃c,(cellsFrom n sc.names []).lookup x=O c:=by rwa[fQ.mp (gH _ n [] (.inl h))]
def oG{K:Ä}{M:Å->Ő _}(S:cP N ps d)(F:A.handled=ao)(e0:xh P w K M base A o s H)(I:Á vs=Á ps)(r:Vals vs us)(x:InCallC s s.heap.objs.size (bindL (envOfC Q d s.heap.objs.size f C).kindOf (ps.zip us) λ_=>ao) (cellsFrom (s.heap.objs.size+1) d.names []) (bindC (envOfC Q d s.heap.objs.size f C).kindOf (ps.zip us) λ_=>ao) s1):Inv (mG CX P w K M base N Q d f C A o s H E) [] (start N vs) H s1:=by
 let L:Á ps<=Á N:=by let:=bU Á S.pre;rw[bX]at this;lia
 let(t,T,rfl,D):=x.done;let n:∀b:À,b∉(mG CX P w K M base N Q d f C A o s H E).ex:=λb z=>Ă (show b∈[]from z) ⋯;erw[((e0.mod,S.kind,Ŗ,Ŗ,ah _,λy z c t g=>name_of_addr x.apart (jk t) (jk g),λy j=>?_,λy c _ h=>dE (x.above y c (jk h)),λ_=>F,Around.frames_deeper e0.frames,.inr (Ŗ,Ŗ),λb z=>Ă z (n b),e0.bs,e0.zg,λb _ _=>n b,λb z=>Ă z (n b),e0.j5,e0.DS),Ŗ,e0.bare,Un.kept D,(_,x.toInCall.ns,λi y v t g U=>?_),λy c h=>(_,x.cell y c h),e0.cY.fresh (ah _),λy c h=>e0.cY.fresh (dE (x.above y c (jk h))),λp l=>Ă (show p∈[]from l) ⋯,e0.cY.kept D,?_)]
 .rcases j with j|j;.rwa[Bd j]
  .rwa[Ă Ŗ (S.F_ _ (jk j))]
 .let B:i<Á vs:=by
   delta start at g;by_cases B:i<Á vs;.done
   .rw[aQ (by simpa using B),fY]at g;split at g<;>cases g
  let G:vs[i]?=O v:=by delta start at g;rw[aX (by simpa using B),aM]at g;cases e:vs[i]? with|a=>left|c a=>grind
  let(u,hu,R):=r.get G;let l:ps[i]?=O y:=by rw[<-S.pre,jv ()];rwa[t]
  let m:ps.Nodup:=by rw[<-S.pre];rwa[S.nd.sublist (fK _ _)]
  erw[(u,R,?_)];rcases S.par y (aL l)with k|k;.rwa[.inl (k,xY m l hu k)]
  .let(c,e):=Bd k;erw[.inr (.inl k,c,e,?_)];let q:=x.cell y c e;rw[xW m l hu (by show d.names.lookup y≠_;rw[k];decide)]at q;rwa[q]
 .delta start;show _=Á N;rw[aq,ae,cC];lia
def ye{K:Ä}{m:Å->Ő _}{kV:Â}(lk:K.lookup f=O (oc,G,.func (fnOf name l p B a i kV doc y z D ct),L))(M:codeIn K D l)(S:cP N ps a)(len:∀vs H Q E,sp vs H Q E->Á vs=Á ps)(T:∀(A:cr)(c:Ł Ø)(s:bn)(H:Hp)(vs:ϕ)(Q:VK)(E:XK),ff k (A.deeper (envOfC l a s.heap.objs.size f D))->sp vs H Q E->∃t,jt (mG CX P w K m base N l a f D A c s H E) B t/\t {nx:=λ_ H'=>Q .iq H',rt:=Q} (start N vs) H):iN P w K m base CX (k+1) f (fnOf name l p B a i kV doc y z D ct) ps sp:=by
 erw[(len,λA c s H args us vs Q E g e0 U r C=>?_)];let X:=e0.mod.CJ.keeps λb o e=>(e0.bs b o e).1;erw[lD g.depth (X _ _ lk) rfl S.co S.gen rfl (oV X M) (U _ _ _ _ ?_)];erw[iB S.kind (λ(n,v) W=>by
  rcases S.par n (jJ W).1 with q|q;.rwa[.inl q]
  .rwa[.inr (q,gH _ _ _ (.inl q))]) λY Z s1 x=>?_];subst Z;erw[((e0.mod.nolimit.keeps λb o e=>(e0.bs b o e).1).keeps x.toInCall.keep,CQ ?_)];let(t,ht,hq):=T A _ s H vs Q E (g.deeper _) C;let I:Inv (mG CX P w K m _ N l _ f D A _ s H E) [] _ H s1:=oG S g.hd e0 (len _ _ _ _ C) r x;erw[cV (ht [] s1 _ H _ I hq) (λfl s' h=>?_) λe s' h=>h];let F:∀{d:Ç}{H':Hp}{v:V}{u:Â},Inv (mG CX P w K m base N l a f D A _ s H E) [] d H' s'->RelV v u->Q v H'->CE c P w H s Q u s':=λ{d H' v u}j R q=>(v,H',j.os,j.bare,j.base,j.cY,R,q);cases fl with|ret u=>let(v,d,H',j,R,q):=h;rwa[F j R q]|next=>let(d,H',j,q):=h;rwa[F (v:=V.iq) j Ŗ q]|brk=>let(_,_,_,q):=h;rwa[á q]|cont=>let(_,_,_,q):=h;rwa[á q]
def tt(r:ϕ->Hp->VK->ß)(t:TA):TE:=λσ H Q=>t σ H λv h=>r v h Q
def N3{id:String}(c:eE X (.builtin id) r)(g:Gl X x)(m:X.mg x=ao)(v:em x=O (.builtin id))(a:PA X (e::es) t)(hn:ø (x≠"__name__") P3)(j:ø ((x==("__debug__":Å))=bb) P3)(b:ø (d4 (e::es) X.env=(bb,Ê e X.env)::d4 es X.env) v0)(d:ø ((e9 pos (d4 es X.env)).any (·.1)=bb) v0):PE X (.Call (.Name x p) (e::es) [] pos) (tt r t):=by intro P s σ H Q I h;rwa[fB (pW I g m v (PyProof.Rows.callWith_builtin1 (iZ (a pos _ s σ H _ I h) λu s1 z=>by let(f,i,k,R,q):=z;rwa[c _ s1 σ i f u Q k R q]) b d) hn j)]
def Jw(c:eE X (.type T) r)(g:Gl X x)(m:X.mg x=ao)(v:em x=O (.type T))(a:PA X (e::es) t)(hn:ø (x≠"__name__") P3)(j:ø ((x==("__debug__":Å))=bb) P3)(b:ø (d4 (e::es) X.env=(bb,Ê e X.env)::d4 es X.env) v0)(d:ø ((e9 pos (d4 es X.env)).any (·.1)=bb) v0):PE X (.Call (.Name x p) (e::es) [] pos) (tt r t):=by intro P s σ H Q I h;rwa[fB (pW I g m v (eX (XW (a pos _ s σ H _ I h) λu s1 f i k R q=>c _ s1 σ i f u Q k R q) b d) hn j)]
end L2
namespace HT
section
open PySem.SeqAt
open PySem.AutoSeq1(wpAny_loadPart')
open PySem.MeetsSeq PySem.MeetsSeq2 PySem.MeetsSeq3
end
def Rj{E:dC}{Q:dC}(g:IsTup s.heap t vs.toArray)(i:IsTup s.heap b ws.toArray)(v:vs ≠[])(j:ws=[]->Q (.ref t) s)(k:ws ≠[]->Q (.ref s.heap.objs.size) {s with heap:=s.heap.push {cls:=.type "tuple",data:=.seq (vs++ws).toArray}})(K:Á vs+Á ws<=Ã):bv (cc prog w) A (binaryOp .Add (.ref t) (.ref b)) Q E s:=by
 obtain⟨⟨cls,dd,data,sl⟩,H,c,n,f⟩:=id g;obtain⟨⟨l,d,data2,S⟩,M,I,N,h⟩:=id i;simp only at c f I h;subst c f I h;let e:vs.toArray++ws.toArray=(vs++ws).toArray:=⋯
 by_cases a:ws=[];.rwa[GC (_,H,Ŗ) (_,M,Ŗ) HU X4 tH rM (qj _ _) (tuple_addW1 t b _ _ n N dd d sl S (by simpa using v) nofun) (H,M,j a)]
 .erw[GC (_,H,Ŗ) (_,M,Ŗ) HU X4 tH rM (qj _ _) (tuple_addW2 t b _ _ n N dd d sl S (by simpa using v) (by simpa using a) (by done)) (H,M,?_)];rw[e];rwa[k a]
def lV(n d:Ń):Ő Î->Ń|ao=>d|O v=>if v<0 then(v+n).toNat else min v.toNat n
def Pc(n d:Ń):lV n d ao=d:=rfl
def Vk(n d k:Ń):lV n d (O k)=min k n:=rfl
def zx(v:Î)(n d:Ń):(if v<0 then max (v+n) 0 else min v n)=lV n d (O v):=by
 show(if v<0 then max _ 0 else min v _)=(if v<0 then(v+n).toNat else min _ n:Ń);by_cases h:v<0;.left
 .grind
def C6(lo hi:Ő Î)(n:Ń):ĭ lo hi 1 n=((lV n 0 lo:Î),(lV n n hi:Î)):=by
 erw[Prod.ext ?_ ?_];.cases lo with|a=>rfl|c v=>rwa[zx v n 0]
 .cases hi with|a=>rfl|c v=>rwa[zx v n n]
def EN(i j:Ń):Ą i j 1=j-i:=by
 delta Ą;let h:(1:Î)>0:=()
 simp only[h,qd,Int.ediv_one];split<;>lia
def wF{E:dC}(p:IsPart v o)(h:Q o s):bv (cc prog w) A (Builtin.Slice.slicePartIndex v) Q E s:=by cases p with|a=>rwa[slicePart_none h]|int i t=>rwa[slicePart_int h]
def lW{E:dC}{lo:Ő Î}{Q:Î×Î×Ń->bn->ß}(a:s.heap.IsSliceOf sl v u .none)(p:IsPart v lo)(P:IsPart u hi)(h:Q (lV n 0 lo,1,lV n n hi-lV n 0 lo) s):bv (cc prog w) A (Builtin.Slice.sliceApplied (.ref sl) (pure n)) Q E s:=by let(os,Z,b,H):=id a;erw[aa (aa (b7 Z H (x:=v) Ŗ (aa (b7 Z H (x:=u) Ŗ (aa (b7 Z H (x:=.none) Ŗ (ai ?_)))))))];erw[aa (slicePart_none ?_)];erw[aa (wF p (aa (wF P (aa (ai ?_)))))];show bv _ _ (match ĭ lo hi 1 _ with|(lo,hi)=>pure (Prod.mk lo (Prod.mk (1:Î) (Ą lo hi 1)))) _ _ s;rw[C6 lo hi n];show bv _ _ (pure _) _ _ s;rw[EN];rwa[ai h]
def Oy(xs:Array Â)(i k:Ń):((ä k).filterMap λ(m:Ń)=>xs[((i:Î)+m*1).toNat]?).toArray=((xs.toList.drop i).take k).toArray:=by
 let e:(λ(m:Ń)=>xs[((i:Î)+m*1).toNat]?)=λm=>xs[i+m]?:=by funext m;let:((i:Î)+m*1).toNat=i+m:=(dH _ _ _).symm;rw[this]
 rw[e];let:=pick_run xs i k;rw[List.filterMap_map]at this;let a:((λx=>xs[x]?)∘ λx=>i+x)=λm=>xs[i+m]?:=Ŗ;rw[a]at this;rw[this]
def qI{E:dC}{lo:Ő Î}{Q:dC}(H:IsTup s.heap t ci)(b:s.heap.IsSliceOf sl v u .none)(p:IsPart v lo)(P:IsPart u hi)(d:¬(lV ci.size 0 lo=0/\lV ci.size ci.size hi=ci.size))(h:Q (.ref s.heap.objs.size) {s with heap:=s.heap.push {cls:=.type "tuple",data:=.seq ((ci.toList.drop (lV ci.size 0 lo)).take (lV ci.size ci.size hi-lV ci.size 0 lo)).toArray}})(K:ci.size<=Ã):bv (cc prog w) A (getItem (.ref t) (.ref sl)) Q E s:=by
 let(os,Z,a,c):=id b;delta getItem;try with_reducible erw[bS ?_]
 erw[aa (wpAny_sequenceKey H.typeIs Ŗ ?_)];erw[aa (bY H.typeIs dy (bZ dy H.typeIs No ?_ (args_tuple_getitem _ _)))];show bv _ _ (Builtin.Tuple.tupleItemsOf _>>=_) _ _ s;erw[aa (tupleItemsOf_ H ?_)];erw[aa (kE (os,Z,a) ?_)];erw[aa (lW b p P ?_)];show bv _ _ (if((lV _ 0 lo:Î)==0&&1==1&&lV _ _ hi-lV _ 0 lo==ci.size)=J then _ else _) _ _ s;rw[bM (),Oy];first|rwa[aa (bW (ai (_,Ŗ,ai h)) (by show((ci.toList.drop _).take _).toArray.size<=Ã;rw[aZ,bX,eA,cj];lia))]|rfl|lia|lia
end HT
namespace L2
abbrev TO:=Ç->Hp->(Ő Î->Hp->ß)->ß
def PO(X:Cx)(e:Ő Æ)(t:TO):ß:=∀(p:Ł _)(s:bn)(σ:Ç)(H:Hp)(Q:Ő Î->Hp->ß),Inv X p σ H s->t σ H Q->bv (cc X.prog X.w) X.A (evalPart e X.env) (λu S=>∃o h,Inv X p σ h S/\IsPart u o/\Q o h) X.xe s
def VG:TO:=λ_ H Q=>Q ao H
def afG(t:TE):TO:=λσ H Q=>t σ H λx h=>∃i,x=.I i/\Q (O i) h
def UR:PO X ao VG:=by intro p s σ H Q I h;rwa[ai (_,H,I,.none,h)]
def US(h:PE X e te):PO X (O e) (afG te):=by intro p s σ H Q I w;erw[kh (h _ s σ H _ I w) λu s1 x a b r c=>?_];let(i,rfl,q):=c;let(t,rfl):=r;exact(_,a,b,.int i t,q)
def KH(X:Cx)(r:V->Ő Î->Ő Î->Hp->VK->ß):ß:=∀(p:Ł _)(s:bn)(σ:Ç)(H:Hp)(x:V)(v l u:Â)(lo hi:Ő Î)(sl:À)(Q:VK),Inv X p σ H s->RelV x v->s.heap.IsSliceOf sl l u .none->IsPart l lo->IsPart u hi->r x lo hi H Q->∃T id,typeLookup (.type T) "__getitem__"=pure (O (.builtin id))/\s.TypeIs v T/\bv (cc X.prog X.w) X.A (getItem v (.ref sl)) (EP X p σ Q) X.xe s
def KH.or(h:KH X r)(h':KH X R):KH X λx lo hi H Q=>r x lo hi H Q\/R x lo hi H Q:=by
 intro p s σ H x v l u lo hi sl Q I a b P c q;rcases q with q|q;.rwa[h _ s σ H x v l u lo hi sl Q I a b P c q]
 .rwa[h' _ s σ H x v l u lo hi sl Q I a b P c q]
def tSl(r:V->Ő Î->Ő Î->Hp->VK->ß)(te:TE)(tl th:TO):TE:=λσ H Q=>te σ H λx h=>tl σ h λl a=>th σ a λu b=>r x l u b Q
def Od{lo:Ő Æ}(a:KH X r)(c:PE X e te)(d:PO X lo tl)(hu:PO X hi th):PE X (.Subscript e (.Slice lo hi ao p2) pos) (tSl r te tl th):=by intro p s σ H Q I h;erw[Subscript_ (kh (c _ s σ H _ I h) λv s1 x f i R g=>?_)];erw[wpAny_Slice (iZ (d _ s1 σ f _ i g) λj s2 (l,k,m,P,n)=>iZ (hu _ s2 σ k _ m n) λo s3 u=>?_)];let(u,t,w,y,z):=u;erw[ai ?_];let(T,id,A,B,C):=a _ _ σ t x v j o l u s3.heap.objs.size Q (w.kept λb D q=>af _ q) R (Heap.IsSliceOf.new ..) P y z;rwa[tail_any B A C Ŗ]
def rY(xs:ϕ)(lo hi:Ő Î):ϕ:=(xs.drop (HT.lV (Á xs) 0 lo)).take (HT.lV (Á xs) (Á xs) hi-HT.lV (Á xs) 0 lo)
def sL(xs:ϕ)(lo hi:Ő Î):Á (rY xs lo hi)<=Á xs:=by delta rY;rw[bX,eA];lia
def akp(K:Ä):V->Ő Î->Ő Î->Hp->VK->ß:=λx lo hi H Q=>∃a s,x=.A a/\g9 K H a s/\¬(HT.lV (Á s) 0 lo=0/\HT.lV (Á s) (Á s) hi=Á s)/\∀p,H p=ao->Q (.A p) (dq H p (.T (rY s lo hi)))
def Ϛ:KH X (akp X.K):=by
 intro p s σ H x v l g lo hi sl Q I R d P u h;let(a,c,rfl,f,w,q):=h;cases R;let(B,r,t,z):=I.tuple f;let n:B.toArray.size=Á c:=by rwa[r.length.symm]
 erw[(_,_,dy.lookup,t.typeIs,?_)];erw[HT.qI t d P u (by rw[n];rwa[w]) ?_ (by rw[n];rwa[z])];rw[n];erw[(.A _,_,I.laid (λb o q=>af _ q) (ah _) ?_,Ŗ,q _ (I.cY.fresh (ah _)))];exact(aj (sL c lo hi) z,_,(r.drop _).take _,HN _ _)
def Š(K:Ä):R2:=λx y H Q=>∃a b s Y,x=.A a/\y=.A b/\g9 K H a s/\g9 K H b Y/\s ≠[]/\Á s+Á Y<=Ã/\(Y=[]->Q (.A a) H)/\(Y ≠[]->∀p,H p=ao->Q (.A p) (dq H p (.T (s++Y))))
def Vals.Ag(r:Vals xs us):us=[]↔xs=[]:=by cases r with|f=>simp|g _ _=>simp
def Ue:kH X (binaryOp .Add) (Š X.K):=by intro p s σ H x y v u Q I d f h;let(a,b,m,Y,rfl,rfl,g,i,j,c,k,l):=h;cases d;cases f;let(B,R,P,_):=I.tuple g;let(Z,r,p2,_):=I.tuple i;erw[HT.Rj P p2 (λz=>j (R.Ag.mp z)) (λz=>(.A a,H,I,Ŗ,k (r.Ag.mp z))) (λz=>?_) (by rw[<-R.length,<-r.length];rwa[c])];erw[(.A _,_,I.laid (λb o q=>af _ q) (ah _) ?_,Ŗ,l (λw=>z (r.Ag.mpr w)) _ (I.cY.fresh (ah _)))];exact(by rw[aq];rwa[c],_,R.append r,HN _ _)
def TC(n:Ń)(i:Î):Ő Ń:=if 0<=i then(if i<n then O i.toNat else ao)else if-n<=i then O (i+n).toNat else ao
def CD{α:Type}(xs:Ł α)(i:Î):Ő α:=(TC (Á xs) i).bind λj=>xs[j]?
def GQ(h:TC n i=O j):seqIndex? i n=O j/\j<n/\-n<=i/\i<n:=by
 delta TC at h;by_cases a:0<=i
 .rw[b5 a]at h;by_cases H:i<n;.rw[b5 H]at h;exact(by rw[Ev a H,dJ h],(),(),H)
  .left
 .rw[bM a]at h;by_cases H:-n<=i;.rw[b5 H]at h;exact(by rw[Dl () H,dJ h],(),H,())
  .left
def y9(h:CD xs i=O v):∃j,seqIndex? i (Á xs)=O j/\xs[j]?=O v/\j<Á xs/\-Á xs<=i/\i<Á xs:=by delta CD at h;cases e:TC (Á xs) i with|a=>left|c j=>rw[e]at h;let(H,a,b,c):=GQ e;exact(j,H,h,a,b,c)
def QZ{j:Ń}{v:α}(h:xs[j]?=O v):CD xs j=O v:=by
 let H:=(aw.mp h).1;let e:TC (Á xs) j=O j:=by delta TC;rw[b5 (),b5 ()];simp
 delta CD;rw[e];rwa[h]
def mw(b:Æ):ß:=∀o i,subscripted b bb o i=operate [o,i] (getItem o i)
def FJ(X:Cx)(r:R2):ß:=∀(e S:Æ)(p:Ł _)(s:bn)(σ:Ç)(H:Hp)(x y:V)(v u:Â)(Q:VK),Inv X p σ H s->RelV x v->RelV y u->r x y H Q->subscripted S bb v u=operate [v,u] (getItem v u)->bv (cc X.prog X.w) X.A (subscriptTail e S v u) (EP X p σ Q) X.xe s
def L5(X:Cx)(id:String)(r:V->ϕ->Hp->VK->ß):ß:=∀(p:Ł _)(s:bn)(σ:Ç)(H:Hp)(x:V)(a:ϕ)(v:Â)(u:Ł _)(Q:VK),Inv X p σ H s->RelV x v->Vals a u->r x a H Q->bv (cc X.prog X.w) X.A (call (.builtin id) (v::u)) (EP X p σ Q) X.xe s
def FJ.or(h:FJ X r)(h':FJ X R):FJ X λx y H Q=>r x y H Q\/R x y H Q:=by
 intro e S p s σ H x y v u Q I c d q f;rcases q with q|q;.rwa[h _ _ _ s σ H x y v u Q I c d q f]
 .rwa[h' _ _ _ s σ H x y v u Q I c d q f]
def G8{X:Cx}{a b:Æ}{ta tb:TE}{pos:Ó}{r:R2}(c:FJ X r)(d:PE X a ta)(e:PE X b tb)(f:autoParam (mw b) Ğ):PE X (.Subscript a b pos) (ng r ta tb):=by intro p s σ H Q I h;rwa[Subscript_ (Yu d e I h λv u s2 x y g i R j q=>c a b _ s2 σ g x y v u Q i R j q (f _ _))]
def Ħ(K:Ä):R2:=λx y H Q=>∃p s i v,x=.A p/\y=.I i/\gA K H p s/\CD s i=O v/\Q v H
def FN(K:Ä):R2:=λx y H Q=>∃p s i v,x=.A p/\y=.I i/\g9 K H p s/\CD s i=O v/\Q v H
def Ģ:R2:=λx y H Q=>∃z i c,x=.S z/\y=.I i/\z.length<=Ã/\CD z.cps.toList i=O c/\Q (.S ⟨#[c]⟩) H
def TH:FJ X (Ħ X.K):=by
 intro e S g s σ H x y v u Q I R m h k;let(p,G,i,z,rfl,rfl,n,o,q):=h;cases R;let(t,rfl):=m;let(B,r,P,L):=I.list n;let(j,c,A,M,C,D):=y9 o;let(w,E,F):=r.get A;let hl:=r.length;let hn:=vY;let f:EP X _ σ Q w s:=(z,H,I,F,q);by_cases l:0<=i
 .let d:=by rw[Ev l D]at c;rwa[dJ c]
  rwa[item_listR P.isList l () (by rw[d];simpa using E) f k]
 .let d:(i+B.toArray.size).toNat=j:=by rw[Dl () C]at c;rw[aZ,<-hl];rwa[dJ c]
  rwa[ky P.isList.typeIs slot_list_getitem.lookup (wpAny_getItem_list_neg P.isList () nofun () (by rw[d];simpa using E) (Ŗ,f)) k]
def Nc:FJ X (FN X.K):=by intro e S P s σ H x y v u Q I R c h d;let(p,n,i,z,rfl,rfl,f,g,q):=h;cases R;let(t,rfl):=c;let(B,r,l,o):=I.tuple f;let(j,k,m,A,D,F):=y9 g;let(w,E,C):=r.get m;let hn:=vY;rwa[ky l.typeIs slot_tuple_getitem.lookup (getItem_tuple l () () (by rw[aZ,<-r.length];rwa[k]) (by simpa using E) (Ŗ,(z,H,I,C,q))) d]
def l_:FJ X Ģ:=by intro e d p s σ H x y v u Q I r R h g;let(z,i,c,rfl,rfl,w,k,q):=h;let(t,rfl):=r;let(T,rfl):=R;let(j,f,l,A,m,n):=y9 k;let o:Á z.cps.toList=z.length:=Ŗ;rw[o]at f m n;let hn:=vY;rwa[tail_any (typeIs_str s z t) slot_str_getitem.lookup (getItem_str () (by rw[f];simpa using l) (.S _,H,I.tok _,(_,Ŗ),q)) g]
def Ŕ(K:Ä):R2:=λx y H Q=>Ħ K x y H Q\/FN K x y H Q\/Ģ x y H Q
def k_:FJ X (Ŕ X.K):=TH.or (Nc.or l_)
def EA(B:Ł _)(n j:Ń)(u:Â):ï (·.setIfInBounds j u) {cls:=.type "list",data:=.seq B.toArray n}={cls:=.type "list",data:=.seq (B.set j u).toArray n}:=by simp[ï]
def Inv.lst{P:Ł _}{σ:Ç}{H:Hp}{s:bn}{p:À}{xs:ϕ}(I:Inv X P σ H s)(h:H p=O (.L xs)):∃(B:Ł _)(n:Ń),Vals xs B/\s.heap.get? p=O {cls:=.type "list",data:=.seq B.toArray n}/\Á xs<=Ã:=by let(z,B,n,r,e):=I.cY p _ h;exact(B,n,r,e,z)
def Inv.C_{P:Ł _}{σ:Ç}{T:Ł _}(I:Inv X P σ H s)(h:H p=O (.L xs))(o:s.heap.get? p=O {cls:=.type "list",data:=.seq T.toArray n})(c:f {cls:=.type "list",data:=.seq T.toArray n}={cls:=.type "list",data:=.seq B.toArray N})(r:Vals ys B)(hz:Á ys<=Ã)(t:Ń):Inv X P σ (dq H p (.L ys)) {s with heap:=s.heap.update p f,toks:=t}:=by
 let e:(s.heap.update p f).get? p=O {cls:=.type "list",data:=.seq B.toArray N}:=by rw[bF f o (by rw[c]<;>rfl),c]
 rwa[I.write (by rw[h];done) (.inl Ŗ) (λb u d q=>(bG _ _ (c4 d)).trans q) (_,e) (hz,_,N,r,e)]
def XC:V->V->V->Hp->(Hp->ß)->ß:=λo i v H Q=>∃p x k j,o=.A p/\i=.I k/\H p=O (.L x)/\TC (Á x) k=O j/\Q (dq H p (.L (x.set j v)))
def Pp:K7 X XC:=by
 intro P s σ H o i v C D u Q I R x y h;let(p,E,k,j,rfl,rfl,f,z,q):=h;cases R;let(t,rfl):=x;let(B,n,r,d,A):=I.lst f;let(c,F,g,l):=GQ z;let hl:=r.length;let hn:=vY;let m:Inv X _ σ _ {s with heap:=s.heap.update p _}:=I.C_ f d (EA B n j u) (r.set y j) (by rw[cH];rwa[A]) _;by_cases w:0<=k
 .let e:=by rw[Ev w l]at c;rwa[dJ c]
  rwa[PySem.W.ki_setAt d w () (by rw[aZ,<-hl];rwa[l]) (by rw[e];exact(_,m,q))]
 .let e:(k+B.toArray.size).toNat=j:=by rw[Dl () g]at c;rw[aZ,<-hl];rwa[dJ c]
  rwa[PySem.W.ki_setBack d () (by rw[aZ,<-hl];rwa[g]) () (by rw[e];exact(_,m,q))]
def AF(lo hi:Ő Î)(n:Ń):(sliceBounds lo hi ao n).1=HT.lV n 0 lo/\(sliceBounds lo hi ao n).2.1=HT.lV n n hi/\(sliceBounds lo hi ao n).2.2=1:=by
 erw[(?_,?_,Ŗ)];.cases lo with|a=>rfl|c i=>
   simp only[sliceBounds,HT.lV,Option.getD_none,show(1:Î)>0 by ext,qd];by_cases h:i<0;.simp only[h,qd]<;>lia
   .simp only[h,kx]<;>lia
 .cases hi with|a=>rfl|c i=>
   simp only[sliceBounds,HT.lV,Option.getD_none,show(1:Î)>0 by ext,qd];by_cases h:i<0;.simp only[h,qd]<;>lia
   .simp only[h,kx]<;>lia
def xN(B:Ł _)(lo hi:Ő Î):slicePick B.toArray lo hi ao=((B.drop (HT.lV (Á B) 0 lo)).take (HT.lV (Á B) (Á B) hi-HT.lV (Á B) 0 lo)).toArray:=by let(h,H,c):=AF lo hi _;delta slicePick;rw[h,H,c];simp only[sliceRange_one,pick_run,aZ]<;>rfl
def KE(K:Ä):V->Ő Î->Ő Î->Hp->VK->ß:=λx lo h H Q=>∃a s,x=.A a/\gA K H a s/\∀p,H p=ao->Q (.A p) (dq H p (.L (rY s lo h)))
def Vq:KH X (KE X.K):=by intro p s σ H x v l f lo i sl Q I R c P u h;let(a,d,rfl,e,q):=h;cases R;let(B,r,t,z):=I.list e;let n:=r.length;erw[(_,_,slot_list_getitem.lookup,t.isList.typeIs,?_)];erw[wpAny_getItem_list_slice t.isList c P u .none ⋯ ?_ nofun];rw[xN,<-n];erw[(.A _,_,I.laid (λb o q=>af _ q) (ah _) ?_,Ŗ,q _ (I.cY.fresh (ah _)))];exact(aj (sL d lo i) z,_,0,(r.drop _).take _,aA _ Ŗ)
def pB:V->Þ|.iq=>J|.B _=>J|.I _=>J|.S _=>J|_=>bb
def R6:V->V->Þ|.iq,.iq=>J|.B a,.B b=>a==b|.B a,.I b=>(if a then 1 else 0)==b|.I a,.B b=>a==if b then 1 else 0|.I a,.I b=>a==b|.S a,.S b=>a==b|_,_=>bb
def Zs(R:RelV y u)(r:RelV x v)(F:pB y)(f:pB x):SeqAt.EqAt A s u v (R6 y x):=by cases y with
 |iq=>cases R;cases x with|iq=>cases r;rwa[SeqAt.EqAt.same _]|B b=>cases r;rwa[SeqAt.EqAt.none_bool b]|I b=>let(t,rfl):=r;rwa[SeqAt.EqAt.none_int b t]|S b=>let(t,rfl):=r;rwa[SeqAt.EqAt.none_str b t]|_=>rwa[Ă (show bb=J from f) aF]
 |B a=>cases R;cases x with|iq=>cases r;rwa[SeqAt.EqAt.bool_none a]|B b=>cases r;rwa[SeqAt.EqAt.bool_bool a b]|I b=>let(t,rfl):=r;rwa[SeqAt.EqAt.bool_int a b t]|S b=>let(t,rfl):=r;rwa[SeqAt.EqAt.bool_str a b t]|_=>rwa[Ă (show bb=J from f) aF]
 |I a=>let(T,rfl):=R;cases x with|iq=>cases r;rwa[SeqAt.EqAt.int_none a T]|B b=>cases r;rwa[SeqAt.EqAt.int_bool a T b]|I b=>let(t,rfl):=r;rwa[SeqAt.EqAt.int_int a T b t]|S b=>let(t,rfl):=r;rwa[SeqAt.EqAt.int_str a T b t]|_=>rwa[Ă (show bb=J from f) aF]
 |S a=>let(T,rfl):=R;cases x with|iq=>cases r;rwa[SeqAt.EqAt.str_none a T]|B b=>cases r;rwa[SeqAt.EqAt.str_bool a T b]|I b=>let(t,rfl):=r;rwa[SeqAt.EqAt.str_int a T b t]|S b=>let(t,rfl):=r;rwa[SeqAt.EqAt.str_str a T b t]|_=>rwa[Ă (show bb=J from f) aF]
 |_=>rwa[Ă (show bb=J from F) aF]
def pc(x:V)(u:Â):Þ:=match u with|.none=>R6 .iq x|.bool b=>R6 (.B b) x|.int i _=>R6 (.I i) x|.str z _=>R6 (.S z) x|_=>bb
def Md(r:RelV y u)(f:pB y):pc x u=R6 y x:=by cases y with|iq=>cases r;rfl|B b=>cases r;rfl|I i=>let(t,rfl):=r;rfl|S z=>let(t,rfl):=r;rfl|_=>rwa[Ă (show bb=J from f) aF]
def FQ:∀{xs:ϕ}{us:Ł _},Vals xs us->xs.all pB->us.any (pc x)=xs.any λy=>R6 y x:=by intro xs us h f;induction h with|f=>rfl|g r t i=>rw[b8,aK]at f;rw[qh,qh,Md r f.1,i f.2]
theorem wc{x:V}{v:Â}(R:RelV x v)(F:pB x):∀{xs:ϕ}{us:Ł _},Vals xs us->xs.all pB->∀u∈us,SeqAt.EqAt A s u v (pc x u)
 |_,_,.nil,_=>λu hu=>by grind|y::xs,u::us,.cons r t,f=>λU hu=>by
  rw[b8,aK]at f;rcases ax.mp hu with rfl|hu;.rw[Md r f.1];rwa[Zs r R f.1 F]
  .rwa[wc R F t f.2 U hu]
def oe(x:V)(xs:ϕ):Þ:=xs.any λy=>R6 y x
def MD(K:Ä)(neg:Þ):R2:=λx y H Q=>∃p s,y=.A p/\(gA K H p s\/g9 K H p s)/\pB x=J/\s.all pB=J/\Q (.B (if neg then !oe x s else oe x s)) H
def Jt:kH X (compareOp .In) (MD X.K bb):=by
 intro e s σ H x y v u Q I R g h;let(p,i,rfl,c,f,fs,q):=h;cases g;rcases c with c|c;.let(T,r,P,z):=I.list c;erw[SeqAt.in_listAt _ P.isList (λw d=>wc R f r fs w (by simpa using d)) (.B _,H,I,Ŗ,?_)];rw[show T.toArray.any _=T.any (pc x)by simp,FQ r fs];rwa[q]
 .let(T,r,P,z):=I.tuple c;erw[SeqAt.in_tupleAt _ P (λw d=>wc R f r fs w (by simpa using d)) (.B _,H,I,Ŗ,?_)];rw[show T.toArray.any _=T.any (pc x)by simp,FQ r fs];rwa[q]
def zm:eE X (.builtin "len") λxs H Q=>∃p ys,xs=[.A p]/\(gA X.K H p ys\/g9 X.K H p ys)/\Q (.I (Á ys)) H:=by
 intro d s σ H xs U Q I r h;let(p,ys,rfl,c,q):=h;let(u,rfl,x):=KD r;cases x;let hn:=vY;rcases c with c|c;.let(B,R,P,z):=I.list c;let n:=R.length;rwa[Calls.call_len_list P.isList (by simp only[aZ]<;>lia) (.I _,H,I.tok _,(_,by rw[aZ,n]),q)]
 .let(B,R,P,z):=I.tuple c;let n:=R.length;rwa[len_tuple P (by simp only[aZ]<;>lia) (.I _,H,I.tok _,(_,by rw[aZ,n]),q)]
def eE.or(h:eE X f r)(h':eE X f R):eE X f λxs H Q=>r xs H Q\/R xs H Q:=by
 intro p s σ H xs u Q I c q;rcases q with q|q;.rwa[h _ s σ H xs u Q I c q]
 .rwa[h' _ s σ H xs u Q I c q]
def zp:eE X (.type "list") λxs H Q=>∃p ys,xs=[.A p]/\(gA X.K H p ys\/g9 X.K H p ys)/\∀l,H l=ao->Q (.A l) (dq H l (.L ys)):=by
 intro t s σ H xs U Q I r h;let(p,ys,rfl,d,q):=h;let(u,rfl,x):=KD r;cases x;let f:∀(B:Ł _),Vals ys B->Á ys<=Ã->∀(c:È)(C:Ń),(∀b v,s.heap.get? b=O v->c.get? b=O v)->c.get? _=O _->EP X _ σ Q _ {s with heap:=c}:=λB R z c C k e=>(.A _,_,I.laid k (ah _) (show fF _ X.w _ c _ (.L ys)from(z,B,C,R,e)),Ŗ,q _ (I.cY.fresh (ah _)));rcases d with d|d;.let(B,R,P,z):=I.list d;let g:=R.length;let(o,i,j,n,m):=P.isList;rwa[call_list_seq p (.inl Ŗ) i j m (λc C k e=>f B R z c C k e) (by simp only[aZ]<;>lia)]
 .let(B,R,P,z):=I.tuple d;let g:=R.length;let(o,i,j,n,m):=P;rwa[call_list_seq p (.inr Ŗ) i j m (λc C k e=>f B R z c C k e) (by simp only[aZ]<;>lia)]
def xq:eE X (.type "tuple") λxs H Q=>∃p ys,xs=[.A p]/\((gA X.K H p ys/\∀l,H l=ao->Q (.A l) (dq H l (.T ys)))\/g9 X.K H p ys/\Q (.A p) H):=by
 intro d s σ H xs U Q I r h;let(p,ys,rfl,h):=h;let(u,rfl,x):=KD r;cases x;rcases h with ⟨c,q⟩|⟨c,q⟩;.let(B,R,P,z):=I.list c;let n:=R.length;erw[call_tuple_list P.isList (λf k=>?_) (by simp only[aZ]<;>lia)];let i:Inv X _ σ H {s with heap:=f}:=I.kept k;let g:Inv X _ σ (dq H _ (.T ys)) {s with heap:=f.push _}:=i.laid (λb o e=>af _ e) (ah _) (z,B,R,HN _ _);exact(.A _,_,g,Ŗ,q _ (i.cY.fresh (ah _)))
 .let(B,R,P,z):=I.tuple c;rwa[call_tuple_same P (.A p,H,I,Ŗ,q)]
def Fk(K:Ä)(T:String)(x:V)(H:Hp):ß:=match x with|.S _=>T="str"|.I _=>T="int"|.A p=>(T="list"/\∃s,gA K H p s)\/(T="tuple"/\∃o,K.lookup p=O o/\o.cls=.type "tuple"/\o.dict=ao)\/T="dict"/\((∃U,H p=O (.dK U))\/∃U,H p=O (.dT U))\/T="set"/\∃S n,H p=O (.set S n)|_=>ŧ
def aaX{P:Ł _}{σ:Ç}(I:Inv X P σ H s)(r:RelV x v)(ty:Fk X.K T x H):
  s.TypeIs v T/\∀a,v=.ref a->∃f,s.heap.get? a=O f/\f.dict=none:=by cases x with|S z=>let(t,rfl):=r;cases show T="str"from ty;exact(typeIs_str s z t,λ_ e=>nomatch e)|I i=>let(t,rfl):=r;cases show T="int"from ty;exact(AW s i t,λ_ e=>nomatch e)|A p=>
  cases r;rcases ty with ⟨rfl,j,q⟩|⟨rfl,o,h,g,d⟩|⟨rfl,h⟩|⟨rfl,S,n,h⟩;.let(B,_,l,_):=I.list q;erw[(l.isList.typeIs,λa e=>?_)];cases e;let(o,n,e,c,d,_):=l;exact(o,e,d)
  .erw[((o,I.kZ p o h,g),λa e=>?_)];cases e;exact(o,I.kZ _ o h,d)
  .let z:∃o,s.heap.get? p=O o/\o.ExactDict:=by
    rcases h with ⟨U,h⟩|⟨U,h⟩;.let(_,_,_,_,o,_,_,e,ex,_):=I.cY p _ h;exact(o,e,ex)
    .let(_,_,_,_,o,_,_,e,ex,_):=I.cY p _ h;exact(o,e,ex)
   let(o,e,ex):=z;erw[((o,e,ex.1),λa E=>?_)];cases E;exact(o,e,ex.2.1)
  .let(o,_,_,_,e,ex,_):=I.cY p _ h;erw[((o,e,ex.1),λa E=>?_)];cases E;exact(o,e,ex.2.1)|_=>rwa[á ty]
def ę(K:Ä)(T:String)(r:V->ϕ->Hp->VK->ß)(to:TE)(t:TA):TE:=λσ H Q=>to σ H λx h=>Fk K T x h/\t σ h λs c=>r x s c Q
def aeC{id:String}(pa:PlainAttrs T)(slot:Slot T name id)(y:typeOf (.builtin id)=pure (.type "method_descriptor"))(m:L5 X id r)(c:PE X o to)(d:PA X (e::es) t)(q:ø (g6 o name X.env (Ê o X.env)=Ê o X.env) v0)(Z:ø (((e9 dI (d4 (e::es) X.env)).all (λx=>!x.1)&&(backToKw dI (hX [] X.env)).all (λx=>x.1.isSome)&&Đ (Á (e::es)+Á ([]:Ł g5)+(if([]:Ł g5).isEmpty then 0 else 1)<30))=J) v0)(B:ø ((cN.endLine==dI.line)=J) v0)(f:ø (d4 (e::es) X.env=(bb,Ê e X.env)::d4 es X.env) v0)(g:ø ((e9 dI (d4 es X.env)).any (·.1)=bb) v0):PE X (.Call (.Attribute o name cN) (e::es) [] dI) (ę X.K T r to t):=by intro p s σ H Q I h;erw[L1 q Z B Ŗ (kh (c _ s σ H _ I h) λv s1 x j i R (ty,k)=>?_)];let(l,n):=aaX i R ty;erw[(T,id,pa,slot,y,l,n,?_)];let A:=d dI _ s1 σ j _ i k;rw[f]at A⊢;rwa[kn (by done) (fG (iZ A λu s2 z=>by let(w,C,D,E,F):=z;rwa[m _ s2 σ C x w v u Q D R E F]))]
def MtM(X:Cx)(id:String)(r:V->ϕ->Hp->VK->ß):ß:=∀(p:Ł _)(s:bn)(σ:Ç)(H:Hp)(x:V)(a:ϕ)(v:Â)(u:Ł _)(Q:VK),Inv X p σ H s->RelV x v->Vals a u->r x a H Q->bv (cc X.prog X.w) X.A (call (.builtin id) (v::u)) (EP X p σ Q) X.xe s
def Vals.one:∀{x:V}{us:Ł _},Vals [x] us->∃u,us=[u]/\RelV x u:=by intro _ _ h;cases h with|g r t=>cases t;exact(_,Ŗ,r)
def Vals.two:∀{x y:V}{us:Ł _},Vals [x,y] us->∃u v,us=[u,v]/\RelV x u/\RelV y v:=by intro _ _ _ h;cases h with|g r t=>cases t with|g q t=>cases t;exact(_,_,Ŗ,r,q)
def Vals.zero:∀{us:Ł _},Vals [] us->us=[]|_,.nil=>Ŗ
theorem Vals.rep(h:Vals xs us):∀k:Ń,Vals (Ò k xs).flatten (Ò k us).flatten|0=>.nil|k+1=>by rwa[Vals.append h (Vals.rep h k)]
theorem HS(b:Ł Â):∀(k:Ń)(acc:Ł _),ù (λx X=>x++X) acc.toArray (Ò k b.toArray)=(acc++(Ò k b).flatten).toArray
 |0,acc=>⋯|k+1,acc=>by
  let e:acc.toArray++b.toArray=(acc++b).toArray:=⋯
  let E:acc++b++(Ò k b).flatten=acc++(Ò (k+1) b).flatten:=by grind
  rw[<-E,<-HS b k _,<-e,yS,List.foldl_cons]
def Inv.aju{σ:Ç}{B:Ł _}(I:Inv X be σ H s)(h:H l=O (.L xs))(e:s.heap.get? l=O {cls:=.type "list",data:=.seq B.toArray n})(a:f B.toArray=A.toArray)(v:Vals ys A)(hz:Á ys<=Ã):Inv X be σ (dq H l (.L ys)) {s with heap:=s.heap.update l (ï f),toks:=t'}:=by let q:=PySem.IsL.update e f;rw[a]at q;rwa[I.write (by rw[h];rwa[Ť]) (.inl Ŗ) (λd u c hu=>(bG _ _ (c4 c)).trans hu) (_,q) (hz,_,_,v,q)]
def Inv.y_{σ:Ç}(I:Inv X be σ H s)(h:Vals ys B)(hz:Á ys<=Ã):Inv X be σ (dq H s.heap.objs.size (.L ys)) {s with heap:=s.heap.push {cls:=.type "list",data:=.seq B.toArray},toks:=t'}:=I.laid (λ_ _ q=>af _ q) (ah _) (hz,B,0,h,aA _ Ŗ)
theorem Inv.fresh{σ:Ç}(I:Inv X be σ H s):H s.heap.objs.size=none:=I.cY.fresh (ah _)
def Inv.T5{σ:Ç}(I:Inv X be σ H s)(h:H l=O (.L xs)):Á xs<=Ã/\∃(B:Ł _)(n:Ń),Vals xs B/\Á xs=Á B/\s.heap.get? l=O {cls:=.type "list",data:=.seq B.toArray n}:=by let(z,B,n,r,e):=I.cY l _ h;exact(z,B,n,r,r.length,e)
def NS(h:n<=Ã):Builtin.List.listTooLong n=false:=by rwa[cw ()]
def Ho:V->ϕ->Hp->VK->ß:=λx v H Q=>∃l s y,x=.A l/\v=[y]/\H l=O (.L s)/\Á s<Ã/\Q .iq (dq H l (.L (s++[y])))
def yq:MtM X "list.append" Ho:=by intro p s σ H x d v U Q I R b h;let(l,f,y,rfl,rfl,a,g,q):=h;cases R;let(u,rfl,c):=b.one;let(z,B,n,r,i,e):=I.T5 a;erw[jM F.slot_list_append (_,e,Ŗ) F.entry_list_append (F.args_list_append_2 _ _) (PySem.list_append l _ n u nofun) (e,?_)];erw[(.iq,_,I.aju a e ⋯ (r.append (.cons c .nil)) ?_,Ŗ,q)];rw[aq,b6];rwa[dh ‹_›]
def O':R2:=λx y H Q=>∃l b s z,x=.A l/\y=.A b/\H l=O (.L s)/\H b=O (.L z)/\Á s+Á z<=Ã/\∀p,H p=ao->Q (.A p) (dq H p (.L (s++z)))
def P_:kH X (binaryOp .Add) O':=by
 intro p s σ H x y v u Q I R a h;let(l,b,j,k,rfl,rfl,c,d,m,q):=h;cases R;cases a;let(z,B,n,r,o,e):=I.T5 c;let(t,Z,N,f,g,E):=I.T5 d;erw[PySem.P.add_list e E ?_ (by rw[aZ,aZ];lia)];let i:B.toArray++Z.toArray=(B++Z).toArray:=⋯
 rw[i];exact(.A _,_,I.y_ (r.append f) (by rw[aq];rwa[aj ‹_› ∅]),Ŗ,q _ I.fresh)
def ē:R2:=λx y H Q=>∃l k s,x=.A l/\y=.I k/\H l=O (.L s)/\-2^63<=k/\k<2^63/\Á s*k.toNat<=Ã/\∀p,H p=ao->Q (.A p) (dq H p (.L (Ò k.toNat s).flatten))
def Aa{α:Type}(xs:Ł α)(k:Ń):Á (Ò k xs).flatten=k*Á xs:=⋯
def Z_:kH X (binaryOp .Mult) ē:=by
 intro p s σ H x y v u Q I R f h;let(l,k,D,rfl,rfl,g,i,j,d,q):=h;cases R;let(t,rfl):=f;let(z,b,n,r,o,e):=I.T5 g;let c:b.toArray.size*k.toNat<=Ã:=by rw[aZ,<-o];rwa[d]
 let M:ù (λw B=>w++B) #[] (Ò (if b.toArray.isEmpty=J then 0 else k.toNat) b.toArray)=(Ò k.toNat b).flatten.toArray:=by
  let C:∀m:Ń,ù _ #[] _=(Ò m b).flatten.toArray:=λm=>by let:=HS b m [];rwa[this]
  rw[C];cases b with|f=>simp|g a E=>rfl
 erw[Wr (by rfl) (_,e,Ŗ) (λS=>AW S k t) noFill_list_mul F.fills_int_mul ud repeat_list F.slot_int_index.lookup (jM ud (AW s k t) F.entry_int_rmul (F.args_int_rmul_2 _ _) (int___rmul___int_list k t l _ n) (e,Ŗ,(_,e,Ŗ),jM F.slot_list_mul (_,e,Ŗ) F.entry_list_mul (F.args_list_mul_2 _ _) (AutoListH.list___mul___list_int_3 l _ n k t (by rw[fitsIndex_both i j];rwa[aF]) (by
  let:Ã<=(2^63-1)/8:=∅
  lia) (by rw[NS c];rwa[aF])) (e,?_)))];rw[M];exact(.A _,_,I.y_ (r.rep _) (by rw[Aa,Nat.mul_comm];rwa[d]),Ŗ,q _ I.fresh)
end L2
namespace Att
open PySem.W PySem.Calls
def tU:∀(ns:Ł Î)(vs:Ł _),WellAll P h vs (ns.map WData.int)->IntsAre vs ns:=by intro ns;induction ns with|f=>intro vs w;cases w;rwa[.nil]|g n ns i=>intro vs w;cases w with|g a b=>cases a;rwa[.cons _ _ (i _ b)]
def Kb{l:OpenLaw}(hn:l.most=O n)(S:l.row.toRowW.claim.pre args)(H:WellAll P h v args):∃a vs ns,v=[Ð a]/\args=[WData.list (ns.map WData.int)]/\h.get? a=O {cls:=.type "list",data:=.seq vs.toArray}/\IntsAre vs ns/\Á ns<=n:=by let(d,r,rfl,e,f):=hasAllW_cons (pre_splitW S).1;obtain rfl:=hasAllW_nil f;let(x,rfl,g):=hasW_list e;let(ns,rfl):=items_int g;cases H with|g w W=>cases W;cases w with|list o E=>exact(_,_,ns,Ŗ,Ŗ,o,tU ns _ E,by let b:=condW_of (by let c:=(holds_andW (pre_splitW S).2).1;rw[hn]at c;rwa[c]) (w_not (w_lt w_lit (w_len_list (w_arg Ŗ))));rw[ae]at b;first|(rw[cM ()]at b;rwa[Ă b ∅])|lia)
def JK(l:OpenLaw)(args:Ł _):l.row.toRowW.claim.post args (.bool J) args=true:=postW_of (show WShape.has [] _ .bool=J by rfl) (w_eq_bool (w_res Ŗ) w_lit) Ŗ
def A5{l:OpenLaw}(hn:l.most=O n)(Z:d.params.defaults=[])(call:∀(w:ce)(S s:bn)(m M:Å->Ő _)(F:À)(o:Ù)(p c doc:Â)(a:À)(vs:Ł _)(ns:Ł Î),Ground q L [] XP w S m M s.heap->y w s.heap->s.heap.get? F=O o->o.data=.func (docDef d.name d.params d.body d.scope p c doc)->s.heap.CodeRec c d.name->m d.name=O (.ref F)->s.heap.get? a=O {cls:=.type "list",data:=.seq vs.toArray}->IntsAre vs ns->Á ns<=n->s.gens=#[]->gc (cc l.prog w) callerA (.call (.ref F) ([.ref a],[])) (λr s'=>r=.ok (.ret (.bool J))/\OldK s.heap s'.heap/\s'.os=s.os/\AllBare s'.gens) s):WalkO q L XP y l.row.toRowW d [] λf vs=>PySem.call f vs:=by intro w S s m M G Y F o p c doc e kV g i N D Q j args v I U A k b t;obtain rfl:e=.none:=Dflts.none D Z;obtain rfl:kV=.none:=Dflts.noKw D;let(a,vs,ns,rfl,rfl,z,h,H):=Kb hn U b;erw[enter_call (dO (call w _ _ m M F o p c doc a vs ns G Y g (fd_plain i) N Q z h H j) λr s' u=>?_)];let(rfl,x,B,C):=u;exact(.inl (_,_,[],Ŗ,λ_=>Ŗ,.bool _,JK l _,λ_=>(List.Pairwise.nil,λ_ E=>nomatch E)),x,B,C)
end Att
namespace L2
def Kx:∀{vs:Ł _}{ns:Ł Î},IntsAre vs ns->Vals (ns.map V.I) vs:=by intro vs ns h;induction h with|f=>rwa[.nil]|g n t h i=>rwa[.cons (t,Ŗ) i]
def Yf(H:Hp):ß:=∀b,H b=ao\/∃o x,H b=O (.lM o (.L x))
def Np{K:Ä}{M j:db}(Q:K.In s₁.heap)(S:s₁.heap.Ns c' M)(c:s₁.heap.Ns builtinsNs j)(p:∀x:Å,x≠"__name__"->j x=em x)(R:s₁.heap.NoLimit)(hg:s₁.gens=#[])(i:s₁.heap.get? a=O {cls:=.type "list",data:=.seq vs.toArray})(hi:IntsAre vs ns)(hl:Á ns<=Ã)(hr:ff k callerA)(F:∀base:È,K.In base->base.Ns c' M->iN P w K M base CX k l L [x] sp)(t:∀(s:bn)(u:Â),BindsTo s L ([u],[]) [(x,u)])(sS:∀H:Hp,Yf H->gA K H a (ns.map V.I)->sp [.A a] H (λv _=>v=.B J) λ_ _ _=>ŧ)(X:∀H e s',CX [] H s₁ (λ_ _ _=>ŧ) e s'->ŧ):gc (cc P w) callerA (.call (.ref l) ([.ref a],[])) (λr s'=>r=.ok (.ret (.bool J))/\OldK s₁.heap s'.heap/\s'.os=s₁.os/\AllBare s'.gens) s₁:=by
 let rv:=Kx hi;let apL:=hi.length;let C:∀H:Hp,Yf H->gA K H a (ns.map V.I)->kG P w H s₁.heap->(∀b,H b≠ao->b=a)->(H a≠ao->K.lookup a=ao)->gc (cc P w) callerA (.call (.ref l) ([.ref a],[])) (λr s'=>r=.ok (.ret (.bool J))/\OldK s₁.heap s'.heap/\s'.os=s₁.os/\AllBare s'.gens) s₁:=by
  intro H T hS Y U hK;let W:∀{b:À}{o:Ù},s₁.heap.get? b=O o->H b=ao->(zS s₁.heap H).get? b=O o:=λe n=>MB e n;let y:∀{b:À}{o:Ù}{E:Array gt}{ep:Ń},s₁.heap.get? b=O o->o.data=.dict E ep->H b=none:=λ{b o E ep}e d=>by cases q:H b with|a=>rfl|c u=>let D:b=a:=U b (by rw[q];simp);subst D;rw[i]at e;cases e;let d':Data.seq vs.toArray _=Data.dict E ep:=d;cases d'
  let N:∀{b:À}{m:db},s₁.heap.Ns b m->(zS s₁.heap H).Ns b m:=λ{b m}zz=>(by let(o,E,ep,e,d,r):=zz;exact(o,E,ep,W e (y e d),d,r));let f:K.In (zS s₁.heap H):=λb o e=>W (Q b o e) (by cases q:H b with|a=>rfl|c u=>let D:b=a:=U b (by rw[q];simp);subst D;rw[hK (by rw[q];simp)]at e;cases e);let hM:Mod K M (zS s₁.heap H):=(f,N S,(j,N c,p),let (mc,h1,h2):=R;(mc,N h1,h2));let e0:xh P w K M (zS s₁.heap H) callerA [] s₁ H:=(Ŗ,hM,λb o e=>Ua e,iK (IY _ _),Ť,λb c=>Ă (show b∈([]:Ł À)from c) ⋯,Y,.of_eq hg);erw[dO ((F _ f (N S)).run callerA [] s₁ H ([.ref a],[]) [.ref a] [.A a] _ _ hr e0 (t s₁ (.ref a)) (.cons Ŗ .nil) (sS H T hS)) λr s' h=>?_];cases r with|error e=>exact(X H e s' h).elim|ok fl=>cases fl with|next=>rwa[á h]|brk=>rwa[á h]|cont=>rwa[á h]|ret u=>let(v,H',os,g,un,MI,r',q):=h;let q':v=.B true:=q;subst q';obtain rfl:u=Value.bool true:=r';erw[(Ŗ,OldK.of_keep λb o e=>?_,os,g)];cases q:H b with|a=>rwa[un.keep b o e q (by intro z;rwa[Ă (show b∈([]:Ł À)from z) ⋯]) ⋯]|c u=>
     rcases T b with z|⟨ob,xs,z⟩;.lia
     .let(Z,_):=Y b _ z;let(e2,_):=MI b _ (un.nr b ob _ z);rw[e]at Z;cases Z;rwa[e2]
 cases G:K.lookup a with|c o=>let e:=Q a o G;rw[i]at e;cases e;rwa[C _ (λ_=>.inl Ŗ) (.inr (_,_,_,G,Ŗ,Ŗ,Ŗ,nofun,by done)) λb u z=>by done (λb z=>Ă Ŗ z) λz=>Ă Ŗ z]|a=>
  erw[C (λb=>if b=a then O (.lM {cls:=.type "list",data:=.seq vs.toArray} _)else ao) (λb=>?_) (.inl (.inr (_,b5 Ŗ))) (λb u z=>?_) (λb z=>?_) λ_=>G]
  .by_cases c:b=a;.rwa[.inr (_,_,b5 c)]
   .rwa[.inl (bM c)]
  .by_cases c:b=a;.let z':=(b5 c).symm.trans z;cases z';subst c;exact(i,by rw[ae];rwa[hl],vs,_,rv,i)
   .left
  .by_cases c:b=a;.done
   .rwa[Ă (bM c) z]
def We{l:OpenLaw}{K:Params->Ä}{CX:ce->uS}{sp:ce->Sp}(hn:l.most=O n)(Q:n<=Ã)(Z:d.params.defaults=[])(z:ff k callerA)(C:∀(w:ce)(h:È),y w h->(K w.params).In h)(F:∀(w:ce)(m:Å->Ő _)(j:À)(h:È),(K w.params).In h->h.Ns c' m->m d.name=O (.ref j)->∃p:ed,(∀(s:bn)(u:Â),BindsTo s p ([u],[]) [(x,u)])/\∀base:È,(K w.params).In base->base.Ns c' m->iN l.prog w (K w.params) m base (CX w) k j p [x] (sp w))(D:∀(w:ce)(H:Hp)(a:À)(ns:Ł Î),Á ns<=n->Yf H->gA (K w.params) H a (ns.map V.I)->sp w [.A a] H (λv _=>v=.B J) λ_ _ _=>ŧ)(X:∀(w:ce)(H:Hp)(s:bn)(e:Â)(s':bn),CX w [] H s (λ_ _ _=>ŧ) e s'->ŧ):WalkO q L XP y l.row.toRowW d [] λf vs=>PySem.call f vs:=by erw[Att.A5 hn Z λw S r m mb j o pm cd doc a vs ns G Y ho hd ny E M i c N=>?_];let t:=C w _ Y;let(p,P,R):=F w m j _ t G.T.g E;rwa[Np t G.T.g G.T.b G.T.builtins G.T.nolimit N M i (aj c Q) z R P (λH U W=>D w H a ns c U W) λH e s'=>X w H _ e s']
def c8(s:É)(j:Ń):É:=match s with|.ClassDef _ _ _ body _ _ _ _ _ _ _=>body.getD j (.Pass (0,0,0,0))|_=>.Pass (0,0,0,0)
def ij(s:É):Arguments:=match s with|.FunctionDef _ a _ _ _ _ _ _ _ _=>a|_=>{posonlyargs:=[],args:=[],vararg:=ao,kwonlyargs:=[],kw_defaults:=[],kwarg:=ao,defaults:=[]}
def bQ(s:É):Ł É:=match s with|.FunctionDef _ _ b _ _ _ _ _ _ _=>b|_=>[]
def av(s:É):Í:=match s with|.FunctionDef _ _ _ _ _ _ sc _ _ _=>sc|_=>{kind:=.function,names:=[],isGenerator:=bb,isCoroutine:=bb}
abbrev yW:uS:=λ_ _ _ _ _ _=>ŧ
abbrev E0:XK:=λ_ _ _=>ŧ
def aeA:gR yW X E0:=λ_ _ _ _ _ _ _ h=>h.elim
structure CB(K:Ä)(x c3:Å)(st:É)(f:À)(fd:ed):ß where
 ex:∃(oc:Â)(od:Ő À)(kV doc pm:Â)(an:Ő À)(dY ct:Â)(qP:Array (Ő Â)),fd=fnOf x c3 (ij st) (bQ st) (av st) .none kV doc pm an dY ct/\K.lookup f=O (oc,od,.func fd,qP)/\codeIn K dY c3=J
 kp:keepIn K (.ref f)=J
def CB.ok{K:Ä}{mg:db}{base:È}{x l:Å}{st:É}{f:À}{a:ed}{N ps:ϐ}{k:Ń}{sp:Sp}(F:CB K x l st f a)(S:cP N ps (av st))(len:∀vs H Q E,sp vs H Q E->Á vs=Á ps)(g:∀(d:Â)(A:cr)(o:Ł Ø)(s:bn)(H:Hp)(vs:ϕ)(Q:VK)(E:XK),ff k (A.deeper (envOfC l (av st) s.heap.objs.size f d))->sp vs H Q E->∃t,jt (mG yW P w K mg base N l (av st) f d A o s H E).BN (bQ st) t/\t {nx:=λ_ H'=>Q .iq H',rt:=Q} (start N vs) H):iN P w K mg base yW (k+1) f a ps sp:=by let(oc,c,kV,doc,p,e,d,ct,i,rfl,lk,n):=F.ex;erw[ye lk n S len λA o s H vs Q E r b=>?_];let(t,h,q):=g d A _ s H vs Q E r b;exact(t,h.BN,q)
def CB.binds{K:Ä}{st:É}(F:CB K x q st f b)(h:∀(kV doc p:Â)(a:Ő _)(d ct:Â)(us:Ł _),Á us=Á ps->bindArgs (fnOf x q (ij st) (bQ st) (av st) .none kV doc p a d ct) (us,[])=pure (ps.zip us)):Binds K b ps []:=by let(oc,o,kV,doc,p,a,d,ct,Q,rfl,lk,n):=F.ex;rwa[.all (h kV doc p a d ct)]
def ZG{K:Ä}{st:É}{kV:Â}(l:K.lookup f=O (oc,o,.func (fnOf x q (ij st) (bQ st) (av st) .none kV doc p a d ct),Q))(c:codeIn K d q)(k:keepIn K (.ref f)):CB K x q st f (fnOf x q (ij st) (bQ st) (av st) .none kV doc p a d ct):=((oc,o,kV,doc,p,a,d,ct,Q,Ŗ,l,c),k)
def pv{X:Cx}(i:Ń){x:Å}{pos:Ó}(h:ø (X.N[i]?=O x) v0)(H:autoParam (Wz X.env.scope x) ϲ)(d:ø ((x==("__debug__":Å))=bb) P3)(n:ø ((x==("__classdict__":Å))=bb) P3):PE X (.Name x pos) (AH i):=wu h H d n
def iD(H H':Hp):ß:=∀b o,H b=O o->H' b=O o
def iD.refl(H:Hp):iD H H:=λ_ _ h=>h
section
variable(P:cp)(w:ce)
end
section
variable{κ:Type}[DecidableEq κ]
def jF(a:Ł (κ×V))(k:κ):Ő V:=(a.find? λK=>Đ (K.1=k)).map (·.2)
def kg(a:Ł (κ×V))(k:κ)(v:V):Ł (κ×V):=if(a.any λK=>Đ (K.1=k))=J then a.map λK=>if K.1=k then(K.1,v)else K else a++[(k,v)]
def ma{k:κ}(e:p.1=k):jF (p::r) k=O p.2:=by simp[jF,jH,e]
def l0{k:κ}(e:¬p.1=k):jF (p::r) k=jF r k:=by simp[jF,jH,e]
theorem Cu(k:κ):∀a:Ł _,(a.any λK=>Đ (K.1=k))=(jF a k).isSome
 |[]=>Ŗ|p::r=>by
  rw[qh];by_cases e:p.1=k;.simp only[ma e,cM e,Bool.true_or,Option.isSome_some]
  .rw[l0 e,cw e];rwa[Cu k r]
def k6(a:Ł _)(k:κ)(v:V):Á (kg a k v)<=Á a+1:=by
 delta kg;split;.simp
 .simp
def nj.lQ(r:nj o u):o.isSome=u.isSome:=by induction o with
 |a=>induction u with|a=>rfl|c _=>exact(r).elim
 |c _=>induction u with|a=>exact(r).elim|c _=>rfl
theorem nj.getD(r:nj o u)(rd:RelV d d'):RelV (o.getD d) (u.getD d'):=by induction o with
 |a=>induction u with|a=>done|c _=>exact(r).elim
 |c _=>induction u with|a=>exact(r).elim|c _=>rwa[r]
def KV.val(r:KV a vs)(k:κ):nj (jF a k) (valueAt vs k):=by induction r with|f=>done|@g p q ps Q h t i=>
  let(H,c):=h;by_cases e:p.1=k
  .let E:=H.symm.trans e;let b:valueAt (q::Q) k=O q.2:=by simp[valueAt,jH,E]
   rw[ma e,b];rwa[c]
  .let E:¬q.1=k:=λz=>e (H.trans z);let b:valueAt (q::Q) k=valueAt Q k:=by simp[valueAt,jH,E]
   rw[l0 e,b];rwa[i]
theorem KV.any(r:KV a vs)(k:κ):(a.any λK=>Đ (K.1=k))=vs.any λK=>Đ (K.1=k):=by induction r with|f=>rfl|g h t i=>left
def KV.aap(r:KV a vs)(k:κ){y:V}{u:Â}(R:RelV y u):KV (a.map λK=>if K.1=k then(K.1,y)else K) (vs.map λK=>if K.1=k then(K.1,u)else K):=by induction r with|f=>rwa[.nil]|@g p q ps Q h t i=>
  rw[cF,cF];erw[.cons ?_ i];let(H,b):=h;by_cases e:p.1=k;.rw[b5 e,b5 (H.symm.trans e)];exact(H,R)
  .rw[bM e,bM λz=>e (H.trans z)];exact(H,b)
def KV.put{a:Ł _}{vs:Ł _}(r:KV a vs)(k:κ){y:V}{u:Â}(R:RelV y u):KV (kg a k y) (stored vs k u):=by
 delta kg stored;rw[r.any k];by_cases e:(vs.any λK=>Đ (K.1=k))=J;.rw[b5 e,b5 e];rwa[r.aap k R]
 .rw[bM e,bM e];rwa[Paired.snoc r (Ŗ,R)]
def KV.keys{a:Ł (κ×V)}{vs:Ł _}(r:KV a vs):a.map (·.1)=vs.map (·.1):=by induction r with|f=>rfl|g h t i=>left
theorem KV.length{a:Ł (κ×V)}{vs:Ł _}(r:KV a vs):Á a=Á vs:=AK r
end
def sU(r:RelV (kV k) u):(d8 P w).is k u=true:=by induction k with|inl i=>let(t,e):=r;subst e;rwa[sY P w i t]|inr x=>let(t,e):=r;subst e;rwa[sZ P w x t]
theorem yi:∀{K:Ł cs}{us:Ł _},Vals (K.map kV) us->ItemsAre (d8 P w) K us|[],_,r=>by cases r;rwa[.nil]|k::K,_,r=>by cases r with|g h t=>rwa[.cons (sU h) (yi t)]
abbrev KT(H:Hp):Ł (Ł cs×V)->Ł (Ł cs×À×Â)->ß:=Paired λp q=>p.1=q.1/\H q.2.1=O (.T (p.1.map kV))/\RelV p.2 q.2.2
def KT.val(r:KT H a xs)(k:Ł cs):nj (jF a k) ((atKey xs k).map (·.2)):=by induction r with|f=>done|@g p q ps Q h t i=>
  let(c,_,d):=h;by_cases e:p.1=k
  .let E:=c.symm.trans e;let b:atKey (q::Q) k=O q.2:=by simp[atKey,jH,E]
   rw[ma e,b];rwa[d]
  .let E:¬q.1=k:=λz=>e (c.trans z);let b:atKey (q::Q) k=atKey Q k:=by simp[atKey,jH,E]
   rw[l0 e,b];rwa[i]
def KT.aap(r:KT H A xs)(k:Ł cs)(R:RelV y u):KT H (A.map λK=>if K.1=k then(K.1,y)else K) (xs.map (putAt k u)):=by induction r with|f=>rwa[.nil]|@g p q ps Q h t i=>
  rw[cF];erw[.cons ?_ i];let(a,b,c):=h;delta putAt;by_cases e:p.1=k;.rw[b5 e,b5 (a.symm.trans e)];exact(a,b,R)
  .rw[bM e,bM λz=>e (a.trans z)];exact(a,b,c)
def KT.put(r:KT H a xs)(k:Ł cs)(h:H b=O (.T (k.map kV)))(R:RelV y u):KT H (kg a k y) (storedH xs k b u):=by
 let e:(a.any λK=>Đ (K.1=k))=(atKey xs k).isSome:=by rw[Cu,(r.val k).lQ,CO]
 delta kg storedH;rw[e];by_cases q:(atKey xs k).isSome=J;.rw[b5 q,b5 q];rwa[r.aap k R]
 .rw[bM q,bM q];rwa[Paired.snoc r (Ŗ,h,R)]
def KT.keeps(r:KT H a xs)(h:∀b ys,H b=O (.T ys)->H' b=O (.T ys)):KT H' a xs:=Paired.ad2 r λ_ _ z=>(z.1,h _ _ z.2.1,z.2.2)
def XF(ok:kG P w H h)(e:Rd H a u):fF P w H h a u:=e.ok ok
def sQ(ok:kG P w H h)(e:Rd H a (.dK A)):Á A<=Ã/\(a==ft)=bb/\∃vs,KV A vs/\h.DictOf (d8 P w) a vs:=XF ok e
def WO(ok:kG P w H h)(e:H a=O (.dK A)):Á A<=Ã/\(a==ft)=bb/\∃vs,KV A vs/\h.DictOf (d8 P w) a vs:=sQ ok (.inl e)
def oH(ok:kG P w H h)(e:H a=O (.T (k.map kV))):(tupleKind (d8 P w)).is h k a:=by let(_,B,r,o,b,c,n,d):=ok a _ e;exact(o,_,n,b,c,d,by simpa using yi r)
def vt(ok:kG P w H h)(e:Rd H a (.dT A)):Á A<=Ã/\(a==ft)=bb/\∃xs,KT H A xs/\h.DictOfH (tupleKind (d8 P w)) a xs:=by
 let(z,y,xs,r,o,E,c,d,f,g,i,j):=XF ok e;erw[(z,y,xs,r,o,E,c,d,f,g,i,λx b=>?_,j)];let all:∀{l:Ł _}{m:Ł _},KT H l m->∀x∈m,(tupleKind (d8 P w)).is h x.1 x.2.1:=by intro l m q;induction q with|f=>simp|@g p q ps Q k t I=>
   intro x b;rcases ax.mp b with e|b;.rwa[oH ok nofun]
   .rwa[I x b]
 rwa[all r x b]
def WT(ok:kG P w H h)(e:H a=O (.dT A)):Á A<=Ã/\(a==ft)=bb/\∃xs,KT H A xs/\h.DictOfH (tupleKind (d8 P w)) a xs:=vt ok (.inl e)
def rP(H:Hp)(a:À)(y:V)(r:Ő V):ß:=(∃U k,Rd H a (.dK U)/\y=kV k/\r=jF U k)\/∃U k b,Rd H a (.dT U)/\y=.A b/\H b=O (.T (k.map kV))/\r=jF U k
def AY(H:Hp)(a:À)(y v:V)(H':Hp):ß:=(∃U k,H a=O (.dK U)/\y=kV k/\Á U<Ã/\H'=dq H a (.dK (kg U k v)))\/∃U k b,H a=O (.dT U)/\y=.A b/\H b=O (.T (k.map kV))/\Á U<Ã/\H'=dq H a (.dT (kg U k v))
theorem AY.k{H:Hp}{a:À}{A:Ł _}{k:cs}{v:V}(e:H a=O (.dK A))(h:Á A<Ã):AY H a (kV k) v (dq H a (.dK (kg A k v))):=.inl (A,k,e,Ŗ,h,Ŗ)
def AY.t{k:Ł cs}(e:H a=O (.dT U))(E:H b=O (.T (k.map kV)))(h:Á U<Ã):AY H a (.A b) v (dq H a (.dT (kg U k v))):=.inr (U,k,b,e,Ŗ,E,h,Ŗ)
def Inv.big{σ:Ç}(I:Inv X be σ H s):ft<s.heap.objs.size:=by rwa[Nat.lt_trans ∅ (I.mod.glob.keeps I.bk).lt]
def IE{σ:Ç}{E:dC}{Q:dC}(hu:A.units+1<Ï)(I:Inv X be σ H s)(g:rP H a y (O v))(R:RelV y u)(h:∀w' s',Inv X be σ H s'->RelV v w'->Q w' s'):bv (cc X.prog X.w) A (getItem (.ref a) u) Q E s:=by
 rcases g with ⟨U,k,e,c,l⟩|⟨U,k,b,e,c,f,l⟩;.subst c;let(z,i,m,rel,dd):=sQ I.cY e;let(w',d,C):=nj.some_of (by rw[l];rwa[rel.val k]);rwa[HV (sU R) dd.mapOf d (h w' _ (I.tok _) C)]
 .subst c;cases R;let(z,i,x,rel,dd):=vt I.cY e;let(w',d,C):=nj.some_of (by rw[l];rwa[rel.val k]);let(p,j,q):=dF.mp d;erw[wpAny_getItem_heap (jO hu) (oH I.cY f) dd j ?_];rw[q];rwa[h w' _ (I.tok _) C]
def ah7{σ:Ç}{E:dC}{Q:dC}(hu:A.units+1<Ï)(I:Inv X be σ H s)(g:rP H a y o)(R:RelV y u)(h:∀s',Inv X be σ H s'->Q (.bool o.isSome) s'):bv (cc X.prog X.w) A (compareOp .In u (.ref a)) Q E s:=by
 rcases g with ⟨U,k,e,c,l⟩|⟨U,k,b,e,c,f,l⟩;.subst c;let(z,d,i,rel,dd):=sQ I.cY e;erw[wpAny_in_of (sU R) d dd.mapOf ?_];rw[<-(rel.val k).lQ,<-l];rwa[h _ (I.tok _)]
 .subst c;cases R;let(z,d,x,rel,dd):=vt I.cY e;erw[wpAny_in_heap (jO hu) (oH I.cY f) d dd ?_];let q:=(rel.val k).lQ;rw[CO]at q;rw[<-q,<-l];rwa[h _ (I.tok _)]
def RP{σ:Ç}{E:dC}{Q:dC}(hu:A.units+1<Ï)(I:Inv X be σ H s)(g:rP H a y o)(R:RelV y u)(h:∀s',Inv X be σ H s'->Q (.bool !o.isSome) s'):bv (cc X.prog X.w) A (compareOp .NotIn u (.ref a)) Q E s:=by
 rcases g with ⟨U,k,e,c,l⟩|⟨U,k,b,e,c,f,l⟩;.subst c;let(z,d,i,rel,dd):=sQ I.cY e;erw[wpAny_notIn_of (sU R) d dd.mapOf ?_];rw[<-(rel.val k).lQ,<-l];rwa[h _ (I.tok _)]
 .subst c;cases R;let(z,d,x,rel,dd):=vt I.cY e;erw[wpAny_notIn_heap (jO hu) (oH I.cY f) d dd ?_];let q:=(rel.val k).lQ;rw[CO]at q;rw[<-q,<-l];rwa[h _ (I.tok _)]
def zD{σ:Ç}(I:Inv X be σ H s)(m:nS (H a))(h:Û a s.heap h')(e:∃q,h'.get? a=O q)(new:fF X.prog X.w (dq H a c) h' a c):Inv X be σ (dq H a c) {s with heap:=h',toks:=t'}:=I.write m (.inl Ŗ) (λb q d z=>(h.2 b d).trans z) e new
def DK(z:Á U<=Ã)(h:(a==ft)=bb)(R:KV U vs)(dd:h'.DictOf (d8 P w) a vs):fF P w H' h' a (.dK U):=(z,h,vs,R,dd)
def II{σ:Ç}{E:dC}(hu:A.units+1<Ï)(I:Inv X be σ H s)(g:AY H a y v H')(R:RelV y u)(n:RelV v r)(h:∀s',Inv X be σ H' s'->Q ⟨⟩ s'):bv (cc X.prog X.w) A (setItem (.ref a) u r) Q E s:=by
 rcases g with ⟨U,k,e,f,l,i⟩|⟨U,k,b,e,f,p,l,i⟩
 .subst f i;let(z,j,x,rel,dd):=WO I.cY e;let B:Á x<=Ã:=by rw[<-rel.length];rwa[z]
  rwa[wpAny_setItem_pairs (sU R) dd λC Z m=>h _ (zD I (by rw[e];rwa[ç]) m (let (q,_,_,d,_):=Z;(q,d)) (DK (by let:=k6 U k v;omega) j (rel.put k n) Z))]
 .subst f i;cases R;let(z,j,D,rel,dd):=WT I.cY e;let B:Á D<=Ã:=by rw[<-AK rel];rwa[z]
  erw[wpAny_setItem_heap (jO hu) (oH I.cY p) dd λC Z m=>h _ ?_];let(q,F,G,d,K,L,M,_,N):=Z;erw[zD I (by rw[e];rwa[ç]) m (q,d) (by let:=k6 U k v;omega,j,_,(rel.put k p n).keeps λc Y t=>?_,q,F,G,d,K,L,M,N)];rw[bA (ad6 t e λz=>nomatch z)];rwa[t]
def acC{σ:Ç}{E:dC}{Q:dC}(I:Inv X be σ H s)(e:Rd H a (.dK aU))(h:∀t s',Inv X be σ H s'->Q (.int (Á aU) t) s'):bv (cc X.prog X.w) A (call (.builtin "len") [.ref a]) Q E s:=by let(z,d,v,rel,dd):=sQ I.cY e;erw[call_len_dict d dd (by rw[<-rel.length];rw[jZ]at z;omega) ?_];rw[<-rel.length];rwa[h _ _ (I.tok _)]
def Ye(i:Æ):ß:=∀o I,subscripted i bb o I=operate [o,I] (getItem o I)
def VC{E:dC}{id:String}{Q:dC}(l:typeLookup (.type T) "__getitem__"=pure (O (.builtin id)))(f:Ye S)(h:bv (cc prog w) A (Ê v env) (λo b=>bv (cc prog w) A (Ê S env) (λi a=>a.TypeIs o T/\bv (cc prog w) A (getItem o i) Q E a) E b) E s):bv (cc prog w) A (Ê (.Subscript v S pos) env) Q E s:=by erw[Subscript_ (cV h (λo b c=>cV c (λi a H=>?_) λ_ _ x=>x) λ_ _ x=>x)];let(g,H):=H;erw[aa ?_];erw[aa (K0 g l ?_)];first|rwa[ai (aa (by rw[f o i];rwa[wpAny_operating (cV H (λr e d=>aa (wpAny_letTemporaryGo (ai d))) λ_ _ x=>x)]))]|rfl|rfl
def Bl{p:Ł _}{σ:Ç}(I:Inv X p σ H s)(g:rP H a y o):s.TypeIs (.ref a) "dict":=by
 rcases g with ⟨A,k,e,_,_⟩|⟨A,k,b,e,_,_,_⟩;.let(_,_,v,_,dd):=sQ I.cY e;rwa[dd.typeIs]
 .let(_,_,x,_,dd):=vt I.cY e;rwa[dd.typeIs]
def Ş(t ty:TE):TE:=λσ H Q=>t σ H λx b=>ty σ b λy h=>∃a v,x=.A a/\rP h a y (O v)/\Q v h
def ϥ(ty t:TE):TE:=λσ H Q=>ty σ H λy b=>t σ b λx h=>∃a o,x=.A a/\rP h a y o/\Q (.B o.isSome) h
def VD(ty t:TE):TE:=λσ H Q=>ty σ H λy b=>t σ b λx h=>∃a o,x=.A a/\rP h a y o/\Q (.B !o.isSome) h
def O8(t ty T:TE):TS:=λD σ H=>T σ H λv b=>t σ b λx c=>ty σ c λy d=>∃a h,x=.A a/\AY d a y v h/\D.nx σ h
def Ut{X:Cx}{o i:Æ}{pos:Ó}{td ty:TE}(hu:X.A.units+1<Ï)(c:PE X o td)(hi:PE X i ty)(d:autoParam (Ye i) Ğ):PE X (.Subscript o i pos) (Ş td ty):=by intro p s σ H Q I h;erw[VC pJ.lookup d (kh (c _ s σ H _ I h) λu s1 x f j r q=>kh (hi _ s1 σ f _ j q) λn s2 y k b R a=>?_)];let(a,v,ex,g,l):=a;subst ex;obtain rfl:u=Ð a:=r;exact(Bl b g,IE hu b g R λw s3 m C=>(v,k,m,C,l))
def EJ(hu:X.A.units+1<Ï)(hi:PE X i ty)(b:PE X o td):PC X .In i o (ϥ ty td):=by intro p s σ H Q I h;erw[kh (hi _ s σ H _ I h) λv s1 y c d r q=>kh (b _ s1 σ c _ d q) λu s2 x f j R a=>?_];let(a,m,ex,g,k):=a;subst ex;obtain rfl:u=Ð a:=R;rwa[ah7 hu j g r λs3 l=>(.B _,f,l,Ŗ,k)]
def Jv(hu:X.A.units+1<Ï)(hi:PE X i ty)(b:PE X o td):PC X .NotIn i o (VD ty td):=by intro p s σ H Q I h;erw[kh (hi _ s σ H _ I h) λv s1 y c d r q=>kh (b _ s1 σ c _ d q) λu s2 x f j R a=>?_];let(a,m,ex,g,k):=a;subst ex;obtain rfl:u=Ð a:=R;rwa[RP hu j g r λs3 l=>(.B _,f,l,Ŗ,k)]
def Hk(hu:X.A.units+1<Ï)(b:PE X o td)(hi:PE X i ty)(c:PE X eq tv)(d:hF eq (O (.Subscript o i pos')) pos.line X.env=pure bb):PS X (.Assign [.Subscript o i pos'] eq pos) (O8 td ty tv):=by intro p s σ H D I h;erw[wpAny_Assign_Subscript (kh (c _ s σ H _ I h) λr s1 v f j R q=>kh (b _ s1 σ f _ j q) λu s2 x k l m Q=>kh (hi _ s2 σ k _ l Q) λC s3 y E n t a=>?_) d];let(a,w,ex,g,z):=a;subst ex;obtain rfl:u=Ð a:=m;rwa[II hu n g t R λS B=>(σ,w,B,z)]
def LZ(h:È)(b:ft<h.objs.size):fF P w H (h.push {cls:=.type "dict",data:=.dict #[]}) h.objs.size (.dK []):=(aN _,da.mpr (c4 (aP b)),[],.nil,Heap.DictOf.new h)
def Ma(h:È)(b:ft<h.objs.size):fF P w H (h.push {cls:=.type "dict",data:=.dict #[]}) h.objs.size (.dT []):=(aN _,da.mpr (c4 (aP b)),[],.nil,_,#[],0,aA _ Ŗ,(Ŗ,Ŗ,Ŗ),Ŗ,Ŗ,iA)
def aaM:TE:=λ_ H Q=>∀p,H p=ao->Q (.A p) (dq H p (.dK []))
def š:TE:=λ_ H Q=>∀p,H p=ao->Q (.A p) (dq H p (.dT []))
def wt:PE X (.Dict [] [] pos) aaM:=λp s σ H Q I h=>wpAny_Dict_empty (.A _,_,I.laid (λ_ _ q=>af _ q) (ah _) (LZ _ I.big),Ŗ,h _ (I.cY.fresh (ah _)))
def N8:PE X (.Dict [] [] pos) š:=λp s σ H Q I h=>wpAny_Dict_empty (.A _,_,I.laid (λ_ _ q=>af _ q) (ah _) (Ma _ I.big),Ŗ,h _ (I.cY.fresh (ah _)))
def j9(A more:Ł (cs×V)):Ł (cs×V):=more.foldl (λa k=>kg a k.1 k.2) A
def KV.merge:∀{m:Ł _}{R:Ł _}{a:Ł _}{vs:Ł _},KV m R->KV a vs->KV (j9 a m) (merged vs R):=by intro m R a vs r;induction r generalizing a vs with|f=>intro q;rwa[q]|@g p q ps Q h t i=>
  intro b;let e:KV (kg a p.1 p.2) (stored vs q.1 q.2):=by let:=b.put p.1 h.2;rw[<-h.1];rwa[this]
  rwa[i e]
theorem pD:∀(m a:Ł _),Á (j9 a m)<=Á a+Á m|[],a=>by show(Á a)<=Á a+0;omega|p::r,a=>by let h1:=pD r (kg a p.1 p.2);let h2:=k6 a p.1 p.2;show(Á (j9 (kg a p.1 p.2) r))<=_;rw[aR];omega
structure M2(X:Cx)(o:Æ)(m:Å)(cN:Ó)(e f:Æ)(dI:Ó):ß where
 base:g6 o m X.env (Ê o X.env)=Ê o X.env
 few:((e9 dI (d4 [e,f] X.env)).all (λx=>!x.1)&&(backToKw dI (hX [] X.env)).all (λx=>x.1.isSome)&&Đ (Á ([e,f]:Ł Æ)+Á ([]:Ł g5)+(if([]:Ł g5).isEmpty then 0 else 1)<30))=J
 line:(cN.endLine==dI.line)=J
 trees:e9 dI (d4 [e,f] X.env)=[(bb,Ê e X.env),(bb,Ê f X.env)]
def eK(H:Hp)(a:À):ß:=(∃A,Rd H a (.dK A))\/∃A,Rd H a (.dT A)
def MT{p:Ł _}{σ:Ç}(I:Inv X p σ H s)(d:eK H a):s.TypeIs (.ref a) "dict"/\(∀b,Ð a=.ref b->∃o,s.heap.get? b=O o/\o.dict=ao)/\(a==ft)=false:=by
 rcases d with ⟨A,e⟩|⟨A,e⟩;.let(_,h,v,_,dd):=sQ I.cY e;erw[(dd.typeIs,λb q=>?_,h)];cases q;let(o,_,_,c,f,_):=dd;exact(o,c,f.2.1)
 .let(_,h,x,_,dd):=vt I.cY e;erw[(dd.typeIs,λb q=>?_,h)];cases q;let(o,_,_,c,f,_):=dd;exact(o,c,f.2.1)
def YZ{σ:Ç}{E:dC}{Q:dC}(hu:A.units+1<Ï)(I:Inv X be σ H s)(g:rP H a y o)(R:RelV y u)(rd:RelV d r)(h:∀w' s',Inv X be σ H s'->RelV (o.getD d) w'->Q w' s'):bv (cc X.prog X.w) A (call (.builtin "dict.get") [.ref a,u,r]) Q E s:=by
 rcases g with ⟨U,k,e,c,l⟩|⟨U,k,b,e,c,i,l⟩;.subst c;let(z,f,v,rel,dd):=sQ I.cY e;erw[CP g8 dd.typeIs tG (rL _ _ _) (ŋ _ a (sU R) f r) (_,dd.mapOf,h _ _ (I.tok _) ?_)];rw[l];exact(rel.val k).getD rd
 .subst c;cases R;let(z,f,x,rel,dd):=vt I.cY e;erw[CP g8 dd.typeIs tG (rL _ _ _) (meetsH_dict_get_default _ a b f r) (jO hu,k,x,oH I.cY i,dd,h _ _ (I.tok _) ?_)];rw[l];exact(rel.val k).getD rd
def PD(t ty T:TE):TE:=λσ H Q=>t σ H λx h=>∃a,x=.A a/\eK h a/\ty σ h λy c=>T σ c λz b=>∃o,rP b a y o/\Q (o.getD z) b
def N7(hu:X.A.units+1<Ï)(b:PE X o td)(c:PE X e ty)(j:PE X f tx)(m:M2 X o "get" cN e f dI):PE X (.Call (.Attribute o "get" cN) [e,f] [] dI) (PD td ty tx):=by intro p s σ H Q I h;erw[wpAny_Call_method m.base m.few m.line rN g8 Ć (kh (b _ s σ H _ I h) λu s1 x k i r a=>?_)];let(a,ex,d,q):=a;subst ex;obtain rfl:u=Ð a:=r;let(t,T,_):=MT i d;erw[(t,T,?_)];rw[m.trees];rwa[kn Ŗ (fG (dP (kh (c _ s1 σ k _ i q) λG s2 y l n R v=>dP (kh (j _ s2 σ l _ n v) λK s3 z w B C Z=>Z.elim λL Z=>Z.elim λg D=>hV (YZ hu B g R C λW S E F=>(_,w,E,F,D))))))]
end L2
namespace Att
open PySem.W PySem.Calls
end Att
namespace L2
def QR(h:È)(a:À)(b:Array Â):ß:=∃(o:Ù)(n:Ń),h.get? a=O o/\o.cls=.type "tuple"/\o.dict=ao/\o.data=.seq b n
def Ih(a:À)(bs:Ł À):HO:=.ext λh=>QR h a (bs.map Ð).toArray
def qx(cells:Ł (Å×À))(names:Ł (Å×NameKind))(acc:Ł (Å×À)):Ł (Å×À):=match names with|[]=>acc|(n,k)::r=>qx cells r (if k==.free then(n,(cells.lookup n).getD 0)::acc else acc)
theorem qy:∀{names:Ł _}{acc:Ł _},(∀y∈names,y.2=.free->∃c,cells.lookup y.1=O c)->(∀x c,acc.lookup x=O c->cells.lookup x=O c)->∀x c,(qx cells names acc).lookup x=O c->cells.lookup x=O c
 |[],acc,_,h,x,c,e=>h x c e|(n,k)::r,acc,H,h,x,c,e=>by
  erw[qy (λy a=>H y (aG _ a)) ?_ x c e];intro X C E;by_cases b:k=.free;.subst b;let(d,f):=H _ aJ Ŗ;induction g:X==n with|d=>grind|e=>grind
  .grind
theorem vk:∀{names:Ł _}{acc:Ł _}{x:Å},(∃c,acc.lookup x=O c)\/(x,å)∈names->∃c,(qx cells names acc).lookup x=O c
 |[],acc,x,h=>by
  rcases h with h|h;.rwa[h]
  .grind|(n,k)::r,acc,x,h=>by
  delta qx;erw[vk ?_];by_cases H:k=.free;.subst H;simp only[iL,qd,iJ];induction a:x==n with|d=>lia|e=>grind
  .grind
theorem pk:∀{names:Ł _}{acc:Ł _},(∀y∈names,y.2=.free->∃c,env.cells.lookup y.1=O c)->(forIn names acc λ(x:Å×NameKind)r=>if x.2==.free then(do let a<-cellOf env x.1;pure (ô ((x.1,a)::r)))else pure (ô r))=pure (qx env.cells names acc)
 |[],acc,_=>Ŗ|(n,k)::r,acc,h=>by
  rw[jI];let i:=λY=>pk (acc:=Y) λy H=>h y (aG _ H);by_cases b:k=.free;.subst b;let(c,d):=h _ aJ Ŗ;simp only[iL,qd,cellOf,d,pure_bind,qx,Option.getD_some];rwa[i _]
  .let e:(k==å)=false:=()
   simp only[e,fw,kx,pure_bind,qx];rwa[i _]
def Dx(h:∀y∈s.names,y.2=.free->∃c,env.cells.lookup y.1=O c):closureFor s env=pure (qx env.cells s.names []):=by exact(bU (λm:Sem _=>m>>=λC=>pure C) (pk (acc:=[]) h)).trans Ŗ
def ig(X:Cx)(n:ϐ)(s:Í)(f:Ł À)(s₀:bn)(H₀:Hp):Cx:={X with N:=n,s₀:=s₀,H₀:=H₀,env:=compEnvC s (qx X.env.cells s.names []) s₀.heap.objs.size X.env,outer:=X.stack,ex:=f,fn:=λ_=>bb,pn:=[],xe:=λ_ _=>ŧ}
structure eO(X:Cx)(N':ϐ)(scope:Í):ß where
 kind:scope.kind=.function
 nd:N'.Nodup
 NQ:∀y∈scope.names,y.2≠.cell
 loc:∀y∈scope.names,y.2=.local->scope.names.lookup y.1=O .local
 fre:∀y∈scope.names,y.2=.free->X.env.kindOf y.1=O .cell
 own:∀x,(x,å)∈scope.names->(relabel scope X.env).names.lookup x≠O .local
def Ax(H:∀y∈s.names,y.2≠.cell)(h:(relabel s env).names.lookup x=O .cell\/(relabel s env).names.lookup x=O .free):(x,å)∈s.names:=by
 let key:∀(l:Ł (Å×NameKind)),(∀y∈l,y.2≠.cell)->∀k,k=.cell\/k=.free->(l.map λ(n,k)=>if k==å&&env.scope.kind==.function&&env.kindOf n==O .cell then(n,NameKind.cell)else(n,k)).lookup x=O k->(x,å)∈l:=by intro l;induction l with|f=>intro _ k _ e;cases e|g y r i=>
   let(n,K):=y;intro H k c e;let hr:=λy d=>H y (aG _ d);let f:=H _ aJ;rw[cF]at e;by_cases q:(K==å&&env.scope.kind==.function&&env.kindOf n==O .cell)=J
   .simp only[q,qd,iJ]at e;let hf:=by let:=(aK _ _▸(aK _ _▸q).1).1;simpa using this
    cases a:x==n with|d=>left|e=>rw[a]at e;rwa[aG _ (i hr k c e)]
   .let b:(K==å&&env.scope.kind==.function&&env.kindOf n==O .cell)=false:=by simpa using q
    simp only[b,fw,kx]at e;rw[iJ]at e;cases a:x==n with|d=>left|e=>rwa[aG _ (i hr k c (by rw[a]at e;rwa[e]))]
 rcases h with h|h;.rwa[key _ H _ (.inl Ŗ) h]
 .rwa[key _ H _ (.inr Ŗ) h]
def k9(X:Cx)(N':ϐ)(scope:Í)(σ σ':Ç):ß:=Á σ'=Á N'/\∀(i:Ń)(x:Å)(v:V),N'[i]?=O x->σ'[i]?=O (O v)->(x,å)∈scope.names/\∃(j:Ń),X.N[j]?=O x/\σ[j]?=O (O v)
def Rq{σ:Ç}{fp:Ł À}(S:eO X N' scope)(I:Inv X be σ H s)(f:∀b∈fp,mr X be H b)(g:∀b∈fp,b<s.heap.objs.size):(ig X N' scope fp s H).Ok:=by
 let sub:=qy (acc:=[]) (λy i k=>I.ok.has y.1 (.inl (S.fre y i k))) (λx c e=>by cases e);erw[(I.ok.mod,S.kind,I.ok.glob,I.ok.blt,ah _,λx y c E j=>I.ok.inj x y c (sub x c E) (sub y c j),λx l=>vk (.inr (Ax S.NQ l)),λx c p=>?_,I.ok.hd,I.ok.frames,.inl Ŗ,λb h=>?_,I.bs,aj I.ok.zg I.sz,λb o e h=>?_,λb h m=>?_,I.stack,I.qX)];.done
 .let(_,L,_,_,n,_):=f b h;exact(λe=>Ă (g b h) (by rw[e];rwa[cR _]),λx c e=>n x c (sub x c e))
 .let(_,_,_,a,_):=f b h;rcases a with a|a;.rwa[I.ok.sk b o e a]
  .rwa[Ă (bp (ay e) (aj I.ok.zg a)) (cR _)]
 .let(_,L,d,_):=f b h;rcases ax.mp (I.wG b m)with z|z;.rwa[L z]
  .rwa[d z]
def Lu{σ:Ç}{fp:Ł À}(S:eO X N' scope)(I:Inv X be σ H s)(t:∀b∈fp,mr X be H b)(w:∀b∈fp,b<s.heap.objs.size)(n:k9 X N' scope σ σ')(hn:d.Ns s.heap.objs.size λ_=>ao)(h:∀b o,s.heap.get? b=O o->d.get? b=O o):Inv (ig X N' scope fp s H) [] σ' H {s with heap:=d,toks:=T}:=by
 let sub:=qy (acc:=[]) (λy A h=>I.ok.has y.1 (.inl (S.fre y A h))) (λx c e=>by cases e);erw[(Rq S I t w,Ŗ,I.bare,Un.kept h,(_,hn,λi x v B C D=>?_),λx c e=>?_,I.fresh,λx c e=>I.fT x c (sub x c e),λp F=>Ă (show p∈[]from F) ⋯,I.cY.kept h,n.1)]
 .let(f,j,G,K):=n.2 i x v B C;let(m,_,L):=I.loc;let g:=S.fre _ f Ŗ;let(u,r,l):=L j x v G K (.inr (.inl g));erw[(u,r,.inr ?_)];rcases l with ⟨k,_⟩|⟨_,c,M,z⟩;.left
  .let(N,E):=vk (.inr f);let a:=sub x N E;rw[M]at a;cases a;erw[(?_,c,E,z.keeps h)];rcases D with q|q|q;.exfalso;rwa[S.own x f q]
   .rwa[.inl q]
   .rwa[.inr q]
 .let(v,z):=I.cell x c (sub x c e);exact(v,z.keeps h)
def nG(X:Cx)(i:Ł Æ)(t:TT):ß:=∀(p:Ł _)(s:bn)(σ:Ç)(H:Hp)(Q:Þ->Hp->ß),Inv X p σ H s->t σ H Q->bv (cc X.prog X.w) X.A (forIn i J λc r=>if r=J then(do let ok<-isTrue c X.env (Ê c X.env);pure (ô ok))else pure (ô r)) (TP X p σ Q) X.xe s
def Oz:nG X [] λ_ H Q=>Q J H:=by intro p s σ H Q I h;rwa[ai (H,I,h)]
def OA(h:PT X c t):nG X [c] t:=by intro p s σ H Q I a;rw[jI];rwa[aa (aa (iZ (h _ s σ H Q I a) λb s1 q=>ai (ai q)))]
def tD(wi:TI)(g:TG)(t:TT)(T:TE)(e:Ç->Ç):TE:=λσ H Q=>wi σ H λj f=>∀a,f a=ao->∃W:Ń->Ń->Ç->ϕ->Hp->ß,(∃m,W 0 m (e σ) [] (dq f a (.L [])))/\∀i m d Y h,W i m d Y h->h a=O (.L Y)/\(j.stop i h/\Q (.A a) h\/j.go i h/\Á Y<Ã/\∀x k,j.yld i h x k->g x d k λc o=>t c o λb l=>if b=J then T c l λy n=>n a=O (.L Y)/\∃M,M<m/\W (i+1) M c (Y++[y]) (dq n a (.L (Y++[y])))else ∃M,M<m/\W (i+1) M c Y l)
def uw(ok:kG P w H h)(a:H C=ao)(s:Û C h h'):kG P w H h':=λb o e=>(ok b o e).tY (λc u d q=>(s.2 c ()).trans q) (λ_ q=>q) λ_ _ q=>q
section
variable{P:cp}{w:ce}{A:cr}{E:dC}{s:bn}
def vq{Q:dC}(hd:s.heap.IsTupleIter d t k)(a:s.heap.IsTuple t b)(hu:b[k]?=O u)(c:∀h,h.IsTupleIter d t (k+1)->Û d s.heap h->Q u {s with heap:=h}):bv (cc P w) A (q0' (.ref d)) Q E s:=by let(o,B,W,S):=id hd;let(e,H,_,n,Z):=a;erw[aa (bY hd.typeIs dZ (bZ dZ hd.typeIs nD ?_ (mX _)))];show bv _ _ (field _ 0>>=_) _ _ s;erw[aa (b7 B S (x:=.ref t) Ŗ ?_)];erw[aa (b7 B S (x:=.int k 0) Ŗ ?_)];erw[aa (d7 H Z ?_)];simp only[fH,hu];erw[aa (cO B S ⋯ (ai (u,Ŗ,ai (c _ (_,bF _ B (cZ (bP S _)),(kr ..).trans W,?_) (cq ..)))))];rw[bP S];simp[ef]
def qE{Q:dC}(c:A.handled=ao)(hd:s.heap.IsTupleIter d t k)(f:s.heap.IsTuple t b)(hu:b[k]?=ao)(g:∀h e,é d s.heap h->(∃o,h.get? e=O o/\o.cls=.type "StopIteration")->E (.ref e) {s with heap:=h}):bv (cc P w) A (q0' (.ref d)) Q E s:=by
 let(i,B,W,S):=id hd;let(j,H,_,n,Z):=f;erw[aa (bY hd.typeIs dZ (bZ dZ hd.typeIs nD ?_ (mX _)))];show bv _ _ (field _ 0>>=_) _ _ s;erw[aa (b7 B S (x:=.ref t) Ŗ ?_)];erw[aa (b7 B S (x:=.int k 0) Ŗ ?_)];erw[aa (d7 H Z ?_)];simp only[fH,hu];erw[aa (jQ (aa (cO B S ⋯ ?_)))];erw[aa ?_];erw[aa (bW ?_ (by size_fits))];erw[aa (mq (a:=Ô) Ŗ ?_)];erw[bW ?_ (by size_fits)];erw[aa (ql ?_)];first|rw[c]|rfl
 rwa[aa (ai (qf (g _ _ (((cq ..).extBut.push _).push _) (_,aA _ Ŗ,Ŗ))))]
structure Ql(z a b c d:À):ß where
 az:a≠z
 bz:b≠z
 cz:c≠z
 dz:d≠z
 ab:a≠b
 ac:a≠c
 ad:a≠d
 bc:b≠c
 bd:b≠d
 cd:c≠d
structure CC(e:È->À->À->Ń->ß)(h:È)(z a b c d t1 t2:À)(k:Ń)(f0:Â):ß where
 zip:IsZip h z a b f0
 bT:IsPair h a (.ref c) (.ref d)own:∃x y,IsPair h b x y
 i1:e h c t1 k
 i2:e h d t2 k
def Qg{Q:dC}(D:Ql z a b c d)(Z:CC î s.heap z a b c d t T k .none)(o1:t≠z/\t≠b/\t≠c/\t≠d)(r:T≠z/\T≠b/\T≠c/\T≠d)(GF:s.heap.IsTuple t xs)(Jd:s.heap.IsTuple T ys)(hx:xs[k]?=O x)(hy:ys[k]?=O y)(hQ:∀H,CC î H z a b c d t T (k+1) (ef s.heap.objs.size)->IsPair H s.heap.objs.size x y->(∀e o,e≠z->e≠b->e≠c->e≠d->s.heap.get? e=O o->H.get? e=O o)->Q (.ref s.heap.objs.size) {s with heap:=H}):bv (cc P w) A (Builtin.«zip.__next__» ([.ref z],[])) (λF s'=>∃v,F=.done (.ret v)/\Q v s') E s:=by
 obtain⟨h,N,⟨p,q,zo⟩,z1,z2⟩:=Z;show bv _ _ (field (.ref z) 2>>=_) _ _ _;erw[aa (b7 h Ŗ (x:=.bool bb) Ŗ ?_)];show bv _ _ (field (.ref z) 3>>=_) _ _ _;erw[aa (b7 h Ŗ (x:=.ref a) Ŗ ?_)];erw[aa (d7 N Ŗ ?_)];show bv _ _ (q2' (.ref z)>>=_) _ _ _;erw[aa ?_];delta q2';erw[aa (b7 h Ŗ (x:=.none) Ŗ (ai ?_))];simp only[qd];erw[aa (jQ ?_)];erw[aa (b7 h Ŗ (x:=.ref b) Ŗ ?_)];erw[aa (gI h ⋯ λk1 B s1=>?_)];replace B:IsZip k1 z a b .ellipsis:=B;erw[aa ?_];simp only[List.zipIdx_cons,List.zipIdx_nil,jI,List.forIn_nil];erw[aa (aa (AM ?_))];show bv _ _ (q0' (.ref c)>>=_) _ _ _;erw[aa (vq (z1.extBut s1.extBut D.cz) (GF.extBut s1.extBut o1.1) hx λk2 y2 s2=>ai ?_)];let W:IsPair k2 b p q:=s2.extBut _ _ D.bc (s1.extBut _ _ D.bz zo);erw[aa (d7 W Ŗ ?_)];erw[aa (w9 W λk3 C s3=>?_)];replace C:IsPair k3 b x q:=C;erw[aa (Cf (ai ?_))];erw[aa (aa (AM ?_))];show bv _ _ (q0' (.ref d)>>=_) _ _ _;erw[aa (vq (((z2.extBut s1.extBut D.dz).extBut s2.extBut D.cd.symm).extBut s3.extBut D.bd.symm) (((Jd.extBut s1.extBut r.1).extBut s2.extBut r.2.2.1).extBut s3.extBut r.2.1) hy λk4 y4 S=>ai ?_)];let R:IsPair k4 b x q:=S.extBut _ _ D.bd C;erw[aa (d7 R Ŗ ?_)];erw[aa (w9 R λK Y i=>?_)];replace Y:IsPair K b x y:=Y;erw[aa (Cf (ai (ai ?_)))];erw[aa (d7 Y Ŗ ?_)];erw[aa (QL ?_)];let sz:K.objs.size=s.heap.objs.size:=by rw[i.1,S.1,s3.1,s2.1,s1.1]
 let j:=i.extBut _ _ D.bz.symm (S.extBut _ _ D.dz.symm (s3.extBut _ _ D.bz.symm (s2.extBut _ _ D.cz.symm B)));let u:∀e o,e≠z->e≠b->e≠c->e≠d->s.heap.get? e=O o->K.get? e=O o:=λe o f m G I g=>i.extBut _ _ m (S.extBut _ _ I (s3.extBut _ _ m (s2.extBut _ _ G (s1.extBut _ _ f g))));let l:=ay j;show bv _ _ (q1' _ (.ref K.objs.size)>>=_) _ _ _;erw[aa ?_];erw[aa (gI (af _ j) ⋯ λk7 L U=>?_)];replace L:IsZip k7 z a b _:=L;erw[gI L ⋯ λM n X=>?_];replace n:IsZip M z a b _:=n;let up:∀e o,e≠z->K.get? e=O o->M.get? e=O o:=λe o f g=>X.extBut _ _ f (U.extBut _ _ f (af _ g));let t8:=X.extBut _ _ (eW l) (U.extBut _ _ (eW l) (aA _ Ŗ));rw[sz]at n t8;erw[ai (_,Ŗ,?_)];rw[sz];rwa[hQ M (n,up _ _ D.az (u _ _ D.az D.ab D.ac D.ad N),(x,y,up _ _ D.bz Y),(((y2.extBut s3.extBut D.bc.symm).extBut S.extBut D.cd).extBut i.extBut D.bc.symm).at λo g=>up _ o D.cz g,(y4.extBut i.extBut D.bd.symm).at λo g=>up _ o D.dz g) t8 λe o f m G I g=>up e o f (u e o f m G I g)]
def Wi(C:A.handled=ao)(D:Ql z a b c d)(Z:CC î s.heap z a b c d t T k .none)(o1:t≠z/\t≠b/\t≠c/\t≠d)(l:T≠z/\T≠b/\T≠c/\T≠d)(G:s.heap.IsTuple t xs)(R:s.heap.IsTuple T ys)(U:xs[k]?=ao\/ys[k]?=ao)(I:∀m e,(∀f o,f≠z->f≠b->f≠c->f≠d->s.heap.get? f=O o->m.get? f=O o)->(∃o,m.get? e=O o/\o.cls=.type "StopIteration")->E (.ref e) {s with heap:=m}):bv (cc P w) A (Builtin.«zip.__next__» ([.ref z],[])) Q E s:=by obtain⟨j,X,⟨p,q,Y⟩,K,z2⟩:=Z;show bv _ _ (field (.ref z) 2>>=_) _ _ _;erw[aa (b7 j Ŗ (x:=.bool bb) Ŗ ?_)];show bv _ _ (field (.ref z) 3>>=_) _ _ _;erw[aa (b7 j Ŗ (x:=.ref a) Ŗ ?_)];erw[aa (d7 X Ŗ ?_)];show bv _ _ (q2' (.ref z)>>=_) _ _ _;erw[aa ?_];delta q2';erw[aa (b7 j Ŗ (x:=.none) Ŗ (ai ?_))];simp only[qd];erw[aa (jQ ?_)];erw[aa (b7 j Ŗ (x:=.ref b) Ŗ ?_)];erw[aa (gI j ⋯ λk1 y s1=>?_)];replace y:IsZip k1 z a b .ellipsis:=y;erw[aa ?_];simp only[List.zipIdx_cons,List.zipIdx_nil,jI,List.forIn_nil];erw[aa (aa (AM ?_))];induction L:xs[k]? with
 |a=>erw[aa (qE C (K.extBut s1.extBut D.cz) (G.extBut s1.extBut o1.1) L λk2 e s2 n=>?_)];let(r,H,i):=n;let u:IsZip k2 z a b _:=s2 _ _ D.cz.symm y;rwa[gI u ⋯ λM _ s3=>I M e (λf o F _ v _ g=>s3.extBut _ _ F (s2 _ _ v (s1.extBut _ _ F g))) (r,s3.extBut _ _ λg=>by lia H,i)]
 |c x=>erw[aa (vq (K.extBut s1.extBut D.cz) (G.extBut s1.extBut o1.1) L λk2 y2 s2=>ai ?_)];let W:=s2.extBut _ _ D.bc (s1.extBut _ _ D.bz Y);erw[aa (d7 W Ŗ ?_)];erw[aa (w9 W λM y3 s3=>?_)];erw[aa (Cf (ai ?_))];erw[aa (aa (AM ?_))];erw[aa (qE C (((z2.extBut s1.extBut D.dz).extBut s2.extBut D.cd.symm).extBut s3.extBut D.bd.symm) (((R.extBut s1.extBut l.1).extBut s2.extBut l.2.2.1).extBut s3.extBut l.2.1) (by
   rcases U with h|h;.lia
   .rwa[h]) λk4 e S n=>?_)];let(r,H,i):=n;let B:IsZip k4 z a b _:=S _ _ D.dz.symm (s3.extBut _ _ D.bz.symm (s2.extBut _ _ D.cz.symm y));rwa[gI B ⋯ λk5 _ N=>I k5 e (λf o F f2 v f4 g=>N.extBut _ _ F (S _ _ f4 (s3.extBut _ _ f2 (s2.extBut _ _ v (s1.extBut _ _ F g))))) (r,N.extBut _ _ λg=>by lia H,i)]
def Qh(D:Ql z a b c d)(Z:CC î s.heap z a b c d t T k .none)(o1:t≠z/\t≠b/\t≠c/\t≠d)(f:T≠z/\T≠b/\T≠c/\T≠d)(G:s.heap.IsTuple t xs)(j:s.heap.IsTuple T ys)(g:xs[k]?=O x)(i:ys[k]?=O y)(l:∀h,CC î h z a b c d t T (k+1) (ef s.heap.objs.size)->IsPair h s.heap.objs.size x y->(∀e o,e≠z->e≠b->e≠c->e≠d->s.heap.get? e=O o->h.get? e=O o)->Q (O (.ref s.heap.objs.size)) {s with heap:=h}):bv (cc P w) A (eR (.ref z)) Q E s:=by let H:s.TypeIs (.ref z) _:=(_,Z.zip,Ŗ);rwa[aa (eD (bY H uf (bZ uf H F.entry_zip_next (Qg D Z o1 f G j g i λh q m n=>ai (l h q m n)) (F.args_zip_next_1 _))))]
def Qi(g:A.handled=ao)(D:Ql z a b c d)(Z:CC î s.heap z a b c d t T k .none)(o1:t≠z/\t≠b/\t≠c/\t≠d)(i:T≠z/\T≠b/\T≠c/\T≠d)(G:s.heap.IsTuple t xs)(j:s.heap.IsTuple T ys)(M:xs[k]?=ao\/ys[k]?=ao)(l:∀h,(∀f o,f≠z->f≠b->f≠c->f≠d->s.heap.get? f=O o->h.get? f=O o)->Q ao {s with heap:=h}):bv (cc P w) A (eR (.ref z)) Q E s:=by let H:s.TypeIs (.ref z) _:=(_,Z.zip,Ŗ);erw[aa (eD (bY H uf (bZ uf H F.entry_zip_next (Wi g D Z o1 i G j M λh e m n=>?_) (F.args_zip_next_1 _))))];let(o,p,q):=n;rwa[aa (iM (o,p,q) oX (ai (l _ m)))]
end
def Wh(n:Ń):Ql (n+4) (n+2) (n+3) n (n+1):=by let h:∀i j:Ń,i≠j->n+i≠n+j:=λi j h e=>h (Nat.add_left_cancel e);exact(h 2 4 ∅,h 3 4 ∅,h 0 4 ∅,h 1 4 ∅,h 2 3 ∅,h 2 0 ∅,h 2 1 ∅,h 3 0 ∅,h 3 1 ∅,h 0 1 ∅)
def aba(n:Ń)(e:À)(h:e ∈[n+4,n+2,n+3,n,n+1]):n<=e:=by
 simp only[ax,dU,or_false]at h;rcases h with rfl|rfl|rfl|rfl|rfl;.rwa[aO _ _]
 .rwa[aO _ _]
 .rwa[aO _ _]
 .rwa[ah _]
 .rwa[aO _ _]
def vr(sq:Hp->À->ϕ->ß)(t a:À):It:=(λi H=>∃X Y x y,sq H t X/\sq H a Y/\X[i]?=O x/\Y[i]?=O y,λi H v h=>∃T,H T=ao/\v=.A T/\∀X Y x y,sq H t X->sq H a Y->X[i]?=O x->Y[i]?=O y->h=dq H T (.T [x,y]),λi H=>∃X Y,sq H t X/\sq H a Y/\(Á X<=i\/Á Y<=i))
def Kd{p:Ł _}{σ:Ç}(I:Inv X p σ H s)(h:g9 X.K H t xs)(f:mr X p H b):t≠b:=by
 rintro rfl;let(a,c,d,F,g,i):=f;rcases h with(h|⟨o,h⟩)|⟨o,B,n,k,_⟩;.left
 .left
 .let e:=I.ok.mod.CJ t o k;rcases F with q|q;.rwa[I.ok.sk t o e q]
  .rwa[Ă (bp (ay e) (aj I.ok.zg q)) (cR _)]
section
variable{z a b c d e:À}
def yP(h:e ∈[z,b,c,d]):e ∈[z,a,b,c,d]:=(ax.mp h).elim (λq=>q▸.head _) λh=>.tail _ (.tail _ h)
def nk:b ∈[z,a,b,c,d]:=.tail _ (.tail _ (.head _))
def oE:c ∈[z,a,b,c,d]:=.tail _ (.tail _ (.tail _ (.head _)))
def r0:d ∈[z,a,b,c,d]:=.tail _ (.tail _ (.tail _ (.tail _ (.head _))))
def LI{P:ß}(h:e ∉[z,b,c,d])(k:e≠z->e≠b->e≠c->e≠d->P):P:=k (λq=>h (q▸.head _)) (λq=>h (q▸.tail _ (.head _))) (λq=>h (q▸.tail _ (.tail _ (.head _)))) λq=>h (q▸.tail _ (.tail _ (.tail _ (.head _))))
def alb{P:À->ß}(h:e ∈[z,a,b,c,d])(hz:P z)(H:P a)(f:P b)(g:P c)(i:P d):P e:=(ax.mp h).elim (λq=>q▸hz) λh=>(ax.mp h).elim (λq=>q▸H) λh=>(ax.mp h).elim (λq=>q▸f) λh=>(ax.mp h).elim (λq=>q▸g) λh=>(ax.mp h).elim (λq=>q▸i) λh=>nomatch h
end
def Cr{K:Ä}{C:È->À->Array Â->ß}(ob:∀{h c t k},j h c t k->∃o,h.get? c=O o/\∀v,o.data≠.cell v)(at':∀{h h' c t k},j h c t k->(∀o,h.get? c=O o->h'.get? c=O o)->j h' c t k)(of:∀{X F σ H s t xs},X.K=K->Inv X F σ H s->sq H t xs->∃bT:Ł _,Vals xs bT/\C s.heap t bT.toArray/\Á xs<=Ã)(inj:∀{X F σ H s t xs ys},X.K=K->Inv X F σ H s->sq H t xs->sq H t ys->xs=ys)(ap:∀{X F σ H s t b xs},X.K=K->Inv X F σ H s->sq H t xs->mr X F H b->t≠b)(nx:∀{A E s k xs ys x y}{Q:Ő _->bn->ß},CC j s.heap z a b c d L M k .none->L≠z/\L≠b/\L≠c/\L≠d->M≠z/\M≠b/\M≠c/\M≠d->C s.heap L xs->C s.heap M ys->xs[k]?=O x->ys[k]?=O y->(∀hp,CC j hp z a b c d L M (k+1) (ef s.heap.objs.size)->IsPair hp s.heap.objs.size x y->(∀e o,e≠z->e≠b->e≠c->e≠d->s.heap.get? e=O o->hp.get? e=O o)->Q (O (.ref s.heap.objs.size)) {s with heap:=hp})->bv (cc P w) A (eR (.ref z)) Q E s)(no:∀{A E s k xs ys}{Q:Ő _->bn->ß},A.handled=ao->CC j s.heap z a b c d L M k .none->L≠z/\L≠b/\L≠c/\L≠d->M≠z/\M≠b/\M≠c/\M≠d->C s.heap L xs->C s.heap M ys->xs[k]?=ao\/ys[k]?=ao->(∀hp,(∀f o,f≠z->f≠b->f≠c->f≠d->s.heap.get? f=O o->hp.get? f=O o)->Q ao {s with heap:=hp})->bv (cc P w) A (eR (.ref z)) Q E s)(D:Ql z a b c d):xk P w K (.Tuple es k pos) (vr sq L M) [z,a,b,c,d] z λi h=>CC j h z a b c d L M i .none:=have obj:∀{h i e},CC j h z a b c d L M i .none->e ∈[z,a,b,c,d]->∃o,h.get? e=O o/\∀v,o.data≠.cell v:=λ{h i e}st l=>by obtain⟨zz,zi,⟨p,q,zo⟩,i1,i2⟩:=st;rwa[alb (P:=λe=>∃o,h.get? e=O o/\∀v,o.data≠.cell v) l (_,zz,λv g=>ì g) (_,zi,λv g=>ì g) (_,zo,λv g=>ì g) (ob i1) (ob i2)]
 {mem:=.head _
  obj:=λi h st e l=>obj st l
  keep:=λi h h' st W=>by obtain⟨zz,zi,⟨p,q,zo⟩,z1,z2⟩:=st;exact(W z (.head _) _ zz,W a (.tail _ (.head _)) _ zi,(p,q,W b nk _ zo),at' z1 λo e=>W c oE o e,at' z2 λo e=>W d r0 o e)
  item:=by
   intro X hP hw hK hc i F s σ H E I N st hg;subst hP hw hK;erw[cps λG k=>?_];let(xs,ys,x,y,R,U,hx,hy):=hg;let(TB,r1,p1,l1):=of Ŗ I R;let(zU,r2,p2,l2):=of Ŗ I U;let(u1,SV,ru1):=r1.get hx;let(u2,hu2,ru2):=r2.get hy;let Y:=λ(e:À)(l:e ∈[z,a,b,c,d])=>ap Ŗ I R (N e l);let Z:=λ(e:À)(l:e ∈[z,a,b,c,d])=>ap Ŗ I U (N e l);erw[k (nx st (Y z (.head _),Y b nk,Y c oE,Y d r0) (Z z (.head _),Z b nk,Z c oE,Z d r0) p1 p2 (x:=u1) (y:=u2) (by simpa using SV) (by simpa using hu2) λhp Z' pr W=>?_)];erw[(_,Ŗ,wpAny_letOwnedTupleGo_zip Z'.zip λhq zq sb=>?_)];let nT:H s.heap.objs.size=none:=I.fresh;let S:∀e o,e ∉[z,b,c,d]->s.heap.get? e=O o->hq.get? e=O o:=λe o l g=>by rwa[LI l λR U h3 h4=>sb.extBut _ _ R (W e o R U h3 h4 g)]
   let Tz:s.heap.objs.size≠z:=eW (ay st.zip);let prq:IsPair hq s.heap.objs.size u1 u2:=sb.extBut _ _ Tz pr;let B:∀e u,H e=O u->e ∉[z,b,c,d]:=λe u l hm=>by let:H e=none:=(N e (yP hm)).1;rw[this]at l;cases l
   let MI:kG X.prog X.w (dq H s.heap.objs.size (.T [x,y])) hq:=λe u l=>by
    by_cases ee:e=s.heap.objs.size;.subst ee;rw[bC]at l;cases l;exact(by show 2<=Ã;decide,[u1,u2],.cons ru1 (.cons ru2 .nil),(_,prq,Ŗ,_,Ŗ))
    .rw[bA ee]at l;erw[(I.cY e u l).tY (λf o MA g=>S f o ?_ g) (λf g=>by rw[bA (cn g nT)];rwa[g]) λf zs g=>by rw[bA (cn g nT)];rwa[g]]
     rcases MA with rfl|MA;.rwa[B f u l]
     .rwa[B f _ MA]
   let I1:Inv X F σ (dq H s.heap.objs.size (.T [x,y])) {s with heap:=hq}:=by
    erw[I.step (g':=s.gens) (d':=s.drawn) (t':=s.toks) (ch:=[z,b,c,d]) (λe l=>?_) (λe o _ _ l g _=>S e o l g) (λe o _ _ l g _=>(o.slots,S e o l g)) (λe o _ g n=>by rw[bA (aP (ay g))];rwa[n]) (λe o l g=>(o,S e o l g)) (λe zs g=>by rw[bA (cn g nT)];rwa[g]) (λe o u g=>by rw[bA (cn g nT)];rwa[g]) (λe ps g=>(#[],by rw[bA (cn g nT),g];simp)) (λm hm=>?_) MI I.bare];.let(f0,f1,f2,f3,f4,f5):=N e (yP l);exact(f3,f1,f4,f5)
    .let(o,Me,ep,ho,r):=hm;erw[(o,Me,ep,S _ o (λME=>?_) ho,r)];exact(N X.env.locals (yP ME)).2.1 Ŗ
   erw[(.A s.heap.objs.size,_,I1,Ŗ,(_,nT,Ŗ,λxs' ys' x' y' g1 g2 gx gy=>?_),?_,λe l=>?_)];.let e1:=inj Ŗ I g1 R;let e2:=inj Ŗ I g2 U;subst e1;subst e2;rw[hx]at gx;rw[hy]at gy;cases gx;cases gy;rfl
   .obtain⟨_,zi,⟨p,q,zo⟩,z1,z2⟩:=Z';exact(zq,sb.extBut _ _ D.az zi,(p,q,sb.extBut _ _ D.bz zo),at' z1 λo g=>sb.extBut _ _ D.cz g,at' z2 λo g=>sb.extBut _ _ D.dz g)
   .rw[bA];.exact(N e l).1
    .let(o,ho,_):=obj st l;rwa[aP (ay ho)]
  done:=by
   intro X hP hw hK hc i F s σ H E I N st hg;subst hP hw hK;erw[cps λG k=>?_];let(xs,ys,R,U,hx):=hg;let(TB,r1,p1,l1):=of Ŗ I R;let(zU,r2,p2,l2):=of Ŗ I U;let e1:=r1.length;let e2:=r2.length;let Y:=λ(e:À)(l:e ∈[z,a,b,c,d])=>ap Ŗ I R (N e l);let Z:=λ(e:À)(l:e ∈[z,a,b,c,d])=>ap Ŗ I U (N e l);erw[k (no (I.ok.hd hc) st (Y z (.head _),Y b nk,Y c oE,Y d r0) (Z z (.head _),Z b nk,Z c oE,Z d r0) p1 p2 nofun λhq W=>(Ŗ,?_))];let S:=λe o l g=>by rwa[LI l λR U h3 h4=>W e o R U h3 h4 g]
   let B:∀e u,H e=O u->e ∉[z,b,c,d]:=λe u l hm=>by let:=(N e (yP hm)).1;rw[this]at l;cases l
   erw[I.step (λe l=>?_) (λe o _ _ l g _=>S e o l g) (λe o _ _ l g _=>(_,S e o l g)) (λe o _ g n=>n) (λe o l g=>(o,S e o l g)) (λe zs g=>g) (λe o u g=>g) (λe ps g=>(#[],by done)) (λm hm=>?_) (λe u l=>?_) I.bare];.let(f0,f1,f2,f3,f4,f5):=N e (yP l);exact(f3,f1,f4,f5)
   .let(o,Me,ep,ho,r):=hm;exact(o,Me,ep,S _ o (λME=>(N _ (yP ME)).2.1 Ŗ) ho,r)
   .erw[(I.cY e u l).tY (λf o MA g=>S f o ?_ g) (λf g=>g) λf zs g=>g];rcases MA with rfl|MA;.rwa[B f u l]
    .rwa[B f _ MA]
  self:=λ_ _ _ _ _ st h=>wpAny_pyIter_zip st.zip h}
abbrev yf(h:È)(t:À):È:=h.push {cls:=.type "tuple_iterator",data:=.fields #[.ref t,.int 0 0]}
abbrev xL(h:È)(t T:À):È:=(yf h t).push {cls:=.type "tuple_iterator",data:=.fields #[.ref T,.int 0 0]}
abbrev uu(h:È)(t T:À):È:=(xL h t T).push {cls:=.type "tuple",data:=.seq #[.ref h.objs.size,.ref (yf h t).objs.size]}
abbrev wS(h:È)(t T:À):È:=(uu h t T).push {cls:=.type "tuple",data:=.seq #[.none,.none]}
abbrev i8(h:È)(t T:À):È:=(wS h t T).push {cls:=.type "zip",data:=.fields #[.none,.bool bb,.bool bb,.ref (xL h t T).objs.size,.ref (uu h t T).objs.size]}
def Cz(t T:À)(xs ys:Array Â):Meets (Builtin.«zip.__new__» ([.type "zip",.ref t,.ref T],[])) λ_ R s=>s.heap.IsTuple t xs/\s.heap.IsTuple T ys/\R (.ok (.ret (.ref (wS s.heap t T).objs.size))) {s with heap:=i8 s.heap t T}:=.of_wp λp w A R s h=>by let(a,g,d,k,os):=s;let(G,j,h):=h;let b:=sub_zip;let H:Heap.IsTuple (Shared.heap _) t xs:=G;wp_walk using oZ H,oZ (Heap.IsTuple.push j _);exact(_,Ŗ,h)
def SW(sq:Hp->À->ϕ->ß)(a:TA):TI:=λσ H R=>a σ H λv h=>∃t T,v=[.A t,.A T]/\(∃x,sq h t x)/\(∃y,sq h T y)/\R (vr sq t T) h
def Ox(m:Gl X "zip")(u:X.mg "zip"=ao)(v:PA X [a,b] l)(D:d4 [a,b] X.env=[(bb,Ê a X.env),(bb,Ê b X.env)])(W:d4 [b] X.env=[(bb,Ê b X.env)])(mk:∀{E P s σ H t c xs ys}{Q:dC},Inv X P σ H s->sq H t xs->sq H c ys->(∀h',CC j h' (s.heap.objs.size+4) (s.heap.objs.size+2) (s.heap.objs.size+3) s.heap.objs.size (s.heap.objs.size+1) t c 0 .none->(∀e o,s.heap.get? e=O o->h'.get? e=O o)->Q (.ref (s.heap.objs.size+4)) {s with heap:=h'})->bv (cc X.prog X.w) X.A (call (.type "zip") [.ref t,.ref c]) Q E s)(T:∀n t c,Ql (n+4) (n+2) (n+3) n (n+1)->xk X.prog X.w X.K (.Tuple es k S) (vr sq t c) [n+4,n+2,n+3,n,n+1] (n+4) λi h=>CC j h (n+4) (n+2) (n+3) n (n+1) t c i .none):PI X (.Tuple es k S) (.Call (.Name "zip" p) [a,b] [] pos) (SW sq l):=by intro P s σ H R I h;erw[Call_ (pW I m u (show em _=O (.type "zip")from Ŗ) (eX (iZ (v pos _ s σ H _ I h) λU s1 (F,x,f,y,z)=>?_) nofun (by rw[W];rfl)))];obtain⟨t,c,e,⟨xs,G⟩,⟨ys,B⟩,q⟩:=z;subst e;let(L,u2,rfl,r,g):=y.two;cases r;cases g;erw[mk f G B λh' Z up=>?_];let T:=T s1.heap.objs.size t c (Wh _);erw[T.self X.A 0 _ _ _ Z ?_];erw[(_,_,_,_,x,Ŗ,f.kept up,T,Z,λe C=>?_,q)];let d:=aba _ e C;rwa[f.DR d (f.cY.fresh d)]
def UP(B:Gl X "zip")(C:X.mg "zip"=ao)(G:PA X [a,b] s)(L:d4 [a,b] X.env=[(bb,Ê a X.env),(bb,Ê b X.env)])(W:d4 [b] X.env=[(bb,Ê b X.env)]):PI X (.Tuple es k S) (.Call (.Name "zip" p) [a,b] [] pos) (SW (g9 X.K) s):=Ox (j:=î) B C G L W (λ{E P s1 σ H t T xs ys Q}u M N q=>by
  let(R,r1,U,l1):=u.tuple M;let(zU,r2,p2,l2):=u.tuple N;erw[callType_new F.called_zip ∅ (F.typeCall_zip_2 _ _) (F.newCall_zip_2 _ _) (λi=>F.args_object_init_3 i _ _) F.entry_zip_new (Cz t T R.toArray zU.toArray) (U,p2,?_)];let Z:(yf s1.heap t).objs.size=s1.heap.objs.size+1:=iz ..;let l:(xL s1.heap t T).objs.size=s1.heap.objs.size+2:=by rw[iz,Z]
  let m:(uu s1.heap t T).objs.size=s1.heap.objs.size+3:=by rw[iz,l]
  let w:(wS s1.heap t T).objs.size=s1.heap.objs.size+4:=by rw[iz,m]
  let y:(i8 s1.heap t T).get? (wS s1.heap t T).objs.size=O _:=aA _ Ŗ;let Y:(i8 s1.heap t T).get? (uu s1.heap t T).objs.size=O _:=af _ (aA _ Ŗ);let x:(i8 s1.heap t T).get? (xL s1.heap t T).objs.size=O _:=af _ (af _ (aA _ Ŗ));let A:(i8 s1.heap t T).get? (yf s1.heap t).objs.size=O _:=af _ (af _ (af _ (aA _ Ŗ)));let y1:(i8 s1.heap t T).get? s1.heap.objs.size=O _:=af _ (af _ (af _ (af _ (aA _ Ŗ))));rw[l,m,w]at y;rw[Z,l]at x;rw[m]at Y;rw[Z]at A;rw[w];exact((_,y,Ŗ),q _ (y,x,(_,_,Y),(_,y1,Ŗ,Ŗ),(_,A,Ŗ,Ŗ)) λe o g=>af _ (af _ (af _ (af _ (af _ g)))))) λn t T D=>Cr (λ(o,e,c,d)=>(o,e,λv g=>ì (d.symm.trans g))) (λz k=>z.at k) (λe I q=>I.tuple (e▸q)) (λe I q r=>I.yL (e▸q) (e▸r)) (λe I q f=>Kd I (e▸q) f) (Qh D) (λh=>Qi h D) D
def PX(H:Hp):V->Ő String
 |.iq=>O "NoneType"|.B _=>O "bool"|.I _=>O "int"|.S _=>O "str"|.A a=>match H a with|O (.L _)=>O "list"|O (.T _)=>O "tuple"|O (.dK _)=>O "dict"|_=>ao
 |_=>ao
def xB(t c:String):Þ:=t==c||t=="bool"&&c=="int"
def V0{K:Ä}(h:PX H x=O t):rR K H x (.type t):=by induction x with
 |iq=>cases h;rwa[.iq]|B b=>cases h;rwa[.bl b]|I i=>cases h;rwa[.int i]|S z=>cases h;rwa[.str z]|A a=>delta PX at h;dsimp only at h;generalize e:H a=o at h;induction o with|a=>cases h|c c=>induction c with|L _=>cases h;rwa[.lst e]|T _=>cases h;rwa[.tup e]|dK _=>cases h;rwa[.dK e]|_=>cases h
 |byt _=>cases h|Se _=>cases h|ty _=>cases h
def VZ(h:PX H x=O t):t ∈["NoneType","bool","int","str","list","tuple","dict"]:=by
 let k:(PX H x).all (λt=>["NoneType","bool","int","str","list","tuple","dict"].contains t)=true:=by induction x with
  |A a=>delta PX;dsimp only;induction H a with|a=>rfl|c c=>induction c<;>rfl
  |_=>rfl
 rw[h]at k;rwa[List.contains_iff_mem.mp k]
def jD{α:Type}{P:α->ß}{a:α}{l:Ł α}(h:P a)(k:∀x∈l,P x):∀x∈a::l,P x:=λ_ m=>(ax.mp m).elim (λe=>e▸h) (k _)
def NH{α:Type}{P:α->ß}:∀x∈[],P x:=λ_ m=>nomatch m
def ajM{P:String->ß}(h:t ∈["NoneType","bool","int","str","list","tuple","dict"])(H:P "NoneType")(a:P "bool")(b:P "int")(c:P "str")(d:P "list")(e:P "tuple")(f:P "dict"):P t:=jD H (jD a (jD b (jD c (jD d (jD e (jD f NH)))))) _ h
def ϟ{P:String->ß}(h:t ∈["str","int","bool","tuple","list"])(H:P "str")(a:P "int")(b:P "bool")(c:P "tuple")(d:P "list"):P t:=jD H (jD a (jD b (jD c (jD d NH)))) _ h
def Ng{K:Ä}(h:t ∈["NoneType","bool","int","str","list","tuple","dict"])(H:c ∈["str","int","bool","tuple","list"]):kitOne K (.type t) (.type c)=O (xB t c):=by erw[ϟ (P:=λc=>kitOne K (.type t) _=O _) H ?_ ?_ ?_ ?_ ?_]<;>erw[ajM (P:=λt=>kitOne K _ _=O (xB t _)) h ?_ ?_ ?_ ?_ ?_ ?_ ?_]<;>rfl
def Ln:eE X (.builtin "isinstance") λxs H Q=>∃x c t,xs=[x,.ty c]/\PX H x=O t/\c ∈["str","int","bool","tuple","list"]/\Q (.B (xB t c)) H:=by intro p s σ H xs U Q I r h;let(x,c,t,rfl,a,b,q):=h;let(u,v,rfl,R,d):=r.two;obtain rfl:v=à c:=d;rwa[Jf I R (V0 a) (Ng (VZ a) b) λT=>(.B _,H,I.tok T,Ŗ,q)]
def jq(h:H p=ao)(o:HO):iD H (dq H p o):=λb u q=>by rw[bA (cn q h)];rwa[q]
def DB{lo:Ő Î}(h:HT.lV (Á xs) 0 lo=0/\HT.lV (Á xs) (Á xs) hi=Á xs):rY xs lo hi=xs:=by delta rY;rw[h.1,h.2,fz,Nat.sub_zero,fe]
def tT{E:dC}{lo:Ő Î}{Q:dC}(H:IsTup s.heap t ci)(b:s.heap.IsSliceOf sl v u .none)(p:IsPart v lo)(c:IsPart u hi)(e:HT.lV ci.size 0 lo=0/\HT.lV ci.size ci.size hi=ci.size)(h:Q (.ref t) s):bv (cc P w) A (getItem (.ref t) (.ref sl)) Q E s:=by
 let(os,Z,a,d):=id b;delta getItem;try with_reducible erw[bS ?_]
 erw[aa (wpAny_sequenceKey H.typeIs Ŗ ?_)];erw[aa (bY H.typeIs dy (bZ dy H.typeIs No ?_ (args_tuple_getitem _ _)))];show bv _ _ (Builtin.Tuple.tupleItemsOf _>>=_) _ _ s;erw[aa (tupleItemsOf_ H ?_)];erw[aa (kE (os,Z,a) ?_)];erw[aa (HT.lW b p c ?_)];show bv _ _ (if((HT.lV _ 0 lo:Î)==0&&1==1&&HT.lV _ _ hi-HT.lV _ 0 lo==ci.size)=J then _ else _) _ _ s;rw[b5 nofun];erw[aa ?_];erw[aa (kE H.typeIs (ai ?_))];first|rwa[aa (jQ (ai (_,Ŗ,ai h)))]|rfl|rfl
structure C5(w:ce)(K:Ä)(a:À)(tab:Å->Ő ϐ):ß where
 ex:∃(es:Array gt)(n:Ń),K.lookup a=O (.type "dict",ao,.dict es n,#[])/\KeysLit w.params es.toList/\∀x,match tab x with|O ks=>∃b,findBy ã es x=O (.ref b)/\∃(o:Ù)(bT:Array Â)(m:Ń),K.lookup b=O o/\o.cls=.type "tuple"/\o.data=.seq bT m/\bT.size<=Ã/\Vals (ks.map V.S) bT.toList|ao=>findBy ã es x=ao
 lo:(a==ft)=bb
structure Src(K:Ä)(mg:db)(x:Å)(st:É)(ps:ϐ):ß where ex:∃(f:À)(fd:ed),CB K x x st f fd/\mg x=O (.ref f)/\Binds K fd ps []
def cL:Æ->Þ|.Starred _ _=>bb|_=>J
def cy(h:cL e):d4 (e::es) env=(bb,Ê e env)::d4 es env:=by cases e<;>first|rfl|cases h
theorem fh:∀{es:Ł _},es.all cL=J->(e9 pos (d4 es env)).any (·.1)=bb|[],_=>Ŗ|e::es,h=>by rw[b8,aK]at h;rw[cy h.1];show(bb||(e9 pos _).any _)=bb;rw[fh (env:=env) (pos:=pos) h.2];rfl
def uH(H:PE X e T)(r:PA X es t)(h:ø (cL e=J) v0):PA X (e::es) (XQ T t):=Ui H r (cy h)
def akN(sp:Sp)(t:TA):TE:=λσ H Q=>t σ H λv h=>sp v h Q E0
def BQ{id:String}(h:eE X (.builtin id) r)(H:Gl X x)(m:X.mg x=ao)(v:em x=O (.builtin id))(a:PA X (e::es) t)(hn:ø (x≠"__name__") P3)(j:ø ((x==("__debug__":Å))=bb) P3)(d:ø ((e::es).all cL=J) v0):PE X (.Call (.Name x p) (e::es) [] pos) (tt r t):=N3 h H m v a hn j (cy (by rw[b8,aK]at d;rwa[d.1])) (fh (by rw[b8,aK]at d;rwa[d.2]))
def Xu{id:String}(h:eE X (.type id) r)(H:Gl X x)(m:X.mg x=ao)(v:em x=O (.type id))(a:PA X (e::es) t)(hn:ø (x≠"__name__") P3)(j:ø ((x==("__debug__":Å))=bb) P3)(d:ø ((e::es).all cL=J) v0):PE X (.Call (.Name x p) (e::es) [] pos) (tt r t):=Jw h H m v a hn j (cy (by rw[b8,aK]at d;rwa[d.1])) (fh (by rw[b8,aK]at d;rwa[d.2]))
def sJ(k:Ń)(s:Ϙ)(σ:Ç):Ç:=Ò k ao++s.map λj=>σ[j]?.join
def ϙ(k:Ń)(a:Ϙ)(d:k+Á a=Á n)(hn:a.map (λj=>X.N[j]?)=(n.drop k).map O)(f:∀x∈n.drop k,(x,å)∈s.names):∀σ:Ç,Á σ=Á X.N->k9 X n s σ (sJ k a σ):=by
 intro σ _;erw[(by delta sJ;rw[aq,cC,ae];rwa[d],λi x v g h=>?_)];delta sJ at h;by_cases H:i<k;.rw[aX (by simpa using H),fY,b5 H]at h;cases h
 .rw[aQ (by simpa using H),cC,aM]at h;induction b:a[i-k]? with|a=>left|c j=>
   rw[b]at h;let h3:=by simpa using h
   let e:(n.drop k)[i-k]?=O x:=by grind
   let e2:=bU (λl=>l[i-k]?) hn;simp only[aM,b,e,Option.map_some]at e2;erw[(f x (aL e),j,dJ e2,?_)];induction c:σ[j]? with|a=>rw[c]at h3;cases h3|c o=>rw[c]at h3;let:o=O v:=h3;rw[this]
def DA{X:Cx}{N:ϐ}{scope:Í}(sc:Í)(h:ø (X.env.scope=sc) v0)(a:ø (scope.kind=.function) lv)(b:ø N.Nodup lv)(c:ø (∀y∈scope.names,y.2≠.cell) lv)(d:ø (∀y∈scope.names,y.2=.local->scope.names.lookup y.1=O .local) lv)(e:ø (∀y∈scope.names,y.2=.free->sc.names.lookup y.1=O .cell) lv)(f:ø (∀y∈scope.names,y.2=.free->(scope.names.map λ(n,k)=>if k==.free&&sc.kind==.function&&sc.names.lookup n==O .cell then(n,NameKind.cell)else(n,k)).lookup y.1≠O .local) lv):eO X N scope:=by subst h;exact(a,b,c,d,e,λx H=>f _ H Ŗ)
def Yx:em "len"=O (.builtin "len"):=PySem.boot_len
def jc:em "isinstance"=O (.builtin "isinstance"):=by rfl
def FX:em "list"=O (.type "list"):=by rfl
def u0:em "tuple"=O (.type "tuple"):=by rfl
def YB:em "str"=O (.type "str"):=by rfl
def Le:em "int"=O (.type "int"):=by rfl
def Q2:em "bool"=O (.type "bool"):=by rfl
def Xv(h:X.mg x=ao)(H:em x=O (.type n))(g:Gl X x)(hn:ø (x≠"__name__") P3)(d:ø ((x==("__debug__":Å))=bb) P3):PE X (.Name x pos) (tC (.ty n)):=Um g h H rfl hn d
def wV(C t:À)(d:Ő À)(tb:Â):Ù:={cls:=.ref C,dict:=d,data:=.fields #[.ref t,tb,.none,.none,.bool bb,.none]}
def Ex(h:È)(a C:À)(d:Ő À)(T:À)(fl:Â):ß:=(∃t,h.get? a=O (wV C t d (.ref T)))/\T≠a/\∃o s,h.get? T=O o/\o.data=.fields s/\s[3]?=O fl
structure Mv(fs:Ł À)(a T:À)(h h':È):ß where
 keep:∀b o,h.get? b=O o->b∉fs->b≠a->b≠T->h'.get? b=O o
 slot:∀b o,h.get? b=O o->b∈fs->b≠a->b≠T->∃sl,h'.get? b=O {o with slots:=sl}
def Mv.any(m:Mv fs a T h h')(e:h.get? b=O o)(H:b≠a)(c:b≠T):∃sl,h'.get? b=O {o with slots:=sl}:=by
 by_cases d:b∈fs;.rwa[m.slot b o e d H c]
 .exact(_,m.keep b o e d H c)
def vD{E:dC}{s:bn}(N:A.frames=O (env::outer))(l:s.heap.FunFrames base (env::outer))(w:env.frame=O L)(m:s.heap.get? a=O (wV C t d tb))(h:∀h' g,s.heap.get? g=ao->s.heap.objs.size<=g->Ex h' a C d g (ef L)->Mv ((env::outer).filterMap (·.frame)) a a s.heap h'->Q ⟨⟩ {s with heap:=h'}):bv M A (do let x<-frameOf env;let p<-entryPlaceOf L S;let b<-EntryCells.newEntry head x .none (ef L) .none p;setField (.ref a) 1 b) Q E s:=by
 erw[aa (wpAny_frameOf_fun N l w λn H=>?_)];erw[aa (wpAny_entryPlaceOf λp D=>?_)];erw[aa (bW ?_ (D.sizeOk5 _ _ _ _ _))];let c:=(H.2.1 a λy=>by let(_,o,r,hn):=l.mem y;rw[m]at r;cases r;rwa[hn _ Ŗ]).trans m;let f:=af {cls:=.type "traceback",dict:=ao,data:=.fields ([head,.ref L,.none,ef L,.none]++if p.isEmpty then Ò 6 Ô else p).toArray} c;erw[cO f Ŗ (Nat.lt_of_sub_pos (FV 4)) ?_];let u:=eW (ay c);let i:∀b o,s.heap.get? b=O o->b≠n.objs.size:=λb o e=>by let(sl,j):=H.2.2 b o e;rwa[aP (ay j)]
 erw[h _ _ (by induction q:s.heap.get? _ with|a=>rfl|c o=>rwa[Ă Ŗ (i _ o q)]) (iK H.1.symm) ((t,bF _ f Ŗ),u,{cls:=.type "traceback",dict:=ao,data:=.fields ([head,.ref L,.none,ef L,.none]++if p.isEmpty then Ò 6 Ô else p).toArray},_,?_,Ŗ,?_) (λb o e v k _=>?_,λb o e v k _=>?_)];.rw[bG _ _ (c4 u)];rwa[aA n Ŗ]
 .rfl
 .rw[bG _ _ (c4 k)];rwa[af _ ((H.2.1 b v).trans e)]
 .let(sl,j):=H.2.2 b o e;erw[(sl,?_)];rw[bG _ _ (c4 k)];rwa[af _ j]
def ad9{E:dC}{s:bn}(n:A.frames=O (env::outer))(l:s.heap.FunFrames base (env::outer))(H:env.frame=O L)(e:s.heap.get? a=O (wV C t d .none))(h:∀h' b,s.heap.get? b=ao->s.heap.objs.size<=b->Ex h' a C d b (ef L)->Mv ((env::outer).filterMap (·.frame)) a a s.heap h'->Q ⟨⟩ {s with heap:=h'}):bv M A (hA (.ref a) env) Q E s:=by delta hA;simp only[H];rwa[aa (b7 e Ŗ (x:=.none) Ŗ (vD n l H e h))]
def Xn{E:dC}{s:bn}(N:A.frames=O (env::outer))(u:s.heap.FunFrames base (env::outer))(m:env.frame=O L)(v:Ex s.heap a C d T .none)(h:∀h' c,s.heap.get? c=ao->s.heap.objs.size<=c->Ex h' a C d c (ef L)->Mv ((env::outer).filterMap (·.frame)) a T s.heap h'->Q ⟨⟩ {s with heap:=h'}):bv M A (hA (.ref a) env) Q E s:=by
 obtain⟨⟨t,n⟩,w,D,G,j,k,p⟩:=v;delta hA;simp only[m];erw[aa (b7 n Ŗ (x:=.ref T) Ŗ ?_)];erw[aa (b7 j k p ?_)];erw[aa (cO j k (fq.mp p).1 ?_)];let f:∀b,b≠T->(s.heap.update T (â (·.setIfInBounds 3 Ô))).get? b=s.heap.get? b:=λb H=>bG _ _ (c4 H);erw[vD N (u.of_keeps λb o H g=>(o,(f b (λb o H g q=>by left b o H g)).trans H,Ŗ)) m ((f a (c4 w)).trans n) λh' c F y B r=>?_];erw[h h' c ?_ ?_ B (λb o e H i l=>r.keep b o ((f b l).trans e) H i i,λb o e H i l=>r.slot b o ((f b l).trans e) H i i)]
 .by_cases q:c=T;.rw[q]at F;let z:=bF (â (·.setIfInBounds 3 Ô)) j (cZ (bP k _));rw[z]at F;cases F
  .exact(f c q).symm.trans F
 .left
def aea{E:dC}{L:À}(H:env.frame=O L)(e:Ex s.heap a C d T (ef L))(h:Q ⟨⟩ s):bv M A (hA (.ref a) env) Q E s:=by obtain⟨⟨t,b⟩,l,o,i,c,f,g⟩:=e;delta hA;simp only[H];erw[aa (b7 b Ŗ (x:=.ref T) Ŗ ?_)];erw[aa (b7 c f g ?_)];rw[b5 ⋯];rwa[ai h]
def Sb{E:dC}(e:Ex s.heap a C d T fl)(h:∀h',Ex h' a C d T .none->Û T s.heap h'->Q ⟨⟩ {s with heap:=h'}):bv M A (setFlight (.ref a) ao) Q E s:=by obtain⟨⟨t,b⟩,l,o,g,c,H,f⟩:=e;let hz:=(fq.mp f).1;rwa[aa (b7 b Ŗ (x:=.ref T) Ŗ (cO c H hz (h _ ((t,(bG _ _ l).trans b),l,_,_,bF _ c (cZ (bP H _)),bP H _,nofun) (cq ..))))]
def xu:entryFor table "proto.unchain"=O Builtin.«proto.unchain»:=HQ Ŗ
def Fy{E:dC}{Q:dC}(H:s.heap.get? e=O (wV C t d tb))(h:Q .none s):bv (cc prog w) A (runValue (.builtin "proto.unchain" ([x,.ref e,.ref e,.bool bb],[]))) Q E s:=by rwa[w8 (dM xu (aa (b7 H Ŗ (x:=.none) Ŗ (ai h))))]
def OW{E:dC}{Q:α->bn->ß}(H:A.handled=O (.ref e))(a:s.heap.get? e=O (wV C t d tb))(b:s.heap.get? x=O o)(c:o.data=.fields vs)(hz:2<vs.size)(l:e≠x)(h:E (.ref x) {s with heap:=s.heap.update x (â (·.setIfInBounds 2 (.ref e)))}):bv (cc prog w) A (raiseNew (.ref x)) Q E s:=by erw[aa (ql ?_)];rw[H];show bv _ _ (if(Ð e !=Ð x)=J then _ else _) _ _ _;rw[b5 (by simp[l])];rwa[aa (bS (Fy a (aa (cO b c hz (qf h)))))]
def Fp{E:dC}{I}(m:A.handled=O (.ref e))(n:s.heap.get? e=O (wV C t d tb))(L:e≠c)(hit:s.heap.IsTupleIter c T i)(p:s.heap.IsTuple T I)(r:I[i]?=ao)(u:∀h',é c s.heap h'->Q ao {s with heap:=h'}):bv (cc prog w) A (eR (.ref c)) Q E s:=by let(o,h,B,H):=id hit;let(ol,l,_,N,f):=p;delta eR;erw[aa (eD (bY (name:=í "__next__") hit.typeIs dZ (bZ dZ hit.typeIs nD ?_ (mX _))))];show bv _ _ (field (.ref c) 0>>=_) _ _ s;erw[aa (b7 h H (x:=.ref T) Ŗ ?_)];show bv _ _ (if(Ð T==Ô)=J then _ else _) _ _ s;rw[bM (show ¬(Ð T==Ô)=J from aF)];show bv _ _ (field (.ref c) 1>>=_) _ _ s;erw[aa (b7 h H (x:=.int i 0) Ŗ ?_)];show bv _ _ (seqItems? (.ref T)>>=_) _ _ s;erw[aa (d7 l f ?_)];simp only[fH,r];erw[aa (jQ (aa (cO h H ⋯ ?_)))];show bv _ _ (newExc (.type "StopIteration") []>>=_) _ _ _;erw[aa ?_];erw[aa (bW ?_ (by size_fits))];erw[aa (mq (a:=Ô) Ŗ ?_)];erw[bW ?_ (by size_fits)];let k1:∀{g:È}{v:Ù},g.get? e=O (wV C t d tb)->(g.push v).get? e=O _:=λq=>af _ q;let k:(s.heap.update c (â (·.setIfInBounds 0 Ô))).get? e=O _:=(bG _ _ (c4 L)).trans n;erw[OW m (k1 (k1 k)) (aA _ Ŗ) rfl (by rw[Array.size_append];rwa[bp (show 2<6 by ext) (aO 6 _)]) (aP (ay (k1 k))) ?_];erw[aa (iM (_,bF _ (aA _ Ŗ) Ŗ,Ŗ) oX ?_)];erw[ai (u _ ?_)];intro b o y q;let z:(s.heap.update c (â (·.setIfInBounds 0 Ô))).get? b=O o:=(bG _ _ (c4 y)).trans q;let j:=af {cls:=.type "tuple",data:=.seq #[]} z;exact(bG _ _ (c4 (aP (ay j)))).trans (af _ j)
def fF.there(x:fF P w H h a o):∃ob,h.get? a=O ob:=by induction o with|L X=>let(_,_,_,_,e):=x;exact(_,e)|T X=>let(_,_,_,o,e,_):=x;exact(_,e)|dK A=>let(_,_,_,_,o,_,_,e,_):=x;exact(_,e)|dT A=>let(_,_,_,_,o,_,_,e,_):=x;exact(_,e)|set S n=>let(o,_,_,_,e,_):=x;exact(_,e)|ins C d fs=>let(_,_,_,e,_):=x;exact(_,e)|own y=>rwa[x]|xd fs=>obtain⟨_,⟨o,_,_,e,_⟩,_⟩:=x;exact(_,e)|rng lo i=>let(_,_,_,e):=x;exact(_,e)|lM ob u=>let(e,_):=x;exact(_,e)|VP ps=>exact(_,x)|met f y=>exact(_,x)|ext φ=>rwa[x.2.1]
def kG.none_of(x:kG P w H h)(e:h.get? a=ao):H a=none:=by induction q:H a with|a=>rfl|c o=>let(b,z):=(x a o q).there;rw[e]at z;cases z
def kG.keep(x:kG P w H h)(k:∀b u o,H b=O u->h.get? b=O o->h'.get? b=O o):kG P w H h':=λa o e=>(x a o e).tY (λb u c q=>by
  rcases c with rfl|c;.rwa[k _ _ _ e q]
  .rwa[k _ _ _ c q]) (λ_ q=>q) λ_ _ q=>q
structure Fl(P:cp)(w:ce)(l:Ł Ø)(H:Hp)(s:bn)(H':Hp)(a C:À)(d:Ő À)(fl:Â)(s':bn):ß where
 os:s'.os=s.os
 bare:AllBare s'.gens
 un:Un (pC l) [] H H' s.heap s'.heap
 cY:kG P w H' s'.heap
 na:H' a=ao
 new:s.heap.get? a=ao
 ex:∃T,Ex s'.heap a C d T fl/\H' T=ao/\s.heap.get? T=ao
def sG(P:cp)(w:ce):uS:=λl H s E e S=>∃a C d h,e=.ref a/\Fl P w l H s h a C d .none S/\E (.ref C) d h
def Fl.inv{σ:Ç}(I:Inv X be σ H s)(f:Fl X.prog X.w X.stack H s H' a C d fl s'):Inv X be σ H' s':=I.Ba f.os f.un f.cY f.bare λb h=>Ă h ⋯
def Fl.frF{σ:Ç}(I:Inv X be σ H s)(f:Fl X.prog X.w X.stack H s H' a C d fl s'):∀b∈pC X.stack,H' b=none:=λb h=>by let(_,o,c,_):=I.stack.mem h;rwa[f.un.free b o c (I.qX b h) ⋯]
def Fl.move{X:Cx}(f:Fl X.prog X.w l H s H' a C d fl s')(i:∀b∈pC l,H' b=ao)(j:H' T=ao)(E:s.heap.get? T=ao)(m:Mv (pC l) a T s'.heap h')(e:Ex h' a C d t W)(c:H' t=ao)(A:s.heap.get? t=ao):Fl X.prog X.w l H s H' a C d W {s' with heap:=h'}where
 os:=f.os;bare:=f.bare;un:=by
  let na:∀b o,s.heap.get? b=O o->b≠a:=λb o q z=>by rw[z,f.new]at q;cases q
  let N:∀b o,s.heap.get? b=O o->b≠T:=λb o q z=>()
  erw[(λb o q n h x=>m.keep b o (f.un.keep b o q n h x) h (na b o q) (N b o q),λb o q n h x=>?_,f.un.free,λb o q x=>?_,f.un.ph,f.un.nr,f.un.pd)];.let(sl,Q):=f.un.slot b o q n h x;let(S,g):=m.slot b _ Q h (na b o q) (N b o q);exact(S,g)
  .let(k,Q):=f.un.there b o q x;let(sl,g):=m.any Q (na b o q) (N b o q);exact(_,g)
 cY:=f.cY.keep λb u o e q=>m.keep b o q λz=>by left (λz=>by rw[z,f.na]at e;cases e) (λz=>nofun);na:=f.na;new:=f.new;ex:=(t,e,c,A)
theorem Fl.fresh{X:Cx}(f:Fl X.prog X.w l H s H' a C d fl s')(hn:s'.heap.get? T=ao)(h:s'.heap.objs.size<=T):H' T=ao/\s.heap.get? T=none:=by erw[(f.cY.fresh h,?_)];induction q:s.heap.get? T with|a=>rfl|c o=>let(b,z):=f.un.there T o q ⋯;rw[hn]at z;cases z
def Fl.j5{σ:Ç}(I:Inv X be σ H s)(f:Fl X.prog X.w X.stack H s H' a C d fl s'):s'.heap.FunFrames X.base X.stack:=(f.inv I).stack
def Fl.note{σ:Ç}{E:dC}(I:Inv X be σ H s)(B:X.stack=X.env::o)(b:X.env.frame=O X.env.locals)(n:A.frames=O X.stack)(f:Fl X.prog X.w X.stack H s H' a C d .none s')(h:∀j,Fl X.prog X.w X.stack H s H' a C d (ef X.env.locals) j->Q ⟨⟩ j):bv M A (hA (.ref a) X.env) Q E s':=by let(T,e,c,S):=f.ex;let hl:=f.j5 I;rw[B]at n hl;erw[Xn n hl b e λl t N g i m=>h _ ?_];let(G,k):=f.fresh N g;rwa[f.move (f.frF I) c S (by rw[B];rwa[m]) i G k]
def Fl.land{X:Cx}{E:dC}(f:Fl X.prog X.w l H s H' a C d fl s')(n:∀b∈pC l,H' b=ao)(h:∀j,Fl X.prog X.w l H s H' a C d .none j->Q ⟨⟩ j):bv M A (setFlight (.ref a) ao) Q E s':=by let(T,e,g,S):=f.ex;rwa[Sb e λm k i=>h _ (f.move n g S (λb o q _ _ c=>(i.2 b c).trans q,λb o q _ _ c=>(_,(i.2 b c).trans q)) k g S)]
def Fl.out{σ:Ç}(I:Inv X be σ H s)(h:X.ex=[])(f:Fl X.prog X.w X.stack H s H' a C d fl s'):Fl X.prog X.w X.outer X.H₀ X.s₀ H' a C d fl s':=by
 let j:=f.inv I;let c:∀b,s.heap.get? b=ao->X.s₀.heap.get? b=none:=λb q=>by induction z:X.s₀.heap.get? b with|a=>rfl|c o=>let(i,y):=I.base.there b o z nofun;rw[q]at y;cases y
 let(T,e,g,S):=f.ex;let un:=j.base;rw[h]at un;exact(j.os,j.bare,un,j.cY,f.na,c _ f.new,T,e,g,c _ S)
structure CA(X:Cx):ß where
 st:X.stack=X.env::X.outer
 fr:X.env.frame=O X.env.locals
 ex:X.ex=[]fn:∀x,X.fn x=J
def gi(X:Cx)(E:XK):ß:=∀e s,bv (cc X.prog X.w) X.A (leaving X.env e) (λ_ j=>sG X.prog X.w X.outer X.H₀ X.s₀ E e j) (λa j=>sG X.prog X.w X.outer X.H₀ X.s₀ E a j) s->X.xe e s
def gi.pass(fr:CA X)(o:gi X E):gR (sG X.prog X.w) X E:=by intro p σ H s e S I h;let(a,C,d,b,rfl,f,q):=h;rwa[o _ _ (aa (f.note I fr.st fr.fr I.ok.frames λs2 f2=>f2.land (f2.frF I) λs3 F=>(a,C,d,b,Ŗ,F.out I fr.ex,q)))]
def gi.Xi{p:Ł _}{σ:Ç}(fr:CA X)(o:gi X E)(I:Inv X p σ H s)(os:s1.os=s.os)(un:Un (pC X.stack) [] H c s.heap s1.heap)(Y:kG X.prog X.w c s1.heap)(B:AllBare s1.gens)(l:s1.heap.get? a=O (wV C t d .none))(hn:c a=ao)(new:s.heap.get? a=ao)(q:E (.ref C) d c):X.xe (.ref a) s1:=by
 erw[o _ _ ?_];let j:=I.Ba os un Y B λb h=>Ă h ⋯;let F:=j.qX;let hl:=j.stack;let k:=j.ok.frames;rw[fr.st]at hl k;let g:∀b,s1.heap.get? b=ao->s.heap.get? b=none:=λb q=>by induction z:s.heap.get? b with|a=>rfl|c o=>let(r,y):=un.there b o z ⋯;rw[q]at y;cases y
 erw[aa (ad9 k hl fr.fr l λh2 T v A e mv=>?_)];let f:Fl X.prog X.w X.stack H s c a C d (ef X.env.locals) {s1 with heap:=h2}:=by
  let N:∀b o,s.heap.get? b=O o->b≠a:=λb o q z=>()
  let m:Mv (pC X.stack) a a s1.heap h2:=by rw[fr.st];rwa[mv]
  erw[(os,j.bare,(λb o q n h x=>m.keep b o (un.keep b o q n h x) h (N b o q) (N b o q),λb o q n h x=>?_,un.free,λb o q x=>?_,un.ph,un.nr,un.pd),(j.cY.keep λb u o e q=>m.keep b o q λz=>by left (λz=>by rw[z,hn]at e;cases e) λz=>by rw[z,hn]at e;cases e),hn,new,T,e,j.cY.fresh A,g T v)];.let(sl,Q):=un.slot b o q n h x;let(S,i):=m.slot b _ Q h (N b o q) (N b o q);exact(S,i)
  .let(r,Q):=un.there b o q x;let(sl,i):=m.any Q (N b o q) (N b o q);exact(_,i)
 rwa[f.land F λs3 D=>(a,C,d,c,Ŗ,D.out I fr.ex,q)]
def gi.made{p:Ł _}{σ:Ç}(fr:CA X)(o:gi X E)(I:Inv X p σ H s)(m:Heap.MadeExcOf s.heap h' a (.ref C) vs)(q:E (.ref C) ao H):X.xe (.ref a) {s with heap:=h'}:=by let(t,h,n,b):=m.there;let j:Inv X _ σ H {s with heap:=h'}:=I.kept m.keeps;rwa[o.Xi fr I rfl (Un.kept m.keeps) j.cY j.bare h (I.cY.none_of m.new) m.new q]
nonrec abbrev NI:Ł Â:=[.type "ValueError",.type "Exception",.type "BaseException",.type "object"]
def K5(K:Ä)(C:À):ß:=excIn K C NI "ValueError.__new__"=J
def aik{P:Ő Ù->ß}(k:∀d c s,f d c s=J->P (O (.type "type",d,.cls c,s)))(q:excIn.match_6 (λ_=>Þ) o f (λ_=>bb)):P o:=by
 induction o with|a=>exact(aF q).elim|c o=>let(ty,d,dt,s):=o;induction ty with|type t=>
  by_cases h:t="type";.subst h;induction dt with|cls c=>rwa[k _ _ _ q]|_=>exact(aF q).elim
  .delta excIn.match_6 nsOkIn._sparseCasesOn_4 excIn._sparseCasesOn_6 at q;dsimp only at q;rw[dif_neg h]at q;exact(aF q).elim|_=>exact(aF q).elim
def aij{P:Ł Â->Ł (Ő Â)->ß}(k:∀C m k0 k1 k2 k3 n k5,f C m k0 k1 k2 k3 n k5=J->P (.ref C::m) [k0,k1,k2,k3,O (.builtin n),k5])(q:excIn.match_1 (λ_ _=>Þ) a b f (λ_ _=>bb)):P a b:=by
 obtain _|⟨a,m⟩:=a;.exact(aF q).elim
 induction a with
 |ref C=>
  obtain _|⟨k0,b⟩:=b;.exact(aF q).elim
  obtain _|⟨k1,b⟩:=b;.exact(aF q).elim
  obtain _|⟨k2,b⟩:=b;.exact(aF q).elim
  obtain _|⟨k3,b⟩:=b;.exact(aF q).elim
  obtain _|⟨k4,b⟩:=b;.exact(aF q).elim
  obtain _|k4:=k4;.exact(aF q).elim
  induction k4 with|builtin n=>
   obtain _|⟨k5,b⟩:=b;.exact(aF q).elim
   obtain _|_:=b;.rwa[k _ _ _ _ _ _ _ _ q]
   .exact(aF q).elim|_=>exact(aF q).elim
 |_=>exact(aF q).elim
inductive QO(h:È)(C:À):ß|mk(bm N nm qn bs hdct sn sub ab col dd k0 k1 k2 k3 k5 mN):h.get? C=O (io nm qn C N bs bm hdct sn sub ab col dd k0 k1 k2 k3 k5 "ValueError.__new__")->h.Ns N mN->mN "__init__"=ao->OwnTail h NI bm->QO h C
def R9{K:Ä}(X:K.In h)(q:K5 K C):QO h C:=by erw[aik (P:=λo=>K.lookup C=o->QO h C) (λd c s q H=>?_) q Ŗ];let(N,bs,mro,b,Q,e,S,sub,f,a,D):=c;revert H;erw[aij (P:=λm l=>K.lookup C=O (_,d,.cls (N,bs,m,b,Q,e,S,sub,f,a,D),⟨l⟩)->QO h C) (λg m k k1 k2 j n p q H=>?_) q];simp only[aK,oW,Bool.not_eq_true']at q;obtain⟨⟨⟨⟨⟨rfl,rfl⟩,A⟩,t⟩,Y⟩,i⟩:=q;cases A;rwa[.mk _ _ _ _ _ _ _ _ _ _ _ _ _ _ _ _ _ (X _ _ H) (.of_isNs (AV X Y)) (fR X Y i) (PySem.W.tail_of_in X t)]
def PK(E:XK)(C:À)(t:TE):TS:=λ_ σ H=>t σ H λ_ h=>E (.ref C) ao h
def OI(fr:CA X)(o:gi X E)(c:X.calm)(g:Gl X x)(b:X.mg x=O (.ref C))(f:K5 X.K C)(j:PE X e0 t)(S:ø (cL e0=J) v0)(k:ø ((x==("__debug__":Å))=bb) P3):PS X (.Raise (O (.Call (.Name x n) [e0] [] d)) ao pos) (PK E C t):=by intro p s σ H D I h;let(B,N,nm,Q,bs,hdct,sn,sub,ab,col,dd,k0,k1,k2,k3,k5,M,l,u,a,T):=R9 I.mod.CJ f;let hs:=cy (es:=[]) (env:=X.env) S;erw[wpAny_Raise_call_subT (nm:=nm) (q:=Q) (N:=N) (bs:=bs) (hdct:=hdct) (sn:=sn) (sub:=sub) (ab:=ab) (col:=col) (dd:=dd) (k0:=k0) (k1:=k1) (k2:=k2) (k3:=k3) (k5:=k5) PySem.F.excBase_ValueError (T.hasType (by rfl)) (I.ok.hd c) (by rw[hs];rfl) a (jh I g b (Ŗ,?_) k)];rw[hs];rwa[fG (dP (kh (j _ s σ H _ I h) λv s2 y w i r q=>hV (Ŗ,by show 1<=Ã;decide,i.bk _ _ l,u.keeps i.bk,T.keeps i.bk,λz e m=>o.made fr i m q)))]
structure nc(P:cp)(w:ce)(K:Ä)(mg:db)(base:È)(k:Ń)(x:Å)(ps:ϐ)(sp:Sp):ß where ex:∃(f:À)(fd:ed),iN P w K mg base (sG P w) k f fd ps sp/\mg x=O (.ref f)/\keepIn K (.ref f)/\Binds K fd ps []
def Src.N_{K:Ä}{st:É}(S:Src K mg x st ps)(F:cP N ps (av st))(len:∀vs H Q E,sp vs H Q E->Á vs=Á ps)(g:∀(f:À)(d:Â)(A:cr)(o:Ł Ø)(s:bn)(H:Hp)(vs:ϕ)(Q:VK)(E:XK),ff k (A.deeper (envOfC x (av st) s.heap.objs.size f d))->sp vs H Q E->∃t,jt (mG (sG P w) P w K mg base N x (av st) f d A o s H E) (bQ st) t/\t {nx:=λ_ H'=>Q .iq H',rt:=Q} (start N vs) H):nc P w K mg base (k+1) x ps sp:=by let(f,e,a,h,b):=S.ex;let(oc,i,kV,doc,p,l,d,ct,q,rfl,lk,n):=a.ex;exact(f,_,ye lk n F len λA o s H vs Q E r c=>g f d A _ s H vs Q E r c,h,a.kp,b)
theorem nc.mono{K:Ä}(D:nc P w K mg base j x ps sp)(h:j<=k):nc P w K mg base k x ps sp:=by let(f,d,F,r):=D.ex;exact(f,d,F.mono h,r)
theorem nc.imp{K:Ä}(D:nc P w K mg base k x ps sp)(h:∀vs H Q E,xO vs H Q E->sp vs H Q E):nc P w K mg base k x ps xO:=by let(f,d,F,r):=D.ex;exact(f,d,F.imp h,r)
def j4{K:Ä}:CA (mG CX P w K mg base N x sc f d A o s H E):=(Ŗ,Ŗ,Ŗ,λ_=>Ŗ)
def lu{K:Ä}:gi (mG (sG P w) P w K mg base N x sc f d A o s H E) E:=λ_ _ h=>h
def Cn(sp:Sp)(E:XK)(t:TA):TE:=λσ H Q=>t σ H λv h=>sp v h Q E
def Us(D:nc X.prog X.w X.K X.mg X.base k x ps sp)(r:ff k X.A)(a:gR (sG X.prog X.w) X E)(g:Gl X x)(b:PA X (e::es) t)(j:ø ((x==("__debug__":Å))=bb) P3)(d:ø ((e::es).all cL=J) v0):PE X (.Call (.Name x p) (e::es) [] pos) (Cn sp E t):=by
 let(f,n,F,m,c,i):=D.ex;intro P s σ H Q I h;rw[b8,aK]at d;erw[(Uo (p:=p) (pos:=pos) F r g m c i .nil a b j (cy d.1) (fh d.2) _ s σ H Q I) ?_];let l:yI sp [] E t=Cn sp E t:=by delta yI Cn;simp only[aT]
 rw[l];rwa[h]
def ED(h:env.frame=env'.frame):hA e env=hA e env':=by delta hA PySem.frameOf;rw[h]
def aeb{E:dC}{L:À}{Q:Unit->bn->ß}(N:A.frames=O (env::outer))(w:s.heap.FunFrames base (env::outer))(k:env.frame=O L)(n:Ex s.heap a C d T fl)(f:fl=ef L->Q ⟨⟩ s)(h:∀h' c,s.heap.get? c=ao->s.heap.objs.size<=c->Ex h' a C d c (ef L)->Mv ((env::outer).filterMap (·.frame)) a T s.heap h'->Q ⟨⟩ {s with heap:=h'}):bv M A (hA (.ref a) env) Q E s:=by
 by_cases p:fl=ef L;.subst p;rwa[aea k n (f Ŗ)]
 obtain⟨⟨t,r⟩,y,G,I,l,m,u⟩:=n;delta hA;simp only[k];erw[aa (b7 r Ŗ (x:=.ref T) Ŗ ?_)];erw[aa (b7 l m u ?_)];rw[bM λz=>p (HR z)];erw[aa (cO l m (fq.mp u).1 ?_)];let g:∀b,b≠T->(s.heap.update T (â (·.setIfInBounds 3 Ô))).get? b=s.heap.get? b:=λb H=>bG _ _ (c4 H);erw[vD N (w.of_keeps λb o H i=>(o,(g b (λb o H i q=>by grind b o H i)).trans H,Ŗ)) k ((g a (c4 y)).trans r) λh' c F B D v=>?_];erw[h h' c ?_ ?_ D (λb o e H j f=>v.keep b o ((g b f).trans e) H j j,λb o e H j f=>v.slot b o ((g b f).trans e) H j j)]
 .by_cases q:c=T;.rw[q]at F;let z:=bF (â (·.setIfInBounds 3 Ô)) l (cZ (bP m _));rw[z]at F;cases F
  .exact(g c q).symm.trans F
 .left
def Sd{E:dC}(e:Ex s.heap a C d T fl)(h:∀h' W,Ex h' a C d T W->Û T s.heap h'->Q ⟨⟩ {s with heap:=h'}):bv M A (setFlight (.ref a) fr) Q E s:=by obtain⟨⟨t,b⟩,l,o,i,c,H,g⟩:=e;let hz:=(fq.mp g).1;rwa[aa (b7 b Ŗ (x:=.ref T) Ŗ (cO c H hz (h _ (fr.elim .none λf=>ef f) ((t,(bG _ _ l).trans b),l,_,_,bF _ c (cZ (bP H _)),bP H _,nofun) (cq ..))))]
def Uj{E:dC}{q:α->bn->ß}(H:Ex s.heap a C d T fl)(h:∀h' W,Ex h' a C d T W->Û T s.heap h'->E (.ref a) {s with heap:=h'}):bv M A (PySem.passOn b (.ref a) w) q E s:=by let Z:=H;obtain⟨⟨t,c⟩,_⟩:=Z;rwa[aa (b7 c Ŗ (x:=.ref T) Ŗ (aa (Sd H λh' W e S=>qf (h h' W e S))))]
def Inv.toX{p:Ł _}{σ:Ç}(I:Inv X p σ H s):Inv {X with xe:=E} p σ H s:=((I.ok.mod,I.ok.kind,I.ok.glob,I.ok.blt,I.ok.above,I.ok.inj,I.ok.has,I.ok.Ll,I.ok.hd,I.ok.frames,I.ok.KU,I.ok.Qp,I.ok.bs,I.ok.zg,I.ok.sk,I.ok.vH,I.ok.j5,I.ok.DS),I.os,I.bare,I.base,I.loc,I.cell,I.free,I.fT,I.pin,I.cY,I.len)
def Inv.ofX{p:Ł _}{σ:Ç}(I:Inv {X with xe:=E} p σ H s):Inv X p σ H s:=((I.ok.mod,I.ok.kind,I.ok.glob,I.ok.blt,I.ok.above,I.ok.inj,I.ok.has,I.ok.Ll,I.ok.hd,I.ok.frames,I.ok.KU,I.ok.Qp,I.ok.bs,I.ok.zg,I.ok.sk,I.ok.vH,I.ok.j5,I.ok.DS),I.os,I.bare,I.base,I.loc,I.cell,I.free,I.fT,I.pin,I.cY,I.len)
def c7(X:Cx)(N:ϐ)(S:Í)(f:Ł À)(a:bn)(h:Hp)(E1:XK):Cx:={ig X N S f a h with xe:=λe b=>∃p σ H s,Inv (ig X N S f a h) p σ H s/\sG X.prog X.w X.stack H s E1 e b}
def Dz:gR (sG X.prog X.w) (c7 X N S f a b E1) E1:=λp σ H s e c I h=>(_,σ,H,s,I.ofX,h)
def xS{Ee:dC}(I:Ń->bn->ß)(B:∀e s',Ee e s'->notedBy (cc prog w) A env (λe s'=>R (.error e) s') e s')(l:∀n s,I n s->bv (cc prog w) A (eR z) (λr S=>r=ao/\R (.ok .next) S\/∃v,r=O v/\bv (cc prog w) A (letOwnedTupleGo T z v) (λ_ b=>bv (cc prog w) A (assign T env v) (λ_ d=>bv (cc prog w) A (forIn k J λc r=>if r=J then(do let ok<-isTrue c env (Ê c env);pure (ô ok))else pure (ô r)) (λok a=>if ok=J then bv (cc prog w) A (Ê E env) (λx f=>bv (cc prog w) A (call (.builtin "list.append") [acc,x]) (λ_ g=>∃m,m<n/\I m g) Ee f) Ee a else ∃m,m<n/\I m a) Ee d) Ee b) Ee S) Ee s)(n:Ń)(h:I n s):gc (cc prog w) A (.compLoop (.ListComp E [(T,iter,k,0)] j pos) 0 z acc env) R s:=by
 let no:∀{α:Type}{t:Sem α}{Q:α->bn->ß}{s:bn},bv (cc prog w) A t Q Ee s->bv _ A t Q _ s:=λh=>cV h (λ_ _ q=>q) B;erw[codeAny_loop Ŗ I (λn s C=>?_) n h];show bv _ A _ _ _ s;erw[wpAny_noted ?_];rw[compTurn_list];erw[aa (jw (aa (no (iZ (l n s C) λr S H=>?_))))];rcases H with ⟨rfl,H⟩|⟨v,rfl,H⟩;.rwa[ai H]
 .erw[aa (no (iZ H λ_ b o=>aa (no (iZ o λ_ d p=>aa (no (iZ p λok a i=>?_))))))];induction ok with|e=>rwa[ai (Ŗ,i)]|d=>rwa[aa (aa (no (iZ i λx f u=>aa (no (iZ u λ_ g y=>ai (ai (Ŗ,y)))))))]
def Cs{X:Cx}(B:X.stack=X.env::X.outer)(f:X.env.frame=O X.env.locals)(ab:X.s₀.heap.objs.size<=X.env.locals):Un (pC X.outer) [] X.H₀ H' X.s₀.heap h↔Un (pC X.stack) [] X.H₀ H' X.s₀.heap h:=by
 let m:∀b o,X.s₀.heap.get? b=O o->(b∈pC X.stack↔b∈pC X.outer):=λb o e=>by rw[B];delta pC;rw[ji,f];simp only[ax];exact(λh=>h.resolve_left λz=>by let:=ay e;rw[z]at this;rwa[Ă this (c6.mpr ab)],.inr)
 constructor;.intro u;exact(λb o e n H x=>u.keep b o e n (λz=>H ((m b o e).mpr z)) x,λb o e n H x=>u.slot b o e n ((m b o e).mp H) x,u.free,u.there,u.ph,u.nr,u.pd)
 .intro u;exact(λb o e n H x=>u.keep b o e n (λz=>H ((m b o e).mp z)) x,λb o e n H x=>u.slot b o e n ((m b o e).mpr H) x,u.free,u.there,u.ph,u.nr,u.pd)
def gi.marked{p:Ł _}{σ:Ç}(fr:CA X)(o:gi X E)(I:Inv X p σ H s)(h:Ex s.heap a C d T fl)(i:H a=ao)(n:H T=ao)(j:X.s₀.heap.get? a=ao)(b:X.s₀.heap.get? T=ao)(q:E (.ref C) d H):X.xe (.ref a) s:=by
 erw[o _ _ ?_];let F:=I.qX;let hl:=I.stack;let N:=I.ok.frames;rw[fr.st]at hl N;let u:=I.base;rw[fr.ex]at u;let c:Fl _ X.w _ _ _ H a C d fl s:=(I.os,I.bare,(Cs fr.st fr.fr I.ok.above).mp u,I.cY,i,j,T,h,n,b);let out:∀s',Fl X.prog X.w _ _ _ H a C d _ s'->sG _ X.w _ _ _ E _ s':=λs' f=>by exact(a,C,d,H,Ŗ,(f.os,f.bare,(Cs fr.st fr.fr I.ok.above).mpr f.un,f.cY,f.na,f.new,f.ex),q)
 rwa[aa (aeb N hl fr.fr h (λ_=>c.land F λs' f=>out s' f) λk t l g e m=>(c.move F n b (by rw[fr.st];rwa[m]) e (I.cY.fresh g) (by induction z:X.s₀.heap.get? t with|a=>rfl|c r=>rwa[Ă (bp (ay z) (aj I.sz g)) (cR _)])).land F λs' f=>out s' f)]
def qz(n:Ń)(X:Cx)(e:Æ)(t:TE):ß:=∀(p:Ł _)(s:bn)(σ:Ç)(H:Hp)(Q:VK),Inv X p σ H s->n<=s.toks->t σ H Q->bv (cc X.prog X.w) X.A (Ê e X.env) (EP X p σ Q) X.xe s
def Cp{R:α->bn->ß}{E:dC}(H:n<=s.toks)(h:bv M A t Q E s)(k:∀v s',n<=s'.toks->Q v s'->R v s'):bv M A t R E s:=wpAny_with_toks H (cV h (λv s' q t=>k v s' t q) λ_ _ e _=>e)
theorem PE.n(h:PE X e t)(n:Ń):qz n X e t:=λp s σ H Q I _ q=>h _ s σ H Q I q
def zy{R:dC}{σ:Ç}(S:eO X F a)(lP:X.calm)(hσ:∀σ:Ç,Á σ=Á X.N->k9 X F a σ (Z σ))(hi:PI X tg iter wi)(hg:∀fp m t,PG (c7 X F a fp m t E1) tg g)(hc:∀fp m t,nG (c7 X F a fp m t E1) D tc)(he:∀fp m t,qz nt (c7 X F a fp m t E1) E te)(hs:∀x,hG iter X.env x=pure x)(fin:∀{fp:Ł À}{s3 s':bn}{σ':Ç}{H3 H':Hp}{acc:À},Inv X P σ H3 s3->(∀b∈fp,mr X P H3 b)->Inv (c7 X F a fp s3 H3 E1) [] σ' H' s'->Q (.A acc) H'->compPost (cc X.prog X.w) X.A X.xe use R (.ref acc) s3.heap.objs.size (.ok .next) s')(bad:∀{fp:Ł À}{s3:bn}{H3:Hp}{acc:À},Inv X P σ H3 s3->(∀b∈fp,mr X P H3 b)->∀e s',(c7 X F a fp s3 H3 E1).xe e s'->notedBy (cc X.prog X.w) X.A (compEnvC a (qx X.env.cells a.names []) s3.heap.objs.size X.env) (λe s'=>compPost (cc X.prog X.w) X.A X.xe use R (.ref acc) s3.heap.objs.size (.error e) s') e s')(I:Inv X P σ H s)(ht:nt<=s.toks)(h:tD wi g tc te Z σ H Q):bv (cc X.prog X.w) X.A (comprehension (.ListComp E [(tg,iter,D,0)] a pos) a X.env p' (newList []) bb (Ê iter X.env) use) R X.xe s:=by
 let Bs:∀y∈a.names,y.2=.free->∃c,X.env.cells.lookup y.1=O c:=λy hy hk=>I.ok.has y.1 (.inl (S.fre y hy hk));let sub:=qy (cells:=X.env.cells) (names:=a.names) (acc:=[]) Bs (λx c e=>by cases e);erw[wpAny_comprehension_free (use:=use) rfl hs (Dx Bs) S.kind S.loc (Cp ht (hi P s σ H _ I h) λv s1 t1 h1=>Cp t1 h1 λitv s2 t2 h2=>cps λG k=>?_)];let(it,fp,tn,j,H2,rfl,I2,T,QF,f2,h2):=h2;obtain⟨W,⟨m0,w0⟩,turn⟩:=h2 s2.heap.objs.size I2.fresh;let lt2:∀b∈fp,b<s2.heap.objs.size:=λb l=>by let(o,ho,_):=T.obj _ _ QF b l;rwa[ay ho]
 erw[k (bW (wpAny_newFunctionEnv S.NQ (by intro y hy;simp at hy) (λh₁ DW DZ=>?_) S.kind))];dsimp only at DW DZ⊢;let I3:Inv X P σ (dq H2 s2.heap.objs.size (.L [])) {s2 with heap:=s2.heap.push {cls:=.type "list",data:=.seq ([]:Ł Â).toArray}}:=I2.y_ (t':=s2.toks) (ys:=[]) .nil (aN _);generalize hs3:({s2 with heap:=s2.heap.push {cls:=.type "list",data:=.seq ([]:Ł Â).toArray}}:bn)=s3 at I3;let e3:s2.heap.push {cls:=.type "list",data:=.seq ([]:Ł Â).toArray}=s3.heap:=by rw[<-hs3]
 let sz3:s3.heap.objs.size=s2.heap.objs.size+1:=by rw[<-e3,iz]
 let ak3:∀b o,s2.heap.get? b=O o->s3.heap.get? b=O o:=λb o e=>by rw[<-e3];rwa[af _ e]
 let f3:∀b∈fp,mr X P (dq H2 s2.heap.objs.size (.L [])) b:=λb l=>by let(q1,q2):=f2 b l;exact(by rw[bA (aP (lt2 b l))];rwa[q1],q2)
 let lt3:∀b∈fp,b<s3.heap.objs.size:=λb l=>by rw[sz3];rwa[fL (lt2 b l)]
 rw[e3]at DW DZ⊢;let up1:∀b o,s3.heap.get? b=O o->h₁.get? b=O o:=λb o e=>DZ.extBut b o (aP (ay e)) (af _ e);let aiX:h₁.Ns s3.heap.objs.size λ_=>ao:=by let q:=DW;simpa using q
 let I4:Inv (c7 X F a fp s3 (dq H2 s2.heap.objs.size (.L [])) E1) [] (Z σ) (dq H2 s2.heap.objs.size (.L [])) {s3 with heap:=h₁,toks:=s2.toks}:=(Lu S I3 f3 lt3 (hσ σ I.len) aiX up1).toX;let st4:tn 0 h₁:=T.keep _ _ _ QF λb l o e=>up1 b o (ak3 b o e);let acY:=λ{s' σ' H'}=>fin (s':=s') (σ':=σ') (H':=H') (acc:=s2.heap.objs.size) I3 f3;let hE:=bad (acc:=s2.heap.objs.size) I3 f3;generalize B:c7 X F a fp s3 (dq H2 s2.heap.objs.size (.L [])) E1=f at I4 acY hE;let xP:f.prog=X.prog:=by rw[<-B];rfl
 let xw:f.w=X.w:=by rw[<-B];rfl
 let xK:f.K=X.K:=by rw[<-B];rfl
 let xA:f.A=X.A:=by rw[<-B];rfl
 let xc:f.calm=true:=by rw[<-B];rwa[lP]
 let xe:f.env=compEnvC a (qx X.env.cells a.names []) s3.heap.objs.size X.env:=by rw[<-B];rfl
 let hg':PG f tg g:=by rw[<-B];rwa[hg _ _ _]
 let hc':nG f D tc:=by rw[<-B];rwa[hc _ _ _]
 let ZS:qz nt f E te:=by rw[<-B];rwa[he _ _ _]
 let M:f.ex=fp:=by rw[<-B];rfl
 let fs0:f.fs=pC X.stack:=by rw[<-B];rfl
 let pn0:f.pn=[]:=by rw[<-B];rfl
 let s00:f.s₀=s3:=by rw[<-B];rfl
 let H00:f.H₀=dq H2 s2.heap.objs.size (.L []):=by rw[<-B];rfl
 let ok4:=I4.ok;let Ff:∀{H':Hp},(∀b∈fp,H' b=ao)->∀b∈fp,mr f [] H' b:=λ{H'}hn b l=>by let(_,q1,q2,q3,q4,q5):=f3 b l;erw[(hn b l,(ok4.Qp b (by rw[M];rwa[l])).1,ok4.vH b (by rw[M];rwa[l]),.inl (by rw[M];rwa[l]),(ok4.Qp b (by rw[M];rwa[l])).2,λp hp=>?_)];rw[pn0]at hp;rwa[Ă (show p∈([]:dN)from hp) ⋯]
 let Y:gc (cc X.prog X.w) X.A (.compLoop (.ListComp E [(tg,iter,D,0)] a pos) 0 (.ref it) (.ref s2.heap.objs.size) (compEnvC a (qx X.env.cells a.names []) s3.heap.objs.size X.env)) (compPost (cc X.prog X.w) X.A X.xe use R (.ref s2.heap.objs.size) s3.heap.objs.size) {s3 with heap:=h₁,toks:=s2.toks}:=by
  erw[xS (Ee:=f.xe) (λn s'=>nt<=s'.toks/\∃i σ' ys H',Inv f [] σ' H' s'/\tn i s'.heap/\(∀b∈fp,H' b=ao)/\W i n σ' ys H') hE ?_ m0 (t2,0,_,[],_,I4,st4,λb l=>(f3 b l).1,w0)];erw[λn s5 z=>cps λG k=>?_];let(t5,i,U,ys,H5,I5,st5,fr5,w5):=z;let(r9,hh):=turn i n U ys H5 w5;rcases hh with ⟨stop,q⟩|⟨go,KR,step⟩;.let d:=T.done f xP xw xK xc i [] s5 U H5 f.xe I5 (Ff fr5) st5 stop;rw[xA]at d;rwa[k (iZ d λr s6 (hr,I6)=>.inl (hr,acY I6 q))]
  .let d:=T.item f xP xw xK xc i [] s5 U H5 f.xe I5 (Ff fr5) st5 go;rw[xA]at d;erw[k (Cp t5 d λr s6 t6 zz=>zz.elim λu zz=>zz.elim λhr h6=>.inr (u,hr,Cp t6 h6 λ_ s7 t7 x=>?_))];let(x,H7,I7,r7,y7,st7,fr7):=x;let I7':=I7.pinned (Ff fr7) (T.obj _ _ st7);let a1:=hg' _ s7 U H7 x u _ I7' r7 (step x H7 y7);rw[xP,xw,xA,xe]at a1;erw[Cp t7 a1 λ_ s8 t8 C=>?_];let(C,H8,I8,q8):=C;let a2:=hc' _ s8 C H8 _ I8 q8;rw[xP,xw,xA,xe]at a2;erw[Cp t8 a2 λok s9 t9 zz=>zz.elim λH9 zz=>zz.elim λI9 q9=>?_];let back:∀{σz:Ç}{Hz:Hp}{sz:bn},Inv f ([]++wA fp s7.heap) σz Hz sz->tn (i+1) sz.heap/\∀b∈fp,Hz b=none:=λ{σz Hz sz}Iz=>by erw[(T.keep _ _ _ st7 λb l o e=>(Iz.pin (b,o) (aW _ (aW _ (j8 l e)))).1,λb l=>?_)];let(o,e,_):=T.obj _ _ st7 b l;exact(Iz.pin (b,o) (aW _ (aW _ (j8 l e)))).2.1
   induction ok with|e=>let(m',hm,w'):=q9;exact(m',hm,t9,_,C,ys,H9,I9.lZ,(back I9).1,(back I9).2,w')|d=>let a3:=ZS _ s9 C H9 _ I9 t9 q9;rw[xP,xw,xA,xe]at a3;erw[Cp t9 a3 λy sa ta yv=>?_];let(yv,Ha,Ia,ra,adh,m',hm,w'):=yv;let a4:=yq _ sa C Ha (.A _) _ _ [y] (λv H'=>H'=dq Ha _ _) Ia rfl (.cons ra .nil) (_,ys,yv,Ŗ,Ŗ,adh,KR,Ŗ);rw[xP,xw,xA]at a4;erw[Cp ta a4 λ_ sb tb Hb=>?_];let(_,Hb,Ib,_,eb):=Hb;subst eb;exact(m',hm,tb,_,C,_,_,Ib.lZ,(back Ib).1,(back Ib).2,w')
 let es:{s2 with heap:=h₁,toks:=s2.toks+Á ([]:Ł (Å×Â))}={s3 with heap:=h₁,toks:=s2.toks}:=by rw[<-hs3];rfl
 rwa[codeAny_compStart_list (es▸Y) (T.self _ 0 _ _ _ st4 (es▸Y))]
def Bf{p:Ł _}{σ:Ç}{σ':Ç}(i:Inv X p σ H s3)(F:∀b∈f,mr X p H b)(I:Inv (c7 X N s f s3 H E1) [] σ' H' s')(q:Q (.A acc) H'):compPost (cc X.prog X.w) X.A X.xe ao (EP X p σ Q) (.ref acc) s3.heap.objs.size (.ok .next) s':=by let(m,a,_):=id I.loc;erw[(m,a,λh' K=>(.A acc,H',?_,Ŗ,q))];let un:Un (pC X.stack) f H H' s3.heap _:=I.base;let l:∀b o,s3.heap.get? b=O o->b≠s3.heap.objs.size:=λb o e=>aP (ay e);let u:Un _ f H H' _ h':=(λb o e n h x=>(K.2 b (l b o e)).trans (un.keep b o e n h x),λb o e n h x=>let (sl,z):=un.slot b o e n h x;(sl,(K.2 b (l b o e)).trans z),un.free,λb o e x=>let (c,z):=un.there b o e x;(c,(K.2 b (l b o e)).trans z),un.ph,un.nr,un.pd);erw[i.Ba I.os u (uw I.cY I.free K) I.bare λb h=>?_];.let(_,d,r,g,j,k):=F b h;exact(g,d,j,k)
def Be{R:dC}{p:Ł _}{σ:Ç}(fr:CA X)(o:gi X E1)(l:Inv X p σ c s3)(K:∀b∈F,mr X p c b):∀e s',(c7 X E S F s3 c E1).xe e s'->notedBy (cc X.prog X.w) X.A (compEnvC S (qx X.env.cells S.names []) s3.heap.objs.size X.env) (λe s'=>compPost (cc X.prog X.w) X.A X.xe use R (.ref acc) s3.heap.objs.size (.error e) s') e s':=by
 intro e r h5;let(OB,σ',H5,s4,I,a,C,d,L,rfl,f,q):=h5;let j:=Fl.inv I f;let(T,e1,hT,SE):=f.ex;let M:r.heap.FunFrames X.base X.stack:=j.stack;let W:=l.ok.frames;let Y:=fr.st;rw[Y]at M W;show bv _ _ _ _ _ r;rw[ED (env:=compEnvC _ _ _ _) (env':=X.env) Ŗ];erw[Xn W M fr.fr e1 λh6 v n1 N e6 m6=>?_];let(G,g2):=f.fresh n1 N;let u:=Fl.inv I (f.move (λb h=>Fl.frF I f b h) hT SE (by rw[Y];rwa[m6]) e6 G g2);let y:(ig X E S F s3 c).env.locals=s3.heap.objs.size:=Ŗ;let(m,hm,_):=id u.loc;erw[(m,hm,λh7 H acw alV=>?_)];let aC:a≠s3.heap.objs.size:=λz=>by obtain⟨m4,⟨o4,es4,ep4,g,_⟩,_⟩:=id I.loc;rw[y]at g;let nw:=f.new;rw[z,g]at nw;cases nw
 let i:s3.heap.objs.size<=r.heap.objs.size:=j.sz;let e7:Ex h7 a C d v (ef X.env.locals):=by obtain⟨⟨t,ha⟩,lg,oT,ts,B,hd,h3⟩:=e6;exact((t,(H.2 a aC).trans ha),lg,oT,ts,(H.2 v λz=>by rw[z]at N;rwa[Ă j.lt (c6.mpr N)]).trans B,hd,h3)
 erw[Uj (s:={r with heap:=h7}) e7 λh8 fl8 e8 k=>?_];let P:∀b o,s3.heap.get? b=O o->h8.get? b=h6.get? b:=λb o e=>(k.2 b ((λb o e=>aP (bp (ay e) (aj i N))) b o e)).trans (H.2 b ((λb o e=>aP (ay e)) b o e));let un:Un (pC X.stack) F c L s3.heap h6:=u.base;let U:Un _ F c L _ h8:=(λb o e n h x=>(P b o e).trans (un.keep b o e n h x),λb o e n h x=>let (sl,z):=un.slot b o e n h x;(sl,(P b o e).trans z),un.free,λb o e x=>let (D,z):=un.there b o e x;(D,(P b o e).trans z),un.ph,un.nr,un.pd);erw[o.marked fr (by erw[l.Ba j.os U (uw (uw u.cY (by rwa[u.free]) H) G k) j.bare λb h=>?_];let(_,q1,q2,Q,q4,q5):=K b h;exact(Q,q1,q4,q5)) e8 f.na G ?_ ?_ q];.induction z:X.s₀.heap.get? a with
  |a=>rfl|c ob=>let(D,z'):=l.base.there a ob z (by rw[fr.ex];simp);let(o'',Z):=I.base.there a D z' (λh=>by
    let(_,q1,q2,Q,q4,q5):=K a h;rcases Q with Q|Q;.rw[fr.ex]at Q;simp at Q
    .rwa[Ă (ay z) (c6.mpr Q)]);let nw:=f.new;rw[Z]at nw;cases nw
 .cases z:X.s₀.heap.get? v with|a=>rfl|c ob=>rwa[Ă (bp (ay z) (aj l.sz (aj i N))) (cR _)]
def Jx(fr:CA X)(o:gi X E1)(S:eO X n e)(l:X.calm)(d:∀σ:Ç,Á σ=Á X.N->k9 X n e σ (c σ))(hi:PI X t iter wi)(m:∀f a b,PG (c7 X n e f a b E1) t g)(q:∀f a b,nG (c7 X n e f a b E1) i T)(r:∀f a b,qz j (c7 X n e f a b E1) E k)(u:∀x,hG iter X.env x=pure x):qz j X (.ListComp E [(t,iter,i,0)] e pos) (tD wi g T k c):=by intro p s σ H Q I v h;rwa[zy S l d hi m q r u Bf (λw F=>Be fr o w F) I v h]
def N6(fr:CA X)(o:gi X E1)(S:eO X c e)(l:X.calm)(j:∀σ:Ç,Á σ=Á X.N->k9 X c e σ (d σ))(hi:PI X t iter wi)(m:∀f a b,PG (c7 X c e f a b E1) t g)(q:∀f a b,nG (c7 X c e f a b E1) i T)(r:∀f a b,PE (c7 X c e f a b E1) E k)(u:ø (∀x,hG iter X.env x=pure x) hY):PE X (.ListComp E [(t,iter,i,0)] e pos) (tD wi g T k d):=λp s σ H Q I h=>Jx fr o S l j hi m q (λf a b=>(r f _ _).n 0) u _ s σ H Q I (aN _) h
def Cx.Ok.pnx{X:Cx}(ok:X.Ok)(p:Ł _)(E:dC):Cx.Ok {X with pn:=p,xe:=E}:=(ok.mod,ok.kind,ok.glob,ok.blt,ok.above,ok.inj,ok.has,ok.Ll,ok.hd,ok.frames,ok.KU,ok.Qp,ok.bs,ok.zg,ok.sk,ok.vH,ok.j5,ok.DS)
abbrev Cx.tr(X:Cx)(pn:dN)(E1:XK):Cx:={X with pn:=pn,xe:=λe S=>∃σ H s,Inv {X with pn:=pn} [] σ H s/\sG X.prog X.w X.stack H s E1 e S}
def VV{X:Cx}{pn:Ł _}:gR (sG X.prog X.w) (X.tr pn E1) E1:=by intro P σ H s e S I h;erw[(σ,H,s,?_,h)];let j:Inv _ [] σ H s:=I.Ap λp a=>Ă a ⋯;exact(j.ok.pnx pn _,j.os,j.bare,j.base,j.loc,j.cell,j.free,j.fT,j.pin,j.cY,j.len)
abbrev Cx.hn(X:Cx)(pn:dN)(a:À):Cx:={X with A:=X.A.mark (O (.ref a)),calm:=bb,pn:=pn,xe:=λ_ _=>ŧ}
structure Hd(X:Cx)(a C:À)(d:Ő À):ß where hd:X.A.handled=O (.ref a)pn:∃t tb,(a,wV C t d tb)∈X.pn
def Inv.afM{σ:Ç}(I:Inv X be σ H s)(E:dC):Inv {X with pn:=X.pn++be,xe:=E} [] σ H s:=(I.ok.pnx _ _,I.os,I.bare,I.base,I.loc,I.cell,I.free,I.fT,λp h=>I.pin p (by simpa using h),I.cY,I.len)
def Inv.EF{σ:Ç}(ok:X.Ok)(I:Inv {X with pn:=X.pn++be,xe:=E} [] σ H s):Inv X be σ H s:=(ok,I.os,I.bare,I.base,I.loc,I.cell,I.free,I.fT,λp h=>I.pin p (by simpa using h),I.cY,I.len)
def Inv.ak0{X:Cx}{σ:Ç}(I:Inv {X with pn:=pn} [] σ H s)(b:s.heap.get? a=O o)(hn:H a=ao)(l:a≠X.env.locals)(f:a∉X.fs)(c:∀v,o.data≠.cell v):Inv (X.hn ((a,o)::pn) a) [] σ H s:=by
 erw[((I.ok.mod,I.ok.kind,I.ok.glob,I.ok.blt,I.ok.above,I.ok.inj,I.ok.has,I.ok.Ll,λz=>(aF z).elim,I.ok.frames,I.ok.KU,I.ok.Qp,I.ok.bs,I.ok.zg,I.ok.sk,I.ok.vH,I.ok.j5,I.ok.DS),I.os,I.bare,I.base,I.loc,I.cell,I.free,I.fT,λp h=>?_,I.cY,I.len)];let Z:p∈(a,o)::pn:=by simpa using h
 rcases ax.mp Z with rfl|Z;.done
 .rwa[I.pin p (by simpa using Z)]
def Inv.akb{X:Cx}{σ:Ç}(ok:Cx.Ok {X with pn:=pn})(I:Inv (X.hn ((a,o)::pn) a) [] σ H s):Inv {X with pn:=pn} [] σ H s:=(ok,I.os,I.bare,I.base,I.loc,I.cell,I.free,I.fT,λp h=>I.pin p (by simpa using Or.inr (by simpa using h)),I.cY,I.len)
def Inv.ait{σ:Ç}(I:Inv X be σ H s)(F:X.N.Nodup)(hi:X.N[i]?=O n)(hl:X.env.kindOf n=O .local)(hn:s.heap.Ns X.env.locals m)(W:h'.Ns X.env.locals λx=>if x=n then v else m x)(h:Û X.env.locals s.heap h'):Inv X be (σ.set i ao) H {s with heap:=h',toks:=T}:=by
 let(m1,e,S):=id I.loc;let G:m1=m:=by funext x;let(o,es,ep,L,M,_,P):=e;let(A,Me,R,B,K,_,f):=hn;rw[L]at B;cases B;rw[M]at K;cases K;rw[<-P,<-f]
 subst G;let ln:∀{b:À}{o:Ù},X.s₀.heap.get? b=O o->b≠X.env.locals:=λq=>aP (bp (ay q) I.ok.above);erw[(I.ok,I.os,I.bare,(λb o q n g d=>(h.2 b (ln q)).trans (I.base.keep b o q n g d),λb o q n g d=>?_,I.base.free,λb o q d=>?_,I.base.ph,I.base.nr,I.base.pd),(_,W,λj y l D Q U=>?_),λy c q=>?_,I.free,I.fT,λp Y=>?_,I.cY.keep λb u o q z=>(h.2 b λy=>by rw[y,I.free]at q;cases q).trans z,by simpa using I.len)];.let(sl,z):=I.base.slot b o q n g d;exact(sl,(h.2 b (ln q)).trans z)
 .let(A,z):=I.base.there b o q d;exact(A,(h.2 b (ln q)).trans z)
 .by_cases t:j=i
  .subst t;rw[List.getElem?_set]at Q;split at Q;.lia
   .done
  .rw[cW (c4 t)]at Q;let(u,r,z):=S j y l D Q U;erw[(u,r,?_)];rcases z with ⟨k,z⟩|⟨k,c,Z,w⟩;.let:y≠n:=λz=>t (wm F D (z▸hi));rwa[.inl (k,by simp[this,z])]
   .rwa[.inr (k,c,Z,w.sameBut h (I.Rp y c Z))]
 .let(l,z):=I.cell y c q;exact(l,z.sameBut h (I.Rp y c q))
 .let(Z,w,E,z4,z5):=I.pin p Y;exact((h.2 p.1 E).trans Z,w,E,z4,z5)
structure HZ(K:Ä)(R:À):ß where
 ty:typeIn K (.ref R)=O (.type "type")cl:(clsIn K R).isSome=J
 ba:subIn K (.ref R) (.type "BaseException")=O J
def yh{K:Ä}(X:K.In h)(q:(clsIn K R).isSome):Looks M h (isType (.ref R)) true:=by
 delta clsIn at q;split at q;.ext C d c s H;intro A Q E S k z;rwa[aa (wpAny_loadPart (k _ _ (X _ _ H)) (ai z))]
 .cases q
def R8{K:Ä}{E:dC}(X:K.In s.heap)(H:HZ K R)(b:s.heap.get? a=O o)(c:o.cls=.ref C)(e:subIn K (.ref C) (.ref R)=O J)(q:Q J s):bv M A (excMatches (.ref a) (.ref R)) Q E s:=by let(h,g,d,t,os):=s;let L:Looks M h (typeOf (.ref R)) _:=PySem.W.looks_typeIn X H.ty;let l:Looks M h (typeOf (.ref a)) (.ref C):=c▸(Looks.ld b).andThen .now;erw[aa ((L.andThen (Looks.of_pure tc_notTuple)).at ?_)];erw[aa (ai ?_)];erw[aa ?_];rw[jI];erw[aa (aa (((yh X H.cl).andThen (Ŋ X H.ba)).at ?_))];erw[ai ?_];erw[ai ?_];erw[aa (l.at ?_)];erw[aa ?_];rw[jI];rwa[aa (aa ((Ŋ X e).at (ai (ai (ai q)))))]
structure gT(K:Ä)(C:À)(x c3:Å)(st:É)(ps:ϐ):ß where ex:∃(f:À)(fd:ed),CB K x c3 st f fd/\yY K C x f/\Binds K fd ps []
structure qp(K:Ä)(C:À)(c3:Å)(st:É)(ps:ϐ):ß where ex:∃(f:À)(fd:ed),CB K "__init__" c3 st f fd/\Mk K C f/\Binds K fd ps []
structure yX(P:cp)(w:ce)(K:Ä)(mg:db)(base:È)(CX:uS)(k:Ń)(C:À)(x:Å)(ps:ϐ)(sp:Sp):ß where ex:∃(f:À)(fd:ed),iN P w K mg base CX k f fd ps sp/\yY K C x f/\Binds K fd ps []
structure lH(P:cp)(w:ce)(K:Ä)(mg:db)(base:È)(k:Ń)(x:Å)(C:À)(ps:ϐ)(sp:Sp):ß where ex:∃(f:À)(fd:ed)(JM:ϐ)(Kc:Sp)(ds:Ł Â)(dvs:ϕ),iN P w K mg base yW k f fd JM Kc/\Mk K C f/\Binds K fd JM ds/\Vals dvs ds/\(∀vs H Q E,sp vs H Q E->Kc (vs++dvs) H Q E)/\mg x=O (.ref C)
def gT.N_{K:Ä}{st:É}(S:gT K C x c3 st ps)(F:cP N ps (av st))(len:∀vs H Q E,sp vs H Q E->Á vs=Á ps)(g:∀(f:À)(d:Â)(A:cr)(o:Ł Ø)(s:bn)(H:Hp)(vs:ϕ)(Q:VK)(E:XK),ff k (A.deeper (envOfC c3 (av st) s.heap.objs.size f d))->sp vs H Q E->∃t,jt (mG (sG P w) P w K mg base N c3 (av st) f d A o s H E) (bQ st) t/\t {nx:=λ_ H'=>Q .iq H',rt:=Q} (start N vs) H):yX P w K mg base (sG P w) (k+1) C x ps sp:=by let(f,e,a,h,b):=S.ex;let(oc,i,kV,doc,p,l,d,ct,q,rfl,lk,n):=a.ex;exact(f,_,ye lk n F len λA o s H vs Q E r c=>g f d A _ s H vs Q E r c,h,b)
theorem qp.ok{K:Ä}{mg:db}{base:È}{x c3:Å}{st:É}{ps N:ϐ}{k:Ń}{sp:Sp}{C:À}(S:qp K C c3 st ps)(a:mg x=O (.ref C))(F:cP N ps (av st))(len:∀vs H Q E,sp vs H Q E->Á vs=Á ps)(g:∀(f:À)(d:Â)(A:cr)(o:Ł Ø)(s:bn)(H:Hp)(vs:ϕ)(Q:VK)(E:XK),ff k (A.deeper (envOfC c3 (av st) s.heap.objs.size f d))->sp vs H Q E->∃t,jt (mG yW P w K mg base N c3 (av st) f d A o s H E).BN (bQ st) t/\t {nx:=λ_ H'=>Q .iq H',rt:=Q} (start N vs) H):lH P w K mg base (k+1) x C ps sp:=by let(f,b,c,m,e):=S.ex;exact(f,b,ps,sp,[],[],c.ok F len (g f),m,e,.nil,λ_ _ _ _ h=>by rw[aT];rwa[h],a)
theorem yX.mono{K:Ä}(D:yX P w K mg base CX j C x ps sp)(h:j<=k):yX P w K mg base CX k C x ps sp:=by let(f,d,F,r):=D.ex;exact(f,d,F.mono h,r)
theorem lH.mono{K:Ä}(D:lH P w K mg base j x C ps sp)(h:j<=k):lH P w K mg base k x C ps sp:=by let(f,a,M,c,ds,d,F,r):=D.ex;exact(f,a,M,c,ds,d,F.mono h,r)
def Oa(D:lH X.prog X.w X.K X.mg X.base k x C ps sp)(g:ff (k+1) X.A)(j:Gl X x)(l:PA X (e::es) t)(U:ø ((x==("__debug__":Å))=bb) P3)(d:ø ((e::es).all cL=J) v0):PE X (.Call (.Name x p) (e::es) [] pos) (Ž C sp [] E0 t):=by let(f,L,N,R,ds,n,F,M,u,v,y,z):=D.ex;rw[b8,aK]at d;intro P s σ H Q I h;rwa[fB (jh I j z (fA I.ok.mod.CJ M.kp (iZ (l pos _ s σ H _ I h) λS s1 Z=>by let(B,T,i,r,q):=Z;exact(i.kZ,O6 M F g u v aeA i r λx G a b c=>y (.A x::B) _ _ _ (by let q:=q x G a b c;rw[aT]at q;rwa[q]))) (cy d.1) (fh d.2)) U)]
def o8(e:Î×Â):Å:=strOf e.2
def lI(P:cp)(w:ce)(h:È)(a:À)(ws:ϐ):ß:=∃(o:Ù)(e:Array _)(E:Ń)(t:fm),h.get? a=O o/\o.ExactSet/\o.data=.set e E t/\ElemsOf (Ú P w) e.toList/\(e.toList.map o8).Perm ws/\ws.Nodup/\e.size<scanBound/\t.fits e.size=J/\(w.params.followText "set-order"=bb->t.led=J/\(e.size≠0->t.plain=bb))
def pU(ws:ϐ)(x:Å):ϐ:=if x∈ws then ws else ws++[x]
def Kg(t:fm)(n:Ń):(t.orStandIn n).led=t.led:=by delta SetTable.orStandIn;split<;>rfl
def Ep(t:fm)(es:Array _)(h:Î)(x:Â):(layNew t es h x).2.1.led=t.led:=by
 delta layNew;split;.rw[Kg];rfl
 .rfl
def E2{t:fm}{os:Array Ń}(h:t.relaid H n=O (t',os)):t'.led=t.led/\t'.plain=t.plain:=by delta SetTable.relaid SetTable.laid at h;induction c:SetTable.layClean _ H with|a=>rw[c]at h;cases h|c ow=>rw[c]at h;cases h;exact(Ŗ,Ŗ)
def J8(t:fm)(es:Array _)(n:Ń):(relayAll t es n).2.1.led=t.led/\(t.plain=bb->(relayAll t es n).2.1.plain=bb):=by
 delta relayAll;split
 .ext T os e;let:=E2 e;dsimp only;split;.exact(this.1,λh=>this.2.trans h)
  .exact(Ŗ,λ_=>Ŗ)
 .exact(Ŗ,λ_=>Ŗ)
def zW(v:ElemsOf (Ú P w) es)(h:e∈es):∃t,e.2=.str (o8 e) t:=by obtain⟨⟨k,H,_⟩,_⟩:=v e h;let(t,a):=yV H;exact(t,by delta o8;rw[a];rfl)
def yg(v:ElemsOf (Ú P w) es)(x:Å):(∃e∈es,(Ú P w).is x e.2=J)↔x∈es.map o8:=by
 constructor;.rintro⟨e,H,p⟩;let(t,a):=yV p;erw[cx.mpr (e,H,?_)];delta o8;rw[a];rfl
 .intro h;let(e,H,rfl):=cx.mp h;let(t,a):=zW v H;exact(e,H,by rw[a];rwa[oY P w _ t])
def stored{s:bn}(c:s.heap.get? a=O o)(hex:o.ExactSet)(h:o.data=.set es ep t)(v:ElemsOf (Ú P w) b.toList)(p:(b.toList.map o8).Perm ws)(n:ws.Nodup)(d:b.size<scanBound)(f:T.fits b.size)(l:w.params.followText "set-order"=bb->T.led/\(b.size≠0->T.plain=bb)):(s.heap.update a (þ b T)).get? a=O {o with data:=.set b (ep+1) T}/\lI P w (s.heap.update a (þ b T)) a ws:=by
 let H:=by let q:=bF (þ b T) c (by rw[putSet_of b T h];rfl);rw[putSet_of b T h]at q;rwa[q]
 exact(H,_,b,_,T,H,hex,Ŗ,v,p,n,d,f,l)
def K8{E:dC}(hS:lI P w s.heap a ws)(amd:Á ws+1<scanBound)(h:∀(b:Þ)(h':È),Û a s.heap h'->lI P w h' a (pU ws x)->Q b {s with heap:=h'}):bv (cc P w) A (setAddHashed a (.str x k) ((Ú P w).hash x)) Q E s:=by
 let(o,d,ep,t,l,hex,m,v,n,nd,hb,K,M):=hS;let Bt:=oY P w x k;let hlen:d.size=Á ws:=by rw[<-n.length_eq,ae,cj]
 delta setAddHashed setAddHashedIn;erw[bS (aa (fO l m K ?_))];dsimp only;rw[byScan_of (x:=.str x k) Ŗ hb v];simp only[↓reduceIte];delta setAddByScan;erw[aa (aa (jQ (aa (wpAny_setScan_of Bt l m K v ?_))))];induction hr:List.findIdx? (λe=>(Ú P w).is x e.2) d.toList with|c j=>dsimp only;let(hj,U,_):=List.findIdx?_eq_some_iff_getElem.mp hr;let g:x∈ws:=n.mem_iff.mp ((yg v x).mp (_,fZ hj,U));erw[ai (ai ?_)];let q:=h bb s.heap (Heap.SameBut.refl a s.heap) (o,d,ep,t,l,hex,m,v,by delta pU;rw[b5 g];rwa[n],by delta pU;rw[b5 g];rwa[nd],hb,K,M);rwa[q]|a=>
  dsimp only;let g:x∉ws:=λg=>by let(e,he,hp):=(yg v x).mpr (n.mem_iff.mpr g);let:=List.findIdx?_eq_none_iff.mp hr e he;rw[hp]at this;cases this
  let ei:pU ws x=ws++[x]:=by delta pU;rw[bM g]
  rw[ei]at h;let N:(ws++[x]).Nodup:=dg.mpr (nd,⋯,λy hy z hz=>by rw[aE]at hz;subst hz;rwa[λe=>g (e▸hy)]);let p:=layNew_perm t d ((Ú P w).hash x) (.str x k);let H:=layNew_fits t d ((Ú P w).hash x) (.str x k);let I:=Ep t d ((Ú P w).hash x) (.str x k);generalize layNew t d ((Ú P w).hash x) (.str x k)=L at p H I⊢;let(c,t1,Qd,aoi):=L;dsimp only at p H I⊢;rw[Array.toList_push]at p;let u:ElemsOf (Ú P w) c.toList:=(v.push Bt Ŗ).perm p;let Y:(c.toList.map o8).Perm (ws++[x]):=(p.map o8).trans (by rw[aH];rwa[n.append (w6 _)]);let apg:c.size=Á ws+1:=by rw[<-cj,<-ae (f:=o8),Y.length_eq,aq];rfl
  let B:c.size<scanBound:=()
  let gw:∀(b:Þ){s₁:bn}{W:Unit->bn->ß},W ⟨⟩ s₁->bv (cc P w) A (match b with|J=>rule "set.scan.the-table-gave-way"|bb=>pure ⟨⟩) W E s₁:=λb s₁ W hq=>by
   induction b;.rwa[ai hq]
   .rwa[jQ hq]
  erw[aa (gw _ ?_)];let tail:∀T:fm,T.fits c.size=J->T.led=t.led->T.plain=bb->bv (cc P w) A (do storeSet a c T if(!Qd&&T.tooFull)=J then do(match(relayAll T c (õ c.size)).2.2 with|J=>rule "set.scan.the-table-gave-way"|bb=>pure ⟨⟩)storeSet a (relayAll T c (õ c.size)).1 (relayAll T c (õ c.size)).2.1pure (O J)else pure (O J)) (λr S=>∃h',r=O J/\S={s with heap:=h'}/\Û a s.heap h'/\lI P w h' a (ws++[x])) E s:=by
   intro T X C Qx;erw[aa (wpAny_storeSet_of l m ?_ (CS B))];let(MG,Z):=stored l hex m u Y N B X λz=>(C.trans (M z).1,λ_=>Qx);let D:=cq s.heap a (þ c T);split
   .let SS:=relayAll_perm T c (õ c.size);let nz:=relayAll_fits T c (õ c.size);let i:=J8 T c (õ c.size);generalize relayAll T c _=R at SS nz i⊢;let(F,t3,alL):=R;let KR:F.size=c.size:=by rw[<-cj,SS.length_eq,cj]
    let Qr:F.size<scanBound:=()
    erw[aa (gw _ ?_)];erw[aa (wpAny_storeSet_of MG Ŗ ?_ (CS Qr))];let(_,hS2):=stored (s:={s with heap:=s.heap.update a _}) MG hex rfl (u.perm SS) ((SS.map _).trans Y) N Qr nz λz=>(i.1.trans (C.trans (M z).1),λ_=>i.2 Qx);rwa[ai (_,Ŗ,Ŗ,D.trans (cq _ a _),hS2)]
   .rwa[ai (_,Ŗ,Ŗ,D,Z)]
  let G:∀(r:Ő _)(S:bn),(∃h',r=O J/\S={s with heap:=h'}/\Û a _ h'/\lI P w h' a _)->∃h',r=O _/\S={s with heap:=h'}/\Q J _:=λr S zz=>(by let(h',e1,e2,e3,e4):=zz;exact(h',e1,e2,h _ h' e3 e4));split;.erw[aa ?_];erw[ai (cV (tail _ (SetTable.fits_plain_off H) I Ŗ) (λr S z=>?_) λ_ _ e=>e)];let(h',rfl,rfl,q):=G r S z;rwa[ai q]
  .ext dS;erw[cV (tail t1 H I (bB.mpr dS)) (λr S z=>?_) λ_ _ e=>e];let(h',rfl,rfl,q):=G r S z;rwa[ai q]
def dR(l:ϐ):ϐ:=l.foldl pU []
def DO(l:ϐ)(x:Å):dR (l++[x])=pU (dR l) x:=by delta dR;rw[List.foldl_append];rfl
def Ef(h:ws.Nodup)(x:Å):(pU ws x).Nodup:=by
 delta pU;split;.rwa[h]
 .ext a;rwa[dg.mpr (h,⋯,λy b z H=>by rw[aE]at H;subst H;rwa[λe=>a (e▸b)])]
def MR:y∈pU ws x↔y∈ws\/y=x:=by
 delta pU;split;.left
 .rw[bE,aE]
def jn(l:ϐ):(dR l).Nodup/\∀y,y∈dR l↔y∈l:=by
 suffices h:∀(l:ϐ)(ws:ϐ),ws.Nodup->(l.foldl _ ws).Nodup/\∀y,y∈l.foldl _ ws↔y∈ws\/y∈l by let(a,b):=h l [] iA;exact(a,λy=>(b y).trans ⋯)
 intro l;induction l with|f=>intro ws h;exact(h,λy=>⋯)|g x r i=>intro ws h;let(a,b):=i _ (Ef h x);exact(a,λy=>(b y).trans (by rw[MR,ax,or_assoc]))
def lI.at(H:lI P w h a ws)(k:∀o,h.get? a=O o->h'.get? a=O o):lI P w h' a ws:=by let(o,e,E,t,b,r):=H;exact(o,e,E,t,k o b,r)
def IS{R:Result->bn->ß}{I S l:À}{B:Array Â}{xs:ϐ}(W:Walks P w A.in1 I [I,l] [I] B.size (λi v=>B[i]?=O v) λi h=>h.IsListIter I l i/\h.IsList l B)(H:S≠I)(D:S≠l)(F:∀(i:Ń)(v:Â),B[i]?=O v->∃x t,xs[i]?=O x/\v=.str x t)(hn:Á xs=B.size)(G:∀i,Á (dR (xs.take i))+1<scanBound):∀(k i:Ń)(s:bn),B.size-i=k->i<=B.size->s.heap.IsListIter I l i/\s.heap.IsList l B->lI P w s.heap S (dR (xs.take i))->(∀(h':È)(T:Ń),(∀b o,b≠S->b≠I->s.heap.get? b=O o->h'.get? b=O o)->lI P w h' S (dR xs)->R (.ok (.ret .none)) {s with heap:=h',toks:=T})->gc (cc P w) A (.builtin "set.update.loop" ([.ref S,.ref I],[])) R s:=by
 intro k;induction k with|h=>
  intro i s L M st f q;obtain rfl:i=B.size:=()
  erw[dM UV ?_];rw[md rF _];show bv _ A.in1 (eR (.ref I)>>=_) _ _ s;erw[aa (W.done s _ _ st λh' T K=>?_)];show bv _ A.in1 (ret Ô) _ _ _;let e:dR (xs.take B.size)=dR xs:=by rw[<-hn,fe]
  rwa[ai (q h' T (λb o _ j g=>K b o (by simp[j]) g) (e▸f.at λo g=>K S o (by simp[H]) g))]|j k N=>
  intro i s L M st f q;let z:i<B.size:=()
  erw[dM UV ?_];rw[md rF _];show bv _ A.in1 (eR (.ref I)>>=_) _ _ s;erw[aa (W.item i s _ _ z st λv h' T Q X K=>?_)];let(x,t,m,rfl):=F i v Q;let n:lI P w h' S (dR (xs.take i)):=f.at λo g=>K S o (by simp[H]) g;show bv _ A.in1 (holding [ü x t] (setAdd S (.str x t))>>=_) _ _ _;erw[aa (bS ?_)];delta setAdd;erw[bS (aa ((Ú P w).pyHash (k:=x) (oY _ _ _ _) ?_))];erw[K8 (s:={s with heap:=h',toks:=T+1}) n (G i) λb Y C p=>?_];let e:dR (xs.take (i+1))=pU (dR (xs.take i)) x:=by rw[qc,m];rwa[DO _ _]
  erw[ai (gW rF _,N (i+1) _ () z (W.frame _ _ _ X λc Z o g=>?_) (e▸p) λU r u y=>?_)];.rw[C.2 c (by grind)];rwa[g]
  .erw[q U r (λc o a d g=>u c o a d ?_) y];rw[C.2 c a];rwa[K c o (by simp[d]) g]
def T7{E:dC}(a:Â){Q₁:dC}(h:Q₁ (.ref s.heap.objs.size) {s with heap:=s.heap.push {cls:=.type "set",dict:=ao,data:=.set #[] 0 (.fresh 0 0 !w.params.followText "set-order")}}):gc (cc P w) A (.call (.builtin "set.__new__") ([.type "set",a],[])) (wants Q₁ E) s:=by erw[codeAny_of_tree ?_];show bv _ A.in1 (do checkBuiltinCall "set.__new__" ([.type "set",a],[]);again _) _ _ s;erw[aa (mq (F.newCall_set_1 a) (ai (gW F.plain_set_new _,dM F.entry_set_new ?_)))];let j:=sub_set_self;wp_walk;rwa[lG (ai (aa (wpAny_alloc (ai (ai h)))))]
section
variable{P:cp}{w:ce}{A:cr}{E:dC}{s:bn}
def Pl{x:Â}{Q:dC}(b:bv (cc P w) A.in1.in1 (Builtin.«set.__init__» ([.ref s.heap.objs.size,x],[])) (λd s'=>match d with|.done f=>wants (λr S=>r=.none/\Q (.ref s.heap.objs.size) S) E (.ok f) s'|.again C=>C.quiet=J/\gc (cc P w) A.in1 C (wants (λr S=>r=.none/\Q (.ref s.heap.objs.size) S) E) s') (λe s'=>wants (λr S=>r=.none/\Q (.ref s.heap.objs.size) S) E (.error e) s') {s with heap:=s.heap.push {cls:=.type "set",dict:=ao,data:=.set #[] 0 (.fresh 0 0 !w.params.followText "set-order")}}):bv (cc P w) A (call (.type "set") [x]) Q E s:=by
 let t:=F.called_set;let(c,l,g):=t.mro;let i:=t.made;let m:=t.sub;let h1:=t.notType;let h2:=t.canCreate;let H:=F.typeCall_set_1 x;erw[jP (codeAny_of_tree (show bv _ _ (callAny (.type "set") _) _ _ _ from ai (Code.quiet_builtin _ ∅,dM F.entry_type_call ?_)))];rw[Around.under_plain (weight_type_call_type "set" [x] []) Ŗ];repeat(any_goals(first|assumption|wp_step))
 erw[dO (T7 (P:=P) (w:=w) x (E:=E) (Q₁:=λo a=>o=.ref s.heap.objs.size/\a={s with heap:=s.heap.push {cls:=.type "set",dict:=ao,data:=.set #[] 0 (.fresh 0 0 !w.params.followText "set-order")}}) (Ŗ,Ŗ)) λr a h=>?_];match r,h with
 |.error e,h=>rwa[h]|.ok (.ret o),h=>
  let(rfl,rfl):=h;let T:Shared.TypeIs {s with heap:=s.heap.push {cls:=.type "set",dict:=ao,data:=.set #[] 0 (.fresh 0 0 !w.params.followText "set-order")}} (.ref s.heap.objs.size) "set":=(_,aA _ Ŗ,Ŗ);let j:=t.init.lookup;let k:=t.init.bind (.ref s.heap.objs.size);repeat(any_goals(first|assumption|wp_step))
  erw[dO (mn t.init.plain F.entry_set_init (check_set_init_1 T b)) λR S n=>?_];match R,n with|.error e,n=>rwa[n]|.ok (.ret u),n=>let(rfl,q):=n;repeat(any_goals(first|assumption|wp_step))|.ok .next,n=>rwa[n.elim]|.ok .brk,n=>rwa[n.elim]|.ok .cont,n=>rwa[n.elim]
 |.ok .next,h=>rwa[h.elim]|.ok .brk,h=>rwa[h.elim]|.ok .cont,h=>rwa[h.elim]
def AB{Q:dC}(q:A.handled=ao)(r:s.heap.IsList l bT)(u:∀(i:Ń)(v:Â),bT[i]?=O v->∃x t,xs[i]?=O x/\v=.str x t)(hn:Á xs=bT.size)(B:∀i,Á (dR (xs.take i))+1<scanBound)(h:∀(h':È)(T:Ń),lI P w h' s.heap.objs.size (dR xs)->(∀b o,s.heap.get? b=O o->h'.get? b=O o)->Q (.ref s.heap.objs.size) {s with heap:=h',toks:=T}):bv (cc P w) A (call (.type "set") [.ref l]) Q E s:=by
 erw[Pl ?_];generalize f:({cls:=.type "set",dict:=ao,data:=.set #[] 0 (.fresh 0 0 !w.params.followText "set-order")}:Ù)=o;let C:(s.heap.push o).get? s.heap.objs.size=O o:=aA _ (by rw[<-f];rfl);let j:lI P w (s.heap.push o) s.heap.objs.size (dR (xs.take 0)):=by
  erw[(o,#[],0,.fresh 0 0 !w.params.followText "set-order",C,by rw[<-f];exact(Ŗ,Ŗ,Ŗ),by rw[<-f],λe D=>by simp at D,?_,?_,∅,by rfl,λz=>(?_,λy=>Ă Ŗ y))];.rwa[w6 _]
  .rwa[iA]
  .show(!w.params.followText "set-order")=J;rw[z];rfl
 let(ol,d,H,L,a):=r;let k:=af o d;let N:(s.heap.push o).IsList l bT:=(_,k,H,L,a);let S:l<s.heap.objs.size:=ay d;let K:(s.heap.push o).objs.size=s.heap.objs.size+1:=jN _ _;let(oc,X,M,Y):=ol;simp only at H a;subst H;subst a;let e1:=F.sub_list_set;let e2:=F.sub_list_frozenset;let Z:(à "list"==à "dict")=false:=∅
 let R:l≠(s.heap.push o).objs.size:=by rw[K];rwa[aP (fL S)]
 let U:s.heap.objs.size≠(s.heap.push o).objs.size:=by rw[K];rwa[aP (eB _)]
 subst f;delta Builtin.«set.__init__» noKeywords;delta Builtin.Frozenset.updateFrom;generalize I:pyIter=PI;wp_walk;subst I;erw[CU N ?_];erw[aa (w8 ?_)];let m:A.in1.in1.in1.handled=none:=by simp[q]
 erw[IS (P:=P) (w:=w) (A:=A.in1.in1) (xs:=xs) (Walks.list m _ l R bT) U (eW S) u hn B (bT.size-0) 0 _ rfl (aN _) ((_,aA _ Ŗ,Ŗ,Ŗ),N.push _) (j.at λp g=>af _ g) λh' T W n=>?_];show bv _ _ _ _ _ _;erw[ai ?_];show bv _ _ (ret Ô) _ _ _;erw[ai (Ŗ,h h' T n λc p g=>?_)];let G:=ay g;rwa[W c p (aP G) (by rw[K];rwa[aP (fL G)]) (af _ (af _ g))]
def ir:Slot "set_iterator" "__next__" "set_iterator.__next__":=by
 erw[.of (owner:="set_iterator") (n:="__next__") ?_ ?_ ?_ ?_ ?_ ?_];.kernel_rfl
 .rfl
 .rfl
 .rfl
 .first|rwa[.inl (by rfl)]|lia
 .rfl
def qU:entryFor table "set_iterator.__next__"=O Builtin.«set_iterator.__next__»:=HQ Ŗ
def uK(a:Â):argsOk "set_iterator.__next__" ([a],[]):=by rfl
def oq:entryFor table "set.__iter__"=O Builtin.«frozenset.__iter__»:=by
 erw[entryFor_alias (id':="frozenset.__iter__") ?_ Ŗ ?_ ?_];.kernel_rfl
 .decide+kernel
 .kernel_rfl
def A1(h:È)(I a:À)(first:Â)(i n ep:Ń):ß:=∃o,h.get? I=O o/\o.cls=.type "set_iterator"/\o.data=.fields #[first,.int i 0,.ref a,.int n 0,.int ep 0]
def A1.typeIs(h:A1 s.heap I a first i n ep):s.TypeIs (.ref I) "set_iterator":=let (o,H,c,_):=h;(o,H,c)
def Hw{slot nx:Ń}(hit:A1 s.heap I a (.int slot 0) i n ep)(h:s.heap.get? a=O o)(H:o.data=.set es ep t)(f:t.fits es.size)(hn:es.size=n)(x:∀(c:cr)(e:dC)(b:Ő _->bn->ß),b (O (v,nx)) s->bv (cc P w) c (setNext a slot i ep) b e s)(q:∀h',A1 h' I a (.int nx 0) (i+1) n ep->Û I s.heap h'->Q (O v) {s with heap:=h'}):bv (cc P w) A (eR (.ref I)) Q E s:=by let(oI,G,d,B):=id hit;erw[aa (eD (bY hit.typeIs ir (bZ ir hit.typeIs qU ?_ (uK _))))];erw[aa (ai ?_)];erw[aa (kD G B ?_)];erw[aa (fX h H f ?_)];rw[bM (by rw[hn];simp)];erw[aa (x _ _ _ ?_)];erw[aa (cO G B ⋯ ?_)];let g:=bF (â (·.setIfInBounds 0 (ef nx))) G (cZ (bP B _));let d1:=bP B (·.setIfInBounds 0 (ef nx));erw[aa (cO g d1 ⋯ ?_)];erw[ai (v,Ŗ,ai (q _ (_,(bF (â (·.setIfInBounds 1 (ef (i+1)))) g (cZ (bP d1 _))),(kr ..).trans ((kr ..).trans d),?_) ((cq ..).trans (cq ..))))];rw[(bP d1 (·.setIfInBounds 1 (ef (i+1))))];simp[ef]
def Fb{slot:Ń}(h:A.handled=ao)(hit:A1 s.heap I a (.int slot 0) i n ep)(H:s.heap.get? a=O o)(d:o.data=.set es ep t)(f:t.fits es.size)(hn:es.size=n)(x:∀(c:cr)(e:dC)(b:Ő (Â×Ń)->bn->ß),b ao s->bv (cc P w) c (setNext a slot i ep) b e s)(q:∀h',é I s.heap h'->Q ao {s with heap:=h'}):bv (cc P w) A (eR (.ref I)) Q E s:=by let(oI,G,g,B):=id hit;delta eR;erw[aa (eD (bY (name:=í "__next__") hit.typeIs ir (bZ ir hit.typeIs qU ?_ (uK _))))];delta Builtin.«set_iterator.__next__»;erw[aa (ai (aa (kD G B ?_)))];erw[aa (fX H d f ?_)];rw[bM (by rw[hn];simp)];erw[aa (x _ _ _ ?_)];erw[aa (cO G B ⋯ ?_)];erw[aa ?_];erw[aa (bW ?_ (by size_fits))];erw[aa (mq (a:=Ô) Ŗ ?_)];erw[bW ?_ (by size_fits)];erw[aa (ql ?_)];rw[h];erw[aa (ai (qf ?_))];rwa[aa (iM (_,aA _ Ŗ,Ŗ) oX (ai (q _ (((cq ..).extBut.push _).push _))))]
def Vn{k:Ń}(hit:A1 s.heap I a (.ref p) i n ep)(b:s.heap.get? a=O o)(d:o.data=.set es ep t)(f:t.fits es.size)(hn:es.size=n)(c:s.heap.IsTuple p ps)(e:ps[i]?=O (.int k T))(g:es[k]?=O (z,v))(q:∀h',A1 h' I a (.ref p) (i+1) n ep->Û I s.heap h'->Q (O v) {s with heap:=h'}):bv (cc P w) A (eR (.ref I)) Q E s:=by let(oI,G,j,B):=id hit;let(m,h,l,mp,H):=c;erw[aa (eD (bY hit.typeIs ir (bZ ir hit.typeIs qU ?_ (uK _))))];erw[aa (ai (aa (kD G B ?_)))];erw[aa (fX b d f ?_)];rw[bM (by rw[hn];simp)];erw[aa (d7 h H ?_)];simp only[fH,e];erw[aa ?_];erw[aa (fO b d f ?_)];dsimp only;rw[bM ⋯];simp only[g];erw[ai ?_];erw[aa (cO G B ⋯ ?_)];erw[ai (v,Ŗ,ai (q _ (_,(bF (â (·.setIfInBounds 1 (ef (i+1)))) G (cZ (bP B _))),(kr ..).trans j,?_) (cq ..)))];rw[bP B];simp[ef]
def Ŭ(b:A.handled=ao)(hit:A1 s.heap I a (.ref p) i n ep)(c:s.heap.get? a=O o)(d:o.data=.set es ep t)(f:t.fits es.size)(hn:es.size=n)(e:s.heap.IsTuple p ps)(k:ps[i]?=ao)(q:∀h',é I s.heap h'->Q ao {s with heap:=h'}):bv (cc P w) A (eR (.ref I)) Q E s:=by let(oI,G,j,B):=id hit;let(l,h,g,mp,H):=e;delta eR;erw[aa (eD (bY (name:=í "__next__") hit.typeIs ir (bZ ir hit.typeIs qU ?_ (uK _))))];delta Builtin.«set_iterator.__next__»;erw[aa (ai (aa (kD G B ?_)))];show bv _ _ (setEntries a>>=_) _ _ s;erw[aa (fX c d f ?_)];rw[bM (by rw[hn];simp)];show bv _ _ _ _ _ s;erw[aa (d7 h H ?_)];simp only[fH,k];erw[aa (cO G B ⋯ ?_)];erw[aa (cO (bF (â (·.setIfInBounds 0 (ef 0))) G (cZ (bP B _))) (bP B _) ⋯ ?_)];erw[aa ?_];simp only[newExc,newTuple];erw[aa (bW ?_ (by size_fits))];erw[aa (mq (a:=Ô) Ŗ ?_)];erw[bW ?_ (by size_fits)];erw[aa (ql ?_)];rw[b];erw[aa (ai (qf ?_))];rwa[aa (iM (_,aA _ Ŗ,Ŗ) oX (ai (q _ ((((cq ..).trans (cq ..)).extBut.push _).push _))))]
end
section
variable{P:cp}{w:ce}{A:cr}{E:dC}
def Wg(hn:n≠0)(h:∀i,i<n->∀d,Q i {s with drawn:=d}):bv (cc P w) A (choose S n) Q E s:=by intro Γ p H;exact(hn,h _ (Nat.mod_lt _ (Nat.pos_of_ne_zero hn)) _)
theorem pY{α:Type}:∀{xs:Ł α}{i:Ń}{x:α},xs[i]?=O x->(x::xs.eraseIdx i).Perm xs|y::r,0,x,h=>by simp at h;subst h;rwa[w6 _]|y::r,i+1,x,h=>by exact(List.Perm.swap y x _).trans ((pY (by done)).cons y)
theorem Cy:∀(n:Ń)(xs:Ł α)(s:bn){Q:Ł α->bn->ß},Á xs=n->(∀ys d,ys.Perm xs->Q ys {s with drawn:=d})->bv (cc P w) A (drawOrder n xs) Q E s|0,xs,s,Q,H,h=>by obtain rfl:=rJ.mp H;rwa[ai (h [] _ (w6 _))]|n+1,[],s,Q,H,h=>by done|n+1,y::r,s,Q,H,h=>by erw[aa (Wg () λi a d=>?_)];obtain⟨x,b⟩:∃x,(y::r)[i]?=O x:=(_,ar a);simp only[b];rwa[aa (Cy n _ _ (by rw[Qv,b5 a];simp at H⊢;rwa[‹_›]) λys D p=>ai (h _ D ((p.cons x).trans (pY b))))]
theorem Hg(next:Ń->Ń):∀(f k:Ń)(left:Ł α)(out:Array α),Á left=f->((pickOrder.go next f k left out).toList).Perm (out.toList++left)|0,k,left,out,h=>by obtain rfl:=rJ.mp h;delta pickOrder.go;simp|f+1,k,left,out,h=>by delta pickOrder.go;let i:next k%Á left<Á _:=Nat.mod_lt _ ();obtain⟨x,H⟩:∃x,left[next k%Á _]?=O x:=(_,ar i);simp only[H];erw[(Hg _ f _ _ _ (by rw[Qv];lia)).trans ?_];rw[Array.toList_push,bw];rwa[List.Perm.append_left _ (pY H)]
def yy(next:Ń->Ń)(xs:Array α):(pickOrder next xs).toList.Perm xs.toList:=by let:=Hg next xs.size 0 _ #[] rfl;delta pickOrder;simpa using this
def Hx:Slot "set_iterator" "__iter__" "set_iterator.__iter__":=by
 erw[.of (owner:="set_iterator") (n:="__iter__") ?_ ?_ ?_ ?_ ?_ ?_];.kernel_rfl
 .rfl
 .rfl
 .rfl
 .first|rwa[.inl (by rfl)]|lia
 .rfl
def xM:entryFor table "set_iterator.__iter__"=O Builtin.«dict_keyiterator.__iter__»:=by
 erw[entryFor_alias (id':="dict_keyiterator.__iter__") ?_ Ŗ ?_ ?_];.kernel_rfl
 .decide+kernel
 .kernel_rfl
def AD(a:Â):argsOk "set_iterator.__iter__" ([a],[]):=by rfl
def uh(P:cp)(w:ce)(A:cr)(I:À)(f:Ł À)(xs:ϐ)(Ç:Ń->È->ß):ß:=Walks P w A I f [I] (Á xs) (λi v=>∃x t,xs[i]?=O x/\v=.str x t) Ç
def AE{Q:dC}(hit:A1 s.heap I a first i n ep)(h:Q (.ref I) s):bv (cc P w) A (pyIter (.ref I)) Q E s:=by rwa[qe hit.typeIs Hx (bZ Hx hit.typeIs xM (ai (_,Ŗ,_,_,hit.typeIs,ir.lookup,h)) (AD _))]
def A1.at(x:A1 h I a first i n ep)(k:∀o,h.get? I=O o->h'.get? I=O o):A1 h' I a first i n ep:=let (o,H,r):=x;(o,k o H,r)
def yr(H:s.heap.get? a=O o)(d:o.data=.set es ep t)(f:t.fits es.size)(b:w.params.followText "set-order"=J)(h:Q ((pickOrder (w.params.setOrder a ep) es)[i]?.map λe=>(e.2,slot)) s):bv (cc P w) A (setNext a slot i ep) Q E s:=by erw[aa (fO H d f ?_)];erw[eP (λ_=>?_) λz=>Ă b z];rw[bM ⋯];rwa[aa (aa (fO H d f (aa (aa (lG (ai (eP (λ_=>aa (lG (ai (ai h)))) λz=>Ă b z)))))))]
def wj{s:bn}{a:À}{i ep slot:Ń}{o:Ù}{es:Array _}{t:fm}{Q:Ő _->bn->ß}(H:s.heap.get? a=O o)(d:o.data=.set es ep t)(f:t.fits es.size)(b:w.params.followText "set-order"=bb)(l:t.led)(c:es.size<=1)(h:Q (match es[ú t.place slot]?,t.place[ú t.place slot]? with|O (Prod.mk _ x),O j=>O (Prod.mk x (j+1))|_,_=>ao) s):bv (cc P w) A (setNext a slot i ep) Q E s:=by
 erw[aa (fO H d f ?_)];erw[eP (λz=>Ă (b.symm.trans z) ∅) λ_=>?_];erw[eP (λz=>Ă z ?_) λ_=>?_];.show ¬(!t.plain&&Đ _)=J;rw[cw (),QG];decide
 erw[aa ?_];show bv _ _ (if(!t.led&&!es.isEmpty)=J then unsupported _ else pure Unit.unit) _ _ _;rw[l];rwa[ai (ai h)]
def vU{Q:dC}(H:s.heap.get? a=O o)(hex:o.ExactSet)(d:o.data=.set es ep t)(f:t.fits es.size)(b:w.params.followText "set-order"=J\/es.size<=1)(h:Q (.ref s.heap.objs.size) {s with heap:=s.heap.push {cls:=.type "set_iterator",data:=.fields #[.int 0 0,.int 0 0,.ref a,.int es.size 0,.int ep 0]}}):bv (cc P w) A (pyIter (.ref a)) Q E s:=by
 let T:s.TypeIs (.ref a) _:=(o,H,hex.1);erw[qe T ue (bZ ue T oq ?_ (F.args_set_iter_1 _))];show bv _ _ (Builtin.Frozenset.sizeOf a>>=_) _ _ s;erw[aa ?_];erw[aa (fX H d f (ai ?_))];erw[aa ?_];erw[aa (fO H d f ?_)];erw[aa (aa (lG (ai (ai ?_))))];erw[eP (λz=>Ă z ?_) λ_=>aa (ai ?_)]
 .show ¬(!w.params.followText _&&(!t.plain&&Đ _))=J;rcases b with b|b;.rw[b];rwa[aF]
  .rw[cw (),QG,QG];decide
 rwa[aa (wpAny_setEpoch_of H d f (aa (bW (ai (_,Ŗ,_,_,(_,aA _ Ŗ,Ŗ),ir.lookup,h)))))]
def Eh{s:bn}{Q:dC}(H:s.heap.get? a=O o)(hex:o.ExactSet)(b:o.data=.set es ep t)(f:t.fits es.size)(hz:es.size<=Ã)(c:w.params.followText "set-order"=bb)(e:1<es.size)(p:t.plain=bb)(h:∀(ys:Ϙ)(d:Drawn),ys.Perm (ä es.size)->Q (.ref (s.heap.objs.size+1)) {s with heap:=(s.heap.push {cls:=.type "tuple",data:=.seq (ys.map λi=>ef (i:Ń)).toArray}).push {cls:=.type "set_iterator",data:=.fields #[.ref s.heap.objs.size,.int 0 0,.ref a,.int es.size 0,.int ep 0]},drawn:=d}):bv (cc P w) A (pyIter (.ref a)) Q E s:=by let T:s.TypeIs (.ref a) _:=(o,H,hex.1);erw[qe T ue (bZ ue T oq ?_ (F.args_set_iter_1 _))];show bv _ _ (Builtin.Frozenset.sizeOf a>>=_) _ _ s;erw[aa ?_];erw[aa (fX H b f (ai ?_))];erw[aa ?_];erw[aa (fO H b f ?_)];erw[aa (aa (lG (ai (ai ?_))))];erw[eP (λ_=>?_) λz=>Ă (show(!w.params.followText _&&(!t.plain&&Đ _))=J by rw[c,p,cM e];rfl) z];erw[aa (Cy _ _ s eM λys d Z=>?_)];erw[aa (QL ?_ (by rw[ae,Z.length_eq,eM];rwa[hz]))];erw[aa (wpAny_setEpoch_of (s:={s with heap:=s.heap.push _,drawn:=d}) (af {cls:=.type "tuple",data:=.seq (ys.map λi=>ef (i:Ń)).toArray} H) b f ?_)];let hq:=h ys d Z;rw[<-jN _ _]at hq;rwa[aa (bW (ai (_,Ŗ,_,_,(_,aA _ Ŗ,Ŗ),ir.lookup,hq)))]
def De(p:Ń):ú #[p] 0=0:=rfl
def Dh(p:Ń):ú #[p] (p+1)=1:=by delta ú;simp[SetTable.below.go]
def Ky(p:A.handled=ao)(L:a≠I)(H:o.data=.set es ep t)(v:ElemsOf (Ú P w) es.toList)(f:t.fits es.size)(l:w.params.followText "set-order"=J):uh P w A I [I,a] ((pickOrder (w.params.setOrder a ep) es).toList.map o8) λi h=>A1 h I a (.int 0 0) i es.size ep/\h.get? a=O o where
 sub:=λb l=>nofun
 frame:=λi h c st k=>(st.1.at λd e=>k I ⋯ d e,k a ⋯ o st.2);item:=λi s Q E n st m=>by rw[ae]at n;obtain⟨e,j⟩:∃e,(pickOrder _ es)[i]?=O e:=(_,eh n);let(T,r):=zW v ((yy _ es).mem_iff.mp (by rw[<-dc]at j;rwa[aL j]));rwa[Hw (slot:=0) st.1 st.2 H f rfl (λx y z q=>yr st.2 H f l (by rw[j];rwa[q])) λc X S=>m e.2 c _ (_,T,by rw[aM,dc,j];rfl,r) (X,by rw[S.2 a L];rwa[st.2]) λb d u g=>by rw[S.2 b (by simpa using u)];rwa[g]]
 done:=λs Q E st m=>by erw[Fb (slot:=0) p st.1 st.2 H f rfl (λx y z q=>yr st.2 H f l ?_) λc ex=>m c _ λb d u g=>ex b d (by simpa using u) g];rw[ae,cj,gD (ah _)];rwa[q]
 self:=λi s Q E st h=>AE st.1 h
def Qc(x:A.handled=ao)(L:a≠I)(f:o.data=.set es ep t)(K:ElemsOf (Ú P w) es.toList)(H:t.fits es.size)(j:w.params.followText "set-order"=bb)(n:t.led)(r:es.size<=1):uh P w A I [I,a] (es.toList.map o8) λi h=>A1 h I a (.int (if i=0 then 0 else((t.place.getD 0 0+1:Ń):Î)) 0) i es.size ep/\h.get? a=O o where
 sub:=λb j=>by simp at j;simp[j]
 frame:=λi h c st k=>(st.1.at λl e=>k I ⋯ l e,k a ⋯ o st.2);item:=λi s Q E y st u=>by
  rw[ae,cj]at y;obtain rfl:i=0:=()
  let M:t.place.size=1:=by simp only[SetTable.fits,aK,oW]at H;lia
  obtain⟨p,D⟩:∃p,t.place=#[p]:=af3.mp M;obtain⟨e,m⟩:∃e,es[0]?=O e:=(_,eh y);let N:e∈es.toList:=by rw[<-dc]at m;rwa[aL m]
  let(T,R):=zW K N;let d:A1 s.heap I a (.int ((0:Ń):Î) 0) 0 es.size ep:=st.1;erw[Hw (nx:=p+1) (v:=e.2) d st.2 f H rfl (λz B C q=>wj st.2 f H j n r ?_) λc X S=>?_];.rw[D,De,m];rwa[q]
  erw[u e.2 c s.toks (o8 e,T,by rw[aM,dc,m];rfl,R) (?_,by rw[S.2 a L];rwa[st.2]) λb l U g=>by rw[S.2 b (by simpa using U)];rwa[g]]
  rw[D];rwa[X]
 done:=λs Q E st u=>by
  rw[ae,cj]at st;let W:=by simp only[SetTable.fits,aK,oW]at H;rwa[H.1]
  let F:∀c,é I _ c->Q _ {s with heap:=c}:=λc ex=>u c _ λb l U g=>ex b l (by simpa using U) g;by_cases G:es.size=0;.rw[b5 G]at st;erw[Fb x st.1 st.2 f H rfl (λz B C q=>wj st.2 f H j n r ?_) F];rw[gD ()];rwa[q]
  .rw[bM G]at st;obtain⟨p,D⟩:∃p,t.place=#[p]:=af3.mp ();let d:A1 s.heap I a (.int (p+1:Ń) 0) es.size es.size ep:=by let:=st.1;rw[D]at this;rwa[this]
   erw[Fb x d st.2 f H rfl (λz B C q=>wj st.2 f H j n r ?_) F];rw[D,Dh,gD (aj ‹_› ⋯)];rwa[q]
 self:=λi s Q E st h=>AE st.1 h
def FD{ys:Ϙ}(q:A.handled=ao)(L:a≠I)(D:p≠I)(l:o.data=.set es ep t)(v:ElemsOf (Ú P w) es.toList)(m:t.fits es.size)(Z:ys.Perm (ä es.size)):uh P w A I [I,a,p] (ys.map λk=>o8 (es.getD k (0,.none))) λi h=>A1 h I a (.ref p) i es.size ep/\h.get? a=O o/\h.IsTuple p (ys.map λi=>ef (i:Ń)).toArray where
 sub:=λb y=>nofun
 frame:=λi h H st k=>(st.1.at λc e=>k I ⋯ c e,k a ⋯ o st.2.1,let (c,C,r):=st.2.2;(c,k p ⋯ c C,r));item:=λi s Q E n st f=>by
  rw[ae]at n;obtain⟨k,j⟩:∃k,ys[i]?=O k:=(_,ar n);obtain⟨e,d⟩:∃e,es[k]?=O e:=(_,eh (QI.mp (Z.mem_iff.mp (aL j))));let(T,x):=zW v (by rw[<-dc]at d;rwa[aL d]);erw[Vn st.1 st.2.1 l m rfl st.2.2 (by rw[lC,aM,j];rfl) (by rw[d]) λH X S=>?_];erw[f e.2 H _ (_,T,?_,x) (X,by rw[S.2 a L];rwa[st.2.1],?_) λb c u g=>by rw[S.2 b (by simpa using u)];rwa[g]]
  .rw[aM,j];show O (o8 _)=_;rw[nB,d];rfl
  .let(c,C,r):=st.2.2;exact(c,by rw[S.2 p D];rwa[C],r)
 done:=λs Q E st f=>by rwa[Ŭ q st.1 st.2.1 l m rfl st.2.2 (by rw[lC,aM,ae,fC (ah _)];rfl) λH ex=>f H _ λb c u g=>ex b c (by simpa using u) g]
 self:=λi s Q E st h=>AE st.1 h
end
section
variable{P:cp}{w:ce}{A:cr}{E:dC}{s:bn}
def Mw(es:Array _):((ä es.size).map λk=>o8 (es.getD k (0,.none)))=es.toList.map o8:=by
 let e:es.toList=(ä es.size).map λk=>es.getD k (0,.none):=by erw[List.ext_getElem ⋯ λi h H=>?_];rw[List.getElem_map,List.getElem_range,nB,eh h];simp
 rw[e,bI];rfl
def Po{Q:dC}(i:A.handled=ao)(S:lI P w s.heap a ws)(h:∀(I:À)(F:Ł _)(xs:ϐ)(Ç:Ń->È->ß)(h':È)(d:Drawn),uh P w A I F xs Ç->Ç 0 h'->xs.Perm ws->(∀b o,s.heap.get? b=O o->h'.get? b=O o)->s.heap.objs.size<=I->(∀b∈F,b=a\/s.heap.objs.size<=b)->Q (.ref I) {s with heap:=h',drawn:=d}):bv (cc P w) A (pyIter (.ref a)) Q E s:=by let(o,l,p,t,H,hex,c,v,q,r,j,f,M):=S;let ha:=ay H;induction e:w.params.followText _ with
 |d=>
  erw[vU H hex c f (.inl e) (h _ _ _ _ _ _ (Ky i (aP ha) c v f e) ((_,aA _ Ŗ,Ŗ,Ŗ),af _ H) (((yy _ l).map _).trans q) (λb k g=>af _ g) (ah _) λb u=>?_)];simp only[ax,dU,or_false]at u;rcases u with rfl|rfl;.rwa[.inr (ah _)]
  .rwa[.inl Ŗ]|e=>
  let(n,D):=M e;by_cases m:l.size<=1
  .erw[vU H hex c f (.inr m) (h _ _ _ _ _ _ (Qc i (aP ha) c v f e n m) ((_,aA _ Ŗ,Ŗ,Ŗ),af _ H) q (λb k g=>af _ g) (ah _) λb u=>?_)];simp only[ax,dU,or_false]at u;rcases u with rfl|rfl;.rwa[.inr (ah _)]
   .rwa[.inl Ŗ]
  .erw[Eh H hex c f (CS j) e (Nat.not_le.mp ‹_›) (D ()) λy d Z=>?_];let G:∀o1 o2:Ù,o2.isFreed=bb->((s.heap.push o1).push o2).get? (s.heap.objs.size+1)=O o2:=λo1 o2 N=>by rw[<-(λk=>jN _ _) o1];rwa[aA _ N]
   erw[h _ _ _ _ _ d (FD i (aP (fL ha)) (aP (eB _)) c v f Z) ((_,G _ _ Ŗ,Ŗ,Ŗ),af _ (af _ H),(_,af _ (aA _ Ŗ),Ŗ,_,Ŗ)) (((Z.map _).trans (by rw[Mw])).trans q) (λb k g=>af _ (af _ g)) (bj _) λb u=>?_]
   .simp only[ax,dU,or_false]at u;rcases u with rfl|rfl|rfl;.rwa[.inr (bj _)]
    .rwa[.inl Ŗ]
    .rwa[.inr (ah _)]
def MC(H:s.TypeIs (.ref r) "set")(h:Q bb s):bv (cc P w) A (Builtin.List.listLengthHint (.ref r)) Q E s:=by erw[aa (K0 H F.slot_set_len.lookup ?_)];generalize d:"set.__len__"=i;subst d;rwa[aa (iM H sub_set_self (eP (λz=>Ă z ∅) λ_=>eP (λ_=>aa (kE H (ai h))) λz=>Ă (by rfl) z))]
def xV(acc:Array Â)(xs:ϐ):ß:=acc.size=Á xs/\∀(j:Ń)(v:Â),acc[j]?=O v->∃x t,xs[j]?=O x/\v=.str x t
def E8{R:Result->bn->ß}{a S:À}{ws:ϐ}{g:Ń}(U:A.handled=ao)(X:lI P w s.heap a ws)(hn:Á ws<=Ã)(j:S≠a)(D:s.heap.get? S=O {cls:=.type "list",data:=.seq #[] g})(Y:∀(h':È)(t:Ń)(d:Drawn)(acc:Array Â)(c:Ń)(xs:ϐ),(∀b o,b≠S->s.heap.get? b=O o->h'.get? b=O o)->h'.get? S=O {cls:=.type "list",dict:=ao,data:=.seq acc c,slots:=#[]}->xV acc xs->xs.Perm ws->R (.ok (.ret (.ref S))) {s with heap:=h',toks:=t,drawn:=d}):bv (cc P w) A.in1 (Ī (.ref S) (.ref a) (.ref S)) (λF s'=>match F with|.done f=>R (.ok f) s'|.again p=>p.quiet=J/\gc (cc P w) A p R s') (λe s'=>R (.error e) s') s:=by
 let G:s.TypeIs (.ref a) "set":=by let(o,_,_,_,q,hex,_):=X;exact(o,q,hex.1)
 let k:=ay D;delta Ī;erw[aa (kE (T:="set") G ?_)];let Z:Ĝ (.ref S) (.ref a)=false:=by simp[Ĝ,j]
 simp only[Z,show(à "set"==à "list")=bb by ext,show(à "set"==à "tuple")=bb by ext,Bool.or_false,fw,kx];erw[aa (Po (A:=A.in1) U X λI fp xs Ç L d W st M K N r=>?_)];let hSI:S≠I:=aP (bp k N);let l:S∉fp:=λz=>(r S z).elim j λy=>Ă k (c6.mpr y);let x:Á xs<=Ã:=by rw[M.length_eq];rwa[hn]
 let key:∀(h:È)(C t:Ń),Ç 0 h->(∀b o,b≠S->s.heap.get? b=O o->h.get? b=O o)->h.get? S=O {cls:=.type "list",data:=.seq #[] C}->gc (cc P w) A (.builtin "list.extend.loop" ([.ref S,.ref I,.ref S],[])) R {s with heap:=h,toks:=t,drawn:=d}:=by
  intro h C t Bw hk u;erw[codeAny_extend_loopS (Walks.toS W) x S l (.ref S) (Á xs) 0 {s with heap:=h,toks:=t,drawn:=d} #[] C rfl (aN _) Bw u (ItemsOf.nil _) λs' Yl p Q v r9=>?_];rw[Moved.eq_with Q];erw[Y s'.heap s'.toks d Yl p xs (λb o H e=>Q.heap b o (λz=>?_) (hk b o H e)) v r9 M];rcases ax.mp z with e'|z;.rwa[H e']
  .rw[aE]at z;rwa[Ă (ay e) (c6.mpr (by rw[z];rwa[N]))]
 let i:=K S _ D;erw[aa (bS (MC (s:={s with heap:=L,drawn:=d}) (by let(o,q,hc):=G;exact(o,K a o q,hc)) ?_))];erw[eP (λ_=>?_) λ_=>ai (gW Wq _,key _ g _ st (λb o _ e=>K b o e) i)];erw[aa (jQ (aa ?_))];show bv _ _ (updateSeq S (·.push .none)>>=λ_=>updateSeq S (·.pop)) _ _ _;erw[aa (wpAny_updateSeq (s:={s with heap:=L,drawn:=d}) i Ŗ ?_)];let m:=bF (ï (·.push Ô)) i Ŗ;erw[wpAny_updateSeq (hz:=by seq_fits) m Ŗ ?_];let B:=bF (ï (·.pop)) m Ŗ;erw[ai (gW Wq _,key _ _ _ (W.frame 0 _ _ st λb H o e=>?_) (λb o H e=>(bG _ _ (c4 H)).trans ((bG _ _ (c4 H)).trans (K b o e))) B)];.let n:b≠S:=λz=>l (z▸H);exact(bG _ _ (c4 n)).trans ((bG _ _ (c4 n)).trans e)
theorem yJ:∀{vs:Ł _}{xs:ϐ},Á vs=Á xs->(∀(j:Ń)(v:Â),vs[j]?=O v->∃x t,xs[j]?=O x/\v=.str x t)->StrsAre vs xs
 |[],[],_,_=>.nil|[],_::_,h,_=>by cases h|_::_,[],h,_=>by cases h|v::vs,x::xs,h,k=>by
  let(y,t,H,rfl):=k 0 v Ŗ;let e:=by simpa using H
  subst e;rwa[.cons x t (yJ (by simpa using h) λj u hu=>by simpa using k (j+1) u (by done))]
def xV.strs(h:xV acc xs):StrsAre acc.toList xs:=yJ (by rwa[h.1]) λj v H=>h.2 j v (by rw[<-dc];rwa[H])
def Ce(i:A.handled=ao)(X:lI P w s.heap a ws)(hn:Á ws<=Ã)(h:∀(h':È)(t:Ń)(d:Drawn)(acc:Array _)(xs:ϐ),(∀b o,s.heap.get? b=O o->h'.get? b=O o)->s.heap.objs.size<h'.objs.size->xV acc xs->xs.Perm ws->R acc.toList {s with heap:=h',toks:=t,drawn:=d}):bv (cc P w) A (collect (.ref a)) R E s:=by
 erw[aa (w8 (dM ZQ ?_))];erw[aa (bW (ai (gW XX _,dM entry_list_iadd' ?_)))];let F:∀(q:Result)(s':bn),(∃(h':È)(t:Ń)(d:Drawn)(acc:Array _)(c:Ń)(xs:ϐ),q=.ok (.ret (.ref s.heap.objs.size))/\s'={s with heap:=h',toks:=t,drawn:=d}/\(∀b o,s.heap.get? b=O o->h'.get? b=O o)/\h'.get? s.heap.objs.size=O {cls:=.type "list",dict:=ao,data:=.seq acc c,slots:=#[]}/\xV acc xs/\xs.Perm ws)->wants (λv S=>bv (cc P w) A (match v with
    |.ref a=>do match(<-load a).data with|.seq xs _=>pure xs.toList|_=>unsupported "internal:collect"
    |_=>unsupported "internal:collect") R E S) E q s':=by rintro q s' ⟨h',t,d,acc,c,xs,rfl,rfl,k,g,T,H⟩;rwa[aa (QK g (ai (h h' t d acc xs k (ay g) T H)))]
 erw[cV (E8 (s:={s with heap:=s.heap.push _}) (R:=λq s'=>∃(h':È)(t:Ń)(d:Drawn)(acc:Array _)(c:Ń)(xs:ϐ),q=.ok _/\s'={s with heap:=h',toks:=t,drawn:=d}/\(∀b o,s.heap.get? b=O o->h'.get? b=O o)/\h'.get? _=O {cls:=.type "list",dict:=ao,data:=.seq acc c,slots:=#[]}/\xV acc xs/\xs.Perm ws) i (X.at λo g=>af _ g) hn (eW (by let(o,_,_,_,j,_):=X;rwa[ay j])) (aA _ Ŗ) λh' t d acc c xs k g T H=>(h',t,d,acc,c,xs,Ŗ,Ŗ,λb o e=>k b o (aP (ay e)) (af _ e),g,T,H)) (λf s' x=>?_) λe s' x=>?_];.induction f with|done f=>rwa[F _ _ x]|again C=>exact(x.1,dO x.2 λq S y=>F _ _ y)
 .let(_,_,_,_,_,_,l,_):=x;cases l
def Fc{Q:dC}(i:A.handled=ao)(x:lI P w s.heap a ws)(j:Á ws<64)(h:∀(h':È)(t:Ń)(d:Drawn)(D:À)(e:Ń)(out:Ł _)(ss:ϐ),(∀b o,s.heap.get? b=O o->h'.get? b=O o)->s.heap.objs.size<=D->h'.get? D=O (seqObj "list" out.toArray e)->StrsAre out ss->ss.Perm ws->sortedS ss->Q (.ref D) {s with heap:=h',toks:=t,drawn:=d}):bv (cc P w) A (call (.builtin "sorted") [.ref a]) Q E s:=by
 let l:64<=Ã:=∅
 erw[Wl kind_sorted plain_sorted entry_sorted (args_sorted1 _) ?_];erw[aa (ai (aa (Ce i x () λh' t d c y k m T p=>?_)))];let B:Á c.toList=Á ws:=by rw[cj,T.1,p.length_eq]
 let H:=T.strs;erw[aa (X5 ?_ ())];let S:(h'.push (seqObj "list" c.toList.toArray 0)).get? _=O _:=aA _ Ŗ;erw[aa (bS (bZ slot_list_sort (_,S,Ŗ) entry_list_sort (list_sort_treeK (s:={s with heap:=h'.push (seqObj "list" _ 0),toks:=t,drawn:=d}) strKind_oneLt S H.keysOf (λv f r e=>keyKind_strs (by rw[<-e];rwa[H])) () λX a1 n=>(_,Ŗ,?_)) (args_list_sort _)))];let(ss,z,Z,q):=sorted_out_str H a1 n;let(e,u):=sortedHeap_at S;erw[ai (_,Ŗ,h _ t d _ e ((arrOf X).map _).toList ss (λb o g=>?_) (dE m) u z (Z.trans p) q)];.let G:=ay (k b o g);rw[sortedHeap_old (aP G) (by rw[jN];rwa[fL G])];rwa[af _ (k b o g)]
end
def Inv.drew{p:Ł _}{σ:Ç}(I:Inv X p σ H s)(d:Drawn):Inv X p σ H {s with drawn:=d}:=(I.ok,I.os,I.bare,I.base,I.loc,I.cell,I.free,I.fT,I.pin,I.cY,I.len)
theorem yN:∀{ws:ϐ}{us:Ł _},Vals (ws.map V.S) us->StrsAre us ws|[],us,h=>by cases h;rwa[.nil]|x::r,us,h=>by cases h with|g a b=>let(t,rfl):=a;rwa[.cons x t (yN b)]
theorem yH:∀{ws:ϐ}{us:Ł _},StrsAre us ws->Vals (ws.map V.S) us|[],us,h=>by cases h;rwa[.nil]|x::r,us,h=>by cases h with|g _ t b=>rwa[.cons (t,Ŗ) (yH b)]
theorem vI:∀(l ws:ϐ),Á ws<=Á (l.foldl pU ws)
 |[],ws=>ah _|x::r,ws=>by
  erw[aj ?_ (vI r _)];delta pU;split;.lia
  .grind
def DP(ws:ϐ)(i:Ń):Á (dR (ws.take i))<=Á (dR ws):=by
 let e:dR ws=(ws.drop i).foldl pU (dR (ws.take i)):=by delta dR;rw[<-List.foldl_append,uR]
 rw[e];rwa[vI _ _]
def vh(d:X.calm):eE X (.type "set") λxs H Q=>∃(l:À)(ws:ϐ),xs=[.A l]/\gA X.K H l (ws.map V.S)/\Á (dR ws)<64/\∀a,H a=ao->Q (.A a) (dq H a (.ext λh=>lI X.prog X.w h a (dR ws))):=by
 intro p s σ H xs U Q I r h;let(l,ws,rfl,e,f,q):=h;let(u,rfl,g):=r.one;cases g;let(B,R,P,E):=I.list e;let j:64<scanBound:=∅
 let n:Á ws=B.toArray.size:=by rw[aZ,<-R.length,ae]
 erw[AB (I.ok.hd d) P.isList (λi v b=>?_) n λi=>by let:=DP ws i;lia λm T x y=>(.A _,_,I.laid y (ah _) (show fF _ X.w _ m _ (.ext _)from(x,let (o,_,_,_,C,_):=x;(o,C),λF G z k=>z.at k)),Ŗ,q _ I.fresh)]
 .rw[lC]at b;let c:i<Á ws:=by rw[n];exact(aw.mp b).1
  let(t,D):=(yN R).at (ar c);rw[D]at b;exact(_,t,ar c,by injection b with b;rwa[b.symm])
def tN(g:X.calm):eE X (.builtin "sorted") λxs H Q=>∃(a:À)(ws:ϐ),xs=[.A a]/\H a=O (.ext λh=>lI X.prog X.w h a ws)/\Á ws<64/\∀(D:À)(ss:ϐ),H D=ao->ss.Perm ws->sortedS ss=J->Q (.A D) (dq H D (.L (ss.map V.S))):=by
 intro p s σ H xs U Q I r h;let(a,ws,rfl,i,b,q):=h;let(u,rfl,R):=r.one;cases R;let l:64<=Ã:=∅
 rwa[Fc (I.ok.hd g) (I.cY a _ i).1 b λj t d D e out ss k c o m f n=>(.A D,_,(I.laid k c (show fF _ X.w _ j _ (.L _)from(by rw[ae];exact(by rw[f.length_eq];lia),out,e,yH m,o))).drew d,Ŗ,q D ss (I.cY.fresh c) f n)]
end L2
namespace L2
open PySem.SeqAt
end L2
namespace L2
def sj:fillsNumberSlot (.type "tuple") "mul"=pure false:=PySem.fillsNumberSlot_seq (id:="tuple.__mul__") (r:=O (.builtin "tuple.__rmul__")) iG.lookup ∅ F.slot_tuple_rmul.lookup ∅
def Ay:seqRepeat? (.type "tuple")=pure (O (.builtin "tuple.__mul__")):=by delta seqRepeat?;rw[PySem.seqSlot_of (T:="tuple") (name:="__mul__") (id:="tuple.__mul__") iG.lookup ∅,PySem.seqSlot_of (T:="tuple") (name:="__rmul__") (id:="tuple.__rmul__") F.slot_tuple_rmul.lookup ∅];rfl
def vQ(a:Î)(t:Tok)(l:À)(i:Array Â)(n:Ń)(dd:Ő À)(sl:Array (Ő Â)):Meets (Builtin.«int.__rmul__» ([.int a t,.ref l],[])) λ_ R s=>s.heap.get? l=O {cls:=.type "tuple",dict:=dd,data:=.seq i n,slots:=sl}/\R (.ok (.ret Value.notImplemented)) s:=.of_wp λp w A R s h=>by let(H,g,d,T,os):=s;let(b,h):=h;wp_walk;exact(_,Ŗ,h)
def Fq(t:Tok)(l:À)(i:Array Â)(n:Ń)(dd:Ő À)(sl:Array (Ő Â)):Meets (Builtin.«tuple.__mul__» ([.ref l,.int 1 t],[])) λ_ R s=>s.heap.get? l=O {cls:=.type "tuple",dict:=dd,data:=.seq i n,slots:=sl}/\R (.ok (.ret (.ref l))) s:=.of_wp λp w A R s h=>by let(H,g,d,T,os):=s;let(a,h):=h;delta Builtin.«tuple.__mul__»;wp_walk;exact(_,Ŗ,h)
def Fu(k:Î)(t:Tok)(l:À)(ci:Array Â)(n:Ń)(dd:Ő À)(sl:Array (Ő Â))(a:ci.isEmpty=bb)(m:2<=k)(c:k<=1000)(o:ci.size<=10):Meets (Builtin.«tuple.__mul__» ([.ref l,.int k t],[])) λ_ R s=>s.heap.get? l=O {cls:=.type "tuple",dict:=dd,data:=.seq ci n,slots:=sl}/\R (.ok (.ret (.ref s.heap.objs.size))) {s with heap:=s.heap.push {cls:=.type "tuple",data:=.seq (ù (λx X=>x++X) #[] (Ò k.toNat ci))}}:=.of_wp λp w A R s h=>by
  let(q,g,d,T,os):=s;let(r,h):=h;let C:(Đ (k< -(2^63:Î))||Đ (k>=2^63))=false:=by rw[cw (),cw ()];rfl
  let f:(ci.isEmpty||k==1)=false:=by rw[a,Bool.false_or];rwa[da.mpr ()]
  let i:(Đ (k<=0)||ci.isEmpty)=false:=by rw[a,cw ()];rfl
  delta Builtin.«tuple.__mul__»;let L:(100000:Ń)<Ã:=by rw[jZ];decide
  let H:(ci.size:Î)*k<=10*1000:=Int.mul_le_mul () c () ();wp_walk;rw[bM (by rw[C];rwa[aF])];wp_walk;rw[bM (by rw[f];rwa[aF])];wp_walk;rw[bM (by rw[i];rwa[aF])];wp_walk;rw[bM ()];wp_walk;let b:(ù (λx X=>x++X) #[] (Ò k.toNat ci)).size<=Ã:=by
   let e:=HS ci.toList k.toNat [];rw[List.nil_append]at e;let E:ù (λx X=>x++X) #[] (Ò k.toNat ci)=(Ò k.toNat ci.toList).flatten.toArray:=e;rw[E,aZ,Aa];let j:(k.toNat:Î)=k:=ĩ ();let:((k.toNat*Á ci.toList:Ń):Î)<=10000:=by rw[Int.natCast_mul,j,Int.mul_comm,cj];rwa[H]
   lia
  rw[bM (by delta Builtin.Tuple.tupleTooMany;rw[fN];lia)];wp_walk;exact(_,Ŗ,h)
def Ft(k:Î)(t:Tok)(l:À)(n:Ń)(dd:Ő À)(sl:Array (Ő Â))(H:0<=k)(a:k<=1000):Meets (Builtin.«tuple.__mul__» ([.ref l,.int k t],[])) λ_ R s=>s.heap.get? l=O {cls:=.type "tuple",dict:=dd,data:=.seq #[] n,slots:=sl}/\R (.ok (.ret (.ref l))) s:=.of_wp λp w A R s h=>by
  let(b,g,d,T,os):=s;let(e,h):=h;let c:(Đ (k< -(2^63:Î))||Đ (k>=2^63))=false:=by rw[cw (),cw ()];rfl
  delta Builtin.«tuple.__mul__»;wp_walk;rw[bM (by rw[c];rwa[aF])];wp_walk;first|rw[b5 Ŗ]|skip
  wp_walk;exact(_,Ŗ,h)
def Fv(t:Tok)(l:À)(ci:Array Â)(n:Ń)(dd:Ő À)(sl:Array (Ő Â))(H:ci.isEmpty=bb):Meets (Builtin.«tuple.__mul__» ([.ref l,.int 0 t],[])) λ_ R s=>s.heap.get? l=O {cls:=.type "tuple",dict:=dd,data:=.seq ci n,slots:=sl}/\R (.ok (.ret (.ref s.heap.objs.size))) {s with heap:=s.heap.push {cls:=.type "tuple",data:=.seq #[]}}:=.of_wp λp w A R s h=>by let(a,g,d,T,os):=s;let(b,h):=h;delta Builtin.«tuple.__mul__»;wp_walk;exact(_,Ŗ,h)
def akq(K:Ä)(a:À)(t:Å->Ő ϐ):R2:=λx y H Q=>x=.A a/\∃k s,y=.S k/\t k=O s/\∀b,g9 K H b (s.map V.S)->Q (.A b) H
def m_(T:C5 X.w X.K a c):FJ X (akq X.K a c):=by intro e S p s σ H x y v u Q I r R h d;let(rfl,k,i,rfl,f,q):=h;cases r;let(t,rfl):=R;let(E,m,lk,keys,look):=T.ex;let hm:=mZ (prog:=X.prog) I.kZ lk keys;let lx:=look k;rw[f]at lx;let(b,F,o,B,M,l1,l2,l,L,g):=lx;rwa[ky hm.typeIs pJ.lookup (HV (oY _ X.w k t) hm F (Ŗ,(.A b,H,I.tok _,Ŗ,q b (.inr (o,B,M,l1,l2,l,L,g))))) d]
end L2
namespace L2
open PySem.SeqAt PySem.MeetsSeq PySem.Builtin PySem.Builtin.Tuple
end L2
namespace L2
def XD(K:Ä):V->Ő Î->Ő Î->Hp->VK->ß:=λx lo i H Q=>∃a X,x=.A a/\g9 K H a X/\∀p h,iD H h->g9 K h p (rY X lo i)->Q (.A p) h
def Vr:KH X (XD X.K):=by
 intro P s σ H x v e f lo i sl Q I R d l u h;let(a,b,rfl,c,q):=h;by_cases w:HT.lV (Á b) 0 lo=0/\HT.lV (Á b) (Á b) i=Á b
 .cases R;let(B,r,t,z):=I.tuple c;let n:B.toArray.size=Á b:=by rwa[r.length.symm]
  exact(_,_,dy.lookup,t.typeIs,tT t d l u (by rw[n];rwa[w]) (.A a,H,I,Ŗ,q a H (iD.refl H) (by rw[DB w];rwa[c])))
 .rwa[Ϛ _ s σ H _ v e f lo i sl Q I R d l u (a,b,Ŗ,c,w,λp g=>q p _ (jq g _) (g9.of bC))]
def OU(K:Ä):R2:=λx y H Q=>∃a b X Y,x=.A a/\y=.A b/\g9 K H a X/\g9 K H b Y/\Á X+Á Y<=Ã/\∀p h,iD H h->g9 K h p (X++Y)->Q (.A p) h
def NY:kH X (binaryOp .Add) (OU X.K):=by
 intro P s σ H x y v u Q I r R h;let(a,b,f,Y,rfl,rfl,g,d,z,q):=h;by_cases i:f=[];.cases r;cases R;subst i;let(T,m,t,_):=I.tuple g;let(Z,E,w,_):=I.tuple d;obtain⟨⟨cls,dd,data,sl⟩,o,j,n,k⟩:=id t;obtain⟨⟨B,D,data2,S⟩,M,l,N,c⟩:=id w;simp only at j k l c;subst j k l c;obtain rfl:=m.zero;rwa[GC (_,o,Ŗ) (_,M,Ŗ) HU X4 tH rM (qj _ _) (tuple_addW0 a b #[] _ n N dd D sl S rfl) (o,M,(.A b,H,I.tok _,Ŗ,q b H (iD.refl H) d))]
 .rwa[Ue _ s σ H _ _ v u Q I r R (a,b,f,Y,Ŗ,Ŗ,g,d,i,z,λe=>q a H (iD.refl H) nofun,λ_ p C=>q p _ (jq C _) (g9.of bC))]
def vC:entryFor table "dict.update.loop"=O Builtin.«dict.update.loop»:=HQ Ŗ
def NN{E:dC}{id:String}(S:Slot T "__getattribute__" id)(e0:entryFor table id=O Builtin.«object.__getattribute__»)(n:∀x y,argsOk id ([x,y],[]))(G:typeLookup (.type T) "__getattr__"=pure ao)(me:∀sl u,Meets (Builtin.«object.__getattribute__» ([.ref a,.str "keys" u],[])) λA R s=>s.heap.get? a=O {cls:=.type T,data:=.seq xs k,slots:=sl}/\raisesAttr (.ref a) "keys" A R s)(f:s.heap.get? a=O o)(i:o.cls=.type T)(D:o.data=.seq xs k)(j:o.dict=ao)(p:A.handled=ao)(h:∀h' t,(∀b l,s.heap.get? b=O l->h'.get? b=O l)->Q ao {s with heap:=h',toks:=t}):bv (cc prog w) A (getAttr? (.ref a) "keys") Q E s:=by
 let(c,q,r,sl):=o;simp only at i D j;subst i D j;let(v,g,d,t,os):=s;let m:∀X,((v,g,d,X,os):bn).TypeIs (.ref a) T:=λ_=>(_,f,Ŗ);let F:=sub_AttributeError;let z:=S.lookup;let B:=S.bind (.ref a);delta getAttr? getAttrBy?;delta getAttrBy;repeat(any_goals(first|assumption|rwa[m _]|((with_reducible show bv _ _ (call (ñ id) _ _) _ _ _);erw[jM S (m _) e0 (n _ _) (me sl _) (f,p,λh' X e H=>?_)])|wp_step))
 let(C,U,I):=H.there;show bv _ _ (getattributeRaised _ _ _ _ _ _ _) _ _ _;delta getattributeRaised;repeat(any_goals(first|rfl|wp_step))
 rwa[h _ _ H.keeps]
def mO:plainId "dict.update.loop"=true:=∅
def uV{P:cp}{w:ce}{κ:Type}[DecidableEq κ](knd:KeyKind P w κ)(h:È)(u:Â)(p:κ×Â):ß:=∃t key,u=Ð t/\h.IsTuple t #[key,p.2]/\knd.is p.1 key=J
section
variable{P:cp}{w:ce}{κ:Type}[DecidableEq κ]{knd:KeyKind P w κ}{A:cr}
theorem Eu{I l:À}{B:Array Â}{ps:Ł (κ×Â)}{R:Result->bn->ß}{Ç:Ń->È->ß}(W:Walks P w A.in1 I [I,l] [I] B.size (λi v=>B[i]?=O v) Ç)(hn:∀(j:Ń)t,B[j]?=O (.ref t)->t≠d/\t≠I)(D:d≠I)(dl:d≠l)(x:B.size=Á ps)(hz:Á ps<=1000):∀(m i:Ń)(U:Ł (κ×Â))(s:bn),i+m=Á ps->Ç i s.heap->s.heap.DictOf knd d U->Á U<=i->(∀(j:Ń)(u:Â)(p:κ×Â),B[j]?=O u->ps[j]?=O p->uV knd s.heap u p)->(∀h' k,h'.DictOf knd d (merged U (ps.drop i))->(∀b o,b≠d->b≠I->s.heap.get? b=O o->h'.get? b=O o)->R (.ok (.ret .none)) {s with heap:=h',toks:=k})->gc (cc P w) A (.builtin "dict.update.loop" ([.ref d,.ref I,ef i,.none],[])) R s:=by intro m;induction m with|h=>intro i U s X st hd y h z;erw[dM vC ?_];rw[md mO];delta Builtin.«dict.update.loop»;let hi:i=B.size:=X.trans x.symm;subst hi;erw[aa (W.done s _ _ st λh' k K=>?_)];let E:∀b o,b≠I->s.heap.get? b=O o->h'.get? b=O o:=λb o n g=>K b o (λq=>n (aE.mp q)) g;show bv _ _ (Builtin.Dict.addKeywords d []>>=_) _ _ _;erw[aa (ai (ai ?_))];erw[z h' k ?_ λb o _=>E b o];rw[List.drop_eq_nil_of_le (iK x.symm)];rwa[hd.extBut E D]|j m ih=>
  intro i U s X st hd y h z;erw[dM vC ?_];rw[md mO];delta Builtin.«dict.update.loop»;let C:i<Á ps:=()
  let H:=ar C;let SJ:=Wn C;generalize ps[i]=p at H SJ;erw[aa (W.item i s _ _ (x▸C) st λu Y k F G K=>?_)];let S:∀b o,b≠I->s.heap.get? b=O o->Y.get? b=O o:=λb o n g=>K b o (λq=>n (aE.mp q)) g;let Z:∀{j:Ń}{u:Â}{p:κ×Â},B[j]?=O u->ps[j]?=O p->uV knd Y u p:=λe L=>by obtain⟨t,key,rfl,⟨o,g,r⟩,y⟩:=h _ _ _ e L;exact(t,key,Ŗ,(o,S _ _ (hn _ _ e).2 g,r),y)
  obtain⟨t,key,rfl,⟨o,e,c,n,M⟩,Bt⟩:=Z F H;erw[aa (bS (aa (wpAny_tryCatch ?_)))];delta Builtin.Dict.pairItems;erw[aa (kE (T:="tuple") (o,e,c) ?_)];rw[b5 ∅];erw[aa ?_];delta seqItems?;erw[aa (QK e ?_)];rw[M];erw[ai (ai ?_)];let l3:(1000:Ń)<=Ã:=∅
  erw[bS (wpAny_dictSet_pairs Bt (hd.extBut S D) (λh2 N a=>?_) ())];erw[ai (gW mO _,?_)];let e1:ef ((i:Î)+1)=ef ((i+1:Ń):Î):=Ŗ;erw[ih (i+1) (PySem.stored U p.1 p.2) {s with heap:=h2,toks:=k+1} () (W.frame _ _ _ G λc Q o g=>(a.2 c ?_).trans g) N ?_ ?_ λh' k KO k'=>?_]
  .rcases ax.mp Q with rfl|Q;.rwa[c4 D]
   .rw[aE.mp Q];rwa[c4 dl]
  .delta PySem.stored;split;.rw[ae];rwa[aS ‹_›]
   .left
  .intro j u' p' f ZZ;obtain⟨t',apH,rfl,⟨o',L,r'⟩,SM⟩:=Z f ZZ;exact(t',_,Ŗ,(o',(a.2 _ (hn _ _ f).1).trans L,r'),SM)
  .erw[z h' k ?_ λb ob wW GB E=>k' b ob wW GB ((a.2 _ wW).trans (S _ _ GB E))];rw[SJ];rwa[KO]
def DJ{B:Array _}{ps:Ł _}{T:String}{Ç:À->Ń->È->ß}{Q:dC}{E:dC}{s:bn}(e:s.heap.get? l=O o)(c:o.cls=.type T)(N:(à T !=à "dict"))(U:∀{E s}{Q:Ő _->bn->ß},s.heap.get? l=O o->(∀h' k,(∀b g,s.heap.get? b=O g->h'.get? b=O g)->Q ao {s with heap:=h',toks:=k})->bv (cc P w) A.in1.in1 (getAttr? (.ref l) "keys") Q E s)(ni:∀{E s}{Q:dC},s.heap.get? l=O o->Q (.ref s.heap.objs.size) {s with heap:=s.heap.push f}->bv (cc P w) A.in1.in1 (pyIter (.ref l)) Q E s)(W:∀I,l≠I->Walks P w A.in1.in1 I [I,l] [I] B.size (λi v=>B[i]?=O v) (Ç I))(X:∀h:È,h.get? l=O o->Ç h.objs.size 0 (h.push f))(G:B.size=Á ps)(hz:Á ps<=1000)(H:∀(j:Ń)(u:Â)(p:κ×Â),B[j]?=O u->ps[j]?=O p->uV knd s.heap u p)(h:∀h' k,h'.DictOf knd s.heap.objs.size (merged [] ps)->(∀b o,s.heap.get? b=O o->h'.get? b=O o)->Q (.ref s.heap.objs.size) {s with heap:=h',toks:=k}):bv (cc P w) A (call (.type "dict") [.ref l]) Q E s:=by
 erw[callType_codes (Q₁:=λd S=>d=.ref _/\S={s with heap:=s.heap.push _}) F.kt_called_dict (F.kt_typeCall_dict_1 _) F.entry_dict_init (kt_code_dict_new _ (Ŗ,Ŗ)) ?_];rintro d S ⟨rfl,rfl⟩;let M:(s.heap.push _).DictOf knd _ []:=Heap.DictOf.new _;erw[(M.typeIs,F.args_dict_init_2 _ _,?_)];erw[aa ?_];erw[aa (NE M.typeIs ?_)];erw[ai ?_];show bv _ _ (Builtin.Dict.updateFrom _ _ _ [] _) _ _ _;let m:(s.heap.push {cls:=.type "dict",data:=.dict #[]}).get? l=O o:=af _ e;erw[aa (kE (o,m,c) ?_)];rw[b5 N];erw[aa (U m λy C k1=>?_)];erw[aa (jQ ?_)];let(x,Y,Z,a,r):=M;erw[aa (ni (k1 _ _ m) ?_)];erw[ai (gW mO _,?_)];let K:∀b o,s.heap.get? b=O o->(y.push f).get? b=O o:=λb o q=>af _ (k1 _ _ (af _ q));let n:∀{b o},s.heap.get? b=O o->b≠s.heap.objs.size/\b≠y.objs.size:=λq=>(aP (ay q),aP (ay (k1 _ _ (af _ q))));erw[Eu (W _ (n e).2) (λj t q=>?_) (aP (ay (k1 _ _ a))) (n e).1.symm G hz _ 0 [] {s with heap:=y.push f,toks:=C} (cB _) (X _ (k1 _ _ m)) (x,Y,Z,af _ (k1 _ _ a),r) (ah _) (λj u p hu D=>?_) λh' k KO k'=>(Ŗ,h h' k KO λb g q=>k' b g (n q).1 (n q).2 (K _ _ q))];.let hj:=G▸(fq.mp q).1;obtain⟨t',key,z,⟨x,a,R⟩,L⟩:=H j _ _ q (ar hj);cases z;rwa[n a]
 .obtain⟨t,key,rfl,⟨x,a,R⟩,L⟩:=H j u p hu D;exact(t,key,Ŗ,(x,K _ _ a,R),L)
end
def Paired.at'(p:Paired F xs ys):∀{i:Ń},xs[i]?=O x->ys[i]?=O y->F x y:=by induction p with|f=>intro i e;cases e|g h _ I=>intro i E a;induction i with|h=>left|j i=>rwa[I E a]
end L2
namespace L2
open PySem.SeqAt PySem.MeetsSeq PySem.Builtin PySem.Builtin.Str
end L2
namespace L2
def VA(h:(d8 P w).is (Ü x) v):∃t,v=.str x t:=by rw[(d8 P w).strs (Ü x) x 0 v (sU (k:=Ü x) (0,Ŗ))]at h;induction v with|str y t=>exact(t,by rw[show y=x from by simpa[Value.isStr]using h])|_=>simp[Value.isStr]at h
def N1{p:Ł _}{σ:Ç}(I:Inv X p σ H s)(h:g9 X.K H b [kV k,v]):∃r,RelV v r/\uV (d8 X.prog X.w) s.heap (.ref b) (k,r):=by let(B,a,c,_):=I.tuple h;let(u,r,rfl,R,d):=a.two;erw[(r,d,b,u,Ŗ,c,?_)];induction k with|inl i=>let(t,rfl):=R;rwa[sY _ X.w i t]|inr x=>let(t,rfl):=R;rwa[sZ _ X.w x t]
def Ju{P:Ł _}{s:bn}{σ:Ç}{H:Hp}(I:Inv X P σ H s):∀{T:ϕ}{U:Ł _}{B:Ł _},Vals T B->Paired (λt k=>∃b,t=V.A b/\g9 X.K H b [kV k.1,k.2]) T U->∃ps:Ł _,KV U ps/\Paired (uV (d8 X.prog X.w) s.heap) B ps:=by intro T U B a;induction a generalizing U with|f=>intro b;cases b;exact([],.nil,.nil)|g r R i=>intro b;cases b with|g p pp=>let(ps,a,b):=i pp;let(c,rfl,h):=p;cases r;let(w,C,d):=N1 I h;exact(_,.cons (Ŗ,C) a,.cons d b)
def ya{P:Ł _}{σ:Ç}{E:dC}{Q:V->Hp->ß}{Ç:À->Ń->È->ß}(I:Inv X P σ H s)(r:Vals n B)(hz:Á U<=100)(x:Paired (λt y=>∃b,t=V.A b/\g9 X.K H b [kV y.1,y.2]) n U)(q:∀a,H a=ao->Q (.A a) (dq H a (.dK (j9 [] U))))(e:s.heap.get? l=O o)(c:o.cls=.type T)(N:(à T !=à "dict"))(F:∀{E s}{Q:Ő _->bn->ß},s.heap.get? l=O o->(∀h' z,(∀b C,s.heap.get? b=O C->h'.get? b=O C)->Q ao {s with heap:=h',toks:=z})->bv (cc X.prog X.w) X.A.in1.in1 (getAttr? (.ref l) "keys") Q E s)(ni:∀{E s}{Q:dC},s.heap.get? l=O o->Q (.ref s.heap.objs.size) {s with heap:=s.heap.push m}->bv (cc X.prog X.w) X.A.in1.in1 (pyIter (.ref l)) Q E s)(W:∀I,l≠I->Walks X.prog X.w X.A.in1.in1 I [I,l] [I] B.toArray.size (λi v=>B.toArray[i]?=O v) (Ç I))(S:∀h:È,h.get? l=O o->Ç h.objs.size 0 (h.push m)):bv (cc X.prog X.w) X.A (call (.type "dict") [.ref l]) (EP X P σ Q) E s:=by
 let D:Á B=Á U:=by rw[<-r.length,x.length]
 let(ps,k,d):=Ju I r x;let M:=k.length.symm;let R:1000<=Ã:=∅
 erw[DJ (knd:=d8 _ X.w) (ps:=ps) e c N F ni W S nofun () (λj u p hu f=>?_) λh' z G L=>?_];.rw[lC]at hu;rwa[Paired.at' d hu f]
 .let g:=pD U [];exact(.A _,_,I.laid L (ah _) (DK (by simp at g;lia) (da.mpr (c4 (aP I.big))) (KV.merge k .nil) G),Ŗ,q _ (I.cY.fresh (ah _)))
def lJ(g:X.calm):eE X (.type "dict") λxs H Q=>∃(l:À)(T:ϕ)(U:Ł _),xs=[.A l]/\gA X.K H l T/\Á U<=100/\Paired (λt v=>∃b,t=V.A b/\g9 X.K H b [kV v.1,v.2]) T U/\∀a,H a=ao->Q (.A a) (dq H a (.dK (j9 [] U))):=by intro p s σ H xs w Q I r h;let(l,T,U,rfl,i,z,j,q):=h;let(u,rfl,R):=KD r;cases R;obtain⟨B,m,⟨o,n,e,c,dn,d⟩,_⟩:=I.list i;let f:X.A.in1.in1.handled=none:=I.ok.hd g;rwa[ya I m z j q e c rfl (λe k=>NN F.slot_list_getattribute am_entry_list_getattribute F.args_list_getattribute_2 am_list_getattr_none (λsl u=>meets_getattribute_miss_list l _ _ sl _ _ rfl rfl (by size_fits)) e c d dn f k) (λe q=>CU (o,e,c,n,d) q) (λI n=>Walks.list f I l n _) λh e=>((_,aA _ Ŗ,Ŗ,Ŗ),o,af _ e,c,n,d)]
def vN(i:Ń)(D:Õ):Õ:={nx:=λσ H=>D.nx (σ.set i ao) H,rt:=D.rt,bk:=λσ H=>D.bk (σ.set i ao) H,ct:=λσ H=>D.ct (σ.set i ao) H}
def akS(K:Ä)(R:À)(L i:Ń)(tb:XK->TS)(t:À->À->Ő À->TS):TS:=λD σ H=>∃E1:XK,tb E1 D σ H/\∀(C:À)(o:Ő _)(h:Hp)(a:À)(b:Ç),E1 (.ref C) o h->Á b=L->subIn K (.ref C) (.ref R)=O J/\t a C o (vN i D) (b.set i (O (.A a))) h
theorem SP.EF(ok:X.Ok)(h:SP {X with pn:=X.pn++be,xe:=E} [] D f s):SP X be D f s:=by induction f with|next=>let(a,H,I,q):=h;exact(a,H,I.EF ok,q)|brk=>let(a,H,I,q):=h;exact(a,H,I.EF ok,q)|cont=>let(a,H,I,q):=h;exact(a,H,I.EF ok,q)|ret u=>let(v,a,H,I,r,q):=h;exact(v,a,H,I.EF ok,r,q)
def Cq{Y:À->À->Ő _->TS}{p:Ł _}(fr:CA X)(hN:X.N.Nodup)(hi:X.N[i]?=O n)(F:X.env.scope.names.lookup n=O .local)(hf:X.fn n)(hg:Gl X x)(hm:X.mg x=O (.ref R))(hR:HZ X.K R)(ok:X.Ok)(hs:∀pn a C d,Hd (X.hn pn a) a C d->jt (X.hn pn a) (W::U) (Y a C d))(hb:bv (cc X.prog X.w) X.A (execs B X.env) (SP X p D) (λe s1=>∃(E1:XK)(σ':Ç)(y:Hp)(h:bn),Inv {X with pn:=X.pn++p} [] σ' y h/\sG X.prog X.w X.stack y h E1 e s1/\∀C od H' a,E1 (.ref C) od H'->subIn X.K (.ref C) (.ref R)=O J/\Y a C od (vN i D) (σ'.set i (O (.A a))) H') s)(hd:ø ((x=="__debug__")=bb) P3):bv (cc X.prog X.w) X.A (exec (.Try B [.ExceptHandler (O (.Name x np)) (O n) (W::U) Z] [] [] pos) X.env) (SP X p D) X.xe s:=by
 erw[wpAny_Try_except (cV hb (λf s1 q'=>?_) λe s1 q=>cps λR k0=>?_)];.induction f with|next=>rwa[gP q']|brk=>done|cont=>done|ret u=>done
 obtain⟨E1,σ',y,h,j,⟨a,C,d,H',rfl,G,hE⟩,hh⟩:=q;let(Jb,L):=hh C d H' a hE;let M:∀{b:À},h.heap.get? b=ao->b≠X.env.locals:=λz e=>by obtain⟨m,⟨o,_,_,l,_⟩,_⟩:=j.loc;rw[e]at z;rw[z]at l;cases l
 let hand:∀{fl:Â}{s2:bn}(f2:Fl X.prog X.w _ y h H' a C d fl s2),∃t T,s2.heap.get? a=O _/\Inv _ [] σ' H' s2:=λ{fl s2}f2=>by obtain⟨T,⟨⟨t,ha⟩,_⟩,_⟩:=f2.ex;exact(t,T,ha,(f2.inv j).ak0 ha f2.na (M f2.new) ((λz e=>by let(_,o,l,_):=j.j5.mem e;rw[z]at l;cases l) f2.new) (by intro v z;cases z))
 erw[k0 (G.note (X:={X with pn:=X.pn++p}) j fr.st fr.fr ok.frames λs2 f2=>?_)];erw[f2.land (f2.frF j) λs3 P=>cps λR k1=>?_];let(t3,T3,SG,I3):=hand P;erw[k1 (wpAny_handleBy_cons (codeAny_handlers_test ?_) (by intro z;cases z))];erw[jh I3 hg hm ?_ hd];erw[R8 I3.kZ hR SG rfl Jb ?_];erw[codeAny_handlers_suite_as ?_];erw[P.land (P.frF j) λs4 f4=>cps λR k2=>?_];let(t4,T4,ha4,I4):=hand f4;erw[k2 (lY (X:=X.hn _ a) (v:=.A a) I4 hN hi (.inl F) rfl (λs5 I5=>?_) (.inl hf))];erw[cV (hs _ a C d (Ŗ,t4,_,aJ) [] s5 _ H' _ I5 L) (λfl s6 E=>?_) λ_ _ z=>z.elim];let go:∀{c:Ç}{H:Hp}{Q:Unit->bn->ß},Inv (X.hn ((a,wV C t4 d (.ref T4))::(X.pn++p)) a) [] c H s6->(∀S,Inv X _ _ H S->Q ⟨⟩ S)->bv (cc X.prog X.w) X.A (do bindName _ n _;unbindBehindTheSuite _ n Z) Q X.xe s6:=λ{c H Q}I k=>by let J6:=Inv.EF ok (I.akb (ok.pnx _ _));let(m,hn,_):=id J6.loc;rwa[wpAny_nameGoes_keeps F hn (by rw[ok.kind];rfl) λh' v WZ KQ=>k _ (J6.ait hN hi F hn WZ KQ)]
 induction fl with|next=>let(c,H,I,q):=E;rwa[go I λS g=>(_,_,g,q)]|brk=>let(c,H,I,q):=E;rwa[go I λS g=>(_,_,g,q)]|cont=>let(c,H,I,q):=E;rwa[go I λS g=>(_,_,g,q)]|ret u=>let(v,c,H,I,r,q):=E;rwa[go I λS g=>(v,_,_,g,r,q)]
def Ψ(fr:CA X)(m:X.N.Nodup)(hi:X.N[i]?=O n)(o:X.env.scope.names.lookup n=O .local)(r:X.fn n)(u:Gl X x)(v:X.mg x=O (.ref R))(w:HZ X.K R)(y:∀pn E1,jt (X.tr pn E1) b (tb E1))(z:∀pn a C d,Hd (X.hn pn a) a C d->jt (X.hn pn a) (B::t) (T a C d))(A:ø ((x=="__debug__")=bb) P3):PS X (.Try b [.ExceptHandler (O (.Name x l)) (O n) (B::t) Z] [] [] pos) (akS X.K R (Á X.N) i tb T):=by intro p s σ H D I h;let(E1,k,E):=h;erw[Cq fr m hi o r u v w I.ok z (cV (y _ E1 [] s σ H D (I.afM _) k) (λf s1 q=>SP.EF I.ok q) λe s1 q=>?_) A];let(g,F,S,j,c):=q;exact(E1,g,F,S,j,c,λC G L a M=>E C G L a g M j.len)
structure uW(k:Ń)(A:cr)(a:À):ß where
 hd:A.handled=O (.ref a)dp:A.depth+3*k+5<recursionLimit
 un:A.units+16*k+200<Ï
def ff.hand(r:ff k A)(a:À):uW k (A.mark (O (.ref a))) a:=(Ŗ,r.dp,r.un)
theorem uW.deeper(r:uW (k+1) A a)(env:Ø):uW k (A.deeper env) a:=(r.hd,by let:=r.dp;show A.depth+1+3*k+5<_;lia,by let:=r.un;show A.units+3+16*k+200<_;lia)
abbrev L3(P:cp)(w:ce)(K:Ä)(m:db)(base:È)(N:ϐ)(q:Å)(S:Í)(f:À)(c:Â)(A:cr)(o:Ł Ø)(s:bn)(H:Hp)(a:À)(e:Ù):Cx:={(mG yW P w K m base N q S f c A o s H E0).BN with calm:=bb,pn:=[(a,e)]}
structure CV(P:cp)(w:ce)(K:Ä)(mg:db)(base:È)(k:Ń)(x:Å)(ps:ϐ)(sp:À->À->Ő À->Sp):ß where ex:∃(f:À)(fd:ed),(∀(A:cr)(outer:Ł Ø)(s:bn)(H:Hp)(args:Args)(us:Ł Â)(vs:ϕ)(Q:VK)(a C t:À)(d:Ő À)(tb:Â),uW k A a->xh P w K mg base A outer s H->s.heap.get? a=O (wV C t d tb)->H a=ao->a∉pC outer->BindsTo s fd args (ps.zip us)->Vals vs us->sp a C d vs H Q E0->gc (cc P w) A (.call (.ref f) args) (CR yW outer P w H s Q E0) s)/\(∀a C d vs H Q E,sp a C d vs H Q E->Á vs=Á ps)/\mg x=O (.ref f)/\keepIn K (.ref f)/\Binds K fd ps []
def Src.okH{K:Ä}{st:É}(S:Src K mg x st ps)(F:cP N ps (av st))(len:∀a C d vs H Q E,sp a C d vs H Q E->Á vs=Á ps)(M:∀(f:À)(D:Â)(A:cr)(g:Ł Ø)(s:bn)(H:Hp)(vs:ϕ)(Q:VK)(a C t:À)(d:Ő _)(tb:Â),uW k (A.deeper (envOfC x (av st) s.heap.objs.size f D)) a->sp a C d vs H Q E0->Hd (L3 P w K mg base N x (av st) f D A g s H a (wV C t d tb)) a C d->∃T,jt (L3 P w K mg base N x (av st) f D A g s H a (wV C t d tb)) (bQ st) T/\T {nx:=λ_ H'=>Q .iq H',rt:=Q} (start N vs) H):CV P w K mg base (k+1) x ps sp:=by
 let(f,fd,G,R,U):=S.ex;let(oc,od,kV,doc,pm,an,D,ct,qP,rfl,lk,W):=G.ex;erw[(f,_,λA g s H args us vs Q a C t d tb i e0 I Y l m r L=>?_,len,R,G.kp,U)];let X:=e0.mod.CJ.keeps λb o e=>(e0.bs b o e).1;erw[lD (by let:=i.dp;lia) (X _ _ lk) rfl F.co F.gen rfl (oV X W) (m _ _ _ _ ?_)];erw[iB F.kind (λ(n,v) Z=>by
  rcases F.par n (jJ Z).1 with q|q;.rwa[.inl q]
  .rwa[.inr (q,gH _ _ _ (.inl q))]) λenv he s1 y=>?_];subst he;erw[((e0.mod.nolimit.keeps λb o e=>(e0.bs b o e).1).keeps y.toInCall.keep,CQ ?_)];let c:Inv (mG yW P w K mg _ N x _ f D {A with handled:=ao} _ s H E0) [] _ H s1:=oG F rfl (e0.frames,e0.mod,e0.bs,e0.zg,e0.j5,e0.DS,e0.cY,e0.bare) (len _ _ _ _ _ _ _ L) r y;let(T,ht,hq):=M f D A _ s H vs Q a C t d tb (i.deeper _) L (i.hd,t,tb,⋯);erw[cV (ht [] s1 _ H _ (by
  erw[((c.ok.mod,c.ok.kind,c.ok.glob,c.ok.blt,c.ok.above,c.ok.inj,c.ok.has,c.ok.Ll,λz=>(aF z).elim,c.ok.frames,c.ok.KU,c.ok.Qp,c.ok.bs,c.ok.zg,c.ok.sk,c.ok.vH,c.ok.j5,c.ok.DS),c.os,c.bare,c.base,c.loc,c.cell,c.free,c.fT,λp hp=>?_,c.cY,c.len)];let e:=by simpa using hp
  subst e;exact(y.toInCall.keep _ _ I,Y,aP (bp (ay I) c.ok.above),l,by intro v z;cases z)) hq) (λfl s' h=>?_) λe s' h=>h.elim];induction fl with|ret u=>let(v,B,H',j,rv,q):=h;exact(v,H',j.os,j.bare,j.base,j.cY,rv,q)|next=>let(B,H',j,q):=h;exact(.iq,H',j.os,j.bare,j.base,j.cY,Ŗ,q)|brk=>let(_,_,_,q):=h;rwa[á q]|cont=>let(_,_,_,q):=h;rwa[á q]
def CV.mono{K:Ä}{m:Å->Ő _}(D:CV P w K m base j x ps sp)(h:j<=k):CV P w K m base k x ps sp:=by let(f,F,run,r):=D.ex;exact(f,F,λA o s H args u v Q a C t d T b=>run A _ s H _ u v Q a C t d T (b.hd,by let:=b.dp;lia,by let:=b.un;lia),r)
def Ur(D:CV X.prog X.w X.K X.mg X.base k x ps sp)(c:Hd X a C d)(g:uW k X.A a)(j:Gl X x)(l:PA X (e::es) t)(m:ø ((x=="__debug__")=bb) P3)(S:ø ((e::es).all cL=J) v0):PE X (.Call (.Name x p) (e::es) [] pos) (akN (sp a C d) t):=by
 let(f,N,run,len,o,v,y):=D.ex;intro P s σ H Q I h;rw[b8,aK]at S;erw[fB (jh I j o ?_ m)];erw[fA I.ok.mod.CJ v (XW (l pos _ s σ H _ I h) λU s1 B E i r q=>(i.kZ,?_)) (cy S.1) (fh S.2)];let(T,F,n):=c.pn;let(Z,G,L,M,_):=i.pin _ (cX _ n);erw[jP (dO (run X.A _ s1 E (U,[]) U B Q a C T d F g i.IM Z G (λz=>by
  rcases ax.mp (i.wG a z)with e|e;.rwa[L e]
  .rwa[M e]) (by simpa using y s1 U i.kZ (by simpa using by rw[<-r.length];rwa[len _ _ _ _ _ _ _ q])) r q) λR W b=>?_)];induction R with|error e=>rwa[b.elim]|ok fl=>induction fl with|ret u=>rwa[i.after b]|next=>assumption|brk=>assumption|cont=>assumption
end L2
namespace L2
open PySem.W
structure AZ(K:Ä)(C:À):ß where
 ga:findIn K (.ref C) "__getattribute__"=O (O (.builtin "BaseException.__getattribute__"))gr:findIn K (.ref C) "__getattr__"=O ao
 fo:findObj K C ao "__class__"=O (.bind (.builtin "getset_descriptor.__get__") (.builtin "object.__class__"))mo:mroIn K C (.type "object")=O J
 ba:subIn K (.ref C) (.type "BaseException")=O J
def IQ{E:dC}{K:Ä}(X:K.In s.heap)(I:InstAt s.heap a o C ao)(F:AZ K C)(h:Q (O (.ref C)) {s with toks:=s.toks+1}):bv (cc prog w) A (getAttr? (.ref a) "__class__") Q E s:=by let(H,g,d,t,os):=s;let L:=I.type (M:=cc prog w);let l:=looks_findIn (M:=cc prog w) X F.ga;let L2:=looks_findIn (M:=cc prog w) X F.gr;let b:=looks_find (M:=cc prog w) X I F.fo;delta getAttr? getAttrBy?;delta getAttrBy;erw[aa (wpAny_mkText (aa (eD (bS (aa (L.at (aa (l.at ?_))))))))];show bv _ _ (getAttrByItsOwn _ _ _ _ _ _) _ _ _;delta getAttrByItsOwn hookBefore;erw[aa ?_];show bv _ _ (typeLookup (.ref C) "__getattr__") _ _ _;erw[L2.at ?_];erw[aa (eD (bS ?_))];show bv _ _ (boundAndCalled (.builtin "BaseException.__getattribute__") (.ref a) _) _ _ _;delta boundAndCalled;rw[ZT.ga.bind (.ref a)];erw[aa (ai ?_)];show bv _ _ (call _ [.ref a,.str _ t]) _ _ _;erw[jP (mn ZT.ga.plain Ĵ ?_)];let c:Looks _ H (isInstance _ _) _:=L.andThen (looks_subIn X F.ba);rwa[aa (c.at (mq (W4 (.ref a) (.str "__class__" t)) (aa (ai (aa (ai (aa (L.at (aa (b.at (aa (bS (jP (class_get X I F.mo (ai (ai (ai h)))))))))))))))))]
end L2
namespace L2
open PySem.SeqAt
def BC{K:Ä}(F:AZ K C)(H:(clsIn K C).isSome):KitX K (.ref a) (.ref C) λh=>PySem.W.InstAt h a o C ao where
 ty:=λ_ _ _ I=>I.type;it:=λ_ _ X _=>yh X H;ne:=λh t dd B n sl X p=>by
  erw[bB.mpr λq=>?_];let e:=Value.ref.inj (oW.mp q);subst e;delta clsIn at H;split at H;.ext d D c s b;let z:=(X _ _ b).symm.trans p;cases z
  .done
 ca:=λX I k=>IQ X I F k
def x4(f:Hd X a C ao)(F:AZ X.K C)(g:(clsIn X.K C).isSome):eE X (.builtin "isinstance") λxs H Q=>∃(c:V)(cv:Â)(b:Þ),xs=[.A a,c]/\((∃D,c=.A D/\cv=.ref D)\/∃n,c=.ty n/\cv=.type n)/\kitOne X.K (.ref C) cv=O b/\Q (.B b) H:=by
 intro p s σ H xs U Q I r h;let(c,cv,b,rfl,d,k,q):=h;let(u,v,rfl,R,i):=r.two;cases R;let ev:v=cv:=by
  rcases d with ⟨D,rfl,rfl⟩|⟨n,rfl,rfl⟩;.done
  .done
 subst ev;let(T,j,e):=f.pn;let(Z,_):=I.pin _ (cX _ e);rwa[c9 (BC F g) I.kZ (Z,Ŗ,Ŗ,Ť) k (λz=>nomatch z) λt=>(.B b,H,I.tok t,Ŗ,q)]
def x3:em "sorted"=O (.builtin "sorted"):=∅
def YA:em "set"=O (.type "set"):=by rfl
end L2
namespace L2
structure tJ(w:ce)(K:Ä)(mg:db)(gB:Ń->Å)(a:À)(tab:Å->Ő ϐ):ß where
 ex:∃(es:Array gt)(n:Ń),K.lookup a=O (.type "dict",ao,.dict es n,#[])/\KeysLit w.params es.toList/\∀x,match tab x with|O ks=>∃f,findBy ã es x=O (.ref f)/\mg (gB (Á ks))=O (.ref f)|ao=>findBy ã es x=ao
 lo:(a==ft)=bb
def ż(m:db)(gB:Ń->Å)(a:À)(tab:Å->Ő ϐ):R2:=λx y H Q=>x=.A a/\∃k K,y=.S k/\tab k=O K/\∀f,m (gB (Á K))=O (.ref f)->Q (.A f) H
def TJ(T:tJ X.w X.K X.mg gB a tab):FJ X (ż X.mg gB a tab):=by intro e S p s σ H x y v u Q I r R h b;let(rfl,k,d,rfl,c,q):=h;cases r;let(t,rfl):=R;let(E,m,lk,keys,look):=T.ex;let hm:=mZ (prog:=X.prog) I.kZ lk keys;let lx:=look k;rw[c]at lx;let(f,F,M):=lx;rwa[ky hm.typeIs pJ.lookup (HV (oY _ X.w k t) hm F (Ŗ,(.A f,H,I.tok _,Ŗ,q f M))) b]
def S_(T:tJ X.w X.K X.mg gB a tab):kH X (compareOp .In) λx y H Q=>y=.A a/\∃k,x=.S k/\Q (.B (tab k).isSome) H:=by intro p s σ H x y v u Q I r R h;let(rfl,k,rfl,q):=h;cases R;let(t,rfl):=r;let(e,m,lk,keys,look):=T.ex;erw[wpAny_in_of (oY _ X.w k t) T.lo (mZ I.kZ lk keys) ?_];erw[(_,H,I.tok _,?_,q)];let lx:=look k;induction b:tab k with|c c=>rw[b]at lx;let(f,F,M):=lx;rw[F];rfl|a=>rw[b]at lx;rw[lx];rfl
def N4(x:PE X (.Subscript a b p) tx)(m:ff k X.A)(n:gR (sG X.prog X.w) X E)(o:PA X (e::es) t)(d:(e::es).all cL):PE X (.Call (.Subscript a b p) (e::es) [] pos) λσ H Q=>tx σ H λv c=>∃(f:À)(g:ed)(ps:ϐ)(sp:Sp),v=.A f/\iN X.prog X.w X.K X.mg X.base (sG X.prog X.w) k f g ps sp/\keepIn X.K (.ref f)=J/\Binds X.K g ps []/\t σ c λvs i=>sp vs i Q E:=by intro P s σ H Q I h;rw[b8,aK]at d;erw[aa (kh (x _ s σ H _ I h) λv s1 y c j r f=>?_)];let(f,g,ps,sp,u,F,z,B,q):=f;subst u;cases r;rwa[fA j.ok.mod.CJ z (iZ (o pos _ s1 σ c _ j q) λU s2 Z=>by let(vs,i,l,R,C):=Z;exact(l.kZ,E3 F m B .nil n l R (by rw[aT];rwa[C]))) (cy d.1) (fh d.2)]
structure gX(k:Ń)(A:cr):ß where
 dp:A.depth+3*k+5<recursionLimit
 un:A.units+16*k+200<Ï
def ff.u(r:ff k A):gX k A:=(r.dp,r.un)
def gX.room(r:gX k A)(h:A.handled=ao):ff k A:=(h,r.dp,r.un)
def gX.mono(r:gX k A)(h:j<=k):gX j A:=(by let:=r.dp;lia,by let:=r.un;lia)
theorem gX.deeper(r:gX (k+1) A)(env:Ø):gX k (A.deeper env):=(by let:=r.dp;show A.depth+1+3*k+5<_;lia,by let:=r.un;show A.units+3+16*k+200<_;lia)
theorem gX.units(r:gX k A):A.units+64<Ï:=by let:=r.un;lia
def gX.aaZ(r:gX k A):A.units+1<Ï:=by let:=r.un;lia
def Cg(A:cr)(s:bn)(H:Hp)(fs:Ł À):ß:=A.handled=ao\/∃a C t d T,A.handled=O (.ref a)/\s.heap.get? a=O (wV C t d T)/\H a=ao/\a∉fs
def Hq(X:Cx):ß:=X.A.handled=ao\/∃a C t d T,X.A.handled=O (.ref a)/\(a,wV C t d T)∈X.pn
def Hq.at{p:Ł _}{σ:Ç}(q:Hq X)(I:Inv X p σ H s):Cg X.A s H (pC X.stack):=by
 rcases q with q|⟨a,C,t,d,T,q,h⟩;.rwa[.inl q]
 .let(Z,b,c,f,_):=I.pin _ (cX _ h);erw[.inr (a,C,t,d,T,q,Z,b,λz=>?_)];rcases ax.mp (I.wG a z)with e|e;.rwa[c e]
  .rwa[f e]
structure Qk(P:cp)(w:ce)(K:Ä)(mg:db)(base:È)(k:Ń)(f:À)(fd:ed)(ps:ϐ)(sp:Sp):ß where len:∀vs H Q E,sp vs H Q E->Á vs=(Á ps)run:∀(A:cr)(outer:Ł Ø)(s:bn)(H:Hp)(args:Args)(us:Ł Â)(vs:ϕ)(Q:VK)(E:XK),gX k A->xh P w K mg base A outer s H->Cg A s H (pC outer)->BindsTo s fd args (ps.zip us)->Vals vs us->sp vs H Q E->gc (cc P w) A (.call (.ref f) args) (CR yW outer P w H s Q E0) s
abbrev YW(P:cp)(w:ce)(K:Ä)(m:db)(base:È)(N:ϐ)(q:Å)(S:Í)(f:À)(c:Â)(A:cr)(o:Ł Ø)(s:bn)(H:Hp)(pn:dN):Cx:={(mG yW P w K m base N q S f c A o s H E0).BN with calm:=bb,pn:=pn}
section
variable{P:cp}{w:ce}{K:Ä}{mg:db}{base:È}{x c3:Å}{st:É}{ps N:ϐ}{j k:Ń}{sp:Sp}{f C:À}{fd:ed}
theorem Qk.ok(F:Qk P w K mg base k f fd ps sp):iN P w K mg base CX k f fd ps sp:=(F.len,λA o s H args U v Q E h e0 b r q=>dO (F.run A _ s H _ U v Q E h.u e0 (.inl h.hd) b r q) λr S z=>by induction r with|error e=>rwa[z.elim]|ok fl=>induction fl<;>rwa[z])
theorem Qk.mono(F:Qk P w K mg base j f fd ps sp)(h:j<=k):Qk P w K mg base k f fd ps sp:=(F.len,λA o s H args u v Q E r=>F.run A _ s H _ u v Q E (r.mono h))
def CB.okU(W:CB K x c3 st f fd)(F:cP N ps (av st))(len:∀vs H Q E,sp vs H Q E->Á vs=Á ps)(Y:∀(D:Â)(A:cr)(h:Ł Ø)(s:bn)(H:Hp)(vs:ϕ)(Q:VK)(E:XK)(pn:Ł _),gX k (A.deeper (envOfC c3 (av st) s.heap.objs.size f D))->sp vs H Q E->Hq (YW P w K mg base N c3 (av st) f D A h s H pn)->∃T,jt (YW P w K mg base N c3 (av st) f D A h s H pn) (bQ st) T/\T {nx:=λ_ H'=>Q .iq H',rt:=Q} (start N vs) H):Qk P w K mg base (k+1) f fd ps sp:=by
 let(oc,od,kV,doc,pm,an,D,ct,qP,rfl,lk,Z):=W.ex;erw[(len,λA h s H args us vs Q E M e0 l B r S=>?_)];let X:=e0.mod.CJ.keeps λb o e=>(e0.bs b o e).1;erw[lD (by let:=M.dp;lia) (X _ _ lk) rfl F.co F.gen rfl (oV X Z) (B _ _ _ _ ?_)];erw[iB F.kind (λ(n,v) hy=>by
  rcases F.par n (jJ hy).1 with q|q;.rwa[.inl q]
  .rwa[.inr (q,gH _ _ _ (.inl q))]) λenv he s1 y=>?_];subst he;erw[((e0.mod.nolimit.keeps λb o e=>(e0.bs b o e).1).keeps y.toInCall.keep,CQ ?_)];let g:Inv (mG yW P w K mg _ N _ _ f D {A with handled:=ao} _ s H E0) [] _ H s1:=oG F rfl (e0.frames,e0.mod,e0.bs,e0.zg,e0.j5,e0.DS,e0.cY,e0.bare) (len _ _ _ _ S) r y;obtain⟨pn,m,G⟩:∃pn,(∀p∈pn,s1.heap.get? p.1=O p.2/\H p.1=ao/\p.1≠s.heap.objs.size/\p.1∉pC h/\∀v,p.2.data≠.cell v)/\Hq (YW P w K mg _ N _ _ f D A _ s H pn):=by
  rcases l with l|⟨a,C,t,d,R,l,U,W0,I⟩;.exact([],λp m=>by done,.inl l)
  .erw[([(a,wV C t d R)],λp m=>?_,.inr (a,C,t,d,R,l,aJ))];rw[aE.mp m];exact(y.toInCall.keep _ _ U,W0,aP (ay U),I,by intro v z;cases z)
 let(T,ht,G):=Y D A _ s H vs Q E pn (M.deeper _) S G;erw[cV (ht [] s1 _ H _ ((g.ok.mod,g.ok.kind,g.ok.glob,g.ok.blt,g.ok.above,g.ok.inj,g.ok.has,g.ok.Ll,λz=>(aF z).elim,g.ok.frames,g.ok.KU,g.ok.Qp,g.ok.bs,g.ok.zg,g.ok.sk,g.ok.vH,g.ok.j5,g.ok.DS),g.os,g.bare,g.base,g.loc,g.cell,g.free,g.fT,λp q=>m p (by simpa using q),g.cY,g.len) G) (λfl s' i=>?_) λe s' i=>i.elim];induction fl with|ret u=>let(v,L,H',c,rv,q):=i;exact(v,H',c.os,c.bare,c.base,c.cY,rv,q)|next=>let(L,H',c,q):=i;exact(.iq,H',c.os,c.bare,c.base,c.cY,Ŗ,q)|brk=>let(_,_,_,q):=i;rwa[á q]|cont=>let(_,_,_,q):=i;rwa[á q]
structure tI(P:cp)(w:ce)(K:Ä)(mg:db)(base:È)(k:Ń)(x:Å)(ps:ϐ)(sp:Sp):ß where ex:∃(f:À)(fd:ed),Qk P w K mg base k f fd ps sp/\mg x=O (.ref f)/\keepIn K (.ref f)/\Binds K fd ps []
structure rQ(P:cp)(w:ce)(K:Ä)(mg:db)(base:È)(k:Ń)(C:À)(x:Å)(ps:ϐ)(sp:Sp):ß where ex:∃(f:À)(fd:ed),Qk P w K mg base k f fd ps sp/\yY K C x f/\Binds K fd ps []
def tI.toX(D:tI P w K mg base k x ps sp):nc P w K mg base k x ps sp:=let (f,fd,F,r):=D.ex;(f,fd,F.ok,r)
def rQ.toM(D:rQ P w K mg base k C x ps sp):yX P w K mg base CX k C x ps sp:=let (f,fd,F,r):=D.ex;(f,fd,F.ok,r)
theorem tI.mono(D:tI P w K mg base j x ps sp)(h:j<=k):tI P w K mg base k x ps sp:=let (f,fd,F,r):=D.ex;(f,fd,F.mono h,r)
theorem rQ.mono(D:rQ P w K mg base j C x ps sp)(h:j<=k):rQ P w K mg base k C x ps sp:=let (f,fd,F,r):=D.ex;(f,fd,F.mono h,r)
theorem Src.okU(S:Src K mg x st ps)(F:cP N ps (av st))(len:∀vs H Q E,sp vs H Q E->Á vs=Á ps)(g:∀(f:À)(d:Â)(A:cr)(o:Ł Ø)(s:bn)(H:Hp)(vs:ϕ)(Q:VK)(E:XK)(pn:Ł _),gX k (A.deeper (envOfC x (av st) s.heap.objs.size f d))->sp vs H Q E->Hq (YW P w K mg base N x (av st) f d A o s H pn)->∃t,jt (YW P w K mg base N x (av st) f d A o s H pn) (bQ st) t/\t {nx:=λ_ H'=>Q .iq H',rt:=Q} (start N vs) H):tI P w K mg base (k+1) x ps sp:=by let(f,fd,a,h,b):=S.ex;exact(f,fd,a.okU F len (g f),h,a.kp,b)
theorem gT.okU(S:gT K C x c3 st ps)(F:cP N ps (av st))(len:∀vs H Q E,sp vs H Q E->Á vs=Á ps)(g:∀(f:À)(d:Â)(A:cr)(o:Ł Ø)(s:bn)(H:Hp)(vs:ϕ)(Q:VK)(E:XK)(pn:Ł _),gX k (A.deeper (envOfC c3 (av st) s.heap.objs.size f d))->sp vs H Q E->Hq (YW P w K mg base N c3 (av st) f d A o s H pn)->∃t,jt (YW P w K mg base N c3 (av st) f d A o s H pn) (bQ st) t/\t {nx:=λ_ H'=>Q .iq H',rt:=Q} (start N vs) H):rQ P w K mg base (k+1) C x ps sp:=by let(f,fd,a,h,b):=S.ex;exact(f,fd,a.okU F len (g f),h,b)
end
structure xg(P:cp)(w:ce)(K:Ä)(mg:db)(base:È)(k:Ń)(x:Å)(sp:Sp):ß where ex:∃(f:À)(fd:ed)(JM:ϐ)(Kc:Sp)(ds:Ł Â)(dvs:ϕ),iN P w K mg base (sG P w) k f fd JM Kc/\mg x=O (.ref f)/\keepIn K (.ref f)/\Binds K fd JM ds/\Vals dvs ds/\∀vs H Q E,sp vs H Q E->Kc (vs++dvs) H Q E
theorem xg.mono{K:Ä}{m:Å->Ő _}(D:xg P w K m base j x sp)(h:j<=k):xg P w K m base k x sp:=by let(f,a,M,c,ds,d,F,r):=D.ex;exact(f,a,M,c,ds,d,F.mono h,r)
def gj(X:Cx)(f:À)(sp:Sp)(dvs:ϕ)(E:XK):ß:=∀(p:Ł _)(σ:Ç)(H:Hp)(s:bn)(Q:VK)(u:Ł _)(v:ϕ),Inv X p σ H s->Vals v u->sp (v++dvs) H Q E->bv (cc X.prog X.w) X.A (call (.ref f) u) (EP X p σ Q) X.xe s
section
variable{X:Cx}{CX:uS}{k:Ń}{f C:À}{fd:ed}{ps:ϐ}{sp:Sp}{dvs:ϕ}{ds:Ł Â}{E:XK}{x m:Å}{p pos cN:Ó}{e o:Æ}{es:Ł Æ}{ta:TE}{t:TA}
def iN.runs(F:iN X.prog X.w X.K X.mg X.base CX k f fd ps sp)(H:ff k X.A)(b:Binds X.K fd ps ds)(d:Vals dvs ds)(a:gR CX X E):gj X f sp dvs E:=λ_ _ _ _ _ _ _ I r h=>E3 F H b d a I r h
def Qk.runs(F:Qk X.prog X.w X.K X.mg X.base k f fd ps sp)(a:gX k X.A)(q:Hq X)(b:Binds X.K fd ps ds)(d:Vals dvs ds):gj X f sp dvs E:=λP σ H s Q U v I r h=>by let R:=r.append d;erw[jP (dO (F.run X.A _ s H _ _ _ Q E a I.IM (q.at I) (b s U I.kZ (by rw[<-R.length];rwa[F.len _ _ _ _ h])) R h) λr S q=>?_)];induction r with|error e=>rwa[q.elim]|ok fl=>induction fl with|ret u=>rwa[I.after q]|next=>assumption|brk=>assumption|cont=>assumption
theorem xg.runs(D:xg X.prog X.w X.K X.mg X.base k x sp)(a:ff k X.A)(b:gR (sG X.prog X.w) X E):∃f,X.mg x=O (.ref f)/\keepIn X.K (.ref f)/\gj X f sp [] E:=by let(f,fd,M,l,ds,dvs,F,c,d,g,v,i):=D.ex;exact(f,c,d,λP σ H s Q u j I r h=>F.runs a g v b _ σ H s Q u j I r (i _ _ _ _ (by rw[aT]at h;rwa[h])))
def BR(R:gj X f sp dvs E)(g:Gl X x)(a:X.mg x=O (.ref f))(b:keepIn X.K (.ref f))(c:PA X (e::es) t)(j:ø ((x=="__debug__")=bb) P3)(d:ø (d4 (e::es) X.env=(bb,Ê e X.env)::d4 es X.env) v0)(D:ø ((e9 pos (d4 es X.env)).any (·.1)=bb) v0):PE X (.Call (.Name x p) (e::es) [] pos) (yI sp dvs E t):=by intro P s σ H Q I h;rwa[fB (jh I g a (fA I.ok.mod.CJ b (iZ (c pos _ s σ H _ I h) λu s1 z=>by let(v,l,i,r,q):=z;exact(i.kZ,R _ σ l s1 Q u v i r q)) d D) j)]
def Oc{g:Sem _}(j:PE X o ta)(c:KG X.K C)(b:yY X.K C m f)(R:gj X f sp dvs E)(n:PA X (e::es) t)(B:ø (d4 (e::es) X.env=(bb,Ê e X.env)::d4 es X.env) v0)(D:ø ((e9 pos (d4 es X.env)).any (·.1)=bb) v0)(w:ø (Ê (.Call (.Attribute o m cN) (e::es) [] pos) X.env=do
   let v<-Ê o X.env
   standAt cN.atName let(f,first)<-holding [v] (getMethod v m g)callWith pos f first (e9 pos (d4 (e::es) X.env)) (backToKw pos (hX [] X.env))) v0):PE X (.Call (.Attribute o m cN) (e::es) [] pos) (XR C m sp dvs E ta t):=by intro P s σ H Q I h;erw[Ĉ (kh (j _ s σ H _ I h) λu s1 x y i z a=>?_) w];let(a,N,fs,ex,F,l,q):=a;subst ex;obtain rfl:u=Ð a:=z;rwa[vM i F c b l (fA I.ok.mod.CJ b.kp (XW (n pos _ s1 σ y _ i q) λU s2 G L d r M=>(d.kZ,R _ σ L s2 Q _ (.A a::G) d (.cons Ŗ r) M)) B D)]
def Jy{d:Sem _}(g:PE X o ta)(c:KG X.K C)(b:yY X.K C m f)(R:gj X f sp dvs E)(j:ø (Ê (.Call (.Attribute o m cN) [] [] pos) X.env=do
   let v<-Ê o X.env
   standAt cN.atName let(f,first)<-holding [v] (getMethod v m d)callWith pos f first (e9 pos (d4 [] X.env)) (backToKw pos (hX [] X.env))) v0):PE X (.Call (.Attribute o m cN) [] [] pos) (XR C m sp dvs E ta ŏ):=by intro P s σ H Q I h;erw[Ĉ (kh (g _ s σ H _ I h) λu s1 x n i r a=>?_) j];let(a,D,fs,ex,w,l,q):=a;subst ex;obtain rfl:u=Ð a:=r;rwa[vM i w c b l (PySem.W.callWith_K0 i.kZ b.kp (R _ σ n s1 Q [.ref a] [.A a] i (.cons Ŗ .nil) q))]
end
def xl{E:dC}{x}(g:Cg A s H fs)(j:s.heap.IsTuple t ci)(hn:(ge c env).length=ci.size)(W:(ge c env).findIdx? (·.1)=ao)(h:∀h',é s.heap.objs.size s.heap h'->bv (cc prog w) A (assignInOrder ((ge c env).map (·.2)) ci.toList) Q E {s with heap:=h'}):bv (cc prog w) A (assign (.Tuple c x pos) env (.ref t)) Q E s:=by
 rcases g with g|⟨a,C,T,d,r,g,S,u,n⟩;.rwa[assign_Tuple_tuple g j hn W h]
 let f:=j;let k:t≠s.heap.objs.size:=by let(o,q,_):=j;rwa[aP (ay q)]
 erw[aa (jw ?_)];delta unpack;rw[hn,W];erw[aa (bS ?_)];erw[aa ?_];erw[aa (K0 f.typeIs slot_tuple_iter.lookup ?_)];erw[ai ?_];erw[aa (bS (iter_tuple f ?_))];erw[aa (bS (draw_tuple k _ 0 _ _ (_,aA _ Ŗ,Ŗ,Ŗ) (f.push _) () λi Z M=>?_))];let Y:List.take ci.size (List.drop 0 ci.toList)=ci.toList:=by rw[fz];rwa[gF ⋯]
 rw[Y,bM ⋯];rwa[aa (bS (Fp (s:={s with heap:=i}) g ((M.2 a (aP (ay S))).trans (af _ S)) (aP (ay S)) Z ((f.push _).extBut M.extBut k) ⋯ λl p=>ai (h _ λb o m e=>p b o m (M.extBut b o m (af _ e)))))]
def UK(q:Hq X)(h:Wx X es t)(hn:ø (Á (ge es X.env)=n) v0)(B:ø ((ge es X.env).findIdx? (·.1)=ao) v0):PG X (.Tuple es k pos) (ZH X.K n t):=by intro p s σ H v u Q I r w;let(a,x,E,c,l,w):=w;subst E;cases r;let(T,R,d,z):=I.tuple c;rwa[xl (q.at I) d (by simp[hn,<-l,R.length]) B λg f=>h _ _ σ H x _ Q (I.kept λb o e=>f b o (aP (ay e)) e) (by done) w]
end L2
namespace L2
open Builtin Builtin.ObjectAttr
abbrev ut:Ł Â:=[.type "Exception",.type "BaseException",.type "object"]
def Sa{E:dC}{os:OsState}{mN:db}(S:StoreFacts B bm I owner)(a:h.get? C=O (io nm q C N bs bm J sn sub ab col dd k0 k1 k2 k3 k5 newId))(hn:h.Ns N mN)(K:mN "__setattr__"=ao)(L:mN name=ao)(M:typeLookup (.type B) name=pure ao)(H:h.get? x=O o)(f:o.cls=.ref C)(i:∀c,o.data≠.cls c)(n:o.dict=ao)(P:∀h' X,h'.get? x=O {o with dict:=O h.objs.size}->h'.Ns1 h.objs.size (λy=>if y=name then O v else ao)->(∀b j,b≠x->h.get? b=O j->h'.get? b=O j)->Q ⟨⟩ (h',g,d,X,os)):bv (cc prog w) A (setAttr (.ref x) name v) Q E (h,g,d,t,os):=by
 let Y:=S.slot.bind (.ref x);let z:=S.passes (.ref x);delta setAttr callSpecial?;delta specialOf;repeat(any_goals(first|assumption|(with_reducible erw[d0 H ?_];rw[f])|(with_reducible erw[iC a hn S.mro S.slot.lookup ?_];rw[K])|wp_step))
 erw[mn S.slot.plain S.entry (wpAny_check_sa S a H f ?_)];delta Builtin.«object.__setattr__»;repeat(first|rw[refuse_eq]|(rw[refuseLoop_ref,z])|(with_reducible erw[d0 H ?_];rw[f])|with_reducible erw[wpAny_mroOf_exc a ?_]|(with_reducible erw[iC a hn S.mro M ?_];rw[L])|wp_step)
 rw[n,bM (by simp[typeHasDict])];split;.ext k;cases k
 split;.ext c k;rwa[Ă k (i c)]
 let W:(h.push {cls:=.type "dict",data:=.dict #[]}).get? x=O o:=af _ H;let s:x≠h.objs.size:=aP (ay H);erw[aa (wpAny_alloc' ?_)];erw[aa (wpAny_update' W ?_)];erw[ai ?_];let l:((h.push {cls:=.type "dict",data:=.dict #[]}).update x λo=>{cls:=o.cls,dict:=O h.objs.size,data:=o.data,slots:=o.slots}).Ns h.objs.size λ_=>ao:=(_,#[],_,(yQ _ _ _ _ s.symm).trans (Heap.get?_push_at Ŗ Ŗ),Ŗ,λe R=>Ă R ⋯,λ_=>Ŗ);show bv _ _ (storeInDict h.objs.size _ name v) _ _ _;delta storeInDict newKeyGuard;erw[aa (ai (aa (wpAny_nsSet1 (Heap.Ns1.of_empty l) λh' Z F=>?_)))];let(oD,T,U,D,m,p):=Z.count (Within.cons name v Within.nil);erw[aa (wpAny_lookBehind D (by rw[m];rwa[pastItsLine_dict (aj p (by rw[aR,List.length_nil,jZ];rwa[aD _ _]))]) ?_)];wp_walk;erw[P h' _ ?_ Z λb j r G=>(F.2 b (aP (ay G))).trans ((yQ _ _ _ _ r).trans (af _ G))];erw[(F.2 x s).trans (bF _ W ?_)];let(oc,od,u,qP):=o;induction u<;>first|rfl|exact(Heap.get?_some_iff.mp H).2
def R7{E:dC}{os:OsState}{mN:db}{m:db}{Q:dC}(FB:ExcAttrBase B bm)(H:h.get? C=O (io nm q C N bs bm J sn sub ab col dd k0 k1 k2 k3 k5 newId))(hn:h.Ns N mN)(f:mN "__getattribute__"=ao)(i:mN "__getattr__"=ao)(W:mN name=ao)(l:typeLookup (.type B) name=pure ao)(a:h.get? x=O o)(b:o.cls=.ref C)(j:∀c,o.data≠.cls c)(M:o.dict=O D)(n:h.Ns D m)(p:m name=O v)(F:handedOut v=pure v)(r:Q v (h,g,d,t+1,os)):bv (cc prog w) A (getAttr (.ref x) name e) Q E (h,g,d,t,os):=by
 let G:=FB.ga.bind (.ref x);let s:(e&&onTheHeap (ñ "BaseException.__getattribute__"))=false:=by cases e<;>rfl
 let u:(ñ "BaseException.__getattribute__"==ñ "object.__getattribute__")=false:=∅
 let I:(onTheHeap (Ð C)&&ñ "BaseException.__getattribute__"==ñ "object.__getattribute__")=false:=by rw[u];rfl
 let k:(Ð C::bm).contains (.type "BaseException")=true:=by rw[List.contains_cons,FB.hasBase,nC]
 delta getAttr getAttrBy;repeat(any_goals(first|assumption|(with_reducible erw[d0 a ?_];rw[b])|(with_reducible erw[iC H hn FB.mro FB.ga.lookup ?_];rw[f])|(with_reducible erw[iC H hn FB.mro FB.noGetattr ?_];rw[i])|wp_step))
 let y:builtinKind "BaseException.__getattribute__"=O .slot:=∅
 let Z:splitId "BaseException.__getattribute__"=O ("BaseException","__getattribute__"):=∅
 erw[mn FB.ga.plain Ĵ ?_];show bv _ _ (checkBuiltinCall "BaseException.__getattribute__" ([.ref x,.str name t],[])) _ _ _;let ha:=W4 (.ref x) (.str name t);simp only[checkBuiltinCall,y,Z];erw[aa ?_];delta isInstance;repeat(first|(with_reducible erw[d0 a ?_];rw[b])|(with_reducible erw[Qs H ?_];rw[k])|wp_step)
 repeat(first|(with_reducible erw[d0 a ?_];rw[b])|(with_reducible erw[iC H hn FB.mro l ?_];rw[W])|wp_step)
 split;.ext c z;rwa[Ă z (j c)]
 delta instanceDict;repeat(first|(with_reducible erw[d0 a ?_];rw[b])|with_reducible erw[d0 H ?_]|wp_step)
 rw[M];repeat(first|(with_reducible erw[wpAny_nsGet n ?_];rw[p])|wp_step)
 rwa[r]
end L2
namespace L2
structure HX(K:Ä)(C fI:À):ß where ex:∃nm q N bs sn sub ab col dd k0 k1 k2 k3 k5,K.lookup C=O (io nm q C N bs ut J sn sub ab col dd k0 k1 k2 k3 k5 "Exception.__new__")/\nsOkIn K N/\nsIn K N "__init__"=O (O (.ref fI))/\nsIn K N "__setattr__"=O ao/\nsIn K N "__getattribute__"=O ao/\nsIn K N "__getattr__"=O ao/\nsIn K N "number"=O ao
inductive ī(h:È)(C fI:À):ß|mk(nm q N bs sn sub ab col dd k0 k1 k2 k3 k5 mN):h.get? C=O (io nm q C N bs ut J sn sub ab col dd k0 k1 k2 k3 k5 "Exception.__new__")->h.Ns N mN->mN "__init__"=O (.ref fI)->mN "__setattr__"=ao->mN "__getattribute__"=ao->mN "__getattr__"=ao->mN "number"=ao->ī h C fI
def T8{K:Ä}(X:K.In h)(G:h.Ns N m)(e:nsIn K N n=O (O v)):m n=O v:=by
 let(o,E,p,H,d,_,f):=G;delta nsIn at e;split at e
 .ext q;let:=X _ _ q;rw[H]at this;cases this;cases d;split at e;.ext a;cases e;rw[<-f];delta nsFind findBy;rw[<-AR,a];rfl
  .lia
 .cases e
def zQ{K:Ä}(X:K.In h)(q:HX K C fI):ī h C fI:=by let(n,Q,N,bs,s,sub,A,c,dd,k,k1,k2,i,j,a,H,b,d,e,f,g):=q.ex;rwa[.mk _ _ _ _ _ _ _ _ _ _ _ _ _ _ _ (X _ _ a) (.of_isNs (AV X H)) (T8 X (.of_isNs (AV X H)) b) (fR X H d) (fR X H e) (fR X H f) (fR X H g)]
def yo:typeLookup (.type "Exception") "number"=pure none:=by kernel_rfl
structure X6(P:cp)(w:ce)(fs:Ł À)(H:Hp)(s:bn)(e C t:À)(dx:À)(n:Î)(s':bn):ß where
 os:s'.os=s.os
 bare:AllBare s'.gens
 obj:s'.heap.get? e=O (wV C t (O dx) .none)ne:dx≠e
 new:s.heap.get? dx=ao
 cY:kG P w (dq H dx (.xd [("number",.I n)])) s'.heap
 keep:∀b o,b≠e->s.heap.get? b=O o->H b=ao->b∉fs->s'.heap.get? b=O o
 slot:∀b o,b≠e->s.heap.get? b=O o->H b=ao->b∈fs->∃sl,s'.heap.get? b=O {o with slots:=sl}there:∀b o,s.heap.get? b=O o->∃o',s'.heap.get? b=O o'
def kG.ahW(x:kG P w H h)(fr:H a=ao)(new:fF P w (dq H a o) h a o):kG P w (dq H a o) h:=λb u e=>by
 let st:∀{c v},H c=O v->dq H a o c=O v:=λq=>by rw[bA (cn q fr)];rwa[q]
 by_cases d:b=a;.subst d;rw[bC]at e;cases e;rwa[new]
 .rw[bA d]at e;exact(x b u e).tY (λ_ _ _ q=>q) (λ_ q=>st q) λ_ _ q=>st q
def Ml(d:X.N=(["self","number"]:ϐ))(j:Wz X.env.scope "self")(v2:Wz X.env.scope "number")(I:Inv X [] (start ["self","number"] [.A e,.I n]) H s)(k:X.s₀.heap.get? e=O (wV C t ao .none))(hn:X.H₀ e=ao)(l:e∉X.fs)(x:X.ex=[])(m:HX X.K C g):bv (cc X.prog X.w) X.A (execs [.Assign [.Attribute (.Name "self" p1) "number" p2] (.Name "number" p3) p4] X.env) (λfl s'=>fl=.next/\∃s3 h' T u,Inv X [] (start ["self","number"] [.A e,.I n]) H s3/\s'={s3 with heap:=h',toks:=T}/\h'.get? e=O (wV C t (O s3.heap.objs.size) .none)/\h'.Ns1 s3.heap.objs.size (λy=>if y="number"then O u else ao)/\RelV (.I n) u/\∀b o,b≠e->s3.heap.get? b=O o->h'.get? b=O o) X.xe s:=by let ps:PE X (.Name _ p1) (AH 0):=wu (by rw[d];rfl) j;let pn:PE X (.Name _ p3) (AH 1):=wu (by rw[d];rfl) v2;erw[rO (FG (kh (pn [] s _ H (λv h=>v=.I n/\h=H) I (_,Ŗ,Ŗ,Ŗ)) λu s2 v f p r q=>?_) Ŗ)];let(rfl,rfl):=q;erw[kh (ps [] s2 _ f (λv h=>v=.A e/\h=f) p (_,Ŗ,Ŗ,Ŗ)) λS s3 v U i R q=>?_];let(rfl,rfl):=q;cases R;let(W,Y,N,bs,Z,sub,ab,B,dd,k0,k1,k2,k3,k5,mN,D,a,_,E,_,_,G):=zQ i.kZ m;rwa[Sa PySem.F.store_Exception D a E G yo (i.base.keep e _ k hn l (by rw[x];rwa[dU])) rfl (λc z=>by cases z) rfl λh' L Q M P=>gP (Ŗ,_,h',L,u,i,Ŗ,Q,M,r,P)]
def Sf{K:Ä}{M:Å->Ő _}{st:É}(L:CB K "__init__" Q st g B)(F:cP ["self","number"] ["self","number"] (av st))(h:bQ st=[.Assign [.Attribute (.Name "self" p1) "number" p2] (.Name "number" p3) p4])(l:Binds K B ["self","number"] [])(D:ff k A)(e0:xh P w K M base A a s H)(E:s.heap.get? e=O (wV C t ao .none))(hn:H e=ao)(c:e∉pC a)(R:HX K C g)(S:RelV (.I n) N):gc (cc P w) A (.call (.ref g) ([.ref e,N],[])) (λr s'=>r=.ok (.ret .none)/\∃T,X6 P w (pC a) H s e C t T n s') s:=by
 let(oc,od,kV,doc,pm,an,Y,ct,qP,rfl,lk,U):=L.ex;let X:=e0.mod.CJ.keeps λb o e=>(e0.bs b o e).1;erw[lD D.depth (X _ _ lk) rfl F.co F.gen rfl (oV X U) ((l s [.ref e,N] X Ŗ) _ _ _ _ ?_)];erw[iB F.kind (λ(n,v) W=>by
  rcases F.par n (jJ W).1 with q|q;.rwa[.inl q]
  .rwa[.inr (q,gH _ _ _ (.inl q))]) λZ ZS s1 y=>?_];subst ZS;erw[((e0.mod.nolimit.keeps λb o e=>(e0.bs b o e).1).keeps y.toInCall.keep,CQ ?_)];let I:Inv (mG yW P w K M _ _ Q _ g Y A _ s H E0).BN [] _ H s1:=(oG (vs:=[.A e,.I n]) F D.hd e0 rfl (.cons Ŗ (.cons S .nil)) y).uc _;let d:∀x∈(["self","number"]:ϐ),Wz _ x:=λx hx=>(F.par x hx).elim .inl λq=>.inr (.inl q);let z:=Ml (p1:=p1) (p2:=p2) (p3:=p3) (p4:=p4) rfl (d _ ⋯) (d _ ⋯) I E hn c rfl R;rw[<-h]at z;erw[cV z (λfl s' m=>?_) λe s' m=>m.elim];let(rfl,s3,h',tk,u,i,rfl,G,q2,ru,j):=m;erw[(Ŗ,_,i.os,i.bare,G,eW (ay (i.base.keep e _ E hn c dU)),ł i.sz,?_,λb o h q n p=>j b o h (i.base.keep b o q n p dU),λb o h q n p=>?_,λb o q=>?_)]
 .erw[(i.cY.keep λb v o h q=>j b o λz=>by lia q).ahW (i.cY.fresh (ah _)) (_,q2,λf=>?_)];rw[iJ];by_cases c:f="number";.subst c;rwa[ru]
  .rw[bM c,da.mpr c];rwa[ç]
 .let(sl,z):=i.base.slot b o q n p dU;exact(sl,j b _ h z)
 .by_cases h:b=e;.exact(_,h▸G)
  .let(o',z):=i.base.there b o q dU;exact(o',j b _ h z)
def EY{E:dC}(K:bm.contains (.type "BaseException"))(c:A.handled=ao)(h:bv M A x (λv S=>∃e t d,v=.ref e/\S.heap.get? C=O (io nm q C N bs bm hdct sn sub ab col dd k0 k1 k2 k3 k5 newId)/\S.heap.get? e=O (wV C t d .none)/\E (.ref e) S) E s):bv M A (raiseStmt env (O x) ao) Q E s:=by
 let B:(Ð C::bm).contains (.type "BaseException")=true:=by rw[List.contains_cons,K,nC]
 delta raiseStmt;erw[aa (cV h (λv S H=>?_) λ_ _ x=>x)];let(e,t,d,rfl,a,b,f):=H;let(p,g,D,T,os):=S;delta wV at b;repeat(first|with_reducible erw[d0 b ?_]|with_reducible erw[d0 a ?_]|(with_reducible erw[Qs a ?_];rw[B])|wp_step)
 rwa[wpAny_raiseNew_none c f]
def HG(E:XK)(C:À)(t:TE):TS:=λ_ σ H=>t σ H λv h=>∃n:Î,v=.I n/\∀d,h d=ao->E (.ref C) (O d) (dq h d (.xd [("number",.I n)]))
structure HY(K:Ä)(C:À):ß where
 ex:∃(fI:À)(fd:ed)(c3:Å)(st:É)(p1 p2 p3 p4:Ó)(oI:Ù),HX K C fI/\CB K "__init__" c3 st fI fd/\cP ["self","number"] ["self","number"] (av st)/\bQ st=[.Assign [.Attribute (.Name "self" p1) "number" p2] (.Name "number" p3) p4]/\Binds K fd ["self","number"] []/\K.lookup fI=O oI/\oI.cls=.type "function"hit:HZ K C
 sub:subIn K (.ref C) (.ref C)=O J
def X6.un{s:bn}(B:X6 P w fs H {s with heap:=a} e C t d n s')(m:Heap.MadeExcOf s.heap a e (.ref C) vs)(f:H d=ao):Un fs [] H (dq H d (.xd [("number",.I n)])) s.heap s'.heap:=by
 let N:∀b o,s.heap.get? b=O o->b≠e:=λb o q z=>by rw[z,m.new]at q;cases q
 let st:∀{c v},H c=O v->dq H d (.xd [("number",.I n)]) c=O v:=λq=>by rw[bA (cn q f)];rwa[q]
 erw[(λb o q n h _=>B.keep b o (N b o q) (m.keeps b o q) n h,λb o q n h _=>B.slot b o (N b o q) (m.keeps b o q) n h,λb o q n _=>?_,λb o q _=>B.there b o (m.keeps b o q),λb x q=>st q,λb o u q=>st q,λb ps q=>(#[],by rw[st q];simp))];rw[bA λz=>?_];.rwa[n]
 .let:=B.new;rw[<-z,m.keeps b o q]at this;cases this
def JP(fr:CA X)(o:gi X E)(G:X.calm)(R:ff (k+1) X.A)(T:Gl X x)(m:X.mg x=O (.ref C))(U:HY X.K C)(W:PE X e0 t)(Y:ø (cL e0=J) v0)(Z:ø ((x=="__debug__")=bb) P3):PS X (.Raise (O (.Call (.Name x u) [e0] [] w)) ao pos) (HG E C t):=by intro P s σ H D I h;let(fI,fd,Q,st,p1,p2,p3,p4,oI,F,F0,Fs,b,d,hI,f):=U.ex;let(nm,qn,N,bs,sn,sub,ab,col,dd,k0,k1,k2,k3,k5,mN,g,l,hi,h1,_,_,h2):=zQ I.mod.CJ F;erw[aa (jw (EY (C:=C) (nm:=nm) (q:=qn) (N:=N) (bs:=bs) (bm:=ut) (hdct:=J) (sn:=sn) (sub:=sub) (ab:=ab) (col:=col) (dd:=dd) (k0:=k0) (k1:=k1) (k2:=k2) (k3:=k3) (k5:=k5) (newId:="Exception.__new__") Wo.hasBase (I.ok.hd G) (aa (cV (wpAny_Call_ofName (jh I T m ?_ Z)) (λv S c=>aa (jw (ai c))) λ_ _ x=>x))))];simp only[cy (es:=[]) (env:=X.env) Y];erw[aa (bS (fG (dP (kh (W _ s σ H _ I h) λv s2 y H1 i r q=>hV (aa (jw ?_))))))];let(n,rfl,q):=q;let(h2,g2,d2,t2,o2):=s2;let a:=i.bk _ _ g;erw[aa (wpAny_keeperOf_exc a ?_)];erw[aa (wpAny_call_exc_init Wo a (l.keeps i.bk) hi (i.kZ _ _ hI) f λh' e m=>?_)];let(t0,p,_,_):=m.there;let j:Inv X _ σ H1 {heap:=h',gens:=g2,drawn:=d2,toks:=t2,os:=o2}:=i.kept m.keeps;let L:=i.cY.none_of m.new;erw[jP (dO (Sf F0 Fs b d (R.make C [v] []) (j.IM.make C [v] []) p L (λb=>by let(_,ob,ho,_):=i.stack.mem b;let:=m.new;rw[ho]at this;cases this) F r) λres s' hq=>?_)];let(rfl,dx,B):=hq;let M:=j.cY.none_of B.new;exact(Ŗ,aa (bS (wpAny_point (ai (e,t0,_,Ŗ,(B.keep C _ (λz=>by let:=m.new;rw[<-z,a]at this;cases this) (m.keeps _ _ a) (i.bs _ _ g).2 λb=>by let:=(i.stack.mem b).1;rw[g]at this;cases this),B.obj,o.Xi fr i B.os (B.un m M) B.cY B.bare B.obj (by rw[bA (c4 B.ne)];rwa[L]) m.new (q dx M))))))
structure Ie(w:ce)(K:Ä)(a:À)(tab:Å->Ő ϐ):ß where
 ex:∃(es:Array gt)(n:Ń),K.lookup a=O (.type "dict",ao,.dict es n,#[])/\KeysLit w.params es.toList/\∀x,match tab x with|O ks=>∃y t,ks=[y]/\findBy ã es x=O (.str y t)|ao=>findBy ã es x=ao
 lo:(a==ft)=bb
def XT(t:Å->Ő ϐ)(T a:TE):TE:=λσ H Q=>T σ H λy b=>∃x,y=.S x/\a σ b λz h=>match t x with|O k=>∀y,k=[y]->Q (.S y) h|ao=>Q z h
def Uu(T:Ie X.w X.K a b)(o:Gl X n)(r:X.mg n=O (.ref a))(v:PE X e g)(A:PE X f j)(B:(n==("__debug__":Å))=bb)(C:g6 (.Name n p) "get" X.env (Ê (.Name n p) X.env)=Ê (.Name n p) X.env)(E:((e9 D (d4 [e,f] X.env)).all (λx=>!x.1)&&(backToKw D (hX [] X.env)).all (λx=>x.1.isSome)&&Đ (Á [e,f]+Á ([]:Ł g5)+(if([]:Ł g5).isEmpty then 0 else 1)<30))=J)(F:(cN.endLine==D.line))(G:d4 [e,f] X.env=[(bb,Ê e X.env),(bb,Ê f X.env)]):PE X (.Call (.Attribute (.Name n p) "get" cN) [e,f] [] D) (XT b g j):=by intro P s σ H Q I h;let(es,k,lk,keys,look):=T.ex;let c:=mZ (prog:=X.prog) I.kZ lk keys;erw[L1 C E F Ŗ (jh I o r ?_ B)];erw[(_,_,rN,g8,Ć,c.typeIs,c.noDict,?_)];rw[G];erw[kn Ŗ (fG (dP (kh (v _ s σ H _ I h) λu s1 y L M R Z=>Z.elim λx Z=>Z.elim λN U=>dP (kh (A _ s1 σ L _ M U) λW s2 z l i Y q=>hV ?_))))];subst N;let(t,rfl):=R;let d:=mZ (prog:=X.prog) i.kZ lk keys;erw[CP g8 d.typeIs tG (rL _ _ _) (ŋ _ a (oY _ X.w x t) T.lo W) (_,d,?_)];let lx:=look x;induction m:b x with|c ks=>rw[m]at lx q;let(y,t',rfl,fb):=lx;rw[fb];exact(.S y,l,i.tok _,(_,Ŗ),q y Ŗ)|a=>rw[m]at lx q;rw[lx];exact(z,l,i.tok _,Y,q)
def pN:c7 X N s f S H₀ (λ_ _ _=>ŧ)=ig X N s f S H₀:=by
 let e:(c7 X N s f S H₀ λ_ _ _=>ŧ).xe=λ_ _=>ŧ:=by funext e a;erw[propext (λh=>?_,á)];let(_,_,_,_,_,_,_,_,_,_,_,q):=h;rwa[q]
 show{ig X N _ f _ _ with xe:=(c7 X N s f S H₀ λ_ _ _=>ŧ).xe}=_;rw[e];rfl
def NO{P:ß}(h:(c7 X N s f S H λ_ _ _=>ŧ).xe e s'):P:=by rw[pN]at h;rwa[h.elim]
def Uq(S:eO X d a)(l:X.calm)(j:∀σ:Ç,Á σ=Á X.N->k9 X d a σ (f σ))(hi:PI X t iter wi)(m:∀F b c,PG (ig X d a F b c) t g)(o:∀F b c,nG (ig X d a F b c) i T)(q:∀F b c,PE (ig X d a F b c) E k)(r:ø (∀x,hG iter X.env x=pure x) hY):PE X (.ListComp E [(t,iter,i,0)] a pos) (tD wi g T k f):=by intro p s σ H Q I h;rwa[zy S l j hi (λ_ _ _=>by rw[pN];rwa[m _ _ _]) (λ_ _ _=>by rw[pN];rwa[o _ _ _]) (λ_ _ _=>by rw[pN];exact(q _ _ _).n 0) r Bf (λ_ _ e u h=>NO h) I (aN _) h]
def BW(B:X.N.Nodup)(G:X.N[i0]?=O y)(K:Loc X.env.scope y)(S:eO X j a)(lP:X.calm)(M:∀σ:Ç,Á σ=Á X.N->k9 X j a σ (l σ))(hi:PI X t iter wi)(hg:∀F c d,PG (c7 X j a F c d E1) t g)(hc:∀F c d,nG (c7 X j a F c d E1) i tc)(he:∀F c d,PE (c7 X j a F c d E1) E te)(P:∀{use:Ő (Â->Sem Unit)}{R:dC}{p:dN}{σ:Ç}{F:Ł À}{s3:bn}{r:Hp}{acc:À},Inv X p σ r s3->(∀b∈F,mr X p r b)->∀e s',(c7 X j a F s3 r E1).xe e s'->notedBy (cc X.prog X.w) X.A (compEnvC a (qx X.env.cells a.names []) s3.heap.objs.size X.env) (λe s'=>compPost (cc X.prog X.w) X.A X.xe use R (.ref acc) s3.heap.objs.size (.error e) s') e s')(hs:ø (∀x,hG iter X.env x=pure x) hY)(T:ø (hF (.ListComp E [(t,iter,i,0)] a pos) (O (.Name y py)) Ci.line X.env=pure J) v0)(U:ø (X.fn y=J\/X.env.scope.names.lookup y=O .local) hH):PS X (.Assign [.Name y py] (.ListComp E [(t,iter,i,0)] a pos) Ci) (tZ (tD wi g tc te l) (lO i0)):=by
 intro p s σ H D I h;rw[exec_Assign_Name_used _ _ _ _ T];erw[aa (jw (aa ?_))];erw[aa (cV (zy S lP M hi hg hc (λ_ _ _=>(he _ _ _).n 0) hs (λ{F s3 s' σ' r H' acc}u W k q=>?_) (λu W=>P u W) I (aN _) h) (λ_ s' hq=>ai (ai hq)) λ_ _ e=>e)];let(m,z,_):=id k.loc;let z:s'.heap.Ns s3.heap.objs.size m:=z;let IX:=by erw[u.Ba k.os k.base k.cY k.bare λb f=>?_];.let(_,Q,q2,Y,Z,q5):=W b f;exact(Y,Q,Z,q5)
 let cok:=u.DR (ah _) k.free;let(oC,esC,epC,C,hrC):=id z;erw[wpAny_assign_Name (lY (IX.pinned (λb f=>by rw[aE.mp f];rwa[cok]) λb f=>by rw[aE.mp f];exact(oC,C,λv g=>nofun)) B G K (v:=.A acc) rfl (λsa Ia=>?_) U)];erw[(m,z.at' λo e=>?_,λh' KQ=>(_,H',?_,q))];.rw[C]at e;rwa[e▸(Ia.pin _ (aW _ (aW _ (j8 ⋯ C)))).1]
 .let(q0,Q,q2,Y,Z,q5):=cok;let Iu:=Ia.lZ;let L:∀b o,b ∉[s3.heap.objs.size]->sa.heap.get? b=O o->h'.get? b=O o:=λb o f e=>(KQ.2 b (by simpa using f)).trans e;erw[Iu.step (λb f=>?_) (λb o _ _ f e _=>L b o f e) (λb o _ _ f e _=>(_,L b o f e)) (λb o _ _ n=>n) (λb o f e=>(o,L b o f e)) (λ_ _ e=>e) (λ_ _ _ e=>e) (λb ps e=>(#[],by done)) (λm' hm'=>hm'.at' λo e=>L _ o (by simpa using c4 Q) e) (uw Iu.cY q0 KQ) Iu.bare];rw[aE.mp f];exact(Y,Q,Z,q5)
def UU(b:X.N.Nodup)(d:X.N[I]?=O y)(j:Loc X.env.scope y)(S:eO X n s)(L:X.calm)(k:∀σ:Ç,Á σ=Á X.N->k9 X n s σ (c σ))(hi:PI X t iter wi)(o:∀f a H,PG (ig X n s f a H) t g)(q:∀f a H,nG (ig X n s f a H) i T)(r:∀f a H,PE (ig X n s f a H) E m)(u:ø (∀x,hG iter X.env x=pure x) hY)(w:ø (hF (.ListComp E [(t,iter,i,0)] s pos) (O (.Name y p)) C.line X.env=pure J) v0)(l:ø (X.fn y=J\/X.env.scope.names.lookup y=O .local) hH):PS X (.Assign [.Name y p] (.ListComp E [(t,iter,i,0)] s pos) C) (tZ (tD wi g T m c) (lO I)):=BW b d j S L k hi (λ_ _ _=>by rw[pN];rwa[o _ _ _]) (λ_ _ _=>by rw[pN];rwa[q _ _ _]) (λ_ _ _=>by rw[pN];rwa[r _ _ _]) (λ_ _ e v h=>NO h) u w l
def OH(fr:CA X)(o:gi X E1)(h:X.N.Nodup)(b:X.N[I]?=O y)(d:Loc X.env.scope y)(S:eO X n s)(L:X.calm)(j:∀σ:Ç,Á σ=Á X.N->k9 X n s σ (c σ))(hi:PI X t iter wi)(m:∀f a H,PG (c7 X n s f a H E1) t g)(q:∀f a H,nG (c7 X n s f a H E1) i T)(r:∀f a H,PE (c7 X n s f a H E1) e l)(u:ø (∀x,hG iter X.env x=pure x) hY)(w:ø (hF (.ListComp e [(t,iter,i,0)] s pos) (O (.Name y p)) C.line X.env=pure J) v0)(k:ø (X.fn y=J\/X.env.scope.names.lookup y=O .local) hH):PS X (.Assign [.Name y p] (.ListComp e [(t,iter,i,0)] s pos) C) (tZ (tD wi g T l c) (lO I)):=BW h b d S L j hi m q r (λv F=>Be fr o v F) u w k
end L2
namespace PySem
open Builtin Builtin.Str
end PySem
namespace L2
open PySem.SeqAt PySem.MeetsSeq PySem.Builtin PySem.Builtin.Str
end L2
namespace L2
def XU(K:Ä)(R:À)(i j:Ń)(sp:Sp)(t:TA)(T:À->À->Ő À->TS):TS:=λD σ H=>t σ H λs b=>∃E1:XK,sp s b (λv c=>D.nx (σ.set j (O v)) c) E1/\∀C o h a,E1 (.ref C) o h->subIn K (.ref C) (.ref R)=O J/\T a C o (vN i D) (σ.set i (O (.A a))) h
theorem Inv.BN{p:Ł _}{σ:Ç}(I:Inv X.BN p σ H s):Inv X p σ H s:=(I.ok.mT,I.os,I.bare,I.base,I.loc,I.cell,I.free,I.fT,I.pin,I.cY,I.len)
def UZ(fr:CA X)(E:X.N.Nodup)(hi:X.N[i]?=O n)(W:X.env.scope.names.lookup n=O .local)(hf:X.fn n)(hg:Gl X x)(hm:X.mg x=O (.ref R))(hR:HZ X.K R)(hs:∀pn a C d,Hd (X.hn pn a) a C d->jt (X.hn pn a) (B::t) (T a C d))(D0:nc X.prog X.w X.K X.mg X.base k f ps sp)(hr:ff k X.A)(c:Gl X f)(ha:PA X.BN (e::es) o)(hj:X.N[j]?=O y)(hy:Loc X.env.scope y)(g:X.fn y\/X.env.scope.names.lookup y=O .local)(hd:(x=="__debug__")=bb)(ZR:(f=="__debug__")=bb)(S:(e::es).all cL):PS X (.Try [.Assign [.Name y Y] (.Call (.Name f M) (e::es) [] p) Q] [.ExceptHandler (O (.Name x L)) (O n) (B::t) Z] [] [] pos) (XU X.K R i j sp o T):=by intro P s σ H D I h;let(fa,fd,F,l,hk,hb):=D0.ex;rw[b8,aK]at S;erw[Cq fr E hi W hf hg hm hR I.ok hs ?_ hd];erw[rO (wpAny_Assign_Name (fB (jh I c l (fA I.ok.mod.CJ hk (cV (ha p _ s σ H _ (I.uc _) h) (λU s1 zz=>?_) λ_ _ z=>z.elim) (cy S.1) (fh S.2)) ZR)) Ŗ)];let(vs,G,I1,r,E1,q,hh):=zz;replace I1:=I1.BN;erw[(I1.kZ,?_)];erw[jP (dO (F.run X.A _ s1 G (U,[]) U vs _ E1 hr I1.IM (by simpa using hb s1 U I1.kZ (by simpa using by rw[<-r.length];rwa[F.len _ _ _ _ q])) r q) λm s' b=>?_)];induction m with|error e=>exact(E1,σ,G,s1,I1.afM _,b,hh)|ok fl=>induction fl with|ret u=>let(v,H2,I2,rv,q2):=I1.after b;rwa[lY I2 E hj hy rv (λs2 I3=>gP (_,H2,I3,q2)) g]|next=>rwa[b.elim]|brk=>rwa[b.elim]|cont=>rwa[b.elim]
def Į(i:Ń)(a:À)(d:Ő À):TE:=λσ H Q=>σ[i]?=O (O (.A a))/\∃D m,d=O D/\H D=O (.xd [("number",.I m)])/\Q (.I m) H
def V'(g:Hd X a C d)(j:HX X.K C f)(hn:PE X (.Name n p) (AH i)):PE X (.Attribute (.Name n p) "number" p2) (Į i a d):=by intro P s σ H Q I h;let(k,D,m,rfl,M,q):=h;erw[FU Ŗ (kh (hn _ s σ H (λv l=>v=.A a/\l=H) I (_,k,Ŗ,Ŗ)) λu s1 v o b R z=>?_)];let(rfl,rfl):=z;cases R;let(t,U,w):=g.pn;let(Z,_):=b.pin _ (cX _ w);let(W,Y,N,bs,sn,sub,ab,x,dd,k0,k1,k2,k3,k5,mN,y,e,_,_,B,E,G):=zQ b.kZ j;let(mA,L,r):=b.cY D _ M;let(w',S,T):=nj.some_of (r "number");let(tk,rfl):=T;rwa[R7 PySem.F.attrBase_Exception y e B E G yo Z rfl (λc z=>by cases z) rfl L.ns S rfl (.I m,o,b.tok _,(_,Ŗ),q)]
def NF(X:Cx)(a:À):ß:=∀o u,X.H₀ a≠O (.lM o u)
def Inv.ae4{σ:Ç}(I:Inv X be σ H s)(e:H a=O o)(t:∀xs,o≠.T xs)(g:∀ps,o≠.VP ps)(nw:∀y,o≠.own y)(i:NF X a)(new:fF X.prog X.w (dq H a u) s.heap a u):Inv X be σ (dq H a u) s:=by
 let N:∀{b v},H b=O v->v≠o->dq H a u b=O v:=λ{b v}q n=>by rw[bA λz=>n nofun];rwa[q]
 let d:∀{b},H b=ao->dq H a u b=none:=λ{b}q=>by rw[bA λz=>nofun];rwa[q]
 erw[(I.ok,I.os,I.bare,(I.base.keep,I.base.slot,λb o q n j=>d (I.base.free b o q n j),I.base.there,λb xs q=>N (I.base.ph b xs q) λz=>t xs z.symm,λb f U q=>?_,λb ps q=>?_),I.loc,I.cell,d I.free,λx c q=>d (I.fT x c q),λp k=>?_,λb v q=>?_,I.len)]
 .by_cases h:b=a;.subst h;rwa[Ă q (i f U)]
  .rw[bA h];rwa[I.base.nr b f U q]
 .let(m,z):=I.base.pd b ps q;exact(_,N z λy=>g _ y.symm)
 .let(Z,l,r):=I.pin p k;exact(Z,d l,r)
 .by_cases h:b=a;.subst h;rw[bC]at q;cases q;rwa[new]
  .rw[bA h]at q;exact(I.cY b v q).tY (λ_ _ _ z=>z) (λc z=>N z λy=>nw _ y.symm) λc xs z=>N z λy=>t xs y.symm
theorem Inv.lM{σ:Ç}{H:Hp}{s:bn}{a:À}{aU:Ł (cs×V)}(I:Inv X be σ H s)(e:H a=O (.dK aU)):∃ob,s.heap.get? a=O ob/\NF X a/\Inv X be σ (dq H a (.lM ob (.dK aU))) s:=by
 let(ob,h):=(I.cY a _ e).there;let n:NF X a:=λo u q=>by let:=I.base.nr a o u q;rw[e]at this;cases this
 exact(ob,h,n,I.ae4 e (λ_ z=>by cases z) (λ_ z=>by cases z) (λ_ z=>by cases z) n (h,I.cY a _ e))
def Inv.akW{σ:Ç}(I:Inv X be σ H s)(e:H a=O (.lM ob (.dK aU)))(n:NF X a):Inv X be σ (dq H a (.dK aU)) s:=by let(_,q):=I.cY a _ e;rwa[I.ae4 e (λ_ z=>by cases z) (λ_ z=>by cases z) (λ_ z=>by cases z) n q]
def ww(a:À)(o:Ù)(k:ϐ)(H:Hp):ß:=∃A:Ł _,H a=O (.lM o (.dK A))/\A.map (·.1)=k.map Ü
def li(a:À)(o:Ù)(k:ϐ):It:=(λi H=>ww a o k H/\i<Á k,λi H x h=>h=H/\∀y,k[i]?=O y->x=.S y,λi H=>ww a o k H/\Á k<=i)
def Gp{p:Ł _}{σ:Ç}(I:Inv X p σ H s)(e:ww a b k H)(h:∃es,b.data=.dict es ep):∃vs:Ł (cs×Â),(vs.map (·.1))=k.map Ü/\s.heap.DictAt (d8 X.prog X.w) a vs ep:=by let(A,e,g):=e;let(c,_,_,vs,rel,o,es,E,d,i,f,j):=I.cY a _ e;rw[c]at d;cases d;let(M,h):=h;rw[f]at h;cases h;exact(vs,by rw[<-rel.keys];rwa[g],b,es,c,i,f,j)
def Kl{K:Ä}(x:∃es,v.data=.dict es ep):xk P w K T (li a v g) [t] t λi h=>h.IsKeyIter t a i (Á g) ep:=oy (n:="dict_keyiterator") rfl (λ(o,e,c,d)=>(o,_,e,c,d)) (λst k=>st.at k) (λ{X i p s σ H E Q}j l m z I st r q=>by
  subst j l m;let(u,A):=r;let(B,f,D):=Gp I u x;let hl:=by let:=bU Á f;simpa using this
  let b:(B.map (·.1))[i]?=O (Ü g[i]):=by rw[f,aM,ar A];rfl
  rw[aM]at b;obtain⟨⟨k,W⟩,C,b⟩:=dF.mp b;cases b;rw[<-hl]at st;erw[wpAny_pyNext_dict_item st D C λkey F G L M=>?_];let(N,rfl):=VA G;rwa[q _ (.S _) F _ (_,Ŗ) (Ŗ,λy R=>nofun) (by rw[<-hl];rwa[L]) M.extBut]) (λ{X i p s σ H E Q}j l m z I st r q=>by
  subst j l m;let(u,A):=r;let(B,f,D):=Gp I u x;let hl:=by let:=bU Á f;simpa using this
  rw[<-hl]at st;rwa[wpAny_pyNext_dict_end (I.ok.hd z) st D (fC ()) q]) λst h=>Ē st h
def GG(X:Cx)(t:TE):TI:=λσ H R=>t σ H λx h=>∃a U k,x=.A a/\U.map (·.1)=k.map Ü/\((h a=O (.dK U)/\∀o,NF X a->R (li a o k) (dq h a (.lM o (.dK U))))\/∃o,h a=O (.lM o (.dK U))/\R (li a o k) h)
def UM(j:PE X l T):PI X t l (GG X T):=by
 intro p s σ H R I h;erw[kh (j _ s σ H _ I h) λv s1 x F m u Q=>?_];let(a,U,K,e,w,Q):=Q;subst e;cases u;let f:∀{g:Hp}{c:Ù},Inv X p σ g s1->g a=O (.lM c (.dK U))->R _ g->bv _ X.A _ (A' X _ σ t R) X.xe s1:=λ{g c}i d q=>by
  let(k,_,y,z,rel,o,E,G,n,B,r,C):=i.cY a _ d;rw[k]at n;cases n;let j:Á z=Á K:=by let:=bU Á w;rw[<-rel.length];simpa using this
  erw[wpAny_pyIter_dict y (c,E,k,B,r,C) ?_];erw[(_,_,_,_,_,Ŗ,i.kept λb o e=>af _ e,Kl (E,r),(_,aA _ Ŗ,Ŗ,by rw[j];rfl),λb D=>?_,q)];let e:=by simpa using D
  subst e;rwa[i.DR (ah _) (i.cY.fresh (ah _))]
 rcases Q with ⟨d,q⟩|⟨c,d,q⟩;.let(c,k,N,i):=m.lM d;rwa[f i bC (q c N)]
 .rwa[f m d q]
def PN(X:Cx)(D:Õ):Õ:={nx:=λσ H=>(∃a o A,NF X a/\H a=O (.lM o (.dK A))/\D.nx σ (dq H a (.dK A)))\/D.nx σ H,rt:=λ_ _=>ŧ,bk:=λ_ _=>ŧ,ct:=λ_ _=>ŧ}
def Hl(d:PassesOwn (cc X.prog X.w) X.A X.env X.xe)(j:X.calm)(hi:PE X iter T)(k:PG X t g)(l:jt X b tb)(m:∀x,hG iter X.env x=pure x):PS X (.For t iter b [] pos) λD σ H=>Kj (GG X T) g tb (PN X D) σ H:=by
 intro p s σ H D I h;erw[cV (ER d j (UM hi) k l m _ s σ H _ I h) (λf s1 q=>?_) λ_ _ z=>z]
 induction f with|next=>
  let(c,o,i,q):=q;rcases q with ⟨a,r,U,n,e,q⟩|q;.exact(c,_,i.akW e n,q)
  .exact(c,_,i,q)|ret v=>let(_,_,_,_,_,q):=q;rwa[q.elim]|brk=>let(_,_,_,q):=q;rwa[q.elim]|cont=>let(_,_,_,q):=q;rwa[q.elim]
def xj(h:È)(d:À)(es:Array gt)(ep:Ń):ß:=∃o,h.get? d=O o/\o.ExactDict/\o.data=.dict es ep
def xj.typeIs{s:bn}(x:xj s.heap d es ep):s.TypeIs (.ref d) "dict":=let (o,h,H,_):=x;(o,h,H.1)
def xj.at(x:xj h d es ep)(e:∀o,h.get? d=O o->h'.get? d=O o):xj h' d es ep:=let (o,H,r):=x;(o,e o H,r)
def OY{E:dC}{Q:dC}(b:(d==ft)=bb)(H:xj s.heap d es ep)(c:Q (.ref s.heap.objs.size) {s with heap:=s.heap.push {cls:=.type "dict_keyiterator",data:=.fields #[.ref d,.int 0 0,.int es.size 0,.int ep 0]}}):bv (cc prog w) A (pyIter (.ref d)) Q E s:=by let h:=H.typeIs;let(o,a,e,D):=H;erw[qe h IZ (bZ IZ h PySem.F.entry_dict_iter ?_ (PySem.F.args_dict_iter_1 _))];erw[aa ?_];erw[aa (NE h ?_)];show bv _ _ (pure (Ð d)) _ _ s;erw[ai ?_];show bv _ _ (Builtin.Dict.showsAll d>>=_) _ _ s;delta Builtin.Dict.showsAll;rw[bM (by rw[b];rwa[aF])];rwa[aa (ai (aa (CT a D (aa (KZ a D (aa (bW (ai (_,Ŗ,_,_,(_,aA _ Ŗ,Ŗ),dQ.lookup,c)))))))))]
def OZ{E:dC}(hit:s.heap.IsKeyIter it d i es.size ep)(m:xj s.heap d es ep)(a:es[i]?=O x)(b:∀h',h'.IsKeyIter it d (i+1) es.size ep->Û it s.heap h'->Q (O x.key) {s with heap:=h'}):bv (cc prog w) A (eR (.ref it)) Q E s:=by
 let(o,H,c,h):=id hit;let(e,B,n,Z):=m;delta eR;erw[aa (eD (bY (name:=í "__next__") hit.typeIs dQ (bZ dQ hit.typeIs AL ?_ (yT _))))];erw[aa (ai ?_)];erw[aa ?_];erw[aa ?_];first|erw[aa (gz hit.typeIs (ai ?_))]|erw[aa (qm hit.typeIs (ai ?_))]
 erw[aa (kD H h ?_)];let z:Builtin.Dict_items.ownsTuple "dict_keyiterator"=false:=∅
 simp only[z,fw,kx];show bv _ _ (if(Ð d==Ô)=J then _ else _) _ _ s;rw[bM (show ¬(Ð d==Ô)=J from aF)];erw[aa (ai ?_)];erw[aa (CT B Z ?_)];rw[bM ⋯];erw[aa (ai ?_)];erw[aa (KZ B Z ?_)];rw[bM ⋯];erw[ai ?_];simp only[show ¬ i<0 from (),kx,fH,a];erw[aa ?_];first|erw[aa (gz hit.typeIs (ai ?_))]|rfl
 erw[aa (SI hit.typeIs ?_)];show bv _ _ (setField _ 1 (ef (i+1))>>=_) _ _ s;erw[aa (cO H h ⋯ ?_)];let X:(s.heap.update it (â (·.setIfInBounds 1 (ef (i+1))))).IsKeyIter it d (i+1) es.size ep:=(_,bF _ H (cZ (bP h _)),(kr ..).trans c,by rw[bP h];simp[ef]);rwa[aa (bS (aa (SI X.typeIs (ai (ai (_,Ŗ,ai (b _ X (cq ..))))))))]
def Ve{E:dC}(b:A.handled=ao)(hit:s.heap.IsKeyIter it d i es.size ep)(m:xj s.heap d es ep)(x:es.size<=i)(c:∀h',é it s.heap h'->Q ao {s with heap:=h'}):bv (cc prog w) A (eR (.ref it)) Q E s:=by
 let(o,h,e,H):=id hit;let(f,B,n,Z):=m;delta eR;erw[aa (eD (bY (name:=í "__next__") hit.typeIs dQ (bZ dQ hit.typeIs AL ?_ (yT _))))];erw[aa (ai ?_)];erw[aa ?_];erw[aa ?_];first|erw[aa (gz hit.typeIs (ai ?_))]|erw[aa (qm hit.typeIs (ai ?_))]
 erw[aa (kD h H ?_)];let z:Builtin.Dict_items.ownsTuple "dict_keyiterator"=false:=∅
 simp only[z,fw,kx];show bv _ _ (if(Ð d==Ô)=J then _ else _) _ _ s;rw[bM (show ¬(Ð d==Ô)=J from aF)];erw[aa (ai ?_)];erw[aa (CT B Z ?_)];rw[bM ⋯];erw[aa (ai ?_)];erw[aa (KZ B Z ?_)];rw[bM ⋯];erw[ai ?_];simp only[show ¬(i:Î)<0 from (),kx,fH,gD x];erw[aa ?_];first|erw[aa (gz hit.typeIs (ai ?_))]|erw[aa (qm hit.typeIs (ai ?_))]
 show bv _ _ (setField (.ref it) 0 .none>>=_) _ _ s;erw[aa (cO h H ⋯ ?_)];show bv _ _ (newExc (.type _) []>>=_) _ _ _;erw[aa ?_];erw[aa (bW ?_ (by size_fits))];erw[aa (mq (a:=Ô) Ŗ ?_)];erw[bW ?_ (by size_fits)];erw[aa (ql ?_)];rw[b];erw[aa (ai (qf ?_))];rwa[aa (iM (_,aA _ Ŗ,Ŗ) oX (ai (c _ (((cq ..).extBut.push _).push _))))]
def J7(f:A.handled=ao)(I:À)(l:d≠I):Walks prog w A I [I,d] [I] es.size (λi v=>∃e,es[i]?=O e/\v=e.key) λi h=>h.IsKeyIter I d i es.size ep/\xj h d es ep where
 sub:=λb a=>nofun
 frame:=λ_ _ _ st k=>(st.1.at λo e=>k I ⋯ o e,st.2.at λo e=>k d ⋯ o e);item:=λi s Q E g st H=>by rwa[OZ st.1 st.2 (x:=es[i]) ⋯ λc X K=>H _ c _ (_,⋯,Ŗ) (X,st.2.at λo e=>(K.2 d l).trans e) λb o a e=>K.extBut b o (λh=>a (by simp[h])) e]
 done:=λs Q E st H=>Ve f st.1 st.2 (ah _) λc Z=>H c _ λb o a e=>Z b o (λh=>a (by simp[h])) e;self:=λ_ _ _ _ st H=>Ē st.1 H
def Vf(lo:(d==ft)=bb):KdlSrc prog w "dict" d d es.size (λi v=>∃e,es[i]?=O e/\v=e.key) λh=>xj h d es ep where type:=λ_ H=>H.typeIs;there:=λ_ H=>let (_,a,_):=H;(ay a,ay a);keep:=λ_ _ H k=>H.at λo e=>k d (.inl Ŗ) o e;notList:=Ŗ;notTuple:=Ŗ;hint:=λ_ _ _ _ H q=>PySem.W.kdl_hint_dict H.typeIs q;iter:=λ_ s b H=>(_,_,λ_ _ q=>OY lo H q,J7 b _ (aP (let (_,a,_):=H;ay a)),((_,aA _ Ŗ,Ŗ,Ŗ),H.at λo e=>af _ e))
end L2
namespace L2
open PySem.W
def mJ{α:Type}(f:Ń->Ń->Þ):KasT α->α|.ret a=>a|.ask i j k=>mJ f (k (f i j))
def iE{α:Type}(n:Ń)(R:α->ß):KasT α->ß|.ret a=>R a|.ask i j k=>i<n/\j<n/\∀b,iE n R (k b)
theorem iE.bind{R:α->ß}{r:β->ß}{f:α->KasT β}:∀{t:KasT α},iE n R t->(∀a,R a->iE n r (f a))->iE n r (t.bind f)|.ret a,h,H=>H a h|.ask i j k,h,H=>(h.1,h.2.1,λb=>iE.bind (h.2.2 b) H)
theorem BB{f:Ń->Ń->Þ}{cmp:Ń->Ń->(Þ->bn->ß)->bn->ß}{G:α->bn->ß}{s:bn}(H:∀i j,i<n->j<n->∀C:Þ->bn->ß,C (f i j) s->cmp i j C s):∀(t:KasT α),iE n R t->(R (mJ f t)->G (mJ f t) s)->t.kasWp cmp G s|.ret a,h,q=>q h|.ask i j k,h,q=>H i j h.1 h.2.1 _ (BB H _ (h.2.2 _) q)
abbrev Pm(n:Ń)(p:Array Ń):ß:=p.Perm (ä n).toArray
def Pm.lt(hn:0<n)(h:Pm n p)(i:Ń):p.getD i 0<n:=by rw[nB];induction e:p[i]? with|a=>done|c x=>let:=(h.mem_iff).mp (Array.mem_of_getElem? e);simpa using this
def Pm.rev(h:Pm n p)(i j:Ń):Pm n (kas_rev p i j):=(mirror_perm _ _ _ _).trans h
theorem Eb(hn:0<n)(h:Pm n p):∀(f k:Ń),iE n (λ_=>æ) (kas_asc p f k)|0,k=>Ť|f+1,k=>(h.lt hn _,h.lt hn _,λb=>by induction b with|d=>done|e=>rwa[Eb hn h f _])
theorem ux(hn:0<n):∀(f:Ń){p:Array Ń}(k q:Ń),Pm n p->iE n (λr=>Pm n r.1) (kas_desc f p k q)|0,p,k,q,h=>h|f+1,p,k,q,h=>(h.lt hn _,h.lt hn _,λb=>by
  induction b with|d=>
   show iE n _ (if q>0 then _ else _);split;.rwa[ux hn f _ 0 (h.rev _ _)]
   .rwa[ux hn f _ 0 h]|e=>erw[(h.lt hn _,h.lt hn _,λb=>?_)];induction b with|d=>rwa[h]|e=>rwa[ux hn f _ _ h])
def GJ(hn:0<n)(h:Pm n p)(k m:Ń):iE n (λr=>Pm n r.2) (kas_tail3 k m p):=(Eb hn (h.rev 0 k) _ _).bind λ_ _=>h.rev 0 k
def GI(hn:0<n)(h:Pm n p)(k m:Ń):iE n (λr=>Pm n r.2) (kas_descPart k m p):=(ux hn _ _ _ h).bind λr H=>by
 split;.rwa[GJ hn (H.rev _ _) _ _]
 .rwa[GJ hn H _ _]
def ML(hn:0<n)(h:Pm n p)(m:Ń):iE n (λr=>Pm n r.2) (kas_count m p):=(Eb hn h _ _).bind λk _=>by
 split;.rwa[h]
 .split;.erw[(h.lt hn _,h.lt hn _,λb=>?_)];induction b with|d=>rwa[h]|e=>rwa[GI hn (h.rev _ _) _ _]
  .rwa[GI hn h _ _]
theorem vP(hn:0<n)(h:Pm n p)(k:Ń):∀(f l r:Ń),iE n (λ_=>æ) (kas_place p k f l r)
 |0,l,r=>Ť|f+1,l,r=>by
  delta kas_place;split;.done
  .erw[(h.lt hn _,h.lt hn _,λb=>?_)];induction b with|d=>rwa[vP hn h k f _ _]|e=>rwa[vP hn h k f _ _]
theorem MK(hn:0<n):∀(f:Ń){p:Array Ń}(k:Ń),Pm n p->iE n (Pm n) (kas_bin f p k)|0,p,k,h=>h|f+1,p,k,h=>(vP hn h k _ _ _).bind λl _=>MK hn f _ ((bubble_perm _ _ _).trans h)
def zT(hn:0<n):iE n (Pm n) (kas_sort n):=(ML hn (Array.Perm.refl _) n).bind λr h=>by
 split;.rwa[MK hn _ _ h]
 .done
def J9:cs->cs->Þ|.inl i,.inl j=>Đ (i<j)|.inr x,.inr y=>Đ (x.cps.toList<y.cps.toList)|_,_=>bb
def nV:cs->cs->Þ|.inl _,.inl _=>J|.inr _,.inr _=>J|_,_=>bb
def Nz:Ł cs->Ł cs->Þ|[],[]=>bb|[],_::_=>J|_::_,[]=>bb|a::r,b::q=>bif Đ (a=b)then Nz r q else J9 a b
def YN:Ł cs->Ł cs->Þ|a::r,b::q=>nV a b&&(! Đ (a=b)||YN r q)|_,_=>J
section
variable{prog:cp}{w:ce}{A:cr}{E:dC}{s:bn}
theorem Nt:∀{k M:Ł cs}{xs ys:Ł Â}{i:Ń}{b:Þ}{f:Þ},Vals (k.map kV) xs->Vals (M.map kV) ys->YN k M->(b=J->i=0->∃x r,k=Ü x::r)->f=Đ (Á k<Á M)->Q (Nz k M) s->KatLex prog w A b f Q (xs.zip ys) i s
 |[],M,xs,ys,i,b,f,h,H,_,_,d,q=>by cases h;rw[List.zip_nil_left];erw[kat_nil ?_];rw[d];induction M with|f=>rwa[q]|g _ _=>simpa[Nz]using q
 |a::r,[],xs,ys,i,b,f,h,H,_,_,d,q=>by cases H;rw[List.zip_nil_right];erw[kat_nil ?_];rw[d];simpa[Nz]using q|a::r,c::m,x::xs,y::ys,i,b,f,.cons h t,.cons H T,g,l,d,q=>by
  rw[List.zip_cons_cons];delta YN at g;rw[aK]at g;let next:a=c->KatLex prog w A b f Q (xs.zip ys) (i+1) s:=λe=>by subst e;erw[Nt t T (by simpa using g.2) (λ_ z=>Ă z (Nat.succ_ne_zero i)) ?_ (by simpa[Nz]using q)];rw[d];simp only[aR,Nat.add_lt_add_iff_right]
  let out:a≠c->Q (J9 a c) s:=λe=>by simpa[Nz,e]using q
  erw[kat_cons ?_];induction a with
  |inl n=>cases c with|inr _=>cases g.1|inl N=>
    let(p,rfl):=h;let(X,rfl):=H;erw[wpAny_eqBool_int ?_];by_cases e:n=N;.rw[oW.mpr e];rwa[kat_yes (next (by rw[e]))]
    .rw[da.mpr e];erw[kat_no ?_];let j:(b&&i==0)=false:=by induction b with|e=>rfl|d=>rw[Bool.true_and];erw[da.mpr λz=>?_];let(x,r,u):=l Ŗ z;cases u
     rw[j];rwa[kat_one _ _ (PyProof.Rows.lt_int (out λz=>e (by cases z;rfl)))]
  |inr v=>cases c with|inl _=>cases g.1|inr B=>
    let(p,rfl):=h;let(X,rfl):=H;erw[wpAny_eqBool_str ?_];by_cases e:v=B;.rw[cM e];rwa[kat_yes (next ())]
    .rw[cw e];erw[kat_no ?_];let o:=out λz=>e ();induction j:b&&i==0 with|d=>rwa[oneLt_str o]|e=>rwa[kat_one _ _ (PyProof.Rows.lt_str o)]
def qW(n:Ń)(f:Ń->Ń->Þ):Ϙ:=if n<2 then ä n else(mJ f (kas_sort n)).toList
def aaH:∀i∈qW n f,i<n:=λi H=>by
 delta qW at H;split at H;.simpa using H
 .let:∀{α:Type}{R:α->ß}(t:KasT α),iE n R t->R (mJ f t):=λ{α R}t=>by induction t with|ret a=>rwa[λh=>h]|ask i j k I=>rwa[λh=>I _ (h.2.2 _)]
  let:=((this _ (zT ())).mem_iff).mp (ahw.mp H);simpa using this
def Vy:Á (qW n f)=n:=by
 delta qW;split;.rwa[eM]
 .let:∀{α:Type}{R:α->ß}(t:KasT α),iE n R t->R (mJ f t):=λ{α R}t=>by induction t with|ret a=>rwa[λh=>h]|ask i j k I=>rwa[λh=>I _ (h.2.2 _)]
  rw[cj,(this _ (zT ())).size_eq];simp
abbrev iY(h:È)(a:À)(vs:Ł Â):È:=((h.update a (ï λ_=>#[])).push (seqObj "tuple" vs.toArray 0)).push (seqObj "list" #[] 0)
def Wj:∀{vs:Ł _},vs.length<2->(vs.toArray.zip vs.toArray).map (·.2)=((ä vs.length).map λi=>vs.getD i Ô).toArray|[],_=>⋯|[x],_=>⋯|_::_::_,h=>by simp at h;lia
def xD(o:s.heap.get? a=O (seqObj "list" vs.toArray n))(c:vs.length<64)(l:2<=vs.length->∃κ,(∀(Q:SortKind->bn->ß)(E:dC),Q κ {s with heap:=iY s.heap a vs}->bv (cc prog w) A (keyKind' vs.toArray) Q E {s with heap:=iY s.heap a vs})/\∀i j,i<vs.length->j<vs.length->∀C:Þ->bn->ß,C (f i j) {s with heap:=iY s.heap a vs}->kas_ask prog w A κ vs i j C {s with heap:=iY s.heap a vs})(h:P (.done (.ret .none)) {s with heap:=sortedHeap s.heap a vs ((qW vs.length f).map λi=>vs.getD i Ô).toArray}):bv (cc prog w) A (Builtin.«list.sort» ([.ref a],[])) P E s:=by
 rw[list_sort_plain];let g:a<s.heap.objs.size:=ay o;erw[aa (listItems_at o Ŗ ?_)];erw[aa (X3 o Ŗ ?_ (by rw[aZ,jZ];lia) (aN _))];obtain⟨d,M⟩:∃d,(s.heap.update a (ï λ_=>(#[]:Array Â))).get? a=O (seqObj "list" #[] d):=(_,get?_update_seq o λ_=>#[]);erw[aa (AC M Ŗ ?_)];erw[aa (QL ?_ (by show vs.length<=_;rw[jZ];lia))];erw[aa (X5 ?_ (aN _))];erw[bS ?_];let H:(iY s.heap a vs).get? a=O (seqObj "list" #[] d):=by delta iY;rw[qb _ _ _ (by rw[jN,rG];rwa[aP (fL g)]),qb _ _ _ (by rw[rG];rwa[aP g])];rwa[M]
 show bv (cc prog w) A _ P E {s with heap:=iY s.heap a vs};dsimp only;let K:vs.toArray.size=vs.length:=⋯
 by_cases b:vs.toArray.size<2
 .rw[b5 b,b5 b];erw[aa (ai ?_)];rw[StateT.run_pure];erw[aa (ai ?_)];dsimp only;erw[aa (AC H Ŗ ?_)];let e:(arrOf (SortSt.mk' general' (vs.toArray.zip vs.toArray) #[] 7 ao)).map (·.2)=((qW vs.length f).map λi=>vs.getD i Ô).toArray:=by delta qW;rw[b5 (by done)];rwa[Wj (by done)]
  rw[e];erw[aa (X3 H Ŗ ?_ (aN _) (by rw[aZ,ae];delta qW;rw[b5 (by done),eM,jZ];lia))];simp only[bne_self_eq_false,fw,kx];rwa[ai h]
 .rw[bM b,bM b];rw[K]at b;let(κ,k1,k2):=l (c6.mp ‹_›);erw[aa (k1 _ _ ?_)];erw[aa (cV (kat_run (E:=E) (Q:=λx S=>∃p:Array Ń,p.size=vs.length/\arrOf x=p.map _/\failedOf x=ao/\S={s with heap:=iY _ a vs}/\p=mJ f _) (G:=λp S=>S={s with heap:=iY _ a vs}/\p=mJ f _) rfl (c6.mp ‹_›) c (λp x S a1 m q k=>(p,a1,m,q,k.1,k.2)) (BB k2 _ (zT ()) λ_=>(Ŗ,Ŗ))) ?_ λ_ _ e=>e)];rintro⟨⟨⟩,x⟩ S ⟨p,t,r,u,rfl,rfl⟩;rw[kat_snds Ŗ r];erw[aa (AC H Ŗ ?_)];erw[aa (X3 H Ŗ ?_ (aN _) (by rw[aZ,ae,cj,t,jZ];lia))];rw[u];simp only[bne_self_eq_false,fw,kx];let e:qW vs.length f=(mJ f (kas_sort vs.length)).toList:=by delta qW;rw[bM b]
  rw[e]at h;rwa[ai h]
end
def wv:Ł cs->Þ|.inr _::_=>J|_=>bb
def nM(K:Ł (Ł cs)):Þ:=K.all λk=>wv k&&K.all (YN k)
def Ke(k:Ł (Ł cs)):Ł (Ł cs):=(qW (Á k) λi j=>Nz (k.getD i []) (k.getD j [])).map λi=>k.getD i []
def Bq{α:Type}{l:Ł α}{d:α}(h:i<Á l):l.getD i d∈l:=nofun
def Cj{E:dC}(K:KdlSrc prog w T r d n P OK)(H:A.handled=ao)(C:OK s.heap)(hn:n<=Ã)(h:∀(h':È)(t:Ń)(acc:Array _),(∀b o,s.heap.get? b=O o->h'.get? b=O o)->s.heap.objs.size<h'.objs.size->ItemsOf P acc n->R acc.toList {s with heap:=h',toks:=t}):bv (cc prog w) A (collect (.ref r)) R E s:=by
 let j:=K.there _ C;erw[aa (w8 (dM ZQ ?_))];erw[aa (bW (ai (gW XX _,dM entry_list_iadd' ?_)))];let F:∀(q:Result)(s':bn),(∃(h':È)(t:Ń)(acc:Array _)(c:Ń),q=.ok (.ret (.ref s.heap.objs.size))/\s'={s with heap:=h',toks:=t}/\(∀b o,s.heap.get? b=O o->h'.get? b=O o)/\h'.get? s.heap.objs.size=O {cls:=.type "list",dict:=ao,data:=.seq acc c,slots:=#[]}/\ItemsOf P acc n)->wants (λv S=>bv (cc prog w) A (match v with
    |.ref a=>do match(<-load a).data with|.seq X _=>pure X.toList|_=>unsupported "internal:collect"
    |_=>unsupported "internal:collect") R E S) E q s':=by rintro q s' ⟨h',t,acc,c,rfl,rfl,k,g,i⟩;rwa[aa (QK g (ai (h h' t acc k (ay g) i)))]
 erw[cV (kdl_extend (s:={s with heap:=s.heap.push _}) (R:=λq s'=>∃(h':È)(t:Ń)(acc:Array _)(c:Ń),q=.ok (.ret (.ref s.heap.objs.size))/\s'={s with heap:=h',toks:=t}/\(∀b o,s.heap.get? b=O o->h'.get? b=O o)/\h'.get? _=O {cls:=.type "list",dict:=ao,data:=.seq acc c,slots:=#[]}/\ItemsOf P acc n) K H (K.keep _ _ C λb _ o e=>af _ e) _ (eW j.1) (eW j.2) _ 0 (aA _ Ŗ) (λh' t acc c k g i=>(h',t,acc,c,Ŗ,Ŗ,λb o e=>k b o (aP (ay e)) (af _ e),g,i)) hn) (λf s' x=>?_) λe s' x=>?_];.induction f with|done f=>rwa[F _ _ x]|again l=>exact(x.1,dO x.2 λq S y=>F _ _ y)
 .let(_,_,_,_,m,_):=x;cases m
def EI(r:Paired F l m):∀{i:Ń}(H:i<Á l)(a:i<Á m),F l[i] m[i]:=by induction r with|f=>simp|g h t I=>intro i H a;induction i with|h=>rwa[h]|j i=>rwa[I _ _]
theorem vW:∀{vs:Ł _},(∀v∈vs,∃a o xs n x t,v=Ð a/\h.get? a=O o/\o.cls=.type "tuple"/\o.data=.seq xs n/\xs[0]?=O (.str x t))->∃fs,KatTups h vs fs/\Á fs=Á vs/\∀f∈fs,∃x t,f=ü x t
 |[],_=>([],Ť,Ŗ,λ_ H=>by done)|v::vs,b=>by
  let(a,o,xs,n,x,t,rfl,c,d,e,g):=b v aJ;let(fs,k1,k2,k):=vW λw i=>b w (aG _ i);erw[(_,KatTups.cons c d e g k1,by rw[aR,aR,k2],λf H=>?_)];rcases ax.mp H with z|z;.exact(x,t,z)
  .rwa[k f z]
def FA(H:wv k)(v:Vals (k.map kV) b):∃x t,b[0]?=O (.str x t):=by cases k with|f=>done|g a r=>induction a with|inl _=>done|inr x=>cases v with|g h t=>let(T,rfl):=h;exact(x,T,Ŗ)
def zu(hc:X.calm):eE X (.builtin "sorted") (λxs H Q=>∃(a:À)(U:Ł (Ł cs×V)),xs=[.A a]/\H a=O (.dT U)/\Á U<64/\nM (U.map (·.1))=J/\∀(D:À)(vs:ϕ),H D=ao->Paired (λv(k:Ł cs)=>∃b,v=V.A b/\H b=O (.T (k.map kV))) vs (Ke (U.map (·.1)))->Q (.A D) (dq H D (.L vs))):=by
 intro be s σ H xs us Q I r h;let(a,U,rfl,ha,h64,ok,q):=h;let(u,rfl,ru):=r.one;cases ru;let(z,hd,Y,S,o,es,ep,ho,hex,DV,W,_,_):=WT I.cY ha;let hsl:(64:Ń)<=Ã:=∅
 let hyl:Á Y=Á U:=(AK S).symm;let vO:es.size=Á Y:=by rw[<-cj,W,ae]
 erw[Wl kind_sorted plain_sorted entry_sorted (args_sorted1 _) ?_];delta Builtin.«sorted»;erw[aa (m:=checkCount "sorted" 1 1 _) (ai (aa (Cj (A:=X.A.in1) (Vf (es:=es) (ep:=ep) hd) (I.ok.hd hc) (o,ho,hex,DV) () λF tk E kp o7 r9=>?_)))];let N:E.toList=Y.map λy=>Ð y.2.1:=by
  erw[List.ext_getElem? λj=>?_];rw[aM,dc];by_cases G:j<es.size
  .let Z:j<E.size:=by rw[r9.1];rwa[G]
   let(e,M,hv):=r9.2 j E[j] (eh Z);rw[eh Z,hv];rw[<-dc,W,aM]at M;induction hy:Y[j]? with|a=>rw[hy]at M;cases M|c y=>rw[hy]at M;cases M;rfl
  .rw[gD (by rw[r9.1];rwa[c6.mp ‹_›]),fC ()];rfl
 let K:Á E.toList=Á U:=by rw[N,ae];rwa[hyl]
 erw[aa (X5 ?_ ())];generalize hvl:E.toList=p at N K;let SO:(F.push (seqObj "list" p.toArray 0)).get? F.objs.size=O (seqObj "list" p.toArray 0):=aA _ Ŗ;let old:∀b ob,s.heap.get? b=O ob->(iY (F.push (seqObj "list" p.toArray 0)) F.objs.size p).get? b=O ob:=λb ob e=>by let hb:=ay (kp b ob e);delta iY;rw[qb _ _ _ (by rw[jN,rG,jN];lia),qb _ _ _ (by rw[rG,jN];lia),yQ _ _ _ _ (aP ‹_›)];rwa[af _ (kp b ob e)]
 let tup:∀i,i<Á U->∃b ob P n,p.getD i Ô=.ref b/\H b=O (.T (((U.map (·.1)).getD i []).map kV))/\(iY (F.push (seqObj "list" p.toArray 0)) F.objs.size p).get? b=O ob/\ob.cls=.type "tuple"/\ob.data=.seq P n/\Vals (((U.map (·.1)).getD i []).map kV) P.toList:=λi B=>by
  let hiy:i<Á Y:=()
  let(r1,r2,_):=EI S B hiy;let ek:(U.map (·.1)).getD i []=U[i].1:=by rw[oR,aM,ar B];rfl
  let ev:p.getD i Ô=.ref Y[i].2.1:=by rw[N,oR,aM,ar hiy];rfl
  rw[ek];obtain⟨P,rv,⟨ob,h1,h2,n,h3⟩,_⟩:=I.tuple (g9.of r2);exact(_,ob,P.toArray,n,ev,r2,old _ _ h1,h2,h3,by simpa using rv)
 let R:∀i j,i<Á U->j<Á U->wv ((U.map (·.1)).getD i [])/\YN ((U.map (·.1)).getD i []) ((U.map (·.1)).getD j [])=true:=λi j B G=>by let:=bJ.mp ok _ (Bq (l:=U.map (·.1)) (i:=i) (d:=[]) (by rw[ae];rwa[B]));rw[aK]at this;exact(this.1,bJ.mp this.2 _ (Bq (l:=U.map (·.1)) (i:=j) (d:=[]) (by rw[ae];rwa[G])))
 erw[aa (bS (bZ slot_list_sort (_,SO,Ŗ) entry_list_sort (xD (s:={s with heap:=F.push (seqObj "list" p.toArray 0),toks:=tk}) (f:=λi j=>Nz ((U.map (·.1)).getD i []) ((U.map (·.1)).getD j [])) SO () (λh2=>(tuples' J,λQ' E' hq=>?_,λi j B G C hC=>?_)) (_,Ŗ,?_)) (args_list_sort _)))]
 .let(fs,k1,k2,k3):=vW (h:=iY (F.push (seqObj "list" p.toArray 0)) F.objs.size p) (vs:=p) λv hv=>by
   let(i,B,rfl):=List.mem_iff_getElem.mp hv;rw[K]at B;let(b,ob,P,n,e,_,g,c,d,vv):=tup i B;let(x,t,hx):=FA (R i i B B).1 vv;let e2:p[i]=Ð b:=by rw[<-e,oR,ar (dh ‹_›)];rfl
   exact(b,ob,P,n,x,t,e2,g,c,d,by rw[<-dc];rwa[hx])
  erw[kat_kind (T:=.type "str") k1 (by rw[k2];rwa[dE ‹_›]) (λf hf=>?_) ∅ hq];let(x,t,rfl):=k3 f hf;rwa[Looks.of_pure Ŗ]
 .rw[K]at B G;let(b1,o1,i1,n1,e1,_,g1,_,d1,v1):=tup i B;let(b2,o2,i2,n2,e2,_,g2,_,d2,v2):=tup j G;delta kas_ask;rw[e1,e2];erw[kat_lt (s:={s with heap:=_,toks:=tk}) g1 d1 g2 d2 (Nt v1 v2 (R i j B G).2 (λ_ _=>?_) ?_ hC)];.let:=(R i j B G).1;induction hk:(U.map (·.1)).getD i []with|f=>rw[hk]at this;cases this|g x r=>rw[hk]at this;induction x with|inl _=>cases this|inr x=>exact(x,r,Ŗ)
  .let l1:(Á ((U.map (·.1)).getD i []))=i1.size:=by simpa using v1.length
   let l2:(Á ((U.map (·.1)).getD j []))=i2.size:=by simpa using v2.length
   rw[l1,l2]
 .let(e,M):=sortedHeap_at (out:=((qW p.length λi j=>Nz ((U.map (·.1)).getD i []) ((U.map (·.1)).getD j [])).map λi=>p.getD i Ô).toArray) SO;let hD:s.heap.objs.size<=F.objs.size:=dE o7;let hsn:∀i∈qW p.length λi j=>Nz ((U.map (·.1)).getD i []) ((U.map (·.1)).getD j []),i<Á U:=λi B=>by let:=aaH i B;lia
  generalize hsr:(qW p.length λi j=>Nz ((U.map (·.1)).getD i []) ((U.map (·.1)).getD j []))=sr at M hsn;let mk:∀(l:Ϙ),(∀i∈l,i<Á U)->∃vs:ϕ,Vals vs (l.map λi=>p.getD i Ô)/\Paired (λv(k:Ł cs)=>∃b,v=V.A b/\H b=O (.T (k.map kV))) vs (l.map λi=>(U.map (·.1)).getD i []):=λl=>by induction l with|f=>rwa[λ_=>([],.nil,.nil)]|g i l ih=>intro hl;let(vs,h1,h2):=ih λj G=>hl j (aG _ G);let(b,ob,P,n,e,hb,_):=tup i (hl i aJ);erw[(.A b::vs,?_,.cons (b,Ŗ,hb) h2)];rw[cF,e];rwa[.cons Ŗ h1]
  let(vs,w1,w2):=mk sr hsn;let hlen:Á vs<=Ã:=by
   let e1:=w1.length;rw[ae]at e1;let:Á sr<64:=by rw[<-hsr,Vy];lia
   lia
  erw[ai (_,Ŗ,(.A _,_,I.laid (λb ob g=>?_) hD (show fF _ X.w _ _ _ (.L vs)from(hlen,_,e,w1,M)),Ŗ,q _ vs (I.cY.fresh hD) ?_))];.let gb:=ay (kp b ob g);rw[sortedHeap_old (aP gb) (by rw[jN];rwa[fL gb])];rwa[af _ (kp b ob g)]
  .delta Ke;rw[ae,<-K,hsr];rwa[w2]
end L2
namespace L2
end L2
namespace F
open L2
inductive Pv where|N|B(b:Þ)|I(i:Î)|S(x:Å)|T(xs:ϑ)|L(xs:ϑ)|scr(xs:ϑ)|dct(ks vs:ϑ)|obj(C:Ń)(fs:ϑ)|fn(i:Ń)|ty(c:Ń)|key(ks:Ł cs)|wld(xs:ϑ)
inductive Dv where|p(x:Pv)|r(i:Ń)
inductive Ob where|L(xs:ϑ)|D(xs:Ł Dv)|C(ks vs:ϑ)|I(C:Ń)(fs:Ł Dv)|K(ks:Ł (Ł cs))|E(ks:ϑ)(ds:Ł Dv)|F(ob:Ù)(ks us:ϑ)
def lA:Ń->String|0=>"str"|1=>"int"|2=>"bool"|3=>"tuple"|_=>"list"
abbrev Hs:=Ł Ob
abbrev Es:=Ł (Ő Dv)
structure Tx where
 K:Ä
 mg:db
 gB:Ń->Å
 ca:Ń->À
 fl:Ń->ϐ
 G:Ł À
def Ph{K:Ä}(s:P/\Rd H a (.L vs)\/gA K (λ_=>ao) a vs):gA K H a vs:=s.elim (λh=>.inl h.2) λh=>h.elim (λz=>by rcases z with z|⟨_,z⟩<;>cases z) .inr
variable(Z:Tx)(M:Ł À)(H:Hp)
mutual
def eg:Pv->V->ß|.N,v=>v=.iq|.B b,v=>v=.B b|.I i,v=>v=.I i|.S x,v=>v=.S x|.T xs,v=>∃a vs,v=.A a/\g9 Z.K H a vs/\aY xs vs|.L xs,v=>∃a vs,v=.A a/\(a∉M/\a∉Z.G)/\H a=O (.L vs)/\aY xs vs|.scr xs,v=>∃a vs,v=.A a/\((a∉M/\a∉Z.G)/\Rd H a (.L vs)\/gA Z.K (λ_=>ao) a vs)/\aY xs vs|.dct k us,v=>∃a U,v=.A a/\(a∉M/\a∉Z.G)/\Rd H a (.dK U)/\aY k (U.map λp=>kV p.1)/\aY us (U.map (·.2))|.obj C fs,v=>∃a d f,v=.A a/\(a∉M/\a∉Z.G)/\H a=O (.ins (Z.ca C) d f)/\f.map (·.1)=(Z.fl C).take (Á fs)/\aY fs (f.map (·.2))|.fn i,v=>∃a,Z.mg (Z.gB i)=O (.ref a)/\v=.A a|.ty c,v=>v=.ty (lA c)|.key k,v=>∃a,v=.A a/\H a=O (.T (k.map kV))|.wld xs,v=>∃a bs,v=.A a/\(a∉M/\a∉Z.G)/\H a=O (Ih a bs)/\aY xs (bs.map V.A)def aY:ϑ->ϕ->ß|[],[]=>æ|x::xs,v::vs=>eg x v/\aY xs vs|_,_=>ŧ
end
def eK:Dv->V->ß|.p x,v=>eg Z M H x v|.r i,v=>∃a,M[i]?=O a/\v=.A a
def cU:Ł Dv->ϕ->ß|[],[]=>æ|x::X,v::s=>eK Z M H x v/\cU X s|_,_=>ŧ
def uU(a:À):Ob->ß|.L x=>∃v,H a=O (.L v)/\aY Z M H x v|.D ds=>∃v,H a=O (.L v)/\cU Z M H ds v|.C s u=>∃A,H a=O (.dK A)/\aY Z M H s (A.map λp=>kV p.1)/\aY Z M H u (A.map (·.2))|.I C fs=>∃d f,H a=O (.ins (Z.ca C) d f)/\H d=O (.own a)/\f.map (·.1)=(Z.fl C).take (Á fs)/\cU Z M H fs (f.map (·.2))|.K s=>H a=O (.dT (s.map λk=>(k,.B J)))|.E s ds=>∃A,H a=O (.dK A)/\aY Z M H s (A.map λp=>kV p.1)/\cU Z M H ds (A.map (·.2))|.F o s u=>∃A,H a=O (.lM o (.dK A))/\aY Z M H s (A.map λp=>kV p.1)/\aY Z M H u (A.map (·.2))
structure bq(h:Hs):ß where
 nd:M.Nodup
 dj:∀a∈M,a∉Z.G
 ln:Á M=(Á h)gs:∀b∈Z.G,∃o,H b=O o
 ob:∀(i:Ń)a o,M[i]?=O a->h[i]?=O o->uU Z M H a o
structure dB(σ:Es)(τ:Ç):ß where ln:Á σ=(Á τ)at':∀(i:Ń)d,σ[i]?=O (O d)->∃v,τ[i]?=O (O v)/\eK Z M H d v
structure Ext(M:Ł À)(H:Hp)(M':Ł À)(H':Hp):ß where
 pre:∃l,M'=M++l
 keep:∀b o,b∉M->H b=O o->H' b=O o
 new:∀b∈M',b∉M->H b=ao
section
variable{Z:Tx}{M M' M₂:Ł À}{H H' H₂:Hp}{h h':Hs}
def Ext.refl:Ext M H M H:=(([],(aT M).symm),λ_ _ _ h=>h,λ_ h n=>Ă h n)
def Ext.trans(a:Ext M H M' H')(b:Ext M' H' M₂ H₂):Ext M H M₂ H₂:=by
 let(l,rfl):=a.pre;let(L,rfl):=b.pre;let k:∀c o,c∉M->H c=O o->c∉M++l:=λc o d h z=>by rw[a.new c z d]at h;cases h
 erw[((_,by rw[bw]),λc o d h=>b.keep c o (k c o d h) (a.keep c o d h),λc d hn=>?_)];by_cases z:c∈M++l;.rwa[a.new c z hn]
 .induction e:H c with|a=>rfl|c o=>let:=b.new c d z;rw[a.keep c o hn e]at this;cases this
def Ae:HO->Þ|.L _=>J|.dK _=>J|.ins _ _ _=>J|.dT _=>J|.lM _ (.dK _)=>J|_=>bb
def bq.there(r:bq Z M H h)(f:a∈M):∃o,H a=O o/\Ae o=true:=by
 let(i,d):=mm f;let l:i<Á h:=by rw[<-r.ln];exact(aw.mp d).1
 let b:=r.ob i a h[i] d (ar l);induction c:h[i]with|L x=>rw[c]at b;let(_,e,_):=b;exact(_,e,Ŗ)|D x=>rw[c]at b;let(_,e,_):=b;exact(_,e,Ŗ)|C k v=>rw[c]at b;let(_,e,_):=b;exact(_,e,Ŗ)|I C fs=>rw[c]at b;let(_,_,e,_):=b;exact(_,e,Ŗ)|K k=>rw[c]at b;exact(_,b,Ŗ)|E k ds=>rw[c]at b;let(_,e,_):=b;exact(_,e,Ŗ)|F g k u=>rw[c]at b;let(_,e,_):=b;exact(_,e,Ŗ)
def bq.no(r:bq Z M H h){a:À}{o:HO}(e:H a=O o)(n:Ae o=bb):a∉M:=λz=>by let(u,b,c):=r.there z;rw[e]at b;cases b;rw[n]at c;cases c
def bq.fresh(r:bq Z M H h)(a:H p=ao):p∉M:=λz=>by let(o,e,_):=r.there z;rw[a]at e;cases e
def bq.pQ(r:bq Z M H h)(a:H p=ao):p∉M/\p∉Z.G:=(r.fresh a,λz=>by let(o,e):=r.gs p z;rw[a]at e;cases e)
def bq.NP(r:bq Z M H h)(b:a∈M):¬Rd H a (.T vs):=λz=>by
 rcases z with z|⟨q,z⟩;.rwa[r.no z Ŗ b]
 .rwa[r.no z Ŗ b]
structure Mv(M:Ł À)(H:Hp)(M':Ł À)(H':Hp):ß where
 nt:∀a∈M,∀vs,¬Rd H a (.T vs)keep:∀b o,b∉M->H b=O o->H' b=O o
 new:∀b∈M',b∉M->H b=ao
def Mv.rd(m:Mv M H M' H')(b:a∉M)(r:Rd H a u):Rd H' a u:=by
 rcases r with r|⟨q,r⟩;.rwa[.inl (m.keep _ _ b r)]
 .rwa[.inr (q,m.keep _ _ b r)]
def Mv.sqT(m:Mv M H M' H'){K:Ä}(s:g9 K H a vs):g9 K H' a vs:=by
 rcases s with r|r;.rwa[.inl (m.rd (λz=>m.nt a z vs r) r)]
 .rwa[.inr r]
def Mv.ni(m:Mv M H M' H')(b:a∉M)(r:H a=O o):a∉M':=λz=>by rw[m.new a z b]at r;cases r
def ndO:HO->Þ|.dK _=>bb|.lM _ (.dK _)=>bb|_=>J
structure Tf(Z:Tx)(G' M:Ł À)(H:Hp)(M':Ł À)(H':Hp):ß where
 k:∀{a vs},H a=O (.T vs)->H' a=O (.T vs)t:∀{a vs},Rd H a (.T vs)->Rd H' a (.T vs)n:∀{a o},a∉M/\a∉Z.G->Rd H a o->a∉M'/\a∉G'
 h:∀{a o},a∉M/\a∉Z.G->ndO o->H a=O o->H' a=O o
 l:∀{a vs},a∉M/\a∉Z.G->Rd H a (.L vs)->Rd H' a (.L vs)d:∀{a ks},a∉M/\a∉Z.G->Rd H a (.dK ks)->Rd H' a (.dK ks)
mutual
theorem eg.tf{g:Ł À}(m:Tf Z g M H M' H'):∀{x:Pv}{v:V},eg Z M H x v->eg {Z with G:=g} M' H' x v|.N,_,h=>h|.B _,_,h=>h|.I _,_,h=>h|.S _,_,h=>h|.fn _,_,h=>h|.ty _,_,h=>h|.key K,_,h=>by let(a,e,s):=h;exact(a,e,m.k s)|.T xs,_,h=>by let(a,vs,e,s,q):=h;exact(a,vs,e,s.imp m.t id,aY.tf m q)|.L xs,_,h=>by let(a,vs,e,n,s,q):=h;exact(a,vs,e,m.n n (.inl s),m.h n Ŗ s,aY.tf m q)|.wld xs,_,h=>by let(a,vs,e,n,s,q):=h;exact(a,vs,e,m.n n (.inl s),m.h n Ŗ s,aY.tf m q)|.scr xs,_,h=>by let(a,vs,e,s,q):=h;exact(a,vs,e,s.imp (λs=>(m.n s.1 s.2,m.l s.1 s.2)) id,aY.tf m q)|.dct K us,_,h=>by let(a,A,e,n,s,q,Q):=h;exact(a,A,e,m.n n s,m.d n s,aY.tf m q,aY.tf m Q)|.obj C fs,_,h=>by let(a,D,f,e,n,s,l,q):=h;exact(a,D,f,e,m.n n (.inl s),m.h n Ŗ s,l,aY.tf m q)theorem aY.tf{g:Ł À}(m:Tf Z g M H M' H'):∀{xs:ϑ}{vs:ϕ},aY Z M H xs vs->aY {Z with G:=g} M' H' xs vs|[],[],h=>Ť|[],_::_,h=>h|_::_,[],h=>h|x::xs,v::vs,h=>(eg.tf m h.1,aY.tf m h.2)end
theorem Mv.tf(m:Mv M H M' H'):Tf Z Z.G M H M' H':=(λs=>m.keep _ _ (λz=>m.nt _ z _ (.inl s)) s,λs=>m.rd (λz=>m.nt _ z _ s) s,λn s=>(s.elim (m.ni n.1) λ(_,r)=>m.ni n.1 r,n.2),λn _ s=>m.keep _ _ n.1 s,λn s=>m.rd n.1 s,λn s=>m.rd n.1 s)
theorem eg.mv(m:Mv M H M' H')(h:eg Z M H x v):eg Z M' H' x v:=eg.tf m.tf h
theorem aY.mv(m:Mv M H M' H')(h:aY Z M H x v):aY Z M' H' x v:=aY.tf m.tf h
theorem Ext.mv(e:Ext M H M' H')(r:bq Z M H h):Mv M H M' H':=(λ_ a _=>r.NP a,e.keep,e.new)
theorem Ext.at(e:Ext M H M' H'){i:Ń}(h:M[i]?=O a):M'[i]?=O a:=by let(l,rfl):=e.pre;rw[aX (aw.mp h).1];rwa[h]
theorem eK.mv(m:Mv M H M' H')(at':∀(i:Ń)a,M[i]?=O a->M'[i]?=O a)(h:eK Z M H d v):eK Z M' H' d v:=by induction d with|p x=>rwa[eg.mv m h]|r i=>let(a,b,c):=h;exact(a,at' i a b,c)
theorem cU.mv(m:Mv M H M' H')(at':∀(i:Ń)a,M[i]?=O a->M'[i]?=O a):∀{ds:Ł Dv}{vs:ϕ},cU Z M H ds vs->cU Z M' H' ds vs|[],[],_=>Ť|[],_::_,h=>h|_::_,[],h=>h|_::_,_::_,h=>(eK.mv m at' h.1,cU.mv m at' h.2)
theorem eK.ext(r:bq Z M H h)(e:Ext M H M' H')(q:eK Z M H d v):eK Z M' H' d v:=eK.mv (e.mv r) (λ_ _=>e.at) q
theorem cU.ext(r:bq Z M H h)(e:Ext M H M' H')(q:cU Z M H d v):cU Z M' H' d v:=cU.mv (e.mv r) (λ_ _=>e.at) q
theorem eg.ext(r:bq Z M H h)(e:Ext M H M' H')(q:eg Z M H d v):eg Z M' H' d v:=eg.mv (e.mv r) q
theorem aY.ext(r:bq Z M H h)(e:Ext M H M' H')(q:aY Z M H d v):aY Z M' H' d v:=aY.mv (e.mv r) q
theorem dB.ext(q:dB Z M H σ τ)(r:bq Z M H h)(e:Ext M H M' H'):dB Z M' H' σ τ:=(q.ln,λi d a=>let (v,b,q):=q.at' i d a;(v,b,q.ext r e))
theorem dB.set(q:dB Z M H σ τ)(c:eK Z M H d v):dB Z M H (σ.set i (O d)) (τ.set i (O v)):=(by rw[cH,cH];rwa[q.ln],λj e a=>by
 by_cases b:i=j
 .subst b;by_cases l:i<Á σ;.rw[c5 l]at a;cases a;exact(v,by rw[c5 (by rw[<-q.ln];rwa[l])],c)
  .left
 .rw[cW b]at a⊢;rwa[q.at' j e a])
theorem uU.mv(m:Mv M H M' H')(at':∀(i:Ń)a,M[i]?=O a->M'[i]?=O a)(k:∀u,H a=O u->H' a=O u)(x:∀d,H d=O (.own a)->H' d=O (.own a))(h:uU Z M H a o):uU Z M' H' a o:=by induction o with|L X=>let(v,e,q):=h;exact(v,k _ e,aY.mv m q)|D X=>let(v,e,q):=h;exact(v,k _ e,cU.mv m at' q)|C s U=>let(A,e,q,Q):=h;exact(A,k _ e,aY.mv m q,aY.mv m Q)|I C fs=>let(d,f,e,n,b,q):=h;exact(d,f,k _ e,x _ n,b,cU.mv m at' q)|K s=>rwa[k _ h]|E s ds=>let(A,e,q,Q):=h;exact(A,k _ e,aY.mv m q,cU.mv m at' Q)|F c s U=>let(A,e,q,Q):=h;exact(A,k _ e,aY.mv m q,aY.mv m Q)
theorem Ext.add(a:H p=ao):Ext M H M (dq H p o):=(([],(aT M).symm),λb u _ h=>by rw[bA (cn h a)];rwa[h],λb h n=>Ă h n)
theorem rh(h:∃q,H b=O q):∃q,dq H p o b=O q:=by
 by_cases e:b=p;.subst e;exact(o,bC)
 .rw[bA e];rwa[h]
theorem bq.add(r:bq Z M H h)(c:H p=ao):bq Z M (dq H p o) h:=(r.nd,r.dj,r.ln,λb d=>rh (r.gs b d),λi a u f g=>uU.mv ((Ext.add c).mv r) (λ_ _ z=>z) (λq e=>by rw[bA (cn e c)];rwa[e]) (λD e=>by rw[bA (cn e c)];rwa[e]) (r.ob i a u f g))
theorem Ext.push(r:bq Z M H h)(a:H p=ao):Ext M H (M++[p]) (dq H p u):=(([p],Ŗ),λb o _ e=>by rw[bA (cn e a)];rwa[e],λb c n=>by
 rcases bE.mp c with z|z;.done
 .rw[aE.mp z];rwa[a])
theorem bq.push(r:bq Z M H h)(c:H p=ao)(n:uU Z (M++[p]) (dq H p u) p o):bq Z (M++[p]) (dq H p u) (h++[o]):=by
 erw[(dg.mpr (r.nd,⋯,λa f b g z=>?_),λa f=>(bE.mp f).elim (r.dj a) λz=>by rw[aE.mp z];exact(r.pQ c).2,by rw[aq,aq,r.ln];rfl,λb g=>rh (r.gs b g),λi a q d j=>?_)];.rw[aE.mp g]at z;subst z;rwa[r.fresh c f]
 .by_cases l:i<Á M;.rw[aX l]at d;rw[aX (by rw[<-r.ln];rwa[l])]at j;rwa[uU.mv ((Ext.push r c).mv r) (λ_ _=>(Ext.push (u:=u) r c).at) (λq e=>by rw[bA (cn e c)];rwa[e]) (λD e=>by rw[bA (cn e c)];rwa[e]) (r.ob i a q d j)]
  .rw[aQ (c6.mp ‹_›)]at d;rw[aQ (by rw[<-r.ln];rwa[c6.mp ‹_›]),<-r.ln]at j;induction m:i-Á M with|h=>left|j k=>rw[m]at d;cases d
theorem Ext.put(c:a∈M):Ext M H M (dq H a u):=(([],(aT M).symm),λb o n e=>by rw[bA λz=>n (by rw[z];rwa[c])];rwa[e],λb h n=>Ă h n)
theorem bq.put(r:bq Z M H h)(hi:M[i]?=O a)(k:uU Z M (dq H a u) a o):bq Z M (dq H a u) (h.set i o):=by
 let ha:=aL hi;erw[(r.nd,r.dj,by rw[cH];rwa[r.ln],λb f=>rh (r.gs b f),λj b q c d=>?_)];by_cases g:j=i
 .subst g;rw[hi]at c;cases c;let l:j<Á h:=by rw[<-r.ln];exact(aw.mp hi).1
  rw[c5 l]at d;cases d;rwa[k]
 .rw[cW (c4 g)]at d;let f:b≠a:=λz=>g (by let(L,E):=aw.mp c;let(n,m):=aw.mp hi;exact(iH r.nd).mp (by rw[E,m,z]));rwa[uU.mv ((Ext.put ha).mv r) (λ_ _ z=>z) (λq e=>by rw[bA f];rwa[e]) (λD e=>by rw[bA λz=>by rw[z]at e;rwa[r.no e Ŗ ha]];rwa[e]) (r.ob j b q c d)]
def bD(k:Ń):Dv->Þ|.p _=>J|.r i=>Đ (i<k)
def Q0(k:Ń):Ł Dv->Þ|[]=>J|d::r=>bD k d&&Q0 k r
def bO(k:Ń):Ob->Þ|.L _=>J|.D ds=>Q0 k ds|.C _ _=>J|.I _ fs=>Q0 k fs|.K _=>J|.E _ ds=>Q0 k ds|.F _ _ _=>J
def bH(k:Ń):Hs->Þ|[]=>J|o::r=>bO k o&&bH k r
def T2(k:Ń):Ő Dv->Ő Dv|O d=>if bD k d then O d else ao|ao=>ao
def Rm(k:Ń):Es->Es|[]=>[]|d::r=>T2 k d::Rm k r
theorem Lc:∀{h:Hs},bH k h=J->∀o∈h,bO k o=J
 |[],_,o,a=>by grind|q::r,e,o,a=>by
  simp only[bH,aK]at e;rcases ax.mp a with z|z;.lia
  .rwa[Lc e.2 o z]
theorem Mv.cut(r:bq Z M H h)(k:Ń):Mv M H (M.take k) H:=(λ_ a _=>r.NP a,λ_ _ _ e=>e,λb c n=>Ă (fJ c) n)
theorem eK.cut(r:bq Z M H h)(q:eK Z M H d v)(b:bD k d):eK Z (M.take k) H d v:=by induction d with|p x=>rwa[eg.mv (Mv.cut r k) q]|r i=>let(a,c,e):=q;exact(a,by rw[jv (bL b)];rwa[c],e)
theorem cU.cut(r:bq Z M H h){k:Ń}:∀{ds:Ł Dv}{vs:ϕ},cU Z M H ds vs->Q0 k ds->cU Z (M.take k) H ds vs|[],[],_,_=>Ť|[],_::_,q,_=>q|_::_,[],q,_=>q|_::_,_::_,q,b=>by simp only[Q0,aK]at b;exact(q.1.cut r b.1,cU.cut r q.2 b.2)
theorem bq.cut(r:bq Z M H h)(k:Ń)(b:bH k (h.take k)):bq Z (M.take k) H (h.take k):=by
 erw[(r.nd.sublist (fK k M),λa g=>r.dj a (fJ g),by rw[bX,bX,r.ln],r.gs,λi a o f c=>?_)];let d:=Lc b o (aL c);let j:i<k:=by let:=(aw.mp c).1;rw[bX]at this;lia
 rw[jv j]at f c;let q:=r.ob i a o f c;induction o with|L x=>let(v,e,q):=q;exact(v,e,aY.mv (Mv.cut r k) q)|D x=>let(v,e,q):=q;exact(v,e,q.cut r d)|C s u=>let(A,e,q,Q):=q;exact(A,e,aY.mv (Mv.cut r k) q,aY.mv (Mv.cut r k) Q)|I C fs=>let(m,p,e,n,l,q):=q;exact(m,p,e,n,l,q.cut r d)|K s=>rwa[q]|E s ds=>let(A,e,q,Q):=q;exact(A,e,aY.mv (Mv.cut r k) q,Q.cut r d)|F t s u=>let(A,e,q,Q):=q;exact(A,e,aY.mv (Mv.cut r k) q,aY.mv (Mv.cut r k) Q)
theorem F5:∀{σ:Es}{i:Ń},(Rm k σ)[i]?=O (O d)->σ[i]?=O (O d)/\bD k d=J
 |[],i,e=>by done|q::r,0,e=>by simp only[Rm,List.getElem?_cons_zero,Option.some.injEq]at e;induction q with|a=>cases e|c q=>
   simp only[T2]at e;split at e;.grind
   .lia
 |q::r,i+1,e=>by simp only[Rm,ZW]at e⊢;rwa[F5 e]
theorem F6(k:Ń):∀σ:Es,Á (Rm k σ)=Á σ|[]=>Ŗ|_::r=>by simp only[Rm,aR,F6 k r]
theorem dB.cut(q:dB Z M H σ τ)(r:bq Z M H h)(k:Ń):dB Z (M.take k) H (Rm k σ) τ:=((F6 k σ).trans q.ln,λi d a=>by let(b,c):=F5 a;let(v,e,q):=q.at' i d b;exact(v,e,q.cut r c))
theorem Ext.cut(e:Ext M H M' H')(a:Á M<=k):Ext M H (M'.take k) H':=by let(l,rfl):=e.pre;exact((_,by rw[List.take_append,gF a]),e.keep,λb c n=>e.new b (fJ c) n)
end
end F
namespace F
open L2
def rB(C:Ń->À)(E:XK)(c:Ń)(H:Hp):ß:=match Ë 1000 c with|bb=>E (.ref (C c)) ao H|J=>∀d,H d=O (.xd [("number",.I (c-1000:Ń))])->E (.ref (C 999)) (O d) H
def rB.imp(h:rB C E c H)(i:∀c o H,E c o H->E1 c o H):rB C E1 c H:=by
 delta rB at h⊢;split at h;.rwa[i _ _ _ h]
 .rwa[λd e=>i _ _ _ (h d e)]
def rB.cls(h:rB C E c H)(a:Ë 1000 c=bb):E (.ref (C c)) ao H:=by simp only[rB,a]at h;rwa[h]
abbrev XP:=Ń->Hs->ß
abbrev KP:=Ł Dv->Hs->ß
abbrev Sm:=XP->Es->Hs->KP->ß
structure En where
 nx:Es->Hs->ß
 rt:Dv->Hs->ß
 bk:Es->Hs->ß
 ct:Es->Hs->ß
 xc:XP
abbrev Ss:=En->Es->Hs->ß
abbrev En.sq(N:En)(n:Ss):En:={N with nx:=λσ h=>n N σ h}
abbrev En.cu(N:En)(R:Es->Hs->ß):En:={N with nx:=R}
abbrev En.lp(N:En)(A B:Es->Hs->ß):En:={N with nx:=A,ct:=A,bk:=B}
structure Tb where
 gB:Ń->Å
 ca:Ń->À
 fl:Ń->ϐ
structure T0 where
 K:Ä
 mg:db
 t:Tb
abbrev T0.z(Y:T0)(G:Ł À):Tx:=(Y.K,Y.mg,Y.t.gB,Y.t.ca,Y.t.fl,G)
abbrev yx(t:Tb)(X:Cx):T0:=(X.K,X.mg,t)
section
variable(Z:Tx)
structure Kn(E:XK)(τ:Ç)(H:Hp)(QV:VK)(M:Ł À)(σ:Es)(h:Hs)(xc:XP)(Q:KP):ß where
 rel:bq Z M H h
 env:dB Z M H σ τ
 out:∀d h' M' H' v,Ext M H M' H'->bq Z M' H' h'->eK Z M' H' d v->Q [d] h'->QV v H'
 exc:∀C h' M' H',Ext M H M' H'->bq Z M' H' h'->xc C h'->rB Z.ca E C H'
structure KnA(E:XK)(τ:Ç)(H:Hp)(QV:ϕ->Hp->ß)(M:Ł À)(σ:Es)(h:Hs)(xc:XP)(Q:KP):ß where
 rel:bq Z M H h
 env:dB Z M H σ τ
 out:∀d h' M' H' v,Ext M H M' H'->bq Z M' H' h'->cU Z M' H' d v->Q d h'->QV v H'
 exc:∀C h' M' H',Ext M H M' H'->bq Z M' H' h'->xc C h'->rB Z.ca E C H'
structure KnT(E:XK)(τ:Ç)(H:Hp)(QV:Þ->Hp->ß)(M:Ł À)(σ:Es)(h:Hs)(xc:XP)(Q:KP):ß where
 rel:bq Z M H h
 env:dB Z M H σ τ
 out:∀d h' M' H',Ext M H M' H'->bq Z M' H' h'->Q [d] h'->∃b,d=.p (.B b)/\QV b H'
 exc:∀C h' M' H',Ext M H M' H'->bq Z M' H' h'->xc C h'->rB Z.ca E C H'
structure Yc(E:XK)(τ:Ç)(H:Hp)(D:Õ)(M:Ł À)(σ:Es)(h:Hs)(N:En):ß where
 rel:bq Z M H h
 env:dB Z M H σ τ
 nx:∀σ' h' M' H' τ',Ext M H M' H'->bq Z M' H' h'->dB Z M' H' σ' τ'->N.nx σ' h'->D.nx τ' H'
 rt:∀d h' M' H' v,Ext M H M' H'->bq Z M' H' h'->eK Z M' H' d v->N.rt d h'->D.rt v H'
 bk:∀σ' h' M' H' τ',Ext M H M' H'->bq Z M' H' h'->dB Z M' H' σ' τ'->N.bk σ' h'->D.bk τ' H'
 ct:∀σ' h' M' H' τ',Ext M H M' H'->bq Z M' H' h'->dB Z M' H' σ' τ'->N.ct σ' h'->D.ct τ' H'
 exc:∀C h' M' H',Ext M H M' H'->bq Z M' H' h'->N.xc C h'->rB Z.ca E C H'
inductive dm(Y:T0)(E:XK)(m:Sm)(τ:Ç)(H:Hp)(QV:VK):ß|mk(G M:Ł À)(σ:Es)(h:Hs)(xc:XP)(Q:KP)(k:Kn (Y.z G) E τ H QV M σ h xc Q)(q:m xc σ h Q):dm Y E m τ H QV
inductive gv(Y:T0)(E:XK)(m:Sm)(τ:Ç)(H:Hp)(QV:ϕ->Hp->ß):ß|mk(G M:Ł À)(σ:Es)(h:Hs)(xc:XP)(Q:KP)(k:KnA (Y.z G) E τ H QV M σ h xc Q)(q:m xc σ h Q):gv Y E m τ H QV
inductive kM(Y:T0)(E:XK)(m:Sm)(τ:Ç)(H:Hp)(QV:Þ->Hp->ß):ß|mk(G M:Ł À)(σ:Es)(h:Hs)(xc:XP)(Q:KP)(k:KnT (Y.z G) E τ H QV M σ h xc Q)(q:m xc σ h Q):kM Y E m τ H QV
inductive eJ(Y:T0)(E:XK)(m:Ss)(D:Õ)(τ:Ç)(H:Hp):ß|mk(G M:Ł À)(σ:Es)(h:Hs)(N:En)(k:Yc (Y.z G) E τ H D M σ h N)(q:m N σ h):eJ Y E m D τ H
end
def Kn.IP{M M':Ł À}{σ:Es}{h:Hs}{xc:XP}{Q:KP}{b:VK}(k:Kn Z E τ H b M σ h xc Q)(e:Ext M H M' H'):∀C a m H1,Ext M' H' m H1->bq Z m H1 a->xc C a->rB Z.ca E C H1:=λC a m H1 x r q=>k.exc C a m H1 (e.trans x) r q
def Kn.on(k:Kn Z E τ H c M σ h xc Q)(e:Ext M H M' H')(r:bq Z M' H' h')(o:∀d b m a v,Ext M' H' m a->bq Z m a b->eK Z m a d v->Q' [d] b->q v a):Kn Z E τ H' q M' σ h' xc Q':=(r,k.env.ext k.rel e,o,k.IP e)
def Kn.go(k:Kn Z E τ H q M σ h xc Q)(e:Ext M H M' H')(r:bq Z M' H' h'):Kn Z E τ H' q M' σ h' xc Q:=(r,k.env.ext k.rel e,λd a m b v x=>k.out d a m b v (e.trans x),k.IP e)
def _root_.L2.PE.imp{X:Cx}{e:Æ}{t t':TE}(h:PE X e t')(i:∀σ H Q,t σ H Q->t' σ H Q):PE X e t:=λp s σ H Q I q=>h _ s σ H Q I (i σ H Q q)
def _root_.L2.PT.imp{X:Cx}{e:Æ}{t t':TT}(h:PT X e t')(i:∀σ H Q,t σ H Q->t' σ H Q):PT X e t:=λp s σ H Q I q=>h _ s σ H Q I (i σ H Q q)
def _root_.L2.PW.imp{X:Cx}{e:Æ}{t t':TT}(h:PW X e t')(i:∀σ H Q,t σ H Q->t' σ H Q):PW X e t:=λwh p s σ H Q I q=>h wh _ s σ H Q I (i σ H Q q)
def _root_.L2.PA.imp{X:Cx}{e:Ł _}{t t':TA}(h:PA X e t')(i:∀σ H Q,t σ H Q->t' σ H Q):PA X e t:=λpos p s σ H Q I q=>h pos _ s σ H Q I (i σ H Q q)
def _root_.L2.PS.imp{X:Cx}{e:É}{t t':TS}(h:PS X e t')(i:∀D σ H,t D σ H->t' D σ H):PS X e t:=λp s σ H D I q=>h _ s σ H D I (i D σ H q)
def _root_.L2.jt.imp{X:Cx}{e:Ł _}{t t':TS}(h:jt X e t')(i:∀D σ H,t D σ H->t' D σ H):jt X e t:=λp s σ H D I q=>h _ s σ H D I (i D σ H q)
def gd(c:Þ)(A:ß):ß:=match c with|J=>A|bb=>ŧ
def bK{c:Þ}(h:c)(a:A):gd c A:=by subst h;rwa[a]
def cJ(h:gd c A):c/\A:=by induction c with|d=>exact(Ŗ,h)|e=>rwa[h.elim]
def br(c:Þ)(A B:ß):ß:=match c with|J=>A|bb=>B
def dX{c:Þ}(a:c->A)(b:c=bb->B):br c A B:=by induction c with|d=>rwa[a Ŗ]|e=>rwa[b Ŗ]
def gC{α:Type}(o:Ő α)(A:α->ß)(B:ß):ß:=match o with|O x=>A x|ao=>B
def NX(h:gC o A B)(e:o=O x):A x:=by subst e;rwa[h]
def NW(h:gC o A B)(e:o=ao):B:=by subst e;rwa[h]
def bt{x:α}(e:o=O x)(a:A x):gC o A B:=by subst e;rwa[a]
def cK(h:gC o A ŧ):∃x,o=O x/\A x:=by induction o with|c x=>exact(x,Ŗ,h)|a=>rwa[h.elim]
def ib:Ł Dv->Ő ϑ
 |[]=>O []|.p x::r=>match ib r with|O X=>O (x::X)|ao=>ao
 |.r _::_=>ao
abbrev O1:=Dv->Hs->(Dv->Hs->ß)->ß
abbrev O2:=Dv->Dv->Hs->(Dv->Hs->ß)->ß
abbrev ON:=Ł Dv->Hs->(Dv->Hs->ß)->ß
def sV(i:Ń):Sm:=λ_ σ h Q=>match σ[i]? with|O (O d)=>Q [d] h|_=>ŧ
def sC(x:Pv):Sm:=λ_ _ h Q=>Q [.p x] h
def qD(Q:KP)(d:Dv)(h:Hs):ß:=Q [d] h
def m1(xs:Ł Dv)(k:Dv->ß):ß:=match xs with|[x]=>k x|_=>ŧ
def k1(o:O1)(Q:KP):KP:=λX h=>m1 X λx=>o x h (qD Q)
def s1(o:O1)(A:Sm):Sm:=λx σ h Q=>A x σ h (k1 o Q)
def k2'(o:O2)(Q:KP)(x:Dv):KP:=λY h=>m1 Y λy=>o x y h (qD Q)
def k2(o:O2)(B:Sm)(X:XP)(σ:Es)(Q:KP):KP:=λs h=>m1 s λx=>B X σ h (k2' o Q x)
def s2(o:O2)(A B:Sm):Sm:=λx σ h Q=>A x σ h (k2 o B x σ Q)
def kN(o:ON)(Q:KP):KP:=λx h=>o x h (qD Q)
def sN(o:ON)(A:Sm):Sm:=λx σ h Q=>A x σ h (kN o Q)
def dD:Sm:=λ_ _ h Q=>Q [] h
def kC'(Q:KP)(x:Dv):KP:=λy h=>Q (x::y) h
def kC(R:Sm)(X:XP)(σ:Es)(Q:KP):KP:=λs h=>m1 s λx=>R X σ h (kC' Q x)
def bg(A R:Sm):Sm:=λx σ h Q=>A x σ h (kC R x σ Q)
def mB(xs:Ł Dv)(k:Þ->ß):ß:=match xs with|[.p (.B b)]=>k b|_=>ŧ
def Xh(q:mB [d] k):∃b,d=.p (.B b)/\k b:=by induction d with|r _=>rwa[q.elim]|p x=>cases x<;>first|exact(_,Ŗ,q)|rwa[q.elim]
def kB(Q:KP):KP:=λy h=>mB y λc=>Q [.p (.B c)] h
def kA(B:Sm)(x:XP)(σ:Es)(Q:KP):KP:=λX h=>mB X λb=>br b (B x σ h (kB Q)) (Q [.p (.B bb)] h)
def Ka(A B:Sm):Sm:=λx σ h Q=>A x σ h (kA B x σ Q)
def kO(B:Sm)(x:XP)(σ:Es)(Q:KP):KP:=λX h=>mB X λb=>br b (Q [.p (.B J)] h) (B x σ h (kB Q))
def sOr(A B:Sm):Sm:=λx σ h Q=>A x σ h (kO B x σ Q)
def ϖ(Q:KP):KP:=λx h=>mB x λb=>Q [.p (.B !b)] h
def akA(A:Sm):Sm:=λx σ h Q=>A x σ h (ϖ Q)
def kIe(A B:Sm)(x:XP)(σ:Es)(Q:KP):KP:=λX h=>mB X λb=>br b (A x σ h Q) (B x σ h Q)
def Vj(T A B:Sm):Sm:=λx σ h Q=>T x σ h (kIe A B x σ Q)
def ŵ(h:PE X e (AH i)):PE X e (dm 'X' E (sV i)):=h.imp λτ H j z=>by
 let(G,M,σ,s,x,Q,k,q):=z;delta sV at q;split at q;.ext d c;let(v,f,g):=k.env.at' i d c;exact(v,f,k.out d s M H v Ext.refl k.rel g q)
 .left
def Jz(h:PE X e (tC v))(c:∀G M H,eg ('X'.z G) M H x v):PE X e (dm 'X' E (sC x)):=h.imp λτ H d Z=>by let(G,M,σ,s,f,Q,k,q):=Z;rwa[k.out (.p x) s M H v Ext.refl k.rel (c G M H) q]
def QP(Y:T0)(r:V->Hp->VK->ß)(o:O1):ß:=∀G M h H x v Q q,bq (Y.z G) M H h->eK (Y.z G) M H x v->o x h Q->(∀d f m c w,Ext M H m c->bq (Y.z G) m c f->eK (Y.z G) m c d w->Q d f->q w c)->r v H q
def ic(Y:T0)(r:R2)(o:O2):ß:=∀G M h H x y v u Q q,bq (Y.z G) M H h->eK (Y.z G) M H x v->eK (Y.z G) M H y u->o x y h Q->(∀d f m c w,Ext M H m c->bq (Y.z G) m c f->eK (Y.z G) m c d w->Q d f->q w c)->r v u H q
def pL(Y:T0)(r:ϕ->Hp->VK->ß)(o:ON):ß:=∀G M h H x v Q q,bq (Y.z G) M H h->cU (Y.z G) M H x v->o x h Q->(∀d f m c w,Ext M H m c->bq (Y.z G) m c f->eK (Y.z G) m c d w->Q d f->q w c)->r v H q
def XO(c:QP 'X' r o)(h:dm 'X' E (s1 o A) τ H QV):į r (dm 'X' E A) τ H QV:=by let(G,M,σ,s,x,Q,k,q):=h;exact(G,M,σ,s,x,_,(k.rel,k.env,λd f m g v e R i j=>c G m f g d v _ _ R i j λd2 l M2 n w p u I y=>k.out d2 l M2 n w (e.trans p) u I y,k.exc),q)
def wI(f:ic 'X' r o)(h:dm 'X' E (s2 o A B) τ H QV):ng r (dm 'X' E A) (dm 'X' E B) τ H QV:=by let(G,M,σ,s,x,Q,k,q):=h;exact(G,M,σ,s,x,_,(k.rel,k.env,λd g m S v e R i j=>(G,m,σ,g,x,_,k.on e R λd2 l M2 n w c p I u=>f G M2 l n d d2 v w _ _ p (i.ext R c) I u λD y C F z K L N P=>k.out D y C F z (e.trans (c.trans K)) L N P,j),k.exc),q)
def aeH(h:kH X (binaryOp p) r)(H:ic 'X' r o)(c:PE X a (dm 'X' E A))(d:PE X b (dm 'X' E B)):PE X (.BinOp a p b pos) (dm 'X' E (s2 o A B)):=(aeD h c d).imp λ_ _ _=>wI H
def ϛ(h:Yj X (unaryOp p) r)(H:QP 'X' r o)(c:PE X a (dm 'X' E A)):PE X (.UnaryOp p a pos) (dm 'X' E (s1 o A)):=(aeE h c).imp λ_ _ _=>XO H
def γ(h:kH X (compareOp p) r)(H:ic 'X' r o)(c:PE X a (dm 'X' E A))(d:PE X b (dm 'X' E B))(m:hU p b=bb):PE X (.Compare a [p] [b] pos) (dm 'X' E (s2 o A B)):=(Up h c d m).imp λ_ _ _=>wI H
def HJ(h:kM 'X' E m τ H f):dm 'X' E m τ H λx H'=>∃k,x=.B k/\f k H':=by let(G,M,σ,s,g,Q,k,q):=h;erw[(G,M,σ,s,g,Q,(k.rel,k.env,λd j l H' v e r i n=>?_,k.exc),q)];let(c,rfl,o):=k.out d j l H' e r n;exact(c,i,o)
def UG(H:kH X (compareOp p) r)(c:ic 'X' r o)(d:PE X a (dm 'X' E A))(f:PE X b (dm 'X' E B))(m:hU p b=bb):PT X (.Compare a [p] [b] pos) (kM 'X' E (s2 o A B)):=(Hm H d f m).imp λ_ _ _ h=>wI c (HJ h)
def UH(h:PE X e (dm 'X' E A))(H:∀whole,isTrue e X.env whole=do let v<-whole;standAt e.pos;holding [v] (truthy v)):PT X e (kM 'X' E A):=(Ϥ h H).imp λ_ _ _ h=>HJ h
def PH(h:kM 'X' E (Ka A B) τ H QB):ı (kM 'X' E A) (kM 'X' E B) τ H QB:=by let(G,M,σ,s,m,Q,k,q):=h;erw[(G,M,σ,s,m,_,(k.rel,k.env,λd n o p e R i=>?_,k.exc),q)];let(b,j,i):=Xh i;erw[(b,j,?_)];induction b with|e=>let(c,f,g):=k.out _ n o p e R i;injection f with f;injection f with f;subst f;rwa[g]|d=>erw[(G,o,σ,n,m,_,(R,k.env.ext k.rel e,λd2 g M2 u v w l=>?_,λC f y z x r q=>k.exc C f y z (e.trans x) r q),i)];let(c,j,l):=Xh l;let(D,f,g):=k.out _ g M2 u (e.trans v) w l;injection f with f;injection f with f;subst f;exact(c,j,g)
def VH(h:kM 'X' E (sOr A B) τ H QB):ķ (kM 'X' E A) (kM 'X' E B) τ H QB:=by let(G,M,σ,s,m,Q,k,q):=h;erw[(G,M,σ,s,m,_,(k.rel,k.env,λd n o p e R i=>?_,k.exc),q)];let(b,j,i):=Xh i;erw[(b,j,?_)];induction b with|d=>let(c,f,g):=k.out _ n o p e R i;injection f with f;injection f with f;subst f;rwa[g]|e=>erw[(G,o,σ,n,m,_,(R,k.env.ext k.rel e,λd2 g M2 u v w l=>?_,λC f y z x r q=>k.exc C f y z (e.trans x) r q),i)];let(c,j,l):=Xh l;let(D,f,g):=k.out _ g M2 u (e.trans v) w l;injection f with f;injection f with f;subst f;exact(c,j,g)
def PJ(h:kM 'X' E (akA A) τ H QB):Ď (kM 'X' E A) τ H QB:=by let(G,M,σ,s,x,Q,k,q):=h;erw[(G,M,σ,s,x,_,(k.rel,k.env,λd i m j e r g=>?_,k.exc),q)];let(b,l,g):=Xh g;let(c,f,n):=k.out _ i m j e r g;injection f with f;injection f with f;subst f;exact(b,l,n)
def VI(h:dm 'X' E (Vj T A B) τ H QV):ZP (kM 'X' E T) (dm 'X' E A) (dm 'X' E B) τ H QV:=by let(G,M,σ,s,x,Q,k,q):=h;erw[(G,M,σ,s,x,_,(k.rel,k.env,λd g m j e r f=>?_,k.exc),q)];let(b,i,f):=Xh f;erw[(b,i,?_)];induction b with|d=>exact(G,m,σ,g,x,_,k.go e r,f)|e=>exact(G,m,σ,g,x,_,k.go e r,f)
def η(h:PT X c (kM 'X' E T))(H:PE X a (dm 'X' E A))(d:PE X b (dm 'X' E B)):PE X (.IfExp c a b pos) (dm 'X' E (Vj T A B)):=(N9 h H d).imp λ_ _ _=>VI
def Uz:PA X [] (gv 'X' E dD):=iX.imp λτ H d z=>by let(G,M,σ,h,x,Q,k,q):=z;rwa[k.out [] h M H [] Ext.refl k.rel Ť q]
def Oi(h:PE X a (dm 'X' E A))(j:PA X rest (gv 'X' E B))(p:cL a):PA X (a::rest) (gv 'X' E (bg A B)):=(uH h j p).imp λτ H L z=>by let(G,M,σ,s,f,Q,k,q):=z;exact(G,M,σ,s,f,_,(k.rel,k.env,λd l m N v e R i n=>(G,m,σ,l,f,_,(R,k.env.ext k.rel e,λds o M2 u ws g w I y=>k.out (d::ds) o M2 u _ (e.trans g) w (i.ext R g,I) y,λC D F K x r q=>k.exc C D F K (e.trans x) r q),n),k.exc),q)
def XS(f:pL 'X' r o)(h:dm 'X' E (sN o A) τ H QV):gv 'X' E A τ H λvs g=>r vs g QV:=by let(G,M,σ,s,x,Q,k,q):=h;exact(G,M,σ,s,x,_,(k.rel,k.env,λd j m l v e R i n=>f G m j l d v _ _ R i n λd2 p M2 u w y z I C=>k.out d2 p M2 u w (e.trans y) z I C,k.exc),q)
def BS{id:String}(h:eE X (.builtin id) r)(H:pL 'X' r o)(g:Gl X x)(m:X.mg x=ao)(v:em x=O (.builtin id))(d:PA X (a::rest) (gv 'X' E A))(hn:x≠"__name__")(j:(x=="__debug__")=bb)(D:(a::rest).all cL):PE X (.Call (.Name x p) (a::rest) [] pos) (dm 'X' E (sN o A)):=(BQ h g m v d hn j D).imp λ_ _ _=>XS H
def wz{id:String}(h:eE X (.type id) r)(H:pL 'X' r o)(g:Gl X x)(m:X.mg x=ao)(v:em x=O (.type id))(d:PA X (a::rest) (gv 'X' E A))(hn:x≠"__name__")(j:(x=="__debug__")=bb)(D:(a::rest).all cL):PE X (.Call (.Name x p) (a::rest) [] pos) (dm 'X' E (sN o A)):=(Xu h g m v d hn j D).imp λ_ _ _=>XS H
abbrev Ct:=Ł Dv->Hs->(Dv->Hs->ß)->XP->ß
inductive dG(Y:T0)(C:Ct)(vs:ϕ)(H:Hp)(QV:VK)(EV:XK):ß|mk(G M:Ł À)(h:Hs)(ds:Ł Dv)(Q:Dv->Hs->ß)(xc:XP)(r:bq (Y.z G) M H h)(i:cU (Y.z G) M H ds vs)(c:C ds h Q xc)(out:∀d h' M' H' v,Ext M H M' H'->bq (Y.z G) M' H' h'->eK (Y.z G) M' H' d v->Q d h'->QV v H')(exc:∀c h' M' H',Ext M H M' H'->bq (Y.z G) M' H' h'->xc c h'->rB Y.t.ca EV c H'):dG Y C vs H QV EV
def iU(i:Ń):Ϙ->Þ|[]=>bb|j::r=>Ì i j||iU i r
def wT:Ϙ->Þ|[]=>J|i::r=>!iU i r&&wT r
def TF(i:Ń):Ϙ->Ń|[]=>0|j::r=>match Ì i j with|J=>0|bb=>TF i r+1
def ġ(ρ:Ϙ):Dv->Þ|.p _=>J|.r i=>iU i ρ
def Ea(ρ:Ϙ):Ł Dv->Þ|[]=>J|d::r=>ġ ρ d&&Ea ρ r
def SF(ρ:Ϙ):Ob->Þ|.L _=>J|.D ds=>Ea ρ ds|.C _ _=>J|.I _ fs=>Ea ρ fs|.K _=>J|.E _ ds=>Ea ρ ds|.F _ _ _=>J
def la(ρ:Ϙ):Dv->Dv|.p x=>.p x|.r i=>.r (TF i ρ)
def J0(ρ:Ϙ):Ob->Ob|.L x=>.L x|.D ds=>.D (ds.map (la ρ))|.C k v=>.C k v|.I C fs=>.I C (fs.map (la ρ))|.K k=>.K k|.E k ds=>.E k (ds.map (la ρ))|.F o k u=>.F o k u
def lh(ρ:Ϙ)(h:Hs):Ϙ->Ő Hs|[]=>O []|i::r=>match h[i]? with|ao=>ao|O o=>match SF ρ o with|bb=>ao|J=>match lh ρ h r with|ao=>ao|O l=>O (J0 ρ o::l)
def Qn(ρ:Ϙ)(n:Ń):Dv->Dv|.p x=>.p x|.r k=>match ρ[k]? with|O i=>.r i|ao=>.r (n+(k-Á ρ))
def Ld(ρ:Ϙ)(n:Ń):Ob->Ob|.L x=>.L x|.D ds=>.D (ds.map (Qn ρ n))|.C k v=>.C k v|.I C fs=>.I C (fs.map (Qn ρ n))|.K k=>.K k|.E k ds=>.E k (ds.map (Qn ρ n))|.F o k u=>.F o k u
def QC(ρ:Ϙ)(n:Ń):Ϙ->Hs->Hs->Hs|[],[],h=>h|[],o::os,h=>h++(o::os).map (Ld ρ n)|_::_,[],h=>h|i::r,o::os,h=>QC ρ n r os (h.set i (Ld ρ n o))
def lfQ(ρ:Ϙ)(h:Hs)(Q:Dv->Hs->ß)(d:Dv)(l:Hs):ß:=Q (Qn ρ (Á h) d) (QC ρ (Á h) ρ l h)
def lfX(ρ:Ϙ)(h:Hs)(x:XP)(c:Ń)(l:Hs):ß:=x c (QC ρ (Á h) ρ l h)
def TX(ρ:Ϙ)(C:Ct):Ct:=λds h Q x=>gd (wT ρ&&Ea ρ ds) (match lh ρ h ρ with|ao=>ŧ|O l=>C (ds.map (la ρ)) l (lfQ ρ h Q) (lfX ρ h x))
theorem cQ:∀{l:Ϙ},iU i l=J↔i∈l|[]=>by simp[iU]|j::r=>by simp only[iU,jG,ax,cQ,Nat.beq_eq]
theorem G3:∀{l:Ϙ},wT l=J->l.Nodup|[],_=>iA|i::r,h=>by simp only[wT,aK,Bool.not_eq_true']at h;erw[dA.mpr (λz=>?_,G3 h.2)];rw[cQ.mpr z]at h;cases h.1
theorem GP:∀{l:Ϙ},i∈l->l[TF i l]?=O i
 |[],h=>by grind|j::r,h=>by
  delta TF;split;.ext e;rw[aV e];rfl
  .rwa[GP ((ax.mp h).resolve_left λz=>nofun)]
section
variable{Y:T0}{G M M':Ł À}{H H':Hp}{h l l':Hs}{ρ:Ϙ}
def mL(ρ:Ϙ)(M:Ł À):Ł À:=ρ.filterMap λi=>M[i]?
theorem Nu:∀{ρ:Ϙ}{l:Hs},lh c h ρ=O l->Á l=Á ρ/\∀(k:Ń)i,ρ[k]?=O i->∃o,h[i]?=O o/\SF c o/\l[k]?=O (J0 c o)
 |[],l,e=>by cases e;exact(Ŗ,λk i h=>by grind)|i::r,l,e=>by
  delta lh at e;split at e;.lia
  .split at e;.lia
   .split at e;.lia
    .ext l1 d;cases e;let(a,b):=Nu d;erw[(by grind,λk j f=>?_)];induction k with|h=>grind|j k=>rwa[b k j f]
def wb(E:∀i∈ρ,i<Á M):Á (mL ρ M)=Á ρ/\∀(k:Ń),(mL ρ M)[k]?=ρ[k]?.bind λi=>M[i]?:=by induction ρ with|f=>exact(Ŗ,λk=>Ŗ)|g i r I=>
  let(a,b):=I λj c=>E j (aG _ c);let e:M[i]?=O (M[i]'(E i aJ)):=ar _;let d:mL (i::r) M=M[i]'(E i aJ)::mL r M:=by delta mL;rw[ji,e]
  rw[d];erw[(nofun,λk=>?_)];induction k with|h=>rwa[e.symm]|j k=>left
def Ad(h:a∈mL ρ M):a∈M:=by let(i,_,e):=oS.mp h;rwa[aL e]
def ad1(e:M.Nodup)(a:ρ.Nodup):(mL ρ M).Nodup:=by erw[List.Pairwise.filterMap _ ?_ a];intro i j d b f c g z;subst z;erw[d ?_];let(l1,E):=aw.mp f;let(l2,k):=aw.mp g;exact(iH e).mp (E.trans k.symm)
def WW(n:∀a,a∈M'\/a∈g->a∈M\/a∈G\/H a=ao):Tf (Y.z G) g M H M' H:=by
 erw[(id,id,λ{a _}k s=>not_or.mp λz=>?_,λ_ _ s=>s,λ_ s=>s,λ_ s=>s)];rcases n a z with z|z|z;.rwa[k.1 z]
 .rwa[k.2 z]
 .rcases s with s|⟨_,s⟩<;>rw[z]at s<;>cases s
def eg.fr(n:∀a,a∈M'\/a∈g->a∈M\/a∈G\/H a=ao)(h:eg (Y.z G) M H x v):eg (Y.z g) M' H x v:=eg.tf (WW n) h
def aY.fr(n:∀a,a∈M'\/a∈g->a∈M\/a∈G\/H a=ao)(h:aY (Y.z G) M H x v):aY (Y.z g) M' H x v:=aY.tf (WW n) h
def eg.up(n:∀a,a∉M'->a∉g->a∉M/\a∉G)(h:eg (Y.z g) M' H x v):eg (Y.z G) M H x v:=eg.fr (λa b=>by
 by_cases z:a∈M';.rwa[.inl z]
 .by_cases y:a∈g;.rwa[.inr (.inl y)]
  .let(p,q):=n a z y;exact(b.elim p q).elim) h
def aY.up(n:∀a,a∉M'->a∉g->a∉M/\a∉G)(h:aY (Y.z g) M' H x v):aY (Y.z G) M H x v:=aY.fr (λa b=>by
 by_cases z:a∈M';.rwa[.inl z]
 .by_cases y:a∈g;.rwa[.inr (.inl y)]
  .let(p,q):=n a z y;exact(b.elim p q).elim) h
def gL(ρ:Ϙ)(M G:Ł À):Ł À:=G++M.filter λa=>!(mL ρ M).contains a
def pS:a∈gL ρ M G↔a∈G\/a∈M/\a∉mL ρ M:=by delta gL;simp
def vp:∀a,a∈mL ρ M\/a∈gL ρ M G->a∈M\/a∈G\/H a=none:=λa h=>h.elim (λz=>.inl (Ad z)) λz=>(pS.mp z).elim (λz=>.inr (.inl z)) λz=>.inl z.1
def eK.dn(e:∀i∈ρ,i<Á M)(b:ġ ρ d)(q:eK (Y.z G) M H d v):eK (Y.z (gL ρ M G)) (mL ρ M) H (la ρ d) v:=by induction d with|p x=>rwa[eg.fr vp q]|r i=>let(a,c,f):=q;erw[(a,?_,f)];rw[(wb e).2,GP (cQ.mp b)];rwa[c]
theorem cU.dn(e:∀i∈ρ,i<Á M):∀{ds:Ł Dv}{vs:ϕ},Ea ρ ds=J->cU (Y.z G) M H ds vs->cU (Y.z (gL ρ M G)) (mL ρ M) H (ds.map (la ρ)) vs|[],[],_,_=>Ť|[],_::_,_,q=>q|_::_,[],_,q=>q|_::_,_::_,hd,q=>by simp only[Ea,aK]at hd;exact(q.1.dn e hd.1,cU.dn e hd.2 q.2)
theorem bq.dn(r:bq (Y.z G) M H h)(g:ρ.Nodup)(e:lh ρ h ρ=O l):bq (Y.z (gL ρ M G)) (mL ρ M) H l/\∀i∈ρ,i<Á M:=by
 let(y,t):=Nu e;let d:∀i∈ρ,i<Á M:=λi f=>by let(k,e):=mm f;let(o,j,_):=t k i e;rw[r.ln];exact(aw.mp j).1
 erw[((ad1 r.nd g,λa u z=>(pS.mp z).elim (r.dj a (Ad u)) λz=>z.2 u,by rw[(wb d).1,y],λb B=>?_,λk a o m w=>?_),d)]
 .rcases pS.mp B with z|z;.rwa[r.gs b z]
  .let(o,e,_):=r.there z.1;exact(o,e)
 .rw[(wb d).2]at m;induction f:ρ[k]? with|a=>left|c i=>rw[f]at m;let(x,j,c,p):=t k i f;rw[p]at w;cases w;let q:=r.ob i a x m j;induction x with|L X=>let(v,e,q):=q;exact(v,e,aY.fr vp q)|D X=>let(v,e,q):=q;exact(v,e,q.dn d c)|C s U=>let(A,e,q,Q):=q;exact(A,e,aY.fr vp q,aY.fr vp Q)|I C fs=>let(N,P,e,n,R,q):=q;exact(N,P,e,n,by rw[ae];rwa[R],q.dn d c)|K s=>rwa[q]|E s ds=>let(A,e,q,Q):=q;exact(A,e,aY.fr vp q,Q.dn d c)|F S s U=>let(A,e,q,Q):=q;exact(A,e,aY.fr vp q,aY.fr vp Q)
def wK:∀a,a∉mL ρ M++L->a∉gL ρ M G->a∉M++L/\a∉G:=λa b c=>(λz=>(bE.mp z).elim (λz=>c (pS.mpr (.inr (z,λy=>b (cX _ y))))) λz=>b (aW _ z),λz=>c (pS.mpr (.inl z)))
theorem eK.up(e:∀i∈ρ,i<Á M)(q:eK (Y.z (gL ρ M G)) (mL ρ M++L) H d v):eK (Y.z G) (M++L) H (Qn ρ (Á M) d) v:=by induction d with|p x=>rwa[eg.up wK q]|r k=>
  let(a,b,c):=q;let m:=wb e;let E:Qn ρ (Á M) (.r k)=match ρ[k]? with|O i=>.r i|ao=>.r _:=Ŗ;rw[E];by_cases g:k<Á ρ;.rw[aX nofun,m.2]at b;induction f:ρ[k]? with|a=>left|c i=>rw[f]at b;exact(a,by rw[aX (aw.mp b).1];rwa[b],c)
  .rw[aQ (by rw[m.1];rwa[c6.mp ‹_›]),m.1]at b;rw[fC (c6.mp ‹_›)];erw[(a,?_,c)];rw[aQ (aO _ _),show(Á M)+(k-Á ρ)-Á M=k-Á ρ by lia];rwa[b]
theorem cU.up(e:∀i∈ρ,i<Á M):∀{ds:Ł Dv}{vs:ϕ},cU (Y.z (gL ρ M G)) (mL ρ M++L) H ds vs->cU (Y.z G) (M++L) H (ds.map (Qn ρ (Á M))) vs|[],[],_=>Ť|[],_::_,q=>q|_::_,[],q=>q|_::_,_::_,q=>(q.1.up e,cU.up e q.2)
theorem uU.up(b:∀i∈ρ,i<Á M)(q:uU (Y.z (gL ρ M G)) (mL ρ M++L) H a o):uU (Y.z G) (M++L) H a (Ld ρ (Á M) o):=by induction o with|L x=>let(v,e,q):=q;exact(v,e,aY.up wK q)|D x=>let(v,e,q):=q;exact(v,e,q.up b)|C k u=>let(A,e,q,Q):=q;exact(A,e,aY.up wK q,aY.up wK Q)|I C fs=>let(d,f,e,n,c,q):=q;exact(d,f,e,n,by rw[ae];rwa[c],q.up b)|K k=>rwa[q]|E k ds=>let(A,e,q,Q):=q;exact(A,e,aY.up wK q,Q.up b)|F g k u=>let(A,e,q,Q):=q;exact(A,e,aY.up wK q,aY.up wK Q)
def T6{ρ:Ϙ}:∀{os h:Hs},ρ.Nodup->Á ρ<=Á os->(∀i∈ρ,i<Á h)->Á (QC c n ρ os h)=Á h+(Á os-Á ρ)/\∀(j:Ń)o,(QC c n ρ os h)[j]?=O o->(∃(k:Ń)(o':Ob),ρ[k]?=O j/\os[k]?=O o'/\o=Ld c n o')\/j∉ρ/\h[j]?=O o\/∃o':Ob,Á h<=j/\os[Á ρ+(j-Á h)]?=O o'/\o=Ld c n o':=by induction ρ with
 |f=>
  intro os h _ _ _;let s:QC c n [] os h=h++os.map (Ld c n):=by induction os with|f=>rw[List.map_nil,aT];rfl|g _ _=>rfl
  rw[s];erw[(by rw[aq,ae];rfl,λj o e=>?_)];by_cases f:j<Á h;.rw[aX f]at e;rwa[.inr (.inl (dU,e))]
  .rw[aQ (c6.mp ‹_›),aM]at e;induction q:os[j-Á h]? with|a=>rw[q]at e;cases e|c o'=>rw[q]at e;cases e;rwa[.inr (.inr (o',c6.mp ‹_›,by rw[List.length_nil,cB];rwa[q],Ŗ))]
 |g i r I=>intro os h hn p E;induction os with|f=>exact(Nat.not_succ_le_zero _ p).elim|g o1 os=>
   rw[dA]at hn;let(a,b):=I (os:=os) (h:=h.set i (Ld c n o1)) hn.2 (Nat.le_of_succ_le_succ p) (λj f=>by rw[cH];rwa[E j (aG _ f)]);rw[cH]at a b;erw[(a.trans (by rw[aR,aR,Nat.add_sub_add_right]),λj o e=>?_)];rcases b j o e with ⟨k,o',g,d,m⟩|⟨g,d⟩|⟨o',g,d,m⟩;.rwa[.inl (k+1,o',g,d,m)]
   .by_cases f:i=j;.subst f;rw[c5 (E i aJ)]at d;cases d;rwa[.inl (0,o1,Ŗ,Ŗ,Ŗ)]
    .rw[cW f]at d;rwa[.inr (.inl (λz=>(ax.mp z).elim (λz=>f z.symm) g,d))]
   .rwa[.inr (.inr (o',g,by rw[aR,AS];rwa[d],m))]
theorem bq.up(r:bq (Y.z G) M H h)(g:ρ.Nodup)(E:∀i∈ρ,i<Á M)(e:Ext (mL ρ M) H (mL ρ M++L) H')(R:bq (Y.z (gL ρ M G)) (mL ρ M++L) H' l'):Ext M H (M++L) H'/\bq (Y.z G) (M++L) H' (QC ρ (Á M) ρ l' h):=by
 let m:=wb E;let p:Á (mL ρ M++L)=Á l':=R.ln;rw[aq,m.1]at p;let ex:Ext M H (M++L) H':=by
  erw[((L,Ŗ),λb o n q=>e.keep b o (λz=>n (Ad z)) q,λb q n=>?_)];rcases bE.mp q with z|z;.rwa[Ă z n]
  .rwa[e.new b (aW _ z) λz=>n (Ad z)]
 let N:=λa w B=>by
  by_cases z:a∈mL ρ M;.exact(dg.mp R.nd).2.2 a z a w Ŗ
  .let h1:=e.new a (aW _ w) z;let(o,f,_):=r.there B;rw[h1]at f;cases f
 let(a,b):=T6 (os:=l') g () (λi s=>by rw[<-r.ln];rwa[E i s]);erw[(ex,(dg.mpr (r.nd,(dg.mp R.nd).2.1,λx d y C z=>N y C (z▸d)),λx d=>(bE.mp d).elim (r.dj x) λy z=>R.dj x (aW _ y) (pS.mpr (.inl z)),by rw[a,aq,<-r.ln];lia,λx d=>R.gs x (pS.mpr (.inl d)),λj c o h1 f=>?_))];rcases b j o f with ⟨k,t,k1,k2,rfl⟩|⟨k1,k2⟩|⟨t,k1,k2,rfl⟩;.rw[aX (E j (aL k1))]at h1;exact(R.ob k c t (by rw[aX (by rw[m.1];exact(aw.mp k1).1),m.2,k1];rwa[h1]) k2).up E
 .let D:j<Á M:=by rw[r.ln];exact(aw.mp k2).1
  rw[aX D]at h1;rwa[uU.mv (ex.mv r) (λ_ _=>ex.at) (λu hu=>e.keep c u (λz=>by let(i,s,v):=oS.mp z;let(l1,F):=aw.mp h1;let(l2,v):=aw.mp v;let:=(iH r.nd).mp (F.trans v.symm);rwa[k1 (this▸s)]) hu) (λI A=>ex.keep I _ (r.no A Ŗ) A) (r.ob j c o h1 k2)]
 .rw[aQ (by rw[r.ln];rwa[k1])]at h1;erw[(R.ob _ c t ?_ k2).up E];rw[aQ nofun,m.1,show(Á ρ)+(j-Á h)-Á ρ=j-Á M by rw[r.ln];lia];rwa[h1]
end
def sD(r:bq (Y.z G) M H h)(i:cU (Y.z G) M H ds vs)(q:TX ρ C ds h Q x)(out:∀d h' m H' v,Ext M H m H'->bq (Y.z G) m H' h'->eK (Y.z G) m H' d v->Q d h'->k v H')(b:∀c h' m H',Ext M H m H'->bq (Y.z G) m H' h'->x c h'->rB Y.t.ca EV c H'):dG Y C vs H k EV:=by
 let(c,q):=cJ q;rw[aK]at c;let a:=G3 c.1;split at q;.left
 .ext l n;let(o,E):=r.dn a n;erw[(_,_,l,_,_,_,o,i.dn E c.2,q,λd h' m H' v e f I g=>?_,λc h' m H' e f g=>?_)];.let(L,rfl):=e.pre;let(j,R):=r.up a E e f;rw[r.ln]at R;let i2:=I.up E;rw[r.ln]at i2;rwa[out _ _ _ _ v j R i2 g]
  .let(L,rfl):=e.pre;let(j,R):=r.up a E e f;rw[r.ln]at R;rwa[b _ _ _ _ j R g]
def wp(ρ:Ϙ)(C:Ct)(x:XP)(Q:KP):KP:=λds h=>TX ρ C ds h (qD Q) x
def eV(ρ:Ϙ)(C:Ct)(A:Sm):Sm:=λx σ h Q=>A x σ h (wp ρ C x Q)
def Pz(h:dm 'X' E (eV ρ C A) τ H m):gv 'X' E A τ H λvs n=>dG 'X' C vs n m E:=by let(G,M,σ,s,o,Q,k,q):=h;exact(G,M,σ,s,o,_,(k.rel,k.env,λd y z D v e R i u=>sD R i u (λd2 f M2 g w j r I l=>k.out d2 f M2 g w (e.trans j) r I l) λc f M2 g j r l=>k.exc c f M2 g (e.trans j) r l,k.exc),q)
def QE:Ss:=λN σ h=>N.nx σ h
def nu(m n:Ss):Ss:=λN σ h=>m (N.sq n) σ h
def afa(m n:Ss):Ss:=λN σ h=>∃R:Es->Hs->ß,m (N.cu R) σ h/\∀a H,R a H->n N a H
def zn:Ss:=λN σ h=>N.ct σ h
def kEx(N:En)(σ:Es):KP:=λ_ h=>N.nx σ h
def wE(A:Sm):Ss:=λN σ h=>A N.xc σ h (kEx N σ)
def kR(N:En):KP:=λx h=>m1 x λd=>N.rt d h
def qS(A:Sm):Ss:=λN σ h=>A N.xc σ h (kR N)
def kI(m n:Ss)(N:En)(σ:Es):KP:=λx h=>mB x λb=>br b (m N σ h) (n N σ h)
def Vi(T:Sm)(m n:Ss):Ss:=λN σ h=>T N.xc σ h (kI m n N σ)
def kS(i:Ń)(N:En)(σ:Es):KP:=λx h=>m1 x λd=>N.nx (σ.set i (O d)) h
def AA(i:Ń)(A:Sm):Ss:=λN σ h=>A N.xc σ h (kS i N σ)
def sy:Ϙ->ϑ->Es->Ő Es|[],[],σ=>O σ|i::I,x::X,σ=>sy I X (σ.set i (O (.p x)))|_,_,_=>ao
def kU(is:Ϙ)(N:En)(σ:Es):KP:=λx h=>match x with
 |[.p (.T y)]=>match sy is y σ with|O a=>N.nx a h|ao=>ŧ
 |_=>ŧ
def Qa(is:Ϙ)(A:Sm):Ss:=λN σ h=>A N.xc σ h (kU is N σ)
def kRs(C:Ń)(N:En):KP:=λ_ h=>N.xc C h
def aav(C:Ń)(A:Sm):Ss:=λN σ h=>A N.xc σ h (kRs C N)
def Yc.IP{Z:Tx}{τ:Ç}{H H':Hp}{D:Õ}{M g:Ł _}{σ:Es}{h:Hs}{N:En}(k:Yc Z E τ H D M σ h N)(e:Ext M H g H'):∀C d f H1,Ext g H' f H1->bq Z f H1 d->N.xc C d->rB Z.ca E C H1:=λC d f H1 x r q=>k.exc C d f H1 (e.trans x) r q
def Yc.go(k:Yc Z E τ H D M σ h N)(e:Ext M H f H')(r:bq Z f H' h')(v:dB Z f H' σ' d):Yc Z E d H' D f σ' h' N:=(r,v,λ_ _ _ _ _ x=>k.nx _ _ _ _ _ (e.trans x),λ_ _ _ _ _ x=>k.rt _ _ _ _ _ (e.trans x),λ_ _ _ _ _ x=>k.bk _ _ _ _ _ (e.trans x),λ_ _ _ _ _ x=>k.ct _ _ _ _ _ (e.trans x),k.IP e)
def Hc:jt X [] (eJ 'X' E QE):=U0.imp λD τ H z=>by let(G,M,σ,h,N,k,q):=z;rwa[k.nx σ h M H τ Ext.refl k.rel k.env q]
def aaB(h:eJ 'X' E (nu m n) D τ H):VJ (eJ 'X' E m) (eJ 'X' E n) D τ H:=by let(G,M,σ,h,N,k,q):=h;exact(G,M,σ,h,N.sq n,(k.rel,k.env,λd f g j i e r v q=>(G,g,d,f,N,k.go e r v,q),k.rt,k.bk,k.ct,k.exc),q)
def BV{st:É}(h:PS X st (eJ 'X' E m))(H:jt X rest (eJ 'X' E n)):jt X (st::rest) (eJ 'X' E (nu m n)):=(kb h H).imp λ_ _ _=>aaB
def UC{st:É}(f:PS X st (eJ 'X' E m))(g:jt X rest (eJ 'X' E n)):jt X (st::rest) (eJ 'X' E (afa m n)):=(kb f g).imp λD τ H z=>by let(G,M,σ,h,N,k,R,q,i):=z;exact(G,M,σ,h,N.cu R,(k.rel,k.env,λd j l s o e r v q=>(G,l,d,j,N,k.go e r v,i _ _ q),k.rt,k.bk,k.ct,k.exc),q)
def He{st:É}(h:PS X st (eJ 'X' E m)):jt X [st] (eJ 'X' E m):=oJ h
def υ:PS X (.Continue pos) (eJ 'X' E zn):=BX.imp λD τ H z=>by let(G,M,σ,h,N,k,q):=z;rwa[k.ct σ h M H τ Ext.refl k.rel k.env q]
def χ(f:PE X e (dm 'X' E A))(s:hF e ao pos.line X.env=pure bb):PS X (.Expr e pos) (eJ 'X' E (wE A)):=(UW f s).imp λD τ H z=>by let(G,M,σ,h,N,k,q):=z;exact(G,M,σ,h,_,_,(k.rel,k.env,λd g j l v e r i q=>k.nx σ g j l τ e r (k.env.ext k.rel e) q,k.exc),q)
def Hf(f:PE X e (dm 'X' E A)):PS X (.Return (O e) pos) (eJ 'X' E (qS A)):=(Ar f).imp λD τ H z=>by let(G,M,σ,h,N,k,q):=z;exact(G,M,σ,h,_,_,(k.rel,k.env,λd g j l v e r i q=>k.rt d g j l v e r i q,k.exc),q)
def Oq(i:PT X c (kM 'X' E T))(j:jt X sa (eJ 'X' E m))(l:jt X sb (eJ 'X' E n)):PS X (.If c sa sb pos) (eJ 'X' E (Vi T m n)):=(aeL i j l).imp λD τ H z=>by let(G,M,σ,h,N,k,q):=z;erw[(G,M,σ,h,_,_,(k.rel,k.env,λd f g s e r Q=>?_,k.exc),q)];let(b,o,Q):=Xh Q;erw[(b,o,?_)];induction b with|d=>exact(G,g,σ,f,N,k.go e r (k.env.ext k.rel e),Q)|e=>exact(G,g,σ,f,N,k.go e r (k.env.ext k.rel e),Q)
def UD{st:É}(s:∀f,PE X e f->PS X st (tZ f (lO i)))(g:PE X e (dm 'X' E A)):PS X st (eJ 'X' E (AA i A)):=(s _ g).imp λD τ H z=>by let(G,M,σ,h,N,k,q):=z;exact(G,M,σ,h,_,_,(k.rel,k.env,λd j l o v e r i q=>k.nx _ j l o _ e r ((k.env.ext k.rel e).set i) q,k.exc),q)
def Mu:Ϙ->Wy|[]=>ō|i::I=>WX (lO i) (Mu I)
theorem C7:∀{is:Ϙ}{ys:ϑ}{vs:ϕ}{σ σ':Es}{τ:Ç},sy is ys σ=O σ'->aY Z M H ys vs->dB Z M H σ τ->(∀d,dB Z M H σ' d->R d H)->Mu is vs τ H R|[],[],[],σ,σ',τ,e,_,v,q=>by cases e;exact(Ŗ,q τ v)|[],[],_::_,_,_,_,_,h,_,_=>by done|[],_::_,_,_,_,_,e,_,_,_=>by cases e|_::_,[],_,_,_,_,e,_,_,_=>by cases e|_::_,_::_,[],_,_,_,_,h,_,_=>by done|i::is,y::ys,w::vs,σ,σ',τ,e,h,v,q=>by exact(w,vs,Ŗ,C7 e h.2 (v.set h.1) q)
theorem aY.len:∀{ys:ϑ}{vs:ϕ},aY Z M H ys vs->Á ys=Á vs|[],[],_=>Ŗ|[],_::_,h=>by done|_::_,[],h=>by done|_::_,_::_,h=>by rw[aR,aR,aY.len h.2]
theorem pZ:∀{is:Ϙ}{ys:ϑ}{σ σ':Es},sy is ys σ=O σ'->Á ys=Á is|[],[],_,_,_=>Ŗ|[],_::_,_,_,e=>by cases e|_::_,[],_,_,e=>by cases e|_::is,_::ys,_,_,e=>by rw[aR,aR,pZ (is:=is) e]
def UE{st:É}(u:∀o,PE X e o->PS X st (tZ o (ZH X.K (Á is) (Mu is))))(w:PE X e (dm 'X' E A)):PS X st (eJ 'X' E (Qa is A)):=(u _ w).imp λD τ H z=>by
 let(G,M,σ,h,N,k,q):=z;erw[(G,M,σ,h,_,_,(k.rel,k.env,λd x y C v e r i q=>?_,k.exc),q)];delta kU at q;split at q
 .ext Y g;injection g with g;subst g;split at q;.ext j f;let(a,F,rfl,s,i):=i;exact(a,F,Ŗ,s,by rw[<-i.len];rwa[pZ f],C7 f i (k.env.ext k.rel e) λl v=>k.nx j x y C l e r v q)
  .left
 .left
def JD{st:É}{C:Ń}(g:Ë 1000 C=bb)(s:∀f,PE X e f->PS X st (PK E (t.ca C) f))(j:PE X e (dm 'X' E A)):PS X st (eJ 'X' E (aav C A)):=(s _ j).imp λD τ H z=>by let(G,M,σ,h,N,k,q):=z;exact(G,M,σ,h,_,_,(k.rel,k.env,λd l o u v e r i q=>(k.exc C l o u e r q).cls g,k.exc),q)
abbrev Im:=XP->Es->Hs->(ϑ->Hs->ß)->ß
inductive Tg where|one(i:Ń)|many(is:Ϙ)
def QW:Tg->Pv->Es->Ő Es|.one i,x,σ=>O (σ.set i (O (.p x)))|.many I,.T y,σ=>sy I y σ|.many _,_,_=>ao
def Sy(K:Ä):Tg->TG|.one i=>lO i|.many I=>ZH K (Á I) (Mu I)
def Sz(e:QW t x σ=O σ')(i:eg Z M H x v)(r:dB Z M H σ τ)(q:∀b,dB Z M H σ' b->R b H):Sy Z.K t v τ H R:=by induction t with|one j=>cases e;rwa[q _ (r.set i)]|many I=>cases x with|T y=>let(a,c,rfl,s,i):=i;exact(a,c,Ŗ,s,by rw[<-i.len];rwa[pZ e],C7 e i r q)|_=>cases e
def Wv(Y:T0)(G:Ł À)(M:Ł À)(H:Hp)(j:It)(xs:ϑ):ß:=∀g m h a,(∀b∈g,b∈G\/H b=ao)->Ext M H m h->bq (Y.z g) m h a->(∀(i:Ń)x,xs[i]?=O x->j.go i h/\∀v p,j.yld i h v p->Ext m h m p/\bq (Y.z g) m p a/\eg (Y.z g) m p x v)/\j.stop (Á xs) h
structure KnI(Y:T0)(G:Ł À)(E:XK)(τ:Ç)(H:Hp)(R:It->Hp->ß)(M:Ł À)(σ:Es)(h:Hs)(xc:XP)(Q:ϑ->Hs->ß):ß where
 rel:bq (Y.z G) M H h
 env:dB (Y.z G) M H σ τ
 out:∀xs h' M' H' a,Ext M H M' H'->bq (Y.z G) M' H' h'->Wv Y G M' H' a xs->Á xs<=Ã->Q xs h'->R a H'
 exc:∀C h' M' H',Ext M H M' H'->bq (Y.z G) M' H' h'->xc C h'->rB Y.t.ca E C H'
inductive AG(Y:T0)(E:XK)(m:Im)(τ:Ç)(H:Hp)(R:It->Hp->ß):ß|mk(G M:Ł À)(σ:Es)(h:Hs)(xc:XP)(Q:_)(k:KnI Y G E τ H R M σ h xc Q)(q:m xc σ h Q):AG Y E m τ H R
def mE(k:Ń)(R:Es->Hs->ß):Es->Hs->ß:=λσ h=>gd (bH k (h.take k)) (R (Rm k σ) (h.take k))
@[irreducible]def DQ(k:Ń)(xs:ϑ)(a:Pv->Es->Ő Es)(b:Ss)(N:En)(σ:Es)(h:Hs):ß:=∃W:Ń->Es->Hs->ß,W 0 σ h/\(∀(i:Ń)x c H,xs[i]?=O x->W i c H->match a x c with|O d=>b (N.lp (mE k (W (i+1))) (mE k N.nx)) d H|ao=>ŧ)/\∀c H,W (Á xs) c H->N.nx c H
def TK(t:Tg)(b:Ss)(N:En)(σ:Es)(xs:ϑ)(h:Hs):ß:=DQ (Á h) xs (QW t) b N σ h
def akx(t:Tg)(I:Im)(b:Ss):Ss:=λN σ h=>I N.xc σ h (TK t b N σ)
def wLt(W:Ń->Es->Hs->ß)(m:Ń)(σ:Es)(h:Hs):ß:=∃M,M<m/\W M σ h
def kWh(b:Ss)(N:En)(W:Ń->Es->Hs->ß)(m:Ń)(h:Hs)(σ':Es):KP:=λx H=>mB x λc=>br c (b (N.lp (mE (Á h) (wLt W m)) (mE (Á h) N.nx)) σ' H) (N.nx σ' H)
def Ů(T:Sm)(b:Ss):Ss:=λN σ h=>∃W:Ń->Es->Hs->ß,(∃m,W m σ h)/\∀m a H,W m a H->T N.xc a H (kWh b N W m h a)
section
variable{t:Tb}{X:Cx}{E:XK}{st:É}{A T:Sm}{I:Im}{b:Ss}{tg:Tg}
def nK(d:bq Z M H h)(e:Ext M H m H')(r:bq Z m H' h')(v:dB Z m H' σ τ)(q:mE (Á h) R σ h'):∃h2 a,Ext M H M H'/\bq Z M H' h2/\dB Z M H' a τ/\R a h2:=by
 let(c,q):=cJ q;let g:m.take (Á h)=M:=by let(l,rfl):=e.pre;rw[<-d.ln,oU]
 let e2:=e.cut (by rw[d.ln];rwa[ah _]);let f:=r.cut _ c;let v2:=v.cut r (Á h);rw[g]at e2 f v2;exact(_,_,e2,f,v2,q)
def ZC(h:eJ 'X' E (akx tg I b) D τ H):Kj (AG 'X' E I) (Sy X.K tg) (eJ 'X' E b) D τ H:=by
 let(G,M,σ,h0,N,k,q):=h;erw[(G,M,σ,h0,N.xc,_,(k.rel,k.env,λx h1 c H1 j L r1 jo hz q=>?_,k.exc),q)];delta TK DQ at q;erw[cps λR k0=>?_];let(W,w0,P,fin):=q;erw[k0 (λi m n u=>m=Á x-i/\i<=Á x/\∃a e,Ext c H1 c u/\bq ('X'.z G) c u e/\dB ('X'.z G) c u a n/\W i a e,(_,Ŗ,aN _,σ,h1,Ext.refl,r1,k.env.ext k.rel L,w0),?_)];erw[λi m n u z=>cps λR k1=>?_];let(rfl,hi,a,e,e2,r2,v2,w):=z;let(ja,jb):=jo G c u e (λ_ z=>.inl z) e2 r2;by_cases o7:i<Á x
 .let(g,y):=ja i x[i] (ar o7);erw[k1 (.inr (g,λo H2=>∃m',m'<Á x-i/\m'=Á x-(i+1)/\i+1<=Á x/\∃a e,Ext c H1 c H2/\bq _ c H2 e/\dB _ c H2 a o/\W _ a e,λo H2 zz=>by let(m',hm,z):=zz;exact(m',hm,z),λv pK yl=>cps λR k2=>?_))];let(e3,r3,ip):=y v pK yl;let q:=P i _ a e (ar o7) w;split at q
  .ext σ2 hσ;erw[k2 (Sz hσ ip (v2.ext r2 e3) λo v4=>?_)];let S:=e2.trans e3;erw[(G,c,σ2,e,_,(r3,v4,?_,?_,?_,?_,?_),q)];.intro U B F p s l r Y Q;let(Z,f,e6,r6,v6,q6):=nK r1 (S.trans l) r Y Q;exact(_,(),Ŗ,dh ‹_›,f,Z,e6,r6,v6,q6)
   .rwa[λd B F p v l r i5 Q=>k.rt d B F p v (L.trans (S.trans l)) r i5 Q]
   .intro U B F p s l r Y Q;let(Z,f,e6,r6,v6,q6):=nK r1 (S.trans l) r Y Q;rwa[k.nx f Z c p s (L.trans e6) r6 v6 q6]
   .intro U B F p s l r Y Q;let(Z,f,e6,r6,v6,q6):=nK r1 (S.trans l) r Y Q;exact(_,(),Ŗ,dh ‹_›,f,Z,e6,r6,v6,q6)
   .rwa[λC B F p l r Q=>k.exc C B F p (L.trans (S.trans l)) r Q]
  .left
 .let hx:i=Á x:=()
  subst hx;rwa[k1 (.inl (jb,k.nx a e c u n (L.trans e2) r2 v2 (fin a e w)))]
def Qe(h:eJ 'X' E (Ů T b) D τ H):PL (kM 'X' E T) (eJ 'X' E b) D τ H:=by
 obtain⟨G,M,σ,F,N,k,W,⟨m0,w0⟩,u⟩:=h;erw[(λm n K=>∃a h',Ext M H M K/\bq ('X'.z G) M K h'/\dB ('X'.z G) M K a n/\W m a h',(m0,σ,F,Ext.refl,k.rel,k.env,w0),?_)]
 rintro m n K ⟨a,h',e2,Y,Z,w⟩;erw[(G,M,a,h',N.xc,_,(Y,Z,λd L y P e1 r1 S=>?_,λC L y P x r q=>k.exc C L y P (e2.trans x) r q),u m a h' w)];let(c,hc,S):=Xh S;erw[(c,hc,?_)];let e3:=e2.trans e1;induction c with|d=>
  rw[b5 Ŗ];erw[(λB U=>∃e,e<m/\∃a h',Ext M H M U/\bq ('X'.z G) M U h'/\dB ('X'.z G) M U a B/\W e a h',λB U z=>z,?_)];let nx:∀i l j f g,Ext y P j f->bq ('X'.z G) j f l->dB ('X'.z G) j f i g->mE (Á F) (λo h2=>∃e,e<m/\W e o h2) i l->∃e,e<m/\∃a h',Ext M H M f/\bq ('X'.z G) M f h'/\dB ('X'.z G) M f a g/\W e a h':=by intro i l j f g p R v5 Q;let(h6,s,e6,r6,v6,e,hm,q6):=nK k.rel (e3.trans p) R v5 Q;exact(e,hm,s,h6,e6,r6,v6,q6)
  erw[(G,y,a,L,N.lp (mE (Á F) λo h2=>∃e,e<m/\W e o h2) (mE (Á F) N.nx),(r1,Z.ext Y e1,nx,λd l j f v p R i5 Q=>k.rt d l j f v (e3.trans p) R i5 Q,?_,nx,λC l j f p R Q=>k.exc C l j f (e3.trans p) R Q),S)];intro i l j f g p R v5 Q;let(h6,s,e6,r6,v6,q6):=nK k.rel (e3.trans p) R v5 Q;rwa[k.nx s h6 M f g e6 r6 v6 q6]|e=>rw[bM aF];rwa[k.nx a L y P n e3 r1 (Z.ext Y e1) S]
theorem aY.get:∀{xs:ϑ}{vs:ϕ}{i:Ń}{x:Pv},aY Z M H xs vs->xs[i]?=O x->∃v,vs[i]?=O v/\eg Z M H x v|[],_,_,_,_,e=>by grind|_::_,[],_,_,h,_=>by done|_::_,v::_,0,_,h,e=>by cases e;exact(v,Ŗ,h.1)|_::_,_::_,i+1,_,h,e=>by let(w,c,a):=aY.get h.2 (by done);exact(w,by done,a)
def X0{G M:Ł À}{H:Hp}{g:Ł _}(c:∀b∈g,b∈G\/H b=ao):∀a,a∈M\/a∈g->a∈M\/a∈G\/H a=none:=λa h=>h.elim .inl λz=>.inr (c a z)
def eg.wk{Y:T0}(a:∀b∈g,b∈G\/H b=ao)(h:eg (Y.z G) M H x v):eg (Y.z g) M H x v:=eg.fr (X0 a) h
def aY.wk{Y:T0}(a:∀b∈g,b∈G\/H b=ao)(h:aY (Y.z G) M H x v):aY (Y.z g) M H x v:=aY.fr (X0 a) h
def adO(r:bq (Y.z G) M H h)(n:a∉M)(s:Rd H a (.L vs))(q:aY (Y.z G) M H xs vs):Wv Y G M H (Gc Y.K a) xs:=λl m d o g e R=>by let S:gA Y.K d a vs:=.inl ((e.mv r).rd n s);erw[(λi x f=>?_,(vs,S,by rw[q.len];rwa[ah _]))];let(v,c,j):=(aY.mv (e.mv r) (aY.wk g q)).get f;erw[((vs,v,S,c),λw p Z=>Z.elim λk y=>?_)];subst k;let hw:=y vs S;rw[c]at hw;cases hw;exact(Ext.refl,R,j)
def Ż(r:bq (Y.z G) M H h)(s:g9 Y.K H a vs)(q:aY (Y.z G) M H xs vs):Wv Y G M H (FM Y.K a) xs:=λk m l n g e R=>by let s':=(e.mv r).sqT s;erw[(λi x d=>?_,(vs,s',by rw[q.len];rwa[ah _]))];let(v,c,f):=(aY.mv (e.mv r) (aY.wk g q)).get d;erw[((vs,v,s',c),λw p Z=>Z.elim λj y=>?_)];subst j;let hw:=y vs s';rw[c]at hw;cases hw;exact(Ext.refl,R,f)
def tX(lo:Î)(n:Ń):ϑ:=(ä n).map λ(i:Ń)=>.I (lo+i)
def ϣ{lo:Î}:Wv Y G M H (tp lo n) (tX lo n):=λg m d f j e r=>by
 erw[(λi x h=>?_,show n<=Á (tX lo n)by delta tX;rw[ae,eM];rwa[ah _])];delta tX at h;rw[aM]at h;by_cases a:i<n;.rw[List.getElem?_range a]at h;cases h;erw[(a,λw p z=>z.elim λc y=>?_)];subst c y;exact(Ext.refl,r,by rfl)
 .left
def lK(n:Ń)(s:Ϙ)(σ:Es):Es:=Ò n ao++s.map λj=>σ[j]?.join
def YU(k:Ń)(R:Hs->ß):Hs->ß:=λh=>gd (bH k (h.take k)) (R (h.take k))
def VQ(n:Ń):Tg->Þ|.one i=>Đ (i<n)|.many is=>is.all λi=>Đ (i<n)
@[irreducible]def nJ(H:Hs)(xs:ϑ)(e:Pv->Ő Es)(T A:Es->Hs->KP->ß)(Q:ϑ->Hs->ß):ß:=∃W:Ń->ϑ->Hs->ß,W 0 [] H/\(∀(i:Ń)y a h,xs[i]?=O y->W i a h->match e y with
  |O c=>T c h λbs d=>match bs with|[.p (.B b)]=>br b (A c d λY f=>match Y with|[.p y]=>YU (Á H) (W (i+1) (a++[y])) f|_=>ŧ) (YU (Á H) (W (i+1) a) d)|_=>ŧ
  |ao=>ŧ)/\∀a h,W (Á xs) a h->Q a h
def yC(n:Ń)(j:Ϙ)(tg:Tg)(I:Im)(T A:Sm)(x:Þ):Sm:=λa σ h Q=>I a σ h λs H=>nJ H s (λy=>QW tg y (lK n j σ)) (T λc h=>x=J/\a c h) (A λc h=>x=J/\a c h) λd e=>Q [.p (.L d)] e
theorem yE:∀{is:Ϙ}{ys:ϑ}{σ σ':Es},(is.all λi=>Đ (i<n))=J->sy is ys σ=O σ'->Á σ'=Á σ/\∀i,n<=i->σ'[i]?=σ[i]?|[],[],_,_,_,e=>by cases e;exact(Ŗ,λ_ _=>Ŗ)|[],_::_,_,_,_,e=>by cases e|_::_,[],_,_,_,e=>by cases e|j::is,y::ys,σ,σ',h,e=>by rw[b8,aK]at h;let(a,b):=yE h.2 e;erw[(by grind,λi H=>?_)];rw[b i H,cW ()]
def Yn(h:VQ n tg)(e:QW tg x σ=O σ'):Á σ'=Á σ/\∀i,n<=i->σ'[i]?=σ[i]?:=by induction tg with|one j=>cases e;let H:=bL h;exact(by rw[cH],λi a=>by rw[cW ()])|many s=>cases x with|T y=>rwa[yE h e]|_=>cases e
def Lo(v:dB Z M H σ τ)(n:Ń)(s:Ϙ):dB Z M H (lK n s σ) (sJ n s τ):=by
 erw[(by delta lK sJ;rw[aq,aq,ae,ae,cC,cC],λi d h=>?_)];delta lK at h;delta sJ;by_cases c:i<n;.rw[aX nofun,fY,b5 c]at h;cases h
 .rw[aQ (by rw[cC];rwa[c6.mp ‹_›]),cC,aM]at h⊢;induction e:s[i-n]? with|a=>left|c j=>rw[e]at h;induction a:σ[j]? with|a=>left|c o=>
    rw[Option.map_some,a]at h;let f:=by simpa using h
    subst f;let(w,k,g):=v.at' j d a;exact(w,nofun,g)
def Iw{a:Es}(l:Á a=Á (lK n j σ))(g:∀i,n<=i->a[i]?=(lK n j σ)[i]?)(v:dB Z M H a τ2):dB Z M H (lK n j σ) τ2:=by
 erw[(l▸v.ln,λi d h=>?_)];by_cases c:i<n;.delta lK at h;rw[aX nofun,fY,b5 c]at h;cases h
 .rwa[v.at' i d (by rw[g i (c6.mp ‹_›)];rwa[h])]
section
variable{Y:T0}{G M:Ł À}{H:Hp}{a:À}{h:Hs}
def EZ{b:À}(e:H a=O o)(c:b≠a)(r:Rd H b u):Rd (dq H a d) b u:=by
 rcases r with r|⟨q,r⟩;.rwa[.inl (by rw[bA c];rwa[r])]
 .rwa[.inr (q,by rw[bA c];rwa[r])]
def Lq(e:Ae o)(d:a∈G)(c:H a=O o):Tf (Y.z G) G M H M (dq H a f):=(λ{b _}s=>by rw[bA λz:b=a=>by rw[z,c]at s;cases s;cases e];rwa[s],λs=>EZ c (λz=>by subst z;rcases s with r|⟨o,r⟩<;>rw[c]at r<;>cases r<;>cases e) s,λn _=>n,λ{b _}n _ s=>by rw[bA λz:b=a=>n.2 (z▸d)];rwa[s],λn s=>EZ c (λz=>n.2 (z▸d)) s,λn s=>EZ c (λz=>n.2 (z▸d)) s)
def eg.chg(d:Ae o)(e:a∈G)(f:H a=O o)(h:eg (Y.z G) M H x v):eg (Y.z G) M (dq H a c) x v:=eg.tf (Lq d e f) h
def aY.chg(d:Ae o)(e:a∈G)(f:H a=O o)(h:aY (Y.z G) M H x v):aY (Y.z G) M (dq H a c) x v:=aY.tf (Lq d e f) h
theorem eK.chg(e:Ae o)(f:a∈G)(g:H a=O o)(q:eK (Y.z G) M H d v):eK (Y.z G) M (dq H a c) d v:=by induction d with|p x=>rwa[eg.chg e f g q]|r i=>rwa[q]
theorem cU.chg(c:Ae o)(d:a∈G)(e:H a=O o):∀{ds:Ł Dv}{vs:ϕ},cU (Y.z G) M H ds vs->cU (Y.z G) M (dq H a f) ds vs|[],[],_=>Ť|[],_::_,q=>q|_::_,[],q=>q|_::_,_::_,q=>(q.1.chg c d e,cU.chg c d e q.2)
theorem dB.chg(e:Ae o)(f:a∈G)(g:H a=O o)(q:dB (Y.z G) M H σ τ):dB (Y.z G) M (dq H a c) σ τ:=(q.ln,λi d j=>let (v,k,q):=q.at' i d j;(v,k,q.chg e f g))
theorem bq.chg(c:Ae o)(f:a∈G)(d:H a=O o)(N:a∉M)(r:bq (Y.z G) M H h):bq (Y.z G) M (dq H a j) h:=by erw[(r.nd,r.dj,r.ln,λb g=>rh (r.gs b g),λi b m p s=>?_)];let g:b≠a:=λz=>N (z▸aL p);let q:=r.ob i b m p s;induction m with|L x=>let(v,e,q):=q;exact(v,by rw[bA g];rwa[e],aY.chg c f d q)|D x=>let(v,e,q):=q;exact(v,by rw[bA g];rwa[e],q.chg c f d)|C k u=>let(U,e,q,Q):=q;exact(U,by rw[bA g];rwa[e],aY.chg c f d q,aY.chg c f d Q)|I C fs=>let(w,y,e,n,l,q):=q;exact(w,y,by rw[bA g];rwa[e],by rw[bA λz=>by rw[z,d]at n;cases n;cases c];rwa[n],l,q.chg c f d)|K k=>show dq H a j b=_;rw[bA g];rwa[q]|E k ds=>let(U,e,q,Q):=q;exact(U,by rw[bA g];rwa[e],aY.chg c f d q,Q.chg c f d)|F B k u=>let(U,e,q,Q):=q;exact(U,by rw[bA g];rwa[e],aY.chg c f d q,aY.chg c f d Q)
theorem eK.wk(c:∀b∈g,b∈G\/H b=ao)(q:eK (Y.z G) M H d v):eK (Y.z g) M H d v:=by induction d with|p x=>rwa[eg.wk c q]|r i=>rwa[q]
theorem cU.wk(c:∀b∈g,b∈G\/H b=ao):∀{ds:Ł Dv}{vs:ϕ},cU (Y.z G) M H ds vs->cU (Y.z g) M H ds vs|[],[],_=>Ť|[],_::_,q=>q|_::_,[],q=>q|_::_,_::_,q=>(q.1.wk c,cU.wk c q.2)
theorem uU.wk(g:∀b∈c,b∈G\/H b=ao){b:À}(z:uU (Y.z G) M H b o):uU (Y.z c) M H b o:=by induction o with|L x=>let(v,e,q):=z;exact(v,e,aY.wk g q)|D x=>let(v,e,q):=z;exact(v,e,q.wk g)|C k u=>let(U,e,q,Q):=z;exact(U,e,aY.wk g q,aY.wk g Q)|I C fs=>let(d,f,e,n,l,q):=z;exact(d,f,e,n,l,q.wk g)|K k=>rwa[z]|E k ds=>let(U,e,q,Q):=z;exact(U,e,aY.wk g q,Q.wk g)|F i k u=>let(U,e,q,Q):=z;exact(U,e,aY.wk g q,aY.wk g Q)
def Ed(hn:H a=ao):∀b∈a::G,b∈G\/H b=none:=λb c=>(ax.mp c).elim (λz=>.inr (z▸hn)) .inl
def MM:∀b∈G,b∈a::G\/H b=none:=λb c=>.inl (aG _ c)
def dB.beg(hn:H a=ao)(r:bq (Y.z G) M H h)(q:dB (Y.z G) M H σ τ):dB (Y.z (a::G)) M (dq H a o) σ τ:=(q.ln,λi d c=>let (v,e,q):=q.at' i d c;(v,e,(q.wk (Ed hn)).mv ((Ext.add hn).mv r) λ_ _ z=>z))
def bq.beg(hn:H a=ao)(r:bq (Y.z G) M H h):bq (Y.z (a::G)) M (dq H a o) h:=by
 erw[(r.nd,λb c z=>(ax.mp z).elim (λz=>r.fresh hn (z▸c)) (r.dj b c),r.ln,λb c=>?_,λi b q d f=>?_)]
 .rcases ax.mp c with z|z;.subst z;exact(o,bC)
  .exact(r.add (o:=o) hn).gs b z
 .let k:∀{b u},H b=O u->dq H a o b=O u:=λe=>by rw[bA (cn e hn)];rwa[e]
  rwa[uU.mv ((Ext.add hn).mv r) (λ_ _ z=>z) (λ_=>k) (λ_=>k) ((r.ob i b q d f).wk (Ed hn))]
def bq.dun(r:bq (Y.z (a::G)) M H h):bq (Y.z G) M H h:=(r.nd,λb c z=>r.dj b c (aG _ z),r.ln,λb c=>r.gs b (aG _ c),λi b q d e=>(r.ob i b q d e).wk MM)
theorem aY.app:∀{xs ys:ϑ}{vs ws:ϕ},aY Z M H xs vs->aY Z M H ys ws->aY Z M H (xs++ys) (vs++ws)|[],_,[],_,_,q=>q|[],_,_::_,_,h,_=>by done|_::_,_,[],_,h,_=>by done|_::_,_,_::_,_,h,q=>by exact(h.1,aY.app h.2 q)
def aY.one(h:eg Z M H x v):aY Z M H [x] [v]:=by done
end
def x5(v2:dB Z M e (lK n s σ) c)(v6:dB Z m H a τ4)(g:Á a=Á (lK n s σ))(G:∀i,n<=i->a[i]?=(lK n s σ)[i]?)(R:bq Z m H f)(l:k=Á M)(o:m.take k=M):dB Z M H (lK n s σ) τ4:=by let v:=Iw g G v6;erw[(v.ln,λi d h=>?_)];let(w,q,y):=v.at' i d h;erw[(w,q,?_)];let(u,_,B):=v2.at' i d h;let z:=y.cut R (by induction d with|p x=>rfl|r j=>let(b,C,_):=B;rwa[cM (l▸(aw.mp C).1)]);rw[o]at z;rwa[z]
def um(hE:∀c od H,x=J->E c od H->E1 c od H)(ht:VQ n tg)(h:dm 'X' E (yC n js tg I T A x) τ H QV):tD (AG 'X' E I) (Sy X.K tg) (kM 'X' E1 T) (dm 'X' E1 A) (sJ n js) τ H QV:=by
 let(G,M,σ,h0,xc,Q,k,q):=h;erw[(G,M,σ,h0,xc,_,(k.rel,k.env,λF e M1 H1 j e1 s jo hz q=>?_,k.exc),q)];delta nJ at q;erw[λa r9=>cps λR k0=>?_];let(W,w0,turn,fin):=q;let(N,naG):=s.pQ r9;let ea:Ext M1 H1 M1 (dq H1 a (.L [])):=Ext.add r9;let v1:=k.env.ext k.rel e1;let Z:Tx:='X'.z (a::G);let Y:a∈a::G:=aJ;erw[k0 (λi m τ2 ys P=>m=Á F-i/\i<=Á F/\P a=O (.L ys)/\Á ys<=i/\∃ps S,Ext M1 H1 M1 P/\bq Z M1 P S/\dB Z M1 P (lK n js σ) τ2/\aY Z M1 P ps ys/\W i ps S,(_,Ŗ,aN _,bC,aN _,[],e,ea,s.beg r9,(Lo v1 n js).beg r9 s,Ť,w0),?_)];erw[λi m τ2 ys P z=>cps λR k1=>?_];let(rfl,hi,ha,hly,ps,S,e2,r2,v2,p2,w):=z;let(ja,jb):=jo (a::G) M1 P S (Ed r9) e2 r2;by_cases o7:i<Á F
 .let(g,y):=ja i F[i] (ar o7);erw[k1 (ha,.inr (g,(),λv pK yl=>cps λR k2=>?_))];let(e3,r3,ip):=y v pK yl;let q:=turn i F[i] ps S (ar o7) w;split at q
  .ext σ2 hσ;let(gl,gg):=Yn ht hσ;erw[k2 (Sz (Z:=Z) hσ ip (v2.ext r2 e3) λτ4 v4=>?_)];let ex:∀{U H5},Ext M1 pK U H5->∀C wW u H1',Ext U H5 u H1'->bq Z u H1' wW->x/\xc C wW->rB t.ca E1 C H1':=λf C wW u H1' x' r q=>(k.exc C wW u H1' ((e1.trans (e2.trans e3)).trans (f.trans x')) r.dun q.2).imp λc od H z=>hE c od H q.1 z;let ka:∀{U H5},Ext M1 pK U H5->H5 a=O (.L ys):=λf=>f.keep a _ N (e3.keep a _ N ha);let p3:=p2.ext r2 e3;erw[(a::G,M1,σ2,S,_,_,(r3,v4,λd h5 U H5 f r5 q5=>?_,ex Ext.refl),q)];split at q5;.ext b hb;injection hb with hb;erw[(b,hb,?_)];induction b with
    |d=>
     rw[b5 Ŗ];erw[(a::G,U,σ2,h5,_,_,(r5,v4.ext r3 f,λd6 h6 M6 H6 v6 e6 r6 i6 q6=>?_,ex f),q5)];split at q6
     .ext y hy;injection hy with hy;subst hy;let B:=f.trans e6;let D:=ka B;erw[(D,Á F-(i+1),(),Ŗ,dh ‹_›,bC,by rw[aq];simp;lia,?_)];let p:=(e2.trans e3).trans B;let(c,q7):=cJ q6;let hM:M6.take (Á e)=M1:=by let(l,rfl):=p.pre;rw[<-s.ln,oU]
      let r7:=r6.cut (Á e) c;let i7:eg Z (M6.take (Á e)) H6 y v6:=eg.mv (Mv.cut r6 (Á e)) i6;let v7:=x5 v2 (v4.ext r3 B) gl gg r6 s.ln.symm hM;let p7:aY Z (M6.take (Á e)) H6 ps ys:=aY.mv (Mv.cut r6 (Á e)) (p3.ext r3 B);rw[hM]at r7 i7 p7;let e7:=p.cut (k:=Á e) (by rw[s.ln];rwa[ah _]);rw[hM]at e7;erw[(ps++[y],_,(([],(aT M1).symm),λb o hb ho=>?_,λb hb hn=>Ă hb hn),r7.chg Ŗ Y D N,?_,(p7.app (aY.one i7)).chg Ŗ Y D,q7)];.rw[bA (cn ho r9)];rwa[e7.keep b o hb ho]
      .rwa[v7.chg Ŗ Y D]
     .rwa[q6.elim]|e=>
     rw[bM aF];erw[(Á F-(i+1),(),Ŗ,dh ‹_›,ka f,aS ‹_›,?_)];let p:=(e2.trans e3).trans f;let(c,q7):=cJ q5;let hM:U.take (Á e)=M1:=by let(l,rfl):=p.pre;rw[<-s.ln,oU]
     let r7:=r5.cut (Á e) c;let v7:=x5 v2 (v4.ext r3 f) gl gg r5 s.ln.symm hM;let p7:aY Z (U.take (Á e)) H5 ps ys:=aY.mv (Mv.cut r5 (Á e)) (p3.ext r3 f);let e7:=p.cut (k:=Á e) (by rw[s.ln];rwa[ah _]);rw[hM]at r7 p7 e7;exact(ps,_,e7,r7,v7,p7,q7)
   .rwa[q5.elim]
  .left
 .let hx:i=Á F:=()
  subst hx;erw[k1 (ha,.inl (jb,k.out _ S M1 P _ (e1.trans e2) r2.dun ?_ (fin ps S w)))];exact(a,ys,Ŗ,(N,naG),ha,aY.wk MM p2)
end
end F
namespace F
open L2 PySem.SeqAt
def Af:Ϙ->Ϙ->Þ|[],[]=>J|a::x,b::y=>Ì a b&&Af x y|_,_=>bb
def cE(a b:Å):Þ:=Af a.cps.toList b.cps.toList
theorem we:∀{x y:Ϙ},Af x y=J↔x=y|[],[]=>(λ_=>Ŗ,λ_=>Ŗ)|[],_::_=>(λh=>(aF h).elim,λh=>nomatch h)|_::_,[]=>(λh=>(aF h).elim,λh=>nomatch h)|a::x,b::y=>by show(Ì a b&&Af x y)=J↔_;rw[aK,Nat.beq_eq,we,List.cons.injEq]
def bN:cE a b=J↔a=b:=by
 delta cE;rw[we];constructor;.intro h;induction a with|mk a=>left
 .intro h;rw[h]
def oM(a b:Å):(a==b)=cE a b:=by
 by_cases h:a=b;.rw[bN.mpr h,h];rwa[iL b]
 .rw[bB.mpr λz=>h (bN.mp z)];rwa[da.mpr h]
def xz(neg b:Þ):Þ:=match neg with|J=>!b|bb=>b
def EC(neg b:Þ):xz neg b=(neg !=b):=by induction neg<;>induction b<;>rfl
def nq:Î->Î->Þ|.ofNat a,.ofNat b=>Ì a b|.negSucc a,.negSucc b=>Ì a b|_,_=>bb
def uC:Î->Î->Þ|.ofNat a,.ofNat b=>Ë a b|.negSucc _,.ofNat _=>J|.negSucc a,.negSucc b=>Ë b a|.ofNat _,.negSucc _=>bb
def tV:Î->Î->Þ|.ofNat a,.ofNat b=>Ë (a+1) b|.negSucc _,.ofNat _=>J|.negSucc a,.negSucc b=>Ë (b+1) a|.ofNat _,.negSucc _=>bb
def b'{a b:Ń}:Ë a b=J↔a<=b:=(aI,aB)
def qF:nq i j=J↔i=j:=by
 induction i<;>induction j;.exact(λh=>by rw[aV h],λh=>by rw[h];rwa[tF _])
 .exact(λh=>(by cases h),λh=>by cases h)
 .exact(λh=>(by cases h),λh=>by cases h)
 .exact(λh=>by rw[aV h],λh=>by rw[h];rwa[tF _])
def gN:uC i j=J↔i<=j:=by
 induction i<;>induction j;.rwa[b'.trans ⋯]
 .exact(λh=>(by cases h),λh=>by simp only[mh]at h;lia)
 .exact(λ_=>by simp only[mh];lia,λ_=>Ŗ)
 .rwa[b'.trans ()]
def f9:tV i j=J↔i<j:=by
 induction i<;>induction j;.rwa[b'.trans (by simp only[mh];lia)]
 .exact(λh=>(by cases h),λh=>by done)
 .exact(λ_=>by simp only[mh];lia,λ_=>Ŗ)
 .rwa[b'.trans ()]
def vE(i j:Î):nq i j=Đ (i=j):=KW.mpr (by rw[fN];rwa[qF])
def Nq(i j:Î):uC i j=Đ (i<=j):=KW.mpr (by rw[fN];rwa[gN])
def Ny(i j:Î):tV i j=Đ (i<j):=KW.mpr (by rw[fN];rwa[f9])
def b2(b:Þ):Î:=match b with|J=>1|bb=>0
def kt:Pv->Pv->Þ|.N,.N=>J|.B a,.B b=>a==b|.B a,.I b=>nq (b2 a) b|.I a,.B b=>nq a (b2 b)|.I a,.I b=>nq a b|.S a,.S b=>cE a b|_,_=>bb
def KN(p q:Pv):Þ:=match p with|.L a=>a.isEmpty|_=>kt p q
def qG:Pv->Þ|.N=>J|.B _=>J|.I _=>J|.S _=>J|_=>bb
def Mc(h:qG x):kt x x=true:=by cases x with|N=>rfl|B b=>rwa[iL b]|I i=>rwa[qF.mpr Ŗ]|S z=>rwa[bN.mpr Ŗ]|_=>cases h
section
variable{X:Cx}{be:dN}{σ:Ç}{s:bn}{Y:T0}{G M:Ł À}{H:Hp}
inductive Kf:Pv->Â->ß|iq:Kf .N .none|bl(b:Þ):Kf (.B b) (.bool b)|int(i:Î)(t:Tok):Kf (.I i) (.int i t)|str(z:Å)(t:Tok):Kf (.S z) (.str z t)
def GS(k:qG p)(h:eg (Y.z G) M H p v)(r:RelV v v'):Kf p v':=by cases p with|N=>subst h;cases r;rwa[.iq]|B b=>subst h;cases r;rwa[.bl b]|I i=>subst h;let(t,rfl):=r;rwa[.int i t]|S z=>subst h;let(t,rfl):=r;rwa[.str z t]|_=>cases k
def XE(b:Kf p v)(h:Kf q u):(RcAt A s v u (kt p q)/\RcNeAt A s v u !kt p q)/\EqAt A s v u (kt p q):=by induction b with
 |iq=>induction h with|iq=>exact((RcAt.none_none,RcNeAt.none_none),EqAt.same _)|bl d=>exact((RcAt.none_bool d,RcNeAt.none_bool d),EqAt.none_bool d)|int d t=>exact((RcAt.none_int d t,RcNeAt.none_int d t),EqAt.none_int d t)|str d t=>exact((RcAt.none_str d t,RcNeAt.none_str d t),EqAt.none_str d t)
 |bl c=>induction h with|iq=>exact((RcAt.bool_none c,RcNeAt.bool_none c),EqAt.bool_none c)|bl d=>exact((RcAt.bool_bool c d,RcNeAt.bool_bool c d),EqAt.bool_bool c d)|int d t=>show(RcAt A s _ _ (nq (b2 c) d)/\RcNeAt A s _ _ !nq (b2 c) d)/\EqAt A s _ _ (nq (b2 c) d);rw[vE];let z:=RcAt.bool_int (A:=A) (s:=s) c d t;let Z:=RcNeAt.bool_int (A:=A) (s:=s) c d t;let a:=EqAt.bool_int (A:=A) (s:=s) c d t;rw[lB]at z Z a;induction c<;>exact((z,Z),a)|str d t=>exact((RcAt.bool_str c d t,RcNeAt.bool_str c d t),EqAt.bool_str c d t)
 |int c T=>induction h with|iq=>exact((RcAt.int_none c T,RcNeAt.int_none c T),EqAt.int_none c T)|bl d=>show(RcAt A s _ _ (nq c (b2 d))/\RcNeAt A s _ _ !nq c (b2 d))/\EqAt A s _ _ (nq c (b2 d));rw[vE];let z:=RcAt.int_bool (A:=A) (s:=s) c T d;let Z:=RcNeAt.int_bool (A:=A) (s:=s) c T d;let a:=EqAt.int_bool (A:=A) (s:=s) c T d;rw[lB]at z Z a;induction d<;>exact((z,Z),a)|int d t=>show(RcAt A s _ _ (nq c d)/\RcNeAt A s _ _ !nq c d)/\EqAt A s _ _ (nq c d);rw[vE,<-lB];exact((RcAt.int_int c T d t,RcNeAt.int_int c T d t),EqAt.int_int c T d t)|str d t=>exact((RcAt.int_str c T d t,RcNeAt.int_str c T d t),EqAt.int_str c T d t)
 |str c T=>induction h with|iq=>exact((RcAt.str_none c T,RcNeAt.str_none c T),EqAt.str_none c T)|bl d=>exact((RcAt.str_bool c T d,RcNeAt.str_bool c T d),EqAt.str_bool c T d)|int d t=>exact((RcAt.str_int c T d t,RcNeAt.str_int c T d t),EqAt.str_int c T d t)|str d t=>show(RcAt A s _ _ (cE c d)/\RcNeAt A s _ _ !cE c d)/\EqAt A s _ _ (cE c d);rw[<-oM];exact((RcAt.str_str c T d t,RcNeAt.str_str c T d t),EqAt.str_str c T d t)
def PZ:Pv->Pv->Þ|.L _,.L []=>J|_,_=>bb
def aao(I:Inv X be σ H s)(k:PZ p q)(f:eg (Y.z G) M H p v)(g:eg (Y.z G) M H q u)(R:RelV v c)(i:RelV u U)(hu:A.units<Ï):RcAt A s c U (KN p q)/\RcNeAt A s c U !KN p q:=by
 delta PZ at k;split at k;.ext m;let(a,y,rfl,_,S,n):=f;let(b,ws,rfl,_,o,w):=g;cases R;cases i;let(B,d,T,_):=I.list (.inl (.inl S));let(K,e,t,_):=I.list (.inl (.inl o));let l1:=n.len.trans d.length;let l2:=w.len.trans e.length;cases mj l2.symm;cases m with|f=>cases mj l1.symm;let z:∀j(f:j<([]:Ł Â).toArray.size)(g:j<([]:Ł Â).toArray.size),EqAt A.in1 s ([]:Ł Â).toArray[j] ([]:Ł Â).toArray[j] true:=λ_ h=>Ă h (Nat.not_lt_zero _);exact(RcAt.lists T.isList t.isList Ŗ hu z,RcNeAt.lists T.isList t.isList Ŗ hu z)|g x r=>
   let l:(B.toArray.size !=([]:Ł Â).toArray.size)=true:=by rw[aZ,<-l1];rfl
   exact(RcAt.lists_lengths T.isList t.isList l hu,RcNeAt.lists_lengths T.isList t.isList l hu)
 .cases k
end
def lq(p q:Pv):Þ:=PZ p q||qG p&&qG q
def Zt(h:qG p):KN p q=kt p q:=by cases p<;>first|rfl|cases h
def Vb(Y:T0)(n:Þ):R2:=λv u H Q=>∃G M p q,eg (Y.z G) M H p v/\eg (Y.z G) M H q u/\lq p q=J/\Q (.B (n !=KN p q)) H
def O0{P:Ł _}{σ:Ç}{Y:T0}(I:Inv X P σ H s)(k:lq p q)(h:eg (Y.z G) M H p v)(b:eg (Y.z G) M H q u)(r:RelV v a)(R:RelV u U)(hu:A.units+64<Ï):RcAt A s a U (KN p q)/\RcNeAt A s a U !KN p q:=by
 rcases(jG _ _).mp k with k|k;.rwa[aao I k h b r R (b9 (aO _ _) ‹_›)]
 .rw[aK]at k;rw[Zt k.1];exact(XE (GS k.1 h r) (GS k.2 b R)).1
def R_(hu:X.A.units+64<Ï):kH X (compareOp .Eq) (Vb 'X' bb):=by intro P s σ H x y v u Q I r R h;let(G,M,p,q,a,b,k1,h):=h;erw[(O0 I k1 a b r R hu).1 _ X.w _ _ (.B _,H,I,Ŗ,?_)];rw[oP]at h;rwa[h]
def X_(hu:X.A.units+64<Ï):kH X (compareOp .NotEq) (Vb 'X' J):=by intro P s σ H x y v u Q I r R h;let(G,M,p,q,a,b,k1,h):=h;erw[(O0 I k1 a b r R hu).2 _ X.w _ _ (.B _,H,I,Ŗ,?_)];rw[qg]at h;rwa[h]
def MF:O2:=λx y h Q=>match x,y with|.p a,.p b=>gd (lq a b) (Q (.p (.B (KN a b))) h)|_,_=>ŧ
def Č:O2:=λx y h Q=>match x,y with|.p a,.p b=>gd (lq a b) (Q (.p (.B !KN a b)) h)|_,_=>ŧ
def a_:ic Y (Vb Y bb) MF:=λG M h H x y v u Q d r i j q out=>by induction x with|r _=>rwa[q.elim]|p a=>induction y with|r _=>rwa[q.elim]|p b=>let(c,q):=cJ q;exact(G,M,a,b,i,j,c,by rw[oP];rwa[out _ h M H _ Ext.refl r (by rfl) q])
def h_:ic Y (Vb Y J) Č:=λG M h H x y v u Q d r i j q out=>by induction x with|r _=>rwa[q.elim]|p a=>induction y with|r _=>rwa[q.elim]|p b=>let(c,q):=cJ q;exact(G,M,a,b,i,j,c,by rw[qg];rwa[out _ h M H _ Ext.refl r (by rfl) q])
end F
namespace F
open L2
section
variable{Y:T0}{G M:Ł À}{H:Hp}{h:Hs}{x y:Dv}{v u:V}
def nW(h:Hs):Dv->Ő ϑ
 |.p (.L X)=>O X|.r i=>match h[i]? with|O (.L X)=>O X|_=>ao
 |_=>ao
def bq.at'(r:bq Z M H h){i:Ń}(b:M[i]?=O a)(c:h[i]?=O o):uU Z M H a o:=r.ob i a o b c
def il(r:bq (Y.z G) M H h)(i:eK (Y.z G) M H x v)(e:nW h x=O xs):∃a vs,v=.A a/\H a=O (.L vs)/\aY (Y.z G) M H xs vs:=by
 delta nW at e;split at e;.cases e;let(a,vs,b,_,c,d):=i;exact(a,vs,b,c,d)
 .split at e;.ext o;cases e;let(a,b,c):=i;let(vs,d,f):=r.at' b o;exact(a,vs,c,d,f)
  .cases e
 .cases e
def j7(r:bq (Y.z G) M H h)(a:H p=ao)(i:aY (Y.z G) M H xs vs):eK (Y.z G) M (dq H p (.L vs)) (.p (.L xs)) (.A p):=by exact(p,vs,Ŗ,r.pQ a,bC,i.ext r (Ext.add a))
def vR(r:bq (Y.z G) M H h)(a:H p=ao)(i:aY (Y.z G) M H xs vs):eK (Y.z G) M (dq H p (.T vs)) (.p (.T xs)) (.A p):=by exact(p,vs,Ŗ,g9.of bC,i.ext r (Ext.add a))
def jm(s:iD H H'):Ext M H M H':=(([],(aT M).symm),λb o _ e=>s b o e,λb h n=>Ă h n)
def qR(r:bq (Y.z G) M H h)(s:iD H H'):bq (Y.z G) M H' h:=(r.nd,r.dj,r.ln,λb c=>let (o,e):=r.gs b c;(o,s _ _ e),λi a o d f=>uU.mv ((jm s).mv r) (λ_ _ z=>z) (λ_ e=>s _ _ e) (λ_ e=>s _ _ e) (r.ob i a o d f))
def f7:eK (Y.z G) M H (.p (.I i)) (.I i):=rfl
def lj:eK (Y.z G) M H (.p (.B b)) (.B b):=rfl
def GL:eK (Y.z G) M H (.p (.S z)) (.S z):=rfl
def uz:eK (Y.z G) M H (.p .N) .iq:=rfl
def eU(q:eK (Y.z G) M H (.p (.I i)) v):v=.I i:=by done
def QN(q:eK (Y.z G) M H (.p (.B b)) v):v=.B b:=by done
def pj(q:eK (Y.z G) M H (.p (.S z)) v):v=.S z:=by done
def Wu(q:eK (Y.z G) M H (.p .N) v):v=.iq:=by done
def qo(q:eK (Y.z G) M H (.p (.T xs)) v):∃a vs,v=.A a/\g9 Y.K H a vs/\aY (Y.z G) M H xs vs:=by done
def iO:Dv->Ő Î|.p (.I i)=>O i|_=>ao
def sO:Dv->Ő Å|.p (.S i)=>O i|_=>ao
def tO:Dv->Ő ϑ|.p (.T i)=>O i|_=>ao
def sT(e:iO x=O i):x=.p (.I i):=by induction x with
 |p a=>cases a<;>first|(cases e;rfl)|cases e
 |r _=>cases e
def XI(e:sO x=O i):x=.p (.S i):=by induction x with
 |p a=>cases a<;>first|(cases e;rfl)|cases e
 |r _=>cases e
def HE(e:tO x=O i):x=.p (.T i):=by induction x with
 |p a=>cases a<;>first|(cases e;rfl)|cases e
 |r _=>cases e
def d2(ds:Ł Dv)(k:Dv->Dv->ß):ß:=match ds with|[x,y]=>k x y|_=>ŧ
def Lz(q:d2 ds k):∃x y,ds=[x,y]/\k x y:=by rcases ds with _|⟨x,_|⟨y,_|_⟩⟩<;>first|exact(x,y,Ŗ,q)|rwa[q.elim]
def d1(ds:Ł Dv)(k:Dv->ß):ß:=match ds with|[x]=>k x|_=>ŧ
def WL(q:d1 ds k):∃x,ds=[x]/\k x:=by rcases ds with _|⟨x,_|_⟩<;>first|exact(x,Ŗ,q)|rwa[q.elim]
def Aj(h:gC o A B):(∃x,o=O x/\A x)\/B:=by induction o with|c x=>rwa[.inl (x,Ŗ,h)]|a=>rwa[.inr h]
def iI(x y:Dv)(k:Î->Î->ß):ß:=gC (iO x) (λi=>gC (iO y) (k i) ŧ) ŧ
def Bx(q:iI x y k):∃i j,x=.p (.I i)/\y=.p (.I j)/\k i j:=by let(i,e,q):=cK q;let(j,f,q):=cK q;exact(i,j,sT e,sT f,q)
def oI(c:Î->Î->Þ)(g:Î->Î->Î):O2:=λx y h Q=>iI x y λi j=>gd (c i j) (Q (.p (.I (g i j))) h)
def oB(g:Î->Î->Þ):O2:=λx y h Q=>iI x y λi j=>Q (.p (.B (g i j))) h
def MV(d:∀i j,c i j=J->C i j):ic Y (rI C λi j=>.I (g i j)) (oI c g):=λG M h H x y v u Q e r i j q out=>by let(a,b,rfl,rfl,q):=Bx q;let(k,q):=cJ q;exact(_,_,eU i,eU j,d _ _ k,out _ h M H _ Ext.refl r f7 q)
def GN:ic Y (EX λi j=>.B (g i j)) (oB g):=λG M h H x y v u Q c r i j q out=>by let(a,b,rfl,rfl,q):=Bx q;exact(_,_,eU i,eU j,out _ h M H _ Ext.refl r lj q)
def cT:Î->Î->Þ:=λ_ _=>J
def aj7:O2:=oI cT λi j=>i-j
def Tv:ic Y (EX λi j=>.I (i-j)) aj7:=λG M h H x y v u Q c r i j q out=>by let(a,b,rfl,rfl,q):=Bx q;exact(_,_,eU i,eU j,out _ h M H _ Ext.refl r f7 q)
def j'(i:Î):Þ:=Ë i.natAbs 18446744073709551615
def zk(i j:Î):Þ:=j' j||j' i
def Q6(h:zk i j):K1 i j:=by
 delta zk j' at h;simp only[jG,jL]at h;rcases h with h|h;.rwa[.inr ((),())]
 .rwa[.inl ((),())]
def Q4(_ j:Î):Þ:=Đ (0<j)&&Đ (j<1073741824)
def Fa:O2:=oI Q4 λi j=>i/j
def Td:ic Y (rI MJ λi j=>.I (i/j)) Fa:=MV λi j h=>by delta Q4 at h;simp only[aK,fN]at h;rwa[h]
def ah2(_ j:Î):Þ:=Đ (0<j)
def Cc:O2:=oI ah2 λi j=>i%j
def Tq:ic Y (rI (λ_ j=>0<j) λi j=>.I (i%j)) Cc:=MV λi j h=>bL h
def J5(i j:Î):Þ:=Đ (0<=j)&&Đ (j<=1000000)&&Đ (i.natAbs<2^64)
def aj6:O2:=oI J5 λi j=>i^j.toNat
def Tu:ic Y (rI ğ λi j=>.I (i^j.toNat)) aj6:=MV λi j h=>by delta J5 at h;simp only[aK,fN]at h;exact(h.1.1,h.1.2,h.2)
def Ě:O1:=λx h Q=>match x with|.p (.I i)=>Q (.p (.I (-i))) h|_=>ŧ
def Tt:QP Y (rU λi=>.I (-i)) Ě:=λG M h H x v Q a r i q out=>by
 delta Ě at q;split at q;.exact(_,eU i,out _ h M H _ Ext.refl r f7 q)
 .left
def sA(n:Ń):Þ:=Ë n Ã
def gU(h:sA n):n<=Ã:=aI h
def ŭ(h:n<=Ã):sA n=true:=aB h
def BP:O2:=λx y h Q=>gC (iO x) (λi=>gC (iO y) (λj=>Q (.p (.I (i+j))) h) ŧ) (gC (sO x) (λa=>gC (sO y) (λb=>gd (sA (a.length+b.length)) (Q (.p (.S (a++b))) h)) ŧ) (gC (tO x) (λa=>gC (tO y) (λb=>gd (sA (Á a+Á b)) (Q (.p (.T (a++b))) h)) ŧ) (gC (nW h x) (λa=>gC (nW h y) (λb=>gd (sA (Á a+Á b)) (Q (.p (.L (a++b))) h)) ŧ) ŧ)))
def Xz(K:Ä):R2:=λx y H Q=>EX (λi j=>.I (i+j)) x y H Q\/(∃i j,x=.S i/\y=.S j/\i.length+j.length<=Ã/\Q (.S (i++j)) H)\/OU K x y H Q\/O' x y H Q
def Ud:kH X (binaryOp .Add) (Xz X.K):=O_.or (EH.or (NY.or P_))
def SY:ic Y (Xz Y.K) BP:=λG M h H x y v u Q B r i j q out=>by
 rcases Aj q with ⟨n,e,q⟩|q;.let(o,f,q):=cK q;cases sT e;cases sT f;rwa[.inl (_,_,eU i,eU j,out _ h M H _ Ext.refl r f7 q)]
 rcases Aj q with ⟨n,e,q⟩|q;.let(o,f,q):=cK q;cases XI e;cases XI f;let(k,q):=cJ q;rwa[.inr (.inl (_,_,pj i,pj j,gU k,out _ h M H _ Ext.refl r GL q))]
 rcases Aj q with ⟨n,e,q⟩|q;.let(o,f,q):=cK q;cases HE e;cases HE f;let(k,q):=cJ q;let(a,s,E,s1,I):=qo i;let(b,ws,l,s2,g):=qo j;erw[.inr (.inr (.inl (a,b,s,ws,E,l,s1,s2,by rw[<-I.len,<-g.len];rwa[gU k],λp t S w=>?_)))];erw[out _ h M t _ (jm S) (qR r S) ?_ q];exact(p,_,Ŗ,w,(I.app g).ext r (jm S))
 .let(a,z,q):=cK q;let(b,A,q):=cK q;let(k,q):=cJ q;let(c,s,E,s1,I):=il r i z;let(d,ws,l,s2,g):=il r j A;rwa[.inr (.inr (.inr (c,d,s,ws,E,l,s1,s2,by rw[<-I.len,<-g.len];rwa[gU k],λp m=>out _ h M _ _ (Ext.add m) (r.add m) (j7 r m (I.app g)) q)))]
def ć:O2:=oB tV
def Ĥ:O2:=oB λi j=>tV j i
def Ĺ:O2:=oB λi j=>uC j i
def g_:ic Y (EX λi j=>.B (Đ (i<j))) ć:=by rw[show(λi j:Î=>V.B _)=λi j=>.B (tV i j)by funext i j;rw[Ny]];rwa[GN]
def c_:ic Y (EX λi j=>.B (Đ (j<i))) Ĥ:=by rw[show(λi j:Î=>V.B _)=λi j=>.B (tV j i)by funext i j;rw[Ny]];rwa[GN]
def b_:ic Y (EX λi j=>.B (Đ (j<=i))) Ĺ:=by rw[show(λi j:Î=>V.B (Đ (j<=i)))=λi j=>.B (uC j i)by funext i j;rw[Nq]];rwa[GN (g:=λi j=>uC j i)]
def YP:O2:=oB uC
def f_:ic Y (EX λi j=>.B (Đ (i<=j))) YP:=by rw[show(λi j:Î=>V.B (Đ (i<=j)))=λi j=>.B (uC i j)by funext i j;rw[Nq]];rwa[GN]
def W8:Pv->Þ|.N=>J|_=>bb
def k8(x:Pv):ϑ->Þ|[]=>bb|y::r=>KN y x||k8 x r
def yb:ϑ->Þ|[]=>J|x::r=>qG x&&yb r
def Fd(h:Hs):Dv->Ő ϑ|.p (.T X)=>O X|d=>nW h d
def qV(r:bq (Y.z G) M H h)(i:eK (Y.z G) M H x v)(e:Fd h x=O xs):∃a vs,v=.A a/\(gA Y.K H a vs\/g9 Y.K H a vs)/\aY (Y.z G) M H xs vs:=by
 delta Fd at e;split at e;.cases e;let(a,vs,E,s1,I):=qo i;exact(a,vs,E,.inr s1,I)
 .let(a,vs,E,s1,I):=il r i e;exact(a,vs,E,.inl (gA.of s1),I)
def Yt(a b:Î):(a==b)=nq a b:=by rw[vE];rwa[lB ..]
def DN(f:qG p)(i:eg (Y.z G) M H p v):pB v/\∀{q:Pv}{u:V},qG q=J->eg (Y.z G) M H q u->R6 u v=KN q p:=by
 cases p<;>first|done|skip
 all_goals(subst i;erw[(Ŗ,λ{q u}g j=>?_)])
 all_goals(cases q<;>first|done|(subst j;first|rfl|rwa[oM _ _]|(rwa[Yt _ _])|(ext b;induction b<;>rwa[Yt _ _])|(ext b _;induction b<;>rwa[Yt _ _])))
theorem ļ{v:V}(f:qG p)(i:eg (Y.z G) M H p v):∀{xs:ϑ}{vs:ϕ},yb xs=J->aY (Y.z G) M H xs vs->vs.all pB/\oe v vs=k8 p xs|[],[],_,_=>(Ŗ,Ŗ)|[],_::_,_,h=>by done|_::_,[],_,h=>by rwa[h.elim]|x::xs,w::vs,g,h=>by simp only[yb,aK]at g;let(a,b):=ļ f i g.2 h.2;erw[(by rw[b8,(DN g.1 h.1).1,a];rfl,?_)];delta oe at b⊢;rw[qh,b,(DN f i).2 g.1 h.1];rfl
def J'(neg:Þ):O2:=λx y h Q=>match x with
 |.p a=>match Fd h y with|O X=>gd (qG a&&yb X) (Q (.p (.B (xz neg (k8 a X)))) h)|ao=>ŧ
 |_=>ŧ
def d_:ic Y (MD Y.K neg) (J' neg):=λG M h H x y v u Q c r i j q out=>by
 delta J' at q;simp only[EC]at q;split at q
 .split at q
  .ext X e;let(k,q):=cJ q;rw[aK]at k;let(b,s,E,s1,I):=qV r j e;let(k2,a):=ļ k.1 i k.2 I;erw[(b,s,E,s1,(DN k.1 i).1,k2,?_)];erw[out _ h M H _ Ext.refl r ?_ q];rw[a];induction neg;.rw[oP];rwa[lj]
   .rw[qg];rwa[lj]
  .rwa[q.elim]
 .left
def rq{α:Type}(xs:Ł α):Î->Ő α|.ofNat n=>xs[n]?|.negSucc n=>match Ë (n+1) (Á xs)with|J=>xs[Á xs-(n+1)]?|bb=>ao
def qt{α:Type}(xs:Ł α)(n:Ń):rq xs (.negSucc n)=match Ë (n+1) (Á xs)with|J=>xs[Á xs-(n+1)]?|bb=>ao:=rfl
def C8(xs:Ł α)(i:Î):rq xs i=CD xs i:=by
 delta CD TC;induction i with|ofNat n=>
  show xs[n]?=_;rw[b5 (show(0)<=Int.ofNat n from Int.natCast_nonneg n)];by_cases hn:n<Á xs;.rw[b5 (show Int.ofNat n<Á xs by left)];rfl
  .rw[bM (show ¬Int.ofNat n<Á xs by left),fC (c6.mp ‹_›)];rfl|negSucc n=>
  rw[bM (),qt];by_cases hn:n+1<=Á xs;.rw[b5 (),aB hn];show xs[Á xs-(n+1)]?=xs[(Int.negSucc n+Á xs).toNat]?;rw[show(Int.negSucc n+Á xs).toNat=Á xs-(n+1)by lia]
  .rw[bM (),bB.mpr λz=>hn (aI z)];rfl
def zZ(h:Hs):Dv->Ő (Ł Dv)
 |.r i=>match h[i]? with|O (.D ds)=>O ds|_=>ao
 |_=>ao
def CK:O2:=λx y h Q=>match y with
 |.p (.I i)=>match Fd h x with|O X=>gC (rq X i) (λz=>Q (.p z) h) ŧ|ao=>match x with|.p (.S z)=>gd (sA z.length) (gC (rq z.cps.toList i) (λc=>Q (.p (.S ⟨#[c]⟩)) h) ŧ)|.p (.scr X)=>gC (rq X i) (λz=>Q (.p z) h) ŧ|x=>match zZ h x with|O ds=>gC (rq ds i) (λd=>Q d h) ŧ|ao=>ŧ
 |_=>ŧ
theorem aY.CD(q:aY (Y.z G) M H xs vs)(e:rq xs i=O z):∃v,L2.CD vs i=O v/\eg (Y.z G) M H z v:=by rw[<-C8];induction i with|ofNat n=>rwa[q.get e]|negSucc n=>
  rw[qt]at e⊢;rw[<-q.len];split at e;.rwa[q.get e]
  .cases e
theorem cU.len:∀{ds:Ł Dv}{vs:ϕ},cU Z M H ds vs->Á ds=Á vs|[],[],_=>Ŗ|[],_::_,h=>h.elim|_::_,[],h=>h.elim|_::_,_::_,h=>by rw[aR,aR,cU.len h.2]
def dG.ln(t:dG Y C vs H q E)(k:∀ds h Q X,C ds h Q X->Á ds=n):Á vs=n:=by let(G,M,h,ds,a,X,r,i,c,_,_):=t;rw[<-i.len];rwa[k _ _ _ _ c]
theorem cU.get{M:Ł _}{H:Hp}:∀{xs:Ł Dv}{vs:ϕ}{i:Ń}{x:Dv},cU Z M H xs vs->xs[i]?=O x->∃v,vs[i]?=O v/\eK Z M H x v|[],_,_,_,_,e=>by grind|_::_,[],_,_,h,_=>h.elim|_::_,v::_,0,_,h,e=>by cases e;exact(v,Ŗ,h.1)|_::_,_::_,i+1,_,h,e=>by let(w,b,a):=cU.get h.2 (by done);exact(w,by done,a)
theorem cU.CD(q:cU (Y.z G) M H xs vs)(e:rq xs i=O z):∃v,L2.CD vs i=O v/\eK (Y.z G) M H z v:=by rw[<-C8];induction i with|ofNat n=>rwa[q.get e]|negSucc n=>
  rw[qt]at e⊢;rw[<-q.len];split at e;.rwa[q.get e]
  .cases e
def e_:ic Y (Ŕ Y.K) CK:=λG M h H x y v u Q D r i j q out=>by
 delta CK gC at q;split at q
 .split at q
  .ext X e;split at q
   .ext z g;let(a,s,E,s1,I):=qV r i e;let(w,b,f):=I.CD g;let o:=out (.p z) h M H w Ext.refl r f q;rcases s1 with s1|s1;.rwa[.inl (a,s,_,w,E,eU j,s1,b,o)]
    .rwa[.inr (.inl (a,s,_,w,E,eU j,s1,b,o))]
   .left
  .split at q
   .let(k,q):=cJ q;split at q;.ext c l;rw[C8]at l;rwa[.inr (.inr (_,_,c,pj i,eU j,gU k,l,out _ h M H _ Ext.refl r GL q))]
    .left
   .split at q;.ext z g;let(a,s,E,s1,I):=i;let(w,b,f):=I.CD g;rwa[.inl (a,s,_,w,E,eU j,Ph s1,b,out (.p z) h M H w Ext.refl r f q)]
    .left
   .split at q
    .ext ds e;split at q
     .ext d m;delta zZ at e;split at e
      .split at e;.ext n;cases e;let(a,b,f):=i;let(s,t,A):=r.at' b n;let(w,B,C):=A.CD m;rwa[.inl (a,s,_,w,f,eU j,gA.of t,B,out _ h M H w Ext.refl r C q)]
       .cases e
      .cases e
     .left
    .left
 .left
def wl(n:Ń):Ő Î->Ń|ao=>0|O (.ofNat k)=>k|O (.negSucc k)=>n-(k+1)
def eG{α:Type}(xs:Ł α)(lo hi:Ő Î):Ł α:=match hi with|ao=>xs.drop (wl (Á xs) lo)|O (.ofNat k)=>(xs.take k).drop (wl (Á xs) lo)|O (.negSucc k)=>(xs.take (Á xs-(k+1))).drop (wl (Á xs) lo)
def yD(n d k:Ń):HT.lV n d (O (.ofNat k))=min k n:=HT.Vk n d k
def Ht(n d k:Ń):HT.lV n d (O (.negSucc k))=n-(k+1):=by let h:=HT.zx (.negSucc k) n d;rw[b5 ()]at h;lia
def zH{α:Type}(xs:Ł α)(n:Ń)(hn:Á xs<=n)(lo:Ő Î):xs.drop (HT.lV n 0 lo)=xs.drop (wl n lo):=by induction lo with|a=>rfl|c i=>induction i with
  |ofNat k=>
   rw[yD];show xs.drop _=xs.drop k;by_cases h:k<=n;.rw[Nat.min_eq_left h]
   .left|negSucc k=>rw[Ht];rfl
def Rt(xs:ϕ)(lo hi:Ő Î):rY xs lo hi=eG xs lo hi:=by
 delta rY;rw[<-List.drop_take];let e:xs.take (HT.lV (Á xs) (Á xs) hi)=match hi with|ao=>xs|O (.ofNat k)=>xs.take k|O (.negSucc k)=>xs.take (Á xs-(k+1)):=by induction hi with|a=>rw[HT.Pc,fe]|c i=>induction i with
   |ofNat k=>
    rw[yD];by_cases h:k<=Á xs;.simp
    .simp|negSucc k=>rw[Ht]
 rw[e];induction hi with|a=>rwa[zH xs _ (ah _) lo]|c i=>induction i with|ofNat k=>rwa[zH _ _ (by rw[bX];rwa[HP ..]) lo]|negSucc k=>rwa[zH _ _ (by rw[bX];rwa[HP ..]) lo]
theorem aY.drop:∀{xs:ϑ}{vs:ϕ}(n:Ń),aY Z M H xs vs->aY Z M H (xs.drop n) (vs.drop n)|_,_,0,q=>q|[],[],n+1,q=>q|[],_::_,_+1,q=>by done|_::_,[],_+1,q=>by done|_::_,_::_,n+1,q=>by rwa[aY.drop n q.2]
theorem aY.take:∀{xs:ϑ}{vs:ϕ}(n:Ń),aY Z M H xs vs->aY Z M H (xs.take n) (vs.take n)|xs,vs,0,q=>by done|[],[],n+1,q=>q|[],_::_,_+1,q=>by done|_::_,[],_+1,q=>by assumption|_::_,_::_,n+1,q=>by exact(q.1,aY.take n q.2)
theorem aY.rY(q:aY (Y.z G) M H xs vs)(lo hi:Ő Î):aY (Y.z G) M H (eG xs lo hi) (L2.rY vs lo hi):=by rw[Rt];delta eG;rw[q.len];induction hi with|a=>rwa[q.drop _]|c i=>induction i with|ofNat k=>exact(q.take k).drop _|negSucc k=>exact(q.take _).drop _
end
def sP(m:Ő Sm)(x:XP)(σ:Es)(h:Hs)(Q:Ő Î->Hs->ß):ß:=match m with|ao=>Q ao h|O L=>L x σ h λX H=>match X with|[.p (.I i)]=>Q (O i) H|_=>ŧ
def qL(x:Dv)(lo hi:Ő Î)(h:Hs)(Q:Dv->Hs->ß):ß:=match x with|.p (.T X)=>Q (.p (.T (eG X lo hi))) h|x=>match nW h x with|O X=>Q (.p (.L (eG X lo hi))) h|ao=>ŧ
def ű(A:Sm)(L U:Ő Sm):Sm:=λX σ h Q=>A X σ h λs H=>match s with|[x]=>sP L X σ H λlo a=>sP U X σ a λi b=>qL x lo i b λd c=>Q [d] c|_=>ŧ
def Ŏ(K:Ä):V->Ő Î->Ő Î->Hp->VK->ß:=λx lo h H Q=>XD K x lo h H Q\/KE K x lo h H Q
def akI:KH X (Ŏ X.K):=Vr.or Vq
def i_{Y:T0}{lo:Ő Î}(r:bq (Y.z G) M H h)(i:eK (Y.z G) M H x v)(q:qL x lo hi h Q)(out:∀d h' m H' w,Ext M H m H'->bq (Y.z G) m H' h'->eK (Y.z G) m H' d w->Q d h'->QV w H'):Ŏ Y.K v lo hi H QV:=by
 delta qL at q;split at q;.let(a,s,E,s1,I):=qo i;erw[.inl (a,s,E,s1,λp H' S c=>?_)];erw[out _ h M H' _ (jm S) (qR r S) ?_ q];exact(p,_,Ŗ,c,(I.rY lo hi).ext r (jm S))
 .split at q;.ext X e;let(a,s,E,s1,I):=il r i e;rwa[.inr (a,s,E,gA.of s1,λp b=>out _ h M _ _ (Ext.add b) (r.add b) (j7 r b (I.rY lo hi)) q)]
  .left
structure Ŝ(Z:Tx)(E:XK)(τ:Ç)(H:Hp)(R:Ő Î->Hp->ß)(M:Ł À)(σ:Es)(h:Hs)(xc:XP)(Q:Ő Î->Hs->ß):ß where
 rel:bq Z M H h
 env:dB Z M H σ τ
 out:∀o h' M' H',Ext M H M' H'->bq Z M' H' h'->Q o h'->R o H'
 exc:∀C h' M' H',Ext M H M' H'->bq Z M' H' h'->xc C h'->rB Z.ca E C H'
inductive Kk(Y:T0)(E:XK)(m:Ő Sm)(τ:Ç)(H:Hp)(R:Ő Î->Hp->ß):ß|mk(G M:Ł À)(σ:Es)(h:Hs)(xc:XP)(Q:_)(k:Ŝ (Y.z G) E τ H R M σ h xc Q)(q:sP m xc σ h Q):Kk Y E m τ H R
def _root_.L2.PO.imp{X:Cx}{e:Ő _}{t t':TO}(h:PO X e t')(i:∀σ H Q,t σ H Q->t' σ H Q):PO X e t:=λp s σ H Q I q=>h _ s σ H Q I (i σ H Q q)
def Ol:PO X ao (Kk 'X' E ao):=UR.imp λτ H R z=>by let(G,M,σ,h,x,Q,k,q):=z;rwa[k.out _ h M H Ext.refl k.rel q]
def Om(g:PE X e (dm 'X' E A)):PO X (O e) (Kk 'X' E (O A)):=(US g).imp λτ H R z=>by
 let(G,M,σ,h,x,Q,k,q):=z;erw[(G,M,σ,h,x,_,(k.rel,k.env,λd l m n v e r i q=>?_,k.exc),q)];split at q;.ext j f;injection f with f;subst f;exact(j,eU i,k.out _ l m n e r q)
 .left
def aeI{lo:Ő Æ}(j:PE X e (dm 'X' E A))(l:PO X lo (Kk 'X' E L))(hu:PO X hi (Kk 'X' E U)):PE X (.Subscript e (.Slice lo hi ao p2) pos) (dm 'X' E (ű A L U)):=(Od akI j l hu).imp λτ H Y z=>by let(G,M,σ,h,x,Q,k,q):=z;exact(G,M,σ,h,x,_,(k.rel,k.env,λd m n Z v f r I o=>(G,n,σ,m,x,_,(r,k.env.ext k.rel f,λol p M2 H2 g R s=>(G,M2,σ,p,x,_,(R,k.env.ext k.rel (f.trans g),λou h3 M3 H3 i u y=>i_ u ((I.ext r g).ext R i) y λD C F K w N P S W=>k.out D C F K w (f.trans (g.trans (i.trans N))) P S W,k.IP (f.trans g)),s),k.IP f),o),k.exc),q)
def nY:ON:=λds h Q=>match ib ds with|O x=>gd (sA (Á x)) (Q (.p (.T x)) h)|ao=>ŧ
def xF:ON:=λds h Q=>match ib ds with|O x=>gd (sA (Á x)) (Q (.p (.L x)) h)|ao=>ŧ
def K_:ON:=λds h Q=>match ib ds with|O x=>gd (sA (Á x)) (Q (.r (Á h)) (h++[.L x]))|ao=>ŧ
theorem wB{Y:T0}{G M:Ł _}{H:Hp}:∀{ds:Ł Dv}{vs:ϕ}{xs:ϑ},ib ds=O xs->cU (Y.z G) M H ds vs->aY (Y.z G) M H xs vs
 |[],[],_,e,_=>by cases e;done|[],_::_,_,_,q=>q.elim|_::_,[],_,_,q=>q.elim|.r _::_,_::_,_,e,_=>by cases e|.p x::ds,v::vs,xs,e,q=>by
  delta ib at e;split at e;.ext s y;cases e;exact(q.1,wB y q.2)
  .lia
def VL(h:dm 'X' E (sN nY A) τ H QV):ĕ (gv 'X' E A) τ H QV:=by
 let(G,M,σ,h,x,Q,k,q):=h;erw[(G,M,σ,h,x,_,(k.rel,k.env,λd i m l v j r I f=>?_,k.exc),q)];delta kN nY at f;split at f;.ext s ex;let(c,f):=cJ f;let i2:=wB ex I;exact(by rw[<-i2.len];rwa[gU c],λp g=>k.out _ i m _ _ (j.trans (Ext.add g)) (r.add g) (vR r g i2) f)
 .left
def π{k1:Ń}(h:PA X rest (gv 'X' E A)):PE X (.Tuple rest k1 pos) (dm 'X' E (sN nY A)):=(An h).imp λ_ _ _=>VL
def VF(h:dm 'X' E (sN xF A) τ H QV):GD (gv 'X' E A) τ H QV:=by
 let(G,M,σ,h,x,Q,k,q):=h;erw[(G,M,σ,h,x,_,(k.rel,k.env,λd i m l v j r I f=>?_,k.exc),q)];delta kN xF at f;split at f;.ext s ex;let(c,f):=cJ f;let i2:=wB ex I;exact(by rw[<-i2.len];rwa[gU c],λp g=>k.out _ i m _ _ (j.trans (Ext.add g)) (r.add g) (j7 r g i2) f)
 .left
def ν(h:PA X rest (gv 'X' E A)):PE X (.List rest pos) (dm 'X' E (sN xF A)):=(EM h).imp λ_ _ _=>VF
def nU{h:Hs}(e:Á M=Á h):eK Z (M++[p]) H (.r (Á h)) (.A p):=(p,by rw[<-e,aQ (ah _),fM];rfl,Ŗ)
def VE(h:dm 'X' E (sN K_ A) τ H QV):GD (gv 'X' E A) τ H QV:=by
 let(G,M,σ,h,x,Q,k,q):=h;erw[(G,M,σ,h,x,_,(k.rel,k.env,λd j m l v i r I f=>?_,k.exc),q)];delta kN K_ at f;split at f;.ext s ex;let(c,f):=cJ f;let i2:=wB ex I;exact(by rw[<-i2.len];rwa[gU c],λp g=>k.out _ _ _ _ _ (i.trans (Ext.push r g)) (r.push (o:=.L s) g (v,bC,i2.ext r (Ext.push r g))) (nU r.ln) f)
 .left
def μ(h:PA X rest (gv 'X' E A)):PE X (.List rest pos) (dm 'X' E (sN K_ A)):=(EM h).imp λ_ _ _=>VE
def cU.sx(q:cU Z M H [d] vs):∃v,vs=[v]/\eK Z M H d v:=by cases vs with|f=>rwa[q.elim]|g v r=>induction r with|f=>exact(v,Ŗ,q.1)|g _ _=>rwa[q.2.elim]
def cU.two'(q:cU Z M H [d,e] vs):∃v u,vs=[v,u]/\eK Z M H d v/\eK Z M H e u:=by cases vs with|f=>rwa[q.elim]|g v r=>let(u,rfl,i):=cU.sx q.2;exact(v,u,Ŗ,q.1,i)
def ģ:ON:=λds h Q=>match ds with
 |[x]=>match Fd h x with|O s=>Q (.p (.I (Á s))) h|ao=>match x with|.p (.scr s)=>Q (.p (.I (Á s))) h|.p (.dct k _)=>Q (.p (.I (Á k))) h|x=>match zZ h x with|O ds=>Q (.p (.I (Á ds))) h|ao=>ŧ
 |_=>ŧ
def XA(K:Ä):ϕ->Hp->VK->ß:=λx H Q=>(∃p y,x=[.A p]/\(gA K H p y\/g9 K H p y)/\Q (.I (Á y)) H)\/∃a U,x=[V.A a]/\Rd H a (.dK U)/\Q (.I (Á U)) H
def Iq:eE X (.builtin "len") λxs H Q=>∃a U,xs=[V.A a]/\Rd H a (.dK U)/\Q (.I (Á U)) H:=by intro p s σ H xs c Q I r h;let(a,U,rfl,b,q):=h;let(u,rfl,R):=KD r;cases R;rwa[acC I b λt S i=>(.I _,H,i,(t,Ŗ),q)]
def Ip:eE X (.builtin "len") (XA X.K):=zm.or Iq
def Tn:pL Y (XA Y.K) ģ:=λG M h H x s Q j r b q out=>by
 delta ģ at q;split at q
 .let(v,rfl,i):=b.sx;split at q;.ext y e;let(a,ws,E,s1,I):=qV r i e;rwa[.inl (a,ws,by rw[E],s1,out _ h M H _ Ext.refl r (by rw[<-I.len];rwa[f7]) q)]
  .split at q;.let(a,ws,E,s1,I):=i;rwa[.inl (a,ws,by rw[E],.inl (Ph s1),out _ h M H _ Ext.refl r (by rw[<-I.len];rwa[f7]) q)]
   .let(a,A,E,_,s1,I,_):=i;rwa[.inr (a,A,by rw[E],s1,out _ h M H _ Ext.refl r (by rw[I.len,ae];rwa[f7]) q)]
   .split at q
    .ext ds e;delta zZ at e;split at e
     .split at e;.ext o;cases e;let(a,c,d):=i;let(ws,f,g):=r.at' c o;rwa[.inl (a,ws,by rw[d],.inl (gA.of f),out _ h M H _ Ext.refl r (by rw[<-g.len];rwa[f7]) q)]
      .cases e
     .cases e
    .left
 .left
def ajk(c:Ń):Pv->Ő Þ|.S _=>O (Ì c 0)|.I _=>O (Ì c 1)|.B _=>O (Ì c 2||Ì c 1)|.T _=>O (Ì c 3)|.L _=>O (Ì c 4)|.N=>O bb|_=>ao
def T':ON:=λds h Q=>match ds with|[x,.p (.ty c)]=>gd (Ë c 4) (match x with
  |.p a=>match ajk c a with|O b=>Q (.p (.B b)) h|ao=>ŧ
  |.r i=>match h[i]? with|O (.L _)=>Q (.p (.B (Ì c 4))) h|O (.D _)=>Q (.p (.B (Ì c 4))) h|_=>ŧ)|_=>ŧ
def TW(K:Ä)(H:Hp)(x:V)(n:String):ß:=PX H x=O n\/n="tuple"/\∃a s,x=.A a/\g9 K H a s
def Vc(K:Ä):ϕ->Hp->VK->ß:=λs H Q=>∃x c n,s=[x,.ty c]/\TW K H x n/\c ∈["str","int","bool","tuple","list"]/\Q (.B (xB n c)) H
def Io:eE X (.builtin "isinstance") (Vc X.K):=by
 intro p s σ H i U Q I r h;let(x,c,n,rfl,b,d,q):=h;rcases b with b|⟨rfl,a,y,rfl,sq⟩;.rwa[Ln _ s σ H _ U Q I r (x,c,n,Ŗ,b,d,q)]
 .let(u,v,rfl,R,e):=r.two;obtain rfl:v=à c:=e;cases R;obtain⟨j,_,⟨o,f,g,_⟩,_⟩:=I.tuple sq;rwa[c9 PySem.W.kitx_tuple I.kZ (o,f,g) (Ng (.tail _ (.tail _ (.tail _ (.tail _ (.tail _ (.head _)))))) d) (λz=>nomatch z) λT=>(.B _,H,I.tok T,Ŗ,q)]
def IR{P:Ń->ß}(H:P 0)(a:P 1)(b:P 2)(d:P 3)(e:P 4):∀{c:Ń},Ë c 4=J->P c|0,_=>H|1,_=>a|2,_=>b|3,_=>d|4,_=>e|_+5,h=>(aF h).elim
def PY{c:Ń}:Ë c 4=J->lA c ∈["str","int","bool","tuple","list"]:=IR (P:=λc=>lA c ∈["str","int","bool","tuple","list"]) (.head _) (.tail _ (.head _)) (.tail _ (.tail _ (.head _))) (.tail _ (.tail _ (.tail _ (.head _)))) (.tail _ (.tail _ (.tail _ (.tail _ (.head _)))))
def Th:pL Y (Vc Y.K) T':=λG M h H w U Q QV r y q out=>by
 delta T' at q;split at q;.ext x c;let(v,u,rfl,i,j):=y.two';let A:u=.ty (lA c):=j;subst A;let(k,q):=cJ q;let f:∀{n:String}{g:Ń->Þ},TW Y.K H v n->Q (.p (.B (g c))) h->xB n (lA 0)=g 0->xB n (lA 1)=g 1->xB n (lA 2)=g 2->xB n (lA 3)=g 3->xB n (lA 4)=g 4->Vc Y.K [v,.ty (lA c)] H QV:=λ{n g}C q F b d l m=>(v,lA c,n,Ŗ,C,PY k,by rw[IR (P:=λc=>xB n (lA c)=g c) F b d l m k];rwa[out _ h M H _ Ext.refl r lj q]);let s:PX H v=O "list"->Q (.p (.B (Ì c 4))) h->Vc Y.K [v,.ty (lA c)] H QV:=λe q=>f (n:="list") (g:=λc=>Ì c 4) (.inl e) q rfl rfl rfl rfl rfl;induction x with
  |p a=>cases a with|S z=>rwa[f (g:=λc=>Ì c 0) (.inl (by rw[pj i];rfl)) q rfl rfl rfl rfl rfl]|I z=>rwa[f (g:=λc=>Ì c 1) (.inl (by rw[eU i];rfl)) q rfl rfl rfl rfl rfl]|B z=>rwa[f (g:=λc=>Ì c 2||Ì c 1) (.inl (by rw[QN i];rfl)) q rfl rfl rfl rfl rfl]|N=>rwa[f (g:=λ_=>bb) (.inl (by rw[Wu i];rfl)) q rfl rfl rfl rfl rfl]|T w=>let(a,ws,E,s1,R):=qo i;rwa[f (g:=λc=>Ì c 3) (.inr (Ŗ,a,ws,E,s1)) q rfl rfl rfl rfl rfl]|L w=>let(a,ws,E,_,s1,R):=i;rwa[s (by rw[E];simp only[PX,s1]) q]|_=>rwa[q.elim]
  |r n=>
   change match h[n]? with|O (.L _)=>Q _ h|O (.D _)=>Q _ h|_=>ŧ at q;split at q;.ext o;let(a,b,d):=i;let(ws,l,m):=r.at' b o;rwa[s (by rw[d];simp only[PX,l]) q]
   .ext o;let(a,b,d):=i;let(ws,l,m):=r.at' b o;rwa[s (by rw[d];simp only[PX,l]) q]
   .left
 .left
def Ų(q:aY Z M H (x::xs) (v::vs)):eK Z M H (.p x) v/\aY Z M H xs vs:=by done
def I0{α:Type}{a:α}{p:ß}(h:ao=O a):p:=nomatch h
def Xt:ON:=λds h Q=>match ds with
 |[x]=>match Fd h x with|O s=>Q (.p (.T s)) h|ao=>ŧ
 |_=>ŧ
def M9:pL Y (λxs H Q=>∃p ys,xs=[.A p]/\((gA Y.K H p ys/\∀l,H l=ao->Q (.A l) (dq H l (.T ys)))\/g9 Y.K H p ys/\Q (.A p) H)) Xt:=λG M h H xs s Q d r c q out=>by
 delta Xt at q;split at q
 .let(v,rfl,i):=c.sx;split at q
  .ext ys e;let(a,ws,rfl,s1,I):=qV r i e;erw[(a,ws,Ŗ,?_)];rcases s1 with s1|s1;.rwa[.inl (s1,λp b=>out _ h M _ _ (Ext.add b) (r.add b) (vR r b I) q)]
   .rwa[.inr (s1,out _ h M H _ Ext.refl r (by exact(a,ws,Ŗ,s1,I)) q)]
  .left
 .left
def Xr:ON:=λds h Q=>match ds with
 |[x]=>match Fd h x with|O s=>Q (.p (.L s)) h|ao=>ŧ
 |_=>ŧ
def MZ:pL Y (λxs H Q=>∃p ys,xs=[.A p]/\(gA Y.K H p ys\/g9 Y.K H p ys)/\∀l,H l=ao->Q (.A l) (dq H l (.L ys))) Xr:=λG M h H xs s Q d r I q out=>by
 delta Xr at q;split at q
 .let(v,rfl,i):=I.sx;split at q;.ext ys e;let(a,ws,rfl,s1,c):=qV r i e;exact(a,ws,Ŗ,s1,λp b=>out _ h M _ _ (Ext.add b) (r.add b) (j7 r b c) q)
  .left
 .left
def Xq:ON:=λds h Q=>match ds with|[.p (.I i)]=>Q (.p (.I i)) h|[.p (.B b)]=>Q (.p (.I (b2 b))) h|_=>ŧ
def MY:pL Y (λxs H Q=>(∃i,xs=[.I i]/\Q (.I i) H)\/∃k,xs=[.B k]/\Q (.I (if k then 1 else 0)) H) Xq:=λG M h H xs s Q c r a q out=>by
 delta Xq at q;split at q;.let(v,rfl,i):=a.sx;rwa[.inl (_,by rw[eU i],out _ h M H _ Ext.refl r f7 q)]
 .let(v,rfl,i):=a.sx;ext b;rwa[.inr (b,by rw[QN i],out _ h M H _ Ext.refl r (by induction b<;>rwa[f7]) q)]
 .left
def aj3:ON:=λds h Q=>d2 ds λx y=>iI x y λi j=>Q (.p (.I (if j>i then j else i))) h
def To:pL Y (λxs H Q=>∃i j,xs=[.I i,.I j]/\Q (.I (if j>i then j else i)) H) aj3:=λG M h H xs s Q d r c q out=>by let(x,y,rfl,q):=Lz q;let(a,b,rfl,rfl,q):=Bx q;let(v,u,rfl,i,j):=c.two';exact(_,_,by rw[eU i,eU j],out _ h M H _ Ext.refl r f7 q)
def aj4:ON:=λds h Q=>d2 ds λx y=>iI x y λi j=>Q (.p (.I (if j<i then j else i))) h
def Tp:pL Y (λxs H Q=>∃i j,xs=[.I i,.I j]/\Q (.I (if j<i then j else i)) H) aj4:=λG M h H xs s Q d r c q out=>by let(x,y,rfl,q):=Lz q;let(a,b,rfl,rfl,q):=Bx q;let(v,u,rfl,i,j):=c.two';exact(_,_,by rw[eU i,eU j],out _ h M H _ Ext.refl r f7 q)
def kJ:Pv->Ő cs|.S x=>O (.inr x)|.I i=>O (.inl i)|_=>ao
def lR:Pv->Pv->Þ|.S a,.S b=>cE a b|.I a,.I b=>nq a b|_,_=>bb
def jS(k:Pv):ϑ->ϑ->Ő Pv
 |K::s,u::U=>match lR K k with|J=>O u|bb=>jS k s U
 |_,_=>ao
def o6(k:Pv):ϑ->Þ|[]=>bb|K::s=>lR K k||o6 k s
def DL(k v:Pv):ϑ->ϑ->ϑ|K::s,u::U=>(match lR K k with|J=>v|bb=>u)::DL k v s U|_,U=>U
def pz(k v:Pv)(K us:ϑ):ϑ:=match o6 k K with|J=>DL k v K us|bb=>us++[v]
def pq(k:Pv)(K:ϑ):ϑ:=match o6 k K with|J=>K|bb=>K++[k]
def Eo{Y:T0}(e:kJ k=O κ)(i:eg (Y.z G) M H k v):v=kV κ:=by
 cases k<;>first|done|skip
 .cases e;rwa[i]
 .cases e;rwa[i]
def Nk{Y:T0}(i:eg (Y.z G) M H k (kV κ)):kJ k=O κ:=by cases k with|S x=>cases κ<;>cases i;rfl|I x=>cases κ<;>cases i;rfl|N=>induction κ<;>cases i|B _=>cases κ<;>cases i|ty _=>cases κ<;>cases i|obj _ _=>let(_,_,_,e,_):=i;induction κ<;>cases e|key _=>let(_,e,_):=i;cases κ<;>cases e|fn _=>let(_,_,e):=i;cases κ<;>cases e|_=>let(_,_,e,_):=i;induction κ<;>cases e
def vX(h:kJ a=O κ)(d:kJ b=O c):lR a b=Đ (κ=c):=by
 cases a<;>first|done|skip
 all_goals(cases b<;>first|done|skip)
 all_goals(cases h;cases d)
 .ext x y;show nq x y=_;rw[vE];by_cases e:x=y;.simp
  .simp
 .rfl
 .rfl
 .ext x y;show cE x y=_;by_cases e:x=y;.rw[bN.mpr e,cM (by rw[e])]
  .rw[bB.mpr λz=>e (bN.mp z),cw λz=>e ()]
def kF(Y:T0)(G M:Ł À)(H:Hp)(k us:ϑ)(a:Ł (cs×V)):ß:=aY (Y.z G) M H k (a.map λp=>kV p.1)/\aY (Y.z G) M H us (a.map (·.2))
def kF.cons{K us:ϑ}{p:cs×V}{aU:Ł _}:kF Y G M H (k::K) (u::us) (p::aU)↔(kJ k=O p.1/\eg (Y.z G) M H u p.2)/\kF Y G M H K us aU:=by
 constructor;.rintro⟨a,b⟩;exact((Nk a.1,b.1),a.2,b.2)
 .rintro⟨⟨a,b⟩,c,d⟩;erw[((?_,c),b,d)];cases k<;>first|done|skip
  .ext n;let:kV p.1=V.I n:=by injection a with a;rw[<-a];rfl
   rwa[this]
  .ext n;let:kV p.1=V.S n:=by injection a with a;rw[<-a];rfl
   rwa[this]
theorem kF.ind{P:ϑ->ϑ->Ł _->ß}(d:P [] [] [])(e:∀k u K us p A,kJ k=O p.1->eg (Y.z G) M H u p.2->kF Y G M H K us A->P K us A->P (k::K) (u::us) (p::A)):∀{K us:ϑ}{A:Ł _},kF Y G M H K us A->P K us A|[],[],[],_=>d|k::K,u::us,p::A,h=>by obtain⟨⟨a,b⟩,c⟩:=kF.cons.mp h;rwa[e k u K us p A a b c (kF.ind d e c)]|[],_::_,A,h=>by let:=h.1.len.trans (by rw[ae]);let:=h.2.len.trans (by rw[ae]);simp at*;lia|_::_,[],A,h=>by let:=h.1.len.trans (by rw[ae]);let:=h.2.len.trans (by rw[ae]);simp at*;lia|[],[],_::_,h=>by let:=h.1.len;simp at this|_::_,_::_,[],h=>by let:=h.1.len;simp at this
def zF(h:kJ k=O κ){K:ϑ}(d:kF Y G M H K us a):(∃p v,jS k K us=O p/\jF a κ=O v/\eg (Y.z G) M H p v)\/jS k K us=ao/\jF a κ=ao:=by
 erw[kF.ind (P:=λK us a=>(∃p v,jS k K us=O p/\jF a κ=O v/\eg _ M H p v)\/jS k K us=ao/\jF a κ=ao) (.inr (Ŗ,Ŗ)) (λb u K us p a c f g i=>?_) d];let e:=vX c h;by_cases z:p.1=κ;.rw[cM z]at e;rwa[.inl (u,p.2,by rw[jS,e],ma z,f)]
 .rw[cw z]at e;let E:jS k (b::K) (u::us)=jS k K us:=by show(match lR b k with|J=>O u|bb=>jS k K us)=_;rw[e]
  rw[E,l0 z];rwa[i]
def IK(h:kJ k=O κ){K:ϑ}(d:kF Y G M H K us a)(e:jS k K us=O p):∃v,jF a κ=O v/\eg (Y.z G) M H p v:=by
 rcases zF h d with ⟨q,v,b,c,f⟩|⟨b,_⟩;.left
 .left
theorem kF.app(a:kF Y G M H k us A)(b:kF Y G M H u P E):kF Y G M H (k++u) (us++P) (A++E):=by delta kF;rw[aH,aH];exact(a.1.app b.1,a.2.app b.2)
def kF.nil:kF Y G M H [] [] []:=by done
def Gs(f:kJ k=O κ)(g:eg (Y.z G) M H w v){K:ϑ}(d:kF Y G M H K us a):kF Y G M H (pq k K) (pz k w K us) (kg a κ v):=by
 let h:(a.any λb=>Đ (b.1=κ))=o6 k K/\kF Y G M H K (DL k w K us) (a.map λb=>if b.1=κ then(b.1,v)else b):=by
  erw[kF.ind (P:=λK us a=>a.any _=o6 k K/\kF Y G M H K (DL k w K us) (a.map _)) (Ŗ,kF.nil) (λj u K us p a c l m i=>?_) d];let e:=vX c f;erw[(by rw[qh,i.1,<-e];rfl,?_)];rw[cF];show kF Y G M H _ ((match lR j k with|J=>w|bb=>u)::DL k w K us) _;by_cases z:p.1=κ;.rw[b5 z,e,cM z];rwa[kF.cons.mpr ((c,g),i.2)]
  .rw[bM z,e,cw z];rwa[kF.cons.mpr ((c,l),i.2)]
 delta pq pz;delta kg;rw[h.1];induction n:o6 k K with|d=>rwa[h.2]|e=>rwa[d.app (kF.cons.mpr ((f,g),kF.nil))]
def LV(h:Hs):Dv->Ő (ϑ×ϑ)
 |.p (.dct k u)=>O (k,u)|.r i=>match h[i]? with|O (.C k u)=>O (k,u)|O (.F o k u)=>O (k,u)|_=>ao
 |_=>ao
def uq(r:bq (Y.z G) M H h)(i:eK (Y.z G) M H x v)(e:LV h x=O (k,us)):∃a aU,v=.A a/\Rd H a (.dK aU)/\kF Y G M H k us aU:=by
 delta LV at e;split at e;.cases e;let(a,aU,b,_,c,d):=i;exact(a,aU,b,c,d)
 .split at e;.ext o;cases e;let(a,b,c):=i;let(aU,d,f):=r.at' b o;exact(a,aU,c,.inl d,f)
  .ext o;cases e;let(a,b,c):=i;let(aU,d,f):=r.at' b o;exact(a,aU,c,.inr (_,d),f)
  .cases e
 .cases e
def ZX:O2:=λx y h Q=>match y with
 |.p k=>match kJ k with
  |O _=>match LV h x with|O (K,u)=>gC (jS k K u) (λp=>Q (.p p) h) ŧ|ao=>ŧ
  |ao=>ŧ
 |_=>ŧ
def Jo(neg:Þ):O2:=λy x h Q=>match y with
 |.p k=>match kJ k with
  |O _=>match LV h x with|O (K,u)=>Q (.p (.B (xz neg (jS k K u).isSome))) h|ao=>ŧ
  |ao=>ŧ
 |_=>ŧ
def δ(hu:X.A.units+1<Ï)(f:PE X a (dm 'X' E A))(l:PE X b (dm 'X' E B))(s:Ye b):PE X (.Subscript a b pos) (dm 'X' E (s2 ZX A B)):=(Ut hu f l s).imp λτ H m h=>by
  erw[wI (r:=λx y d Q=>∃a v,x=.A a/\rP d a y (O v)/\Q v d) (λG M h H x y v u Q m r i j q out=>?_) h];delta ZX gC at q;split at q
  .split at q
   .ext κ k;split at q
    .ext K I n;split at q;.ext p o;let(a,U,z,s1,d1):=uq r i n;let(w,D,F):=IK k d1 o;let g:rP H a _ _:=.inl (U,κ,s1,Ŗ,Ŗ);rw[D,<-Eo k j]at g;exact(a,w,z,g,out (.p p) h M H w Ext.refl r F q)
     .left
    .left
   .left
  .left
def LY:ic 'X' (λy x d Q=>∃a o,x=.A a/\rP d a y o/\Q (.B (neg !=o.isSome)) d) (Jo neg):=λG M h H x y v u Q D r i j q out=>by
 delta Jo at q;simp only[EC]at q;split at q
 .ext K;split at q
  .ext κ k;split at q
   .ext s m n;let(a,U,z,s1,d1):=uq r j n;let g:rP H a _ _:=.inl (U,κ,s1,Ŗ,Ŗ);rw[<-Eo k i]at g;erw[(a,_,z,g,out _ h M H _ Ext.refl r ?_ q)];let e:(jS K s m).isSome=(jF U κ).isSome:=by rcases zF k d1 with ⟨p,w,f,l,_⟩|⟨f,l⟩<;>rw[f,l]<;>rfl
    rw[e];rwa[lj]
   .left
  .left
 .left
def Uk(hu:X.A.units+1<Ï)(h:PE X a (dm 'X' E A))(d:PE X b (dm 'X' E B)):PC X .In a b (dm 'X' E (s2 (Jo bb) A B)):=λp s σ H Q I q=>by erw[EJ hu h d _ s σ H Q I ?_];let z:=wI LY q;simp only[oP]at z;rwa[z]
def EK(hu:X.A.units+1<Ï)(h:PE X a (dm 'X' E A))(d:PE X b (dm 'X' E B)):PC X .NotIn a b (dm 'X' E (s2 (Jo J) A B)):=λp s σ H Q I q=>by erw[Jv hu h d _ s σ H Q I ?_];let z:=wI LY q;simp only[qg]at z;rwa[z]
def Ot(h:PC X o a b (dm 'X' E A))(d:hU o b=bb):PT X (.Compare a [o] [b] pos) (kM 'X' E A):=(Ω h d).imp λ_ _ _ q=>HJ q
def afb:Sm:=λ_ _ h Q=>Q [.r (Á h)] (h++[.C [] []])
def Uv:PE X (.Dict [] [] pos) (dm 'X' E afb):=wt.imp λτ H f (G,M,σ,h,x,Q,k,q) p d=>k.out _ _ _ _ _ (Ext.push k.rel d) (k.rel.push (o:=.C [] []) d ([],bC,kF.nil.1,kF.nil.2)) (nU k.rel.ln) q
def Pa:Sm:=λ_ _ h Q=>Q [.p (.dct [] [])] h
def Og:PE X (.Dict [] [] pos) (dm 'X' E Pa):=wt.imp λτ H f (G,M,σ,h,x,Q,k,q) p d=>k.out _ h M _ _ (Ext.add d) (k.rel.add d) (by exact(p,[],Ŗ,k.rel.pQ d,.inl bC,kF.nil.1,kF.nil.2)) q
def Je(A:Sm):Im:=λx σ h Q=>A x σ h λds H=>match ds with|[.p (.L X)]=>Q X H|_=>ŧ
def aj0:O1:=λx h Q=>match x with|.p (.L X)=>Q (.p (.L X)) h|.p (.T X)=>Q (.p (.L X)) h|_=>ŧ
def I_:ON:=λds h Q=>match ds with|[.p (.I n)]=>gd (sA n.toNat&&Đ (-4611686018427387904<=n)) (Q (.p (.L (tX 0 n.toNat))) h)|_=>ŧ
def FF:ϑ->ϑ->ϑ|x::X,y::Y=>.T [x,y]::FF X Y|_,_=>[]
def aj1(v:Dv->Ő ϑ):ON:=λds h Q=>d2 ds λx y=>gC (v x) (λX=>gC (v y) (λY=>Q (.p (.L (FF X Y))) h) ŧ) ŧ
def _root_.L2.PI.imp{X:Cx}{tg e:Æ}{t t':TI}(h:PI X tg e t')(i:∀σ H Q,t σ H Q->t' σ H Q):PI X tg e t:=λP s σ H Q I q=>h _ s σ H Q I (i σ H Q q)
def Ÿ(K:Ä)(l:TE):TI:=λσ H R=>l σ H λx d=>∃a,x=.A a/\((∃s,gA K d a s)/\R (Gc K a) d\/(∃s,g9 K d a s)/\R (FM K a) d)
def Δ(j:PE X l g):PI X tg l (Ÿ X.K g):=by
 intro P s σ H R I h;erw[kh (j _ s σ H _ I h) λv s1 x d i r Q=>?_];let(a,e,q):=Q;subst e;cases r;let F:∀b ∈[s1.heap.objs.size],mr X _ d b:=λb k=>by
  let e:=by simpa using k
  subst e;rwa[i.DR (ah _) (i.cY.fresh (ah _))]
 rcases q with ⟨⟨m,f⟩,q⟩|⟨⟨m,f⟩,q⟩;.let(n,u,p,z):=i.list f;rwa[CU p.isList (_,_,_,_,d,Ŗ,i.kept λb o e=>af _ e,Ko a _,(_,aA _ Ŗ,Ŗ,Ŗ),F,q)]
 .let(n,u,p,z):=i.tuple f;rwa[oZ p (_,_,_,_,d,Ŗ,i.kept λb o e=>af _ e,Fx a _,(_,aA _ Ŗ,Ŗ,Ŗ),F,q)]
def Ya(X:Cx)(H:Hp):ß:=∃P σ s,Inv X P σ H s
def Ya.len(I:Ya X H)(h:gA X.K H a vs\/g9 X.K H a vs):Á vs<=Ã:=by
 let(_,_,_,I):=I;rcases h with h|h;.let(_,_,_,z):=I.list h;rwa[z]
 .let(_,_,_,z):=I.tuple h;rwa[z]
def Ao(h:PI X tg e wi):PI X tg e λσ H R=>wi σ H λj d=>Ya X d->R j d:=λP s σ H R I q=>iZ (h _ s σ H _ I q) λv s1 g=>iZ g λk s2 z=>by let(l,F,n,j,m,e,i,T,st,f,r):=z;exact(l,F,n,j,m,e,i,T,st,f,r (_,_,_,i))
def UB(o:PE X e (dm 'X' E A)):PI X tg e (AG 'X' E (Je (s1 aj0 A))):=(Ao (Δ o)).imp λτ H R z=>by let(G,M,σ,h,u,Q,k,q):=z;erw[(G,M,σ,h,u,_,(k.rel,k.env,λd j m l v n f I g=>?_,k.exc),q)];induction d with|r _=>rwa[g.elim]|p d=>cases d with|L x=>let(a,s,rfl,N,s1,i):=I;exact(a,Ŗ,.inl ((s,gA.of s1),λhd=>k.out x j m l _ n f (adO f N.1 (.inl s1) i) (by rw[i.len];rwa[hd.len (.inl (gA.of s1))]) g))|T x=>let(a,s,rfl,s1,i):=qo I;exact(a,Ŗ,.inr ((s,s1),λhd=>k.out x j m l _ n f (Ż f s1 i) (by rw[i.len];rwa[hd.len (.inr s1)]) g))|_=>rwa[g.elim]
def UA(g:Gl X "range")(m:X.mg "range"=ao)(i:PA X [x] (gv 'X' E A))(D:cL x):PI X tg (.Call (.Name "range" p) [x] [] pos) (AG 'X' E (Je (sN I_ A))):=(JH g m i (cy D)).imp λτ H R z=>by
  let(G,M,σ,h,j,Q,k,q):=z;erw[(G,M,σ,h,j,_,(k.rel,k.env,λd l o r v s u I f=>?_,k.exc),q)];delta kN I_ at f;split at f
  .ext n;let(c,f):=cJ f;rw[aK]at c;let(w,rfl,y):=I.sx;let hn:=gU c.1;let L:Ã<2^62:=∅
   erw[(n,by rw[eU y],(),?_,k.out _ l o r _ s u ϣ (by delta tX;rw[ae,eM];rwa[hn]) f)];let:(n.toNat:Î)<2^62:=by let:=b9 hn L;exact_mod_cast this
   lia
  .left
theorem wR:∀{xs ys:ϑ}{i:Ń}{z:Pv},(FF xs ys)[i]?=O z->∃x y,xs[i]?=O x/\ys[i]?=O y/\z=.T [x,y]|[],_,_,_,e=>by done|_::_,[],_,_,e=>by done|x::_,y::_,0,_,e=>by cases e;exact(x,y,Ŗ,Ŗ,Ŗ)|_::_,_::_,i+1,_,e=>by let(x,y,f,g,d):=wR (i:=i) (by done);exact(x,y,by done,by done,d)
theorem rm:∀(xs ys:ϑ),Á (FF xs ys)=min (Á xs) (Á ys)|[],_=>Ŗ|_::_,[]=>Ŗ|_::xs,_::ys=>by simp[FF,rm xs ys]
def By{Y:T0}(r:bq (Y.z G) M H h)(d:H T=ao)(i:eg (Y.z G) M H x v)(j:eg (Y.z G) M H y w):eg (Y.z G) M (dq H T (.T [v,w])) (.T [x,y]) (.A T):=vR r d ((aY.one i).app (aY.one j))
def adS(r:bq (Y.z G) M H h)(s1:∀{m H'},Ext M H m H'->sq H' f vs)(s2:∀{m H'},Ext M H m H'->sq H' g ws)(I:aY (Y.z G) M H xs vs)(j:aY (Y.z G) M H ys ws):Wv Y G M H (vr sq f g) (FF xs ys):=λD m H' F k e R=>by erw[(λi z o=>?_,(vs,ws,s1 e,s2 e,by rw[rm,I.len,j.len];lia))];let(x,y,q,s,rfl):=wR o;let(v,l,pv):=(aY.mv (e.mv r) (aY.wk k I)).get q;let(w,n,P):=(aY.mv (e.mv r) (aY.wk k j)).get s;erw[((vs,ws,v,w,s1 e,s2 e,l,n),λu K T=>?_)];let(T,d,hu,C):=T;let e2:=C vs ws v w (s1 e) (s2 e) l n;subst e2 hu;exact(Ext.add d,R.add d,By R d pv P)
def G9(i:∀{G M H h x xs u},bq ('X'.z G) M H h->c x=O xs->eK ('X'.z G) M H x u->∃a vs,u=.A a/\(∀{m H'},Ext M H m H'->sq H' a vs)/\aY ('X'.z G) M H xs vs)(l:∀{H a vs},sq H a vs->gA X.K H a vs\/g9 X.K H a vs)(j:PI X tg x (SW sq (gv 'X' E A))):PI X tg x (AG 'X' E (Je (sN (aj1 c) A))):=(Ao j).imp λτ H R Z=>by let(G,M,σ,h,n,Q,k,q):=Z;erw[(G,M,σ,h,n,_,(k.rel,k.env,λd o s C v D r F g=>?_,k.exc),q)];let(x,y,rfl,g):=Lz g;let(xs,e,g):=cK g;let(U,f,g):=cK g;let(w,u,rfl,L,N):=F.two';let(a1,vs,rfl,s1,I):=i r e L;let(P,ws,rfl,s2,S):=i r f N;erw[(a1,P,Ŗ,(vs,s1 .refl),(ws,s2 .refl),λhd=>k.out _ o s C _ D r (adS r s1 s2 I S) ?_ g)];rw[rm,I.len];rwa[aj (Nat.min_le_left ..) (hd.len (l (s1 .refl)))]
abbrev OM:=Dv->Ł Dv->Hs->(Dv->Hs->ß)->ß
def Yb(Y:T0)(r:V->ϕ->Hp->VK->ß)(o:OM):ß:=∀G M h H x X v s Q q,bq (Y.z G) M H h->eK (Y.z G) M H x v->cU (Y.z G) M H X s->o x X h Q->(∀d b m a w,Ext M H m a->bq (Y.z G) m a b->eK (Y.z G) m a d w->Q d b->q w a)->r v s H q
def TM(c:Ń)(h:Hs)(x:Dv):Þ:=match c with
 |0=>match x with|.p (.S _)=>J|_=>bb
 |4=>(nW h x).isSome||(zZ h x).isSome|_=>bb
def ū(o:OM)(Q:KP)(x:Dv):KP:=λds h=>o x ds h (qD Q)
def kMt(c:Ń)(o:OM)(R:Sm)(X:XP)(σ:Es)(Q:KP):KP:=λs h=>m1 s λx=>gd (TM c h x) (R X σ h (ū o Q x))
def i'(c:Ń)(o:OM)(A R:Sm):Sm:=λx σ h Q=>A x σ h (kMt c o R x σ Q)
section
variable{t:Tb}{X:Cx}{E:XK}{e a b o:Æ}{rest:Ł Æ}{A B C R T:Sm}{pos p cN dI:Ó}{Y:T0}{G M:Ł À}{H:Hp}{h:Hs}
def GZ(r:bq (Y.z G) M H h)(i:eK (Y.z G) M H x v)(e:zZ h x=O ds):∃n a vs,x=.r n/\M[n]?=O a/\v=.A a/\H a=O (.L vs)/\cU (Y.z G) M H ds vs:=by
 delta zZ at e;split at e
 .split at e;.ext d;cases e;let(a,c,f):=i;let(vs,g,j):=r.at' c d;exact(_,a,vs,Ŗ,c,f,g,j)
  .cases e
 .cases e
def ύ(r:bq (Y.z G) M H h)(i:eK (Y.z G) M H x v)(e:TM c h x):Fk Y.K (lA c) v H:=by
 delta TM at e;split at e
 .split at e;.rw[pj i];exact(Ŗ)
  .cases e
 .rw[jG]at e;rcases e with e|e;.let(f,ex):=fQ.mp e;let(a,s,d,s1,I):=il r i ex;rw[d];rwa[.inl (Ŗ,s,gA.of s1)]
  .let(f,ex):=fQ.mp e;let(n,a,s,_,_,d,s1,I):=GZ r i ex;rw[d];rwa[.inl (Ŗ,s,gA.of s1)]
 .cases e
def ϡ{o:OM}(l:Yb 'X' r o)(h:dm 'X' E (i' c o A R) τ H QV):ę X.K (lA c) r (dm 'X' E A) (gv 'X' E R) τ H QV:=by let(G,M,σ,h,x,Q,k,q):=h;erw[(G,M,σ,h,x,_,(k.rel,k.env,λd m n H1 v f g I i=>?_,k.exc),q)];let(s,i):=cJ i;exact(ύ g I s,G,n,σ,m,x,_,(g,k.env.ext k.rel f,λds u M2 y z j D F L=>l G M2 u y d ds v z _ _ D (I.ext g j) F L λN P S U w W Z i3 q3=>k.out N P S U w (f.trans (j.trans W)) Z i3 q3,k.IP f),i)
def zP(d:(e::es).all cL)(l:Á (e::es)<30):((e9 dI (d4 (e::es) X.env)).all (λx=>!x.1)&&(backToKw dI (hX [] X.env)).all (λx=>x.1.isSome)&&Đ (Á (e::es)+Á ([]:Ł g5)+(if([]:Ł g5).isEmpty then 0 else 1)<30))=true:=by
 let h1:=fh (env:=X.env) (pos:=dI) d;let c:(e9 dI (d4 (e::es) X.env)).all (λx=>!x.1)=true:=by rw[bJ];intro x f;rw[CN]at h1;let:=h1 x f;simpa using this
 rw[c,Bool.true_and];simp only[aK];exact(Ŗ,cM (by done))
def ϓ{id:String}(pa:PlainAttrs (lA c))(slot:Slot (lA c) name id)(y:typeOf (.builtin id)=pure (.type "method_descriptor"))(f:L5 X id r)(m:Yb 'X' r d)(g:PE X o (dm 'X' E A))(i:PA X (a::rest) (gv 'X' E R))(q:g6 o name X.env (Ê o X.env)=Ê o X.env)(D:(a::rest).all cL)(l:Á (a::rest)<30)(u:(cN.endLine==dI.line)):PE X (.Call (.Attribute o name cN) (a::rest) [] dI) (dm 'X' E (i' c d A R)):=by let hp:=D;rw[b8,aK]at hp;exact(aeC pa slot y f g i q (zP D l) u (cy hp.1) (fh hp.2)).imp λ_ _ _=>ϡ m
def ň:OM:=λx ds h Q=>match x,ds with
 |.r i,[d]=>match h[i]? with
  |O (.L s)=>match d with|.p y=>gd (sA (Á s+1)) (Q (.p .N) (h.set i (.L (s++[y]))))|.r _=>ŧ
  |O (.D s)=>gd (sA (Á s+1)) (Q (.p .N) (h.set i (.D (s++[d]))))|_=>ŧ
 |_,_=>ŧ
theorem cU.app:∀{xs ys:Ł Dv}{vs ws:ϕ},cU Z M H xs vs->cU Z M H ys ws->cU Z M H (xs++ys) (vs++ws)|[],_,[],_,_,q=>q|[],_,_::_,_,h,_=>h.elim|_::_,_,[],_,h,_=>h.elim|_::_,_,_::_,_,h,q=>(h.1,cU.app h.2 q)
def cU.one(h:eK Z M H d v):cU Z M H [d] [v]:=(h,Ť)
def Ta:Yb Y Ho ň:=λG M h H x F v I Q K r i u q out=>by
 delta ň at q;split at q
 .ext n d;let(w,rfl,j):=u.sx;let(a,f,s):=i;let ha:=aL f;split at q;.ext z l;induction d with|r _=>left|p y=>let(c,q):=cJ q;let(ws,m,g):=r.at' f l;let k:=gU c;exact(a,ws,w,s,Ŗ,m,by rw[g.len]at k;rwa[k],out _ _ M _ _ (Ext.put ha) (r.put (o:=.L _) f (_,bC,(g.app (aY.one j)).ext r (Ext.put ha))) uz q)
  .ext z l;let(c,q):=cJ q;let(ws,m,g):=r.at' f l;let k:=gU c;exact(a,ws,w,s,Ŗ,m,by rw[g.len]at k;rwa[k],out _ _ M _ _ (Ext.put ha) (r.put (o:=.D _) f (_,bC,(g.app (cU.one j)).ext r (Ext.put ha))) uz q)
  .left
 .left
def akH(xs:ϑ)(v:Pv):Î->Ő ϑ
 |.ofNat n=>match Ë (n+1) (Á xs)with|J=>O (xs.set n v)|bb=>ao
 |_=>ao
def Ϯ(A B C:Sm):Ss:=λN σ h=>A N.xc σ h λs d=>match s with
 |[.p v]=>B N.xc σ d λx f=>match x with
  |[.r i]=>C N.xc σ f λy c=>match y with
   |[.p (.I k)]=>match c[i]? with
    |O (.L Z)=>match akH Z v k with|O z=>N.nx σ (c.set i (.L z))|ao=>ŧ
    |_=>ŧ
   |_=>ŧ
  |_=>ŧ
 |_=>ŧ
theorem aY.set(i:eg Z M H x v):∀{xs:ϑ}{vs:ϕ}(n:Ń),aY Z M H xs vs->aY Z M H (xs.set n x) (vs.set n v)|[],[],_,q=>q|[],_::_,_,q=>by done|_::_,[],_,q=>by done|_::_,_::_,0,q=>by exact(i,q.2)|_::_,_::_,n+1,q=>by exact(q.1,aY.set i n q.2)
def aad(h:eJ 'X' E (Ϯ A B C) D τ H):tZ (dm 'X' E A) (İ (dm 'X' E B) (dm 'X' E C) XC) D τ H:=by let(G,M,σ,h,N,k,q):=h;let ex:∀{y F},Ext M H y F->∀C c f H1,Ext y F f H1->bq _ f H1 c->N.xc C c->rB t.ca E C H1:=λe C c f H1 x r q=>k.exc C c f H1 (e.trans x) r q;erw[(G,M,σ,h,_,_,(k.rel,k.env,λd c f H1 v g I P S=>?_,k.exc),q)];induction d with|r _=>left|p x=>erw[(G,f,σ,c,_,_,(I,k.env.ext k.rel g,λd2 U M2 H2 v2 i l W q2=>?_,ex g),S)];induction d2 with|p _=>left|r n=>
   erw[(G,M2,σ,U,_,_,(l,k.env.ext k.rel (g.trans i),λd3 h3 M3 H3 v3 j s i3 Q=>?_,ex (g.trans i)),q2)];split at Q
   .ext kk Z;injection Z with Z;subst Z;split at Q
    .ext zs ho;split at Q;.ext z u;let(a,w,g2):=W.ext l j;let(ws,g3,K):=s.at' w ho;let ha:=aL w;induction kk with|negSucc m=>done|ofNat m=>
       change(match Ë _ _ with|J=>O _|bb=>ao)=O z at u;split at u;.ext hb;cases u;let hm:=aI hb;erw[(a,ws,m,m,g2,eU i3,g3,?_,k.nx σ _ M3 _ τ ((g.trans (i.trans j)).trans (Ext.put ha)) (s.put (o:=.L _) w (_,bC,(K.set (((P).ext I i).ext l j) m).ext s (Ext.put ha))) (k.env.ext k.rel ((g.trans (i.trans j)).trans (Ext.put ha))) Q)];.delta TC;rw[b5 (Int.natCast_nonneg m),b5 (by rw[<-K.len];lia)];rfl
       .done
     .left
    .left
   .left
def pF(A B C:Sm):Ss:=λN σ h=>A N.xc σ h λs d=>match s with
 |[.p v]=>B N.xc σ d λx f=>match x with
  |[.r i]=>C N.xc σ f λy c=>match y with
   |[.p k]=>match c[i]?,kJ k with|O (.C K u),O _=>gd (sA (Á K+1)) (N.nx σ (c.set i (.C (pq k K) (pz k v K u))))|_,_=>ŧ
   |_=>ŧ
  |_=>ŧ
 |_=>ŧ
def R5(h:eJ 'X' E (pF A B C) D τ H):O8 (dm 'X' E B) (dm 'X' E C) (dm 'X' E A) D τ H:=by let(G,M,σ,h,N,k,q):=h;let ex:∀{F I},Ext M H F I->∀C f m H1,Ext F I m H1->bq ('X'.z G) m H1 f->N.xc C f->rB t.ca E C H1:=λe C f m H1 x r q=>k.exc C f m H1 (e.trans x) r q;erw[(G,M,σ,h,N.xc,_,(k.rel,k.env,λd f m H1 v g L i1 P=>?_,k.exc),q)];induction d with|r _=>rwa[P.elim]|p x=>erw[(G,m,σ,f,N.xc,_,(L,k.env.ext k.rel g,λd2 h2 M2 H2 v2 i w i2 S=>?_,ex g),P)];induction d2 with|p _=>rwa[S.elim]|r n=>erw[(G,M2,σ,h2,N.xc,_,(w,k.env.ext k.rel (g.trans i),λd3 W M3 H3 v3 j l i3 Q=>?_,ex (g.trans i)),S)];induction d3 with|r _=>rwa[Q.elim]|p K=>
    change match W[n]?,kJ K with|O (.C s U),O _=>gd (sA (Á s+1)) (N.nx σ (W.set n (.C (pq K s) (pz K x s U))))|_,_=>ŧ at Q;split at Q
    .ext s U κ ho Z;let(c,Q):=cJ Q;let(a,y,g2):=i2.ext w j;let(aU,g3,g4):=l.at' y ho;let u:a∈M3:=aL y;let ix:=((show eg ('X'.z G) m H1 x v from i1).ext L i).ext w j;let hv:=Eo Z (show eg ('X'.z G) M3 H3 K v3 from i3);let c2:=gU c;let hl:Á aU<Ã:=by let:=g4.1.len;rw[ae]at this;lia
     erw[(a,_,g2,by rw[hv];rwa[AY.k g3 hl],?_)];let d:=Gs (Y:=yx t X) Z ix g4;erw[k.nx σ _ M3 _ τ ((g.trans (i.trans j)).trans (Ext.put u)) (l.put (o:=.C (pq K s) (pz K x s U)) y (_,bC,d.1.ext l (Ext.put u),d.2.ext l (Ext.put u))) (k.env.ext k.rel ((g.trans (i.trans j)).trans (Ext.put u))) Q]
    .rwa[Q.elim]
structure sH(K:Ä)(t:Tb)(c:Ń):ß where
 cl:KG K (t.ca c)na:∀f∈t.fl c,nE K (t.ca c) f
 nd:(t.fl c).Nodup
def ž(c j:Ń)(h:Hs):Dv->Ő Dv
 |.p (.obj d fs)=>match Ì d c with
  |J=>match fs[j]? with|O x=>O (.p x)|ao=>ao
  |bb=>ao
 |.r i=>match h[i]? with
  |O (.I d fs)=>match Ì d c with|J=>fs[j]?|bb=>ao
  |_=>ao
 |_=>ao
def Jq(c j:Ń):O1:=λx h Q=>match ž c j h x with|O d=>Q d h|ao=>ŧ
theorem sg:∀{F:Ł _}{l:ϐ}{j:Ń}{v:V},l.Nodup->F.map (·.1)=l.take (Á F)->l[j]?=O f->(F.map (·.2))[j]?=O v->F.lookup f=O v|[],_,_,_,_,_,_,e=>by grind|(g,w)::F,[],_,_,_,e,_,_=>by grind|(g,w)::F,x::l,0,v,n,e,c,d=>by grind|(g,w)::F,x::l,j+1,v,n,e,c,d=>by injection e with k i;rw[dA]at n;let m:f∈l:=aL (by done);rw[iJ,da.mpr λz=>n.1 ()];rwa[sg n.2 i (by done) (by grind)]
def ε(i:sH X.K t c)(s:(t.fl c)[j]?=O f)(ha:PE X a (dm 'X' E A))(hb:g6 a f X.env (Ê a X.env)=Ê a X.env):PE X (.Attribute a f pos) (dm 'X' E (s1 (Jq c j) A)):=(L' ha hb).imp λτ H QV zz=>by
  let(G,M,σ,h,xc,Q,k,q):=zz;erw[(G,M,σ,h,xc,_,(k.rel,k.env,λd u S U v W z Z l=>?_,k.exc),q)];change Jq c j d u _ at l;delta Jq at l;split at l;.ext d2 g;induction d with
   |p d=>cases d with
    |obj y fs=>
     change(match Ì y c with
      |J=>match fs[j]? with|O x=>O _|ao=>ao
      |bb=>ao)=O d2 at g;split at g
     .ext D;split at g
      .ext x ex;cases g;obtain rfl:=aV D;let(a,F,L,rfl,_,s1,l1,m):=Z;let(w,N,P):=m.get ex;let ln:=by let:=m.len;rw[ae]at this;rwa[this]
       rw[ln]at l1;exact(a,_,F,L,w,Ŗ,s1,i.cl,i.na f (aL s),sg i.nd l1 s N,k.out (.p x) u S U w W z P l)
      .done
     .done|_=>done
   |r n=>
    change(match u[n]? with
     |O (.I y fs)=>match Ì y c with|J=>fs[j]?|bb=>ao
     |_=>ao)=O d2 at g;split at g
    .ext y fs ho;split at g
     .ext D;obtain rfl:=aV D;let(a,g0,rfl):=Z;let(F,L,s1,_,l1,m):=z.at' g0 ho;let(w,N,P):=m.get g;let ln:=by let:=m.len;rw[ae]at this;rwa[this]
      rw[ln]at l1;exact(a,_,F,L,w,Ŗ,s1,i.cl,i.na f (aL s),sg i.nd l1 s N,k.out d2 u S U w W z P l)
     .done
    .done
  .left
def BA(j:Ń)(d:Dv)(fs:Ł Dv):Ő (Ł Dv):=match Ì j (Á fs)with|J=>O (fs++[d])|bb=>match Ë (j+1) (Á fs)with|J=>O (fs.set j d)|bb=>ao
def Ϝ(c j i:Ń)(d:Dv)(h:Hs)(K:Hs->ß):ß:=match h[i]? with|O (.I f fs)=>gd (Ì f c&&Ë (Á fs+1) 1000) (match BA j d fs with|O g=>K (h.set i (.I c g))|ao=>ŧ)|_=>ŧ
def ajl(c j:Ń)(N:En)(σ:Es)(d:Dv):KP:=λx f=>match x with|[.r i]=>Ϝ c j i d f λg=>N.nx σ g|_=>ŧ
def ţ(c j:Ń)(B:Sm)(N:En)(σ:Es):KP:=λv f=>m1 v λd=>B N.xc σ f (ajl c j N σ d)
def XH(c j:Ń)(A B:Sm):Ss:=λN σ h=>A N.xc σ h (ţ c j B N σ)
theorem Hn:∀{fv:Ł _}{l:ϐ}{j:Ń},l.Nodup->fv.map (·.1)=l.take (Á fv)->l[j]?=O f->j<Á fv->(jW f v fv).map (·.1)=fv.map (·.1)/\(jW f v fv).map (·.2)=(fv.map (·.2)).set j v/\Á (jW f v fv)=Á fv|[],_,_,_,_,_,h=>by grind|(g,w)::fv,[],_,_,e,_,_=>by grind|(g,w)::fv,x::l,0,n,e,d,_=>by injection e with i k;cases d;let:jW f v ((g,w)::fv)=(g,v)::fv:=b5 i;rw[this];exact(Ŗ,Ŗ,Ŗ)|(g,w)::fv,x::l,j+1,n,e,d,m=>by injection e with i k;rw[dA]at n;let q:f∈l:=aL (by done);let:jW f v ((g,w)::fv)=(g,w)::jW f v fv:=bM λz=>n.1 ();let(a,b,c):=Hn (v:=v) n.2 k (by done) (by grind);exact(by grind,by grind,by grind)
theorem BY:∀{fv:Ł _}{l:ϐ},l.Nodup->fv.map (·.1)=l.take (Á fv)->l[Á fv]?=O f->jW f v fv=fv++[(f,v)]|[],_,_,_,_=>Ŗ|(g,w)::fv,[],_,e,_=>by grind|(g,w)::fv,x::l,n,e,d=>by injection e with i c;rw[dA]at n;let:jW f v ((g,w)::fv)=(g,w)::jW f v fv:=bM λz=>n.1 (by grind);rw[this,BY n.2 c (by done)];rfl
theorem cU.set(i:eK Z M H x v):∀{xs:Ł Dv}{vs:ϕ}(n:Ń),cU Z M H xs vs->cU Z M H (xs.set n x) (vs.set n v)|[],[],_,q=>q|[],_::_,_,q=>q.elim|_::_,[],_,q=>q.elim|_::_,_::_,0,q=>(i,q.2)|_::_,_::_,n+1,q=>(q.1,cU.set i n q.2)
def Su(m:sH X.K t c)(g:(t.fl c)[j]?=O f)(h:eJ 'X' E (XH c j A B) D τ H):W5 X.K (dm 'X' E B) (dm 'X' E A) f D τ H:=by let(G,M,σ,h,N,k,q):=h;erw[(G,M,σ,h,_,_,(k.rel,k.env,λd w y H1 v u r1 i1 q1=>?_,k.exc),q)];erw[(G,y,σ,w,_,_,(r1,k.env.ext k.rel u,λd2 h2 M2 H2 v2 L P i2 Q=>?_,λC w y H1 x r q=>k.exc C w y H1 (u.trans x) r q),q1)];induction d2 with|p _=>rwa[Q.elim]|r n=>
  change match h2[n]? with|O (.I S fs)=>gd _ (match BA j d fs with|O U=>N.nx σ _|ao=>ŧ)|_=>ŧ at Q;split at Q
  .ext S fs ho;let(W,Q):=cJ Q;rw[aK]at W;obtain rfl:=aV W.1;let hl:=aI W.2;split at Q
   .ext U s;let(a,Z,rfl):=i2;let ha:=aL Z;let(dx,fv,s1,s2,l1,i3):=P.at' Z ho;let ln:=by let:=i3.len;rw[ae]at this;rwa[this]
    rw[ln]at l1;let i:=i1.ext r1 L;erw[(a,_,dx,fv,Ŗ,s1,m.cl,m.na f (aL g),(),?_)];let l:∀F,F.map (·.1)=(t.fl S).take _->cU _ M2 H2 U _->D.nx τ (dq H2 a (.ins _ dx F)):=λF wW GB=>k.nx σ _ M2 _ τ ((u.trans L).trans (Ext.put ha)) (P.put (o:=.I S U) Z (dx,F,bC,by rw[bA λz=>()];rwa[s2],wW,GB.ext P (Ext.put ha))) (k.env.ext k.rel ((u.trans L).trans (Ext.put ha))) Q;delta BA at s;split at s
    .ext ej;cases s;let ej:=aV ej;subst ej;rw[ln]at g;rw[BY m.nd l1 g];erw[l _ ?_ ?_];.rw[aH,l1,aq,ln];show List.take _ _++[f]=List.take (Á fv+1) _;rw[List.take_succ,g];rfl
     .rw[aH];rwa[i3.app (cU.one i)]
    .split at s
     .ext eb;cases s;let(p1,p2,p3):=Hn (v:=v) m.nd l1 g (by rw[<-ln];rwa[aI eb]);erw[l _ ?_ ?_];.left
      .rw[p2];rwa[i3.set i j]
     .done
   .left
  .left
def MU:Dv->Þ|.p .N=>J|_=>bb
def Ũ(k:ϐ):Pv:=.T (k.map .S)
theorem Bz:∀{K:ϐ},aY (Y.z G) M H (K.map .S) (K.map V.S)|[]=>by done|k::K=>by exact(Ŗ,Bz)
def L_(c:Å->Ő ϐ):O1:=λx h Q=>match x with|.p (.S z)=>gC (c z) (λk=>Q (.p (Ũ k)) h) ŧ|_=>ŧ
def ο{ad:À}(T:C5 X.w X.K ad c)(i:Gl X n)(m:X.mg n=O (.ref ad))(j:PE X e (dm 'X' E A))(l:(n=="__debug__")=bb)(s:mw e):PE X (.Subscript (.Name n p) e pos) (dm 'X' E (s1 (L_ c) A)):=(G8 (m_ T) (gh (v:=.A ad) i m Ŗ l) j s).imp λτ H N Z=>by
  let(G,M,σ,h,x,Q,k,q):=Z;erw[(G,M,σ,h,x,_,(k.rel,k.env,λd g r u v y D I f=>?_,k.exc),q)];change L_ c d g _ at f;delta L_ gC at f;split at f
  .ext z;split at f;.ext F L;exact(Ŗ,z,F,pj I,L,λb sq=>k.out _ g r u _ y D (by exact(b,_,Ŗ,sq,Bz)) f)
   .left
  .left
def gq:ϑ->Ő ϐ
 |[]=>O []|.S x::r=>match gq r with|O s=>O (x::s)|ao=>ao
 |_::_=>ao
def uM:∀{ws:ϐ}{vs:ϕ},gq xs=O ws->aY (Y.z G) M H xs vs->vs=ws.map V.S:=by induction xs with
 |f=>intro ws vs e q;cases e;induction vs with|f=>rfl|g _ _=>done
 |g x xs i=>intro ws vs e q;cases vs with|f=>done|g v vs=>let q2:=Ų q;let Q:=q2.1;replace q2:=q2.2;clear q;cases x with
   |S z=>change(match gq xs with|O s=>O _|ao=>ao)=O ws at e;induction y:gq xs with|a=>rw[y]at e;rwa[I0 e]|c s=>rw[y]at e;cases e;rw[pj Q,i y q2];rfl
   |_=>rwa[I0 e]
def Ϟ:O2:=λx y h Q=>gC (iO y) (λk=>gC (iO x) (λi=>gd (zk i k) (Q (.p (.I (i*k))) h)) (gC (nW h x) (λs=>gd (sA (Á s*k.toNat)&&Đ (-2^63<=k)&&Đ (k<2^63)) (Q (.p (.L (Ò k.toNat s).flatten)) h)) ŧ)) ŧ
def XB:R2:=λx y H Q=>rI K1 (λi j=>.I (i*j)) x y H Q\/ē x y H Q
def Uh:kH X (binaryOp .Mult) XB:=V_.or Z_
theorem aY.rep(q:aY (Y.z G) M H xs vs):∀n:Ń,aY (Y.z G) M H (Ò n xs).flatten (Ò n vs).flatten|0=>by done|n+1=>by rwa[q.app (aY.rep q n)]
def M0:ic Y XB Ϟ:=λG M h H x y v u Q m r i j q out=>by
 let(K,f,q):=cK q;rcases Aj q with ⟨a,e,q⟩|q;.let(k,d):=cJ q;cases sT f;cases sT e;rwa[.inl (_,_,eU i,eU j,Q6 k,out _ h M H _ Ext.refl r f7 d)]
 .let(n,ex,q):=cK q;let(c,d):=cJ q;cases sT f;simp only[aK,fN]at c;let(a,s,l,s1,I):=il r i ex;rwa[.inr (a,_,s,l,eU j,s1,c.1.2,c.2,by rw[<-I.len];rwa[gU c.1.1],λp g=>out _ h M _ _ (Ext.add g) (r.add g) (j7 r g (I.rep _)) d)]
def pE:ϑ->Ő (ϑ×ϑ)
 |[]=>O ([],[])|.T [k,v]::r=>match kJ k,pE r with|O _,O (K,s)=>O (k::K,v::s)|_,_=>ao
 |_::_=>ao
def tR:ϑ->ϑ->ϑ×ϑ->ϑ×ϑ|k::K,v::s,(u,c)=>tR K s (pq k u,pz k v u c)|_,_,r=>r
def SN:ON:=λds h Q=>match ds with
 |[x]=>match nW h x with|O s=>gC (pE s) (λp=>gd (Ë (Á p.1) 100) (Q (.p (.dct (tR p.1 p.2 ([],[])).1 (tR p.1 p.2 ([],[])).2)) h)) ŧ|ao=>ŧ
 |_=>ŧ
def UT{K:ϑ}(e:pE (x::xs)=O (K,us)):∃k w κ u P0,kJ k=O κ/\pE xs=O (u,P0)/\x=.T [k,w]/\K=k::u/\us=w::P0:=by
 delta pE at e;split at e;.done
 .grind
 .cases e
def EO:∀{s us:ϑ}{vs:ϕ},pE xs=O (s,us)->aY (Y.z G) M H xs vs->∃aU:Ł _,kF Y G M H s us aU/\Paired (λt c=>∃b,t=V.A b/\g9 Y.K H b [kV c.1,c.2]) vs aU:=by induction xs with
 |f=>intro s us vs e q;cases e;induction vs with|f=>exact([],kF.nil,.nil)|g _ _=>done
 |g x xs I=>intro s us vs e q;cases vs with|f=>rwa[q.elim]|g v vs=>let(k,w,κ,u,P,f,r,rfl,rfl,rfl):=UT e;let(aU,d,pp):=I r q.2;let(b,ws,rfl,sq,i):=qo q.1;cases ws with|f=>rwa[i.elim]|g U ws=>let i1:=i.1;replace i:=i.2;cases ws with|f=>rwa[i.elim]|g u2 ws=>let i2:=i.1;replace i:=i.2;induction ws with|g _ _=>rwa[i.elim]|f=>cases Eo f i1;exact((κ,u2)::aU,kF.cons.mpr ((f,i2),d),.cons (b,Ŗ,sq) pp)
theorem uo:∀{K us f P:ϑ}{m U:Ł _},kF Y G M H K us m->kF Y G M H f P U->kF Y G M H (tR K us (f,P)).1 (tR K us (f,P)).2 (j9 U m)|[],[],_,_,[],_,_,d=>d|k::K,u::us,f,P,p::m,U,d,d2=>by obtain⟨⟨a,b⟩,c⟩:=kF.cons.mp d;show kF Y G M H (tR K us _).1 _ (j9 (kg U p.1 p.2) _);rwa[uo c (Gs a b d2)]|[],_::_,_,_,U,_,h,_=>by let:=h.1.len;let:=h.2.len;simp at*;lia|_::_,[],_,_,U,_,h,_=>by let:=h.1.len;let:=h.2.len;simp at*;lia|[],[],_,_,_::_,_,h,_=>by let:=h.1.len;simp at this|_::_,_::_,_,_,[],_,h,_=>by let:=h.1.len;simp at this
def Tc:pL Y (λxs H Q=>∃(l:À)(s:ϕ)(U:Ł _),xs=[.A l]/\gA Y.K H l s/\Á U<=100/\Paired (λt k=>∃b,t=V.A b/\g9 Y.K H b [kV k.1,k.2]) s U/\∀a,H a=ao->Q (.A a) (dq H a (.dK (j9 [] U)))) SN:=λG M h H xs m Q n r I q out=>by
 delta SN gC at q;split at q
 .let(v,rfl,i):=I.sx;split at q
  .ext xs ex;split at q
   .ext P g;let(c,q):=cJ q;let(a,ws,rfl,s1,j):=il r i ex;let(U,d,pp):=EO g j;let hl:=by let:=d.1.len;rw[ae]at this;rwa[this.symm]
    erw[(a,ws,U,Ŗ,gA.of s1,by rw[hl];rwa[aI c],pp,λb f=>?_)];let d2:=uo d kF.nil;erw[out _ h M _ _ (Ext.add f) (r.add f) ?_ q];exact(b,_,Ŗ,r.pQ f,.inl bC,d2.1.ext r (Ext.add f),d2.2.ext r (Ext.add f))
   .left
  .left
 .left
theorem qM:∀{ws:ϐ}{U:Ł (cs×V)},U.map (λp=>kV p.1)=ws.map V.S->U.map (·.1)=ws.map Ü|[],[],_=>Ŗ|[],_::_,e=>by simp at e|_::_,[],e=>by simp at e|w::ws,p::U,e=>by rw[cF,cF]at e;injection e with c f;rw[cF,cF,qM f];induction d:p.1 with|inl i=>rw[d]at c;cases c|inr x=>rw[d]at c;cases c;rfl
end
set_option genInjectivity false
structure Gm where
 fn:Ń->Ct
 fok:Ϙ
 gl:Ń->Pv
 ZM:Ϙ
 lF:Ń->Ct
 iok:Ϙ
 tab:Ń->Å->Ő (Ł Å)tok:Ϙ
 Kq:Ϙ
structure Sx where
 N:ϐ
 sc:Í
 gB:Ń->Å
 gnm:Ń->Å
 tnm:Ń->Å
 rX:Ń->Å
 fl:Ń->ϐ
 bok:ϐ
 cok:Ϙ
 xok:Ϙ
 fr:Þ
 cm:Þ
def Db(sc:Í)(x:Å):Þ:=match sc.names.lookup x with|O .local=>J|O .cell=>J|O .free=>J|_=>bb
def TZ(sc:Í)(x:Å):Þ:=match sc.names.lookup x with|O .local=>J|O .cell=>J|_=>bb
def Ak(sc:Í)(x:Å):Þ:=match sc.names.lookup x with|O .local=>J|_=>bb
def ZK(sc:Í)(x:Å):Þ:=match sc.names.lookup x with|O .globalImplicit=>J|_=>bb
def T9(x:Å):Þ:=cE x "__debug__"||cE x "__classdict__"||cE x "__name__"
def pT(x:Å):ϐ->Þ|[]=>bb|y::r=>cE x y||pT x r
def Jn(x:Å):Ń->ϐ->Þ|0,y::_=>cE x y|n+1,_::r=>Jn x n r|_,[]=>bb
theorem jT:∀{l:ϐ},pT x l=J->x∈l
 |[],h=>by cases h|y::r,h=>by
  rcases(jG _ _).mp h with h|h;.rw[bN.mp h];rwa[aJ]
  .rwa[aG _ (jT h)]
theorem jV:∀{n:Ń}{l:ϐ},Jn x n l=J->l[n]?=O x|0,y::_,h=>by rw[bN.mp h];rfl|n+1,_::r,h=>by rw[ZW];rwa[jV h]|0,[],h=>by cases h|_+1,[],h=>by cases h
def km{α:Type}(o:Ő α)(f:α->Þ):Þ:=match o with|O a=>f a|ao=>bb
def cG(h:km o f):∃a,o=O a/\f a=true:=by induction o with|a=>cases h|c a=>exact(a,Ŗ,h)
def ag(h:(a&&b)):a/\b=true:=(aK _ _).mp h
def gm(h:(!a)):a=false:=()
def l1{α:Type}:Ł α->Ő α|[a]=>O a|_=>ao
def fD:∀{l:Ł α}{a:α},l1 l=O a->l=[a]|[],_,h=>by cases h|[_],_,h=>by cases h;rfl|_::_::_,_,h=>by cases h
def l2{α:Type}:Ł α->Ő (α×α)|[a,b]=>O (a,b)|_=>ao
def qN:∀{l:Ł α}{p:α×α},l2 l=O p->l=[p.1,p.2]|[],_,h=>by cases h|[_],_,h=>by cases h|[_,_],_,h=>by cases h;rfl|_::_::_::_,_,h=>by cases h
def lc{α:Type}:Ł α->Ő (α×Ł α)|a::r=>O (a,r)|[]=>ao
def BG:∀{l:Ł α}{p:α×Ł α},lc l=O p->l=p.1::p.2|[],_,h=>by cases h|_::_,_,h=>by cases h;rfl
def wY{α:Type}:Ł α->Þ|[]=>J|_=>bb
def fU(h:wY l):l=[]:=by induction l<;>first|rfl|cases h
def tj(n m:Ń)(k:n=m->Þ):Þ:=match h:Ì n m with|J=>k (aV h)|bb=>bb
def eo(h:tj n m k):∃e,k e=true:=by
 delta tj at h;split at h;.exact(_,h)
 .cases h
def wM(f:Å->Ó->Þ)(x:Æ):Þ:=tj _ 23 λe=>Expr.Name.elim x e f
@[elab_as_elim]def jr{P:Æ->ß}(h:wM f x)(q:∀n p,f n p=J->P (.Name n p)):P x:=(eo h).elim λe h=>Expr.Name.elim x e (λn p _ h=>q n p h) e h
def œ(f:Æ->Operator->Æ->Ó->Þ)(x:Æ):Þ:=tj _ 2 λe=>Expr.BinOp.elim x e f
@[elab_as_elim]def V7{P:Æ->ß}(h:œ f x)(q:∀a o b p,f a o b p=J->P (.BinOp a o b p)):P x:=(eo h).elim λe h=>Expr.BinOp.elim x e (λa o b p _ h=>q a o b p h) e h
def Go(f:UnaryOp->Æ->Ó->Þ)(x:Æ):Þ:=tj _ 3 λe=>Expr.UnaryOp.elim x e f
@[elab_as_elim]def P9{P:Æ->ß}(h:Go f x)(q:∀o a p,f o a p=J->P (.UnaryOp o a p)):P x:=(eo h).elim λe h=>Expr.UnaryOp.elim x e (λo a p _ h=>q o a p h) e h
def P4(f:Æ->Ł CmpOp->Ł Æ->Ó->Þ)(x:Æ):Þ:=tj _ 15 λe=>Expr.Compare.elim x e f
@[elab_as_elim]def uO{P:Æ->ß}(h:P4 f x)(q:∀a o b p,f a o b p=J->P (.Compare a o b p)):P x:=(eo h).elim λe h=>Expr.Compare.elim x e (λa o b p _ h=>q a o b p h) e h
def XY(f:BoolOp->Ł Æ->Ó->Þ)(x:Æ):Þ:=tj _ 0 λe=>Expr.BoolOp.elim x e f
@[elab_as_elim]def P2{P:Æ->ß}(h:XY f x)(q:∀o es p,f o es p=J->P (.BoolOp o es p)):P x:=(eo h).elim λe h=>Expr.BoolOp.elim x e (λo es p _ h=>q o es p h) e h
def ZB(f:Æ->Æ->Æ->Ó->Þ)(x:Æ):Þ:=tj _ 5 λe=>Expr.IfExp.elim x e f
@[elab_as_elim]def V9{P:Æ->ß}(h:ZB f x)(q:∀a b c p,f a b c p=J->P (.IfExp a b c p)):P x:=(eo h).elim λe h=>Expr.IfExp.elim x e (λa b c p _ h=>q a b c p h) e h
def Kw(f:Ł Æ->Ń->Ó->Þ)(x:Æ):Þ:=tj _ 25 λe=>Expr.Tuple.elim x e f
@[elab_as_elim]def oO{P:Æ->ß}(h:Kw f x)(q:∀es k p,f es k p=J->P (.Tuple es k p)):P x:=(eo h).elim λe h=>Expr.Tuple.elim x e (λes k p _ h=>q es k p h) e h
def H0(f:Ł Æ->Ó->Þ)(x:Æ):Þ:=tj _ 24 λe=>Expr.List.elim x e f
@[elab_as_elim]def AJ{P:Æ->ß}(h:H0 f x)(q:∀es p,f es p=J->P (.List es p)):P x:=(eo h).elim λe h=>Expr.List.elim x e (λes p _ h=>q es p h) e h
def Fz(f:Æ->Æ->Ó->Þ)(x:Æ):Þ:=tj _ 21 λe=>Expr.Subscript.elim x e f
@[elab_as_elim]def oN{P:Æ->ß}(h:Fz f x)(q:∀a i p,f a i p=J->P (.Subscript a i p)):P x:=(eo h).elim λe h=>Expr.Subscript.elim x e (λa i p _ h=>q a i p h) e h
def PP(f:Ő Æ->Ő Æ->Ő Æ->Ó->Þ)(x:Æ):Þ:=tj _ 26 λe=>Expr.Slice.elim x e f
@[elab_as_elim]def Wa{P:Æ->ß}(h:PP f x)(q:∀a b c p,f a b c p=J->P (.Slice a b c p)):P x:=(eo h).elim λe h=>Expr.Slice.elim x e (λa b c p _ h=>q a b c p h) e h
def ki(f:Æ->Ł Æ->Ł g5->Ó->Þ)(x:Æ):Þ:=tj _ 16 λe=>Expr.Call.elim x e f
@[elab_as_elim]def fk{P:Æ->ß}(h:ki F x)(q:∀f es k p,F f es k p=J->P (.Call f es k p)):P x:=(eo h).elim λe h=>Expr.Call.elim x e (λf es k p _ h=>q f es k p h) e h
def Kv(f:Æ->Å->Ó->Þ)(x:Æ):Þ:=tj _ 20 λe=>Expr.Attribute.elim x e f
@[elab_as_elim]def rj{P:Æ->ß}(h:Kv F x)(q:∀o f p,F o f p=J->P (.Attribute o f p)):P x:=(eo h).elim λe h=>Expr.Attribute.elim x e (λo f p _ h=>q o f p h) e h
def P5(f:Æ->Ł Comprehension->Í->Ó->Þ)(x:Æ):Þ:=tj _ 8 λe=>Expr.ListComp.elim x e f
@[elab_as_elim]def P6{P:Æ->ß}(h:P5 f x)(q:∀e g sc p,f e g sc p=J->P (.ListComp e g sc p)):P x:=(eo h).elim λe h=>Expr.ListComp.elim x e (λe g sc p _ h=>q e g sc p h) e h
def ŕ(f:Ł (Ő Æ)->Ł Æ->Ó->Þ)(x:Æ):Þ:=tj _ 6 λe=>Expr.Dict.elim x e f
@[elab_as_elim]def uP{P:Æ->ß}(h:ŕ f x)(q:∀k vs p,f k vs p=J->P (.Dict k vs p)):P x:=(eo h).elim λe h=>Expr.Dict.elim x e (λk vs p _ h=>q k vs p h) e h
def P7(f:ė->Ń->Ó->Þ)(x:Æ):Þ:=tj _ 19 λe=>Expr.Constant.elim x e f
@[elab_as_elim]def rk{P:Æ->ß}(h:P7 f x)(q:∀c k p,f c k p=J->P (.Constant c k p)):P x:=(eo h).elim λe h=>Expr.Constant.elim x e (λc k p _ h=>q c k p h) e h
def W9(S:Sx)(i:Ń):Æ->Þ:=wM λx _=>Jn x i S.N&&(Db S.sc x&&!T9 x)
def AO(S:Sx)(n:Å):Æ->Þ:=wM λx _=>cE x n&&(ZK S.sc x&&!T9 x)
def lw:Pv->ė->Þ
 |.I i,c=>match c with|.int j=>Đ (i=j)|_=>bb
 |.B i,c=>match c with|.bool j=>i==j|_=>bb
 |.S i,c=>match c with|.str j=>cE i j|_=>bb
 |.N,c=>match c with|.none=>J|_=>bb
 |_,_=>bb
def YQ(p:Pv):Æ->Þ:=P7 λc _ _=>lw p c
def mM(x:Æ):Þ:=!Nat.beq x.ctorIdx 7
def BM(x:Æ):Þ:=!(Ì x.ctorIdx 26||Ì x.ctorIdx 25)
def NR(x:Æ):Þ:=!ki (λ_ e _ _=>wY e) x
def ϫ(x:Æ):Þ:=!(Ì x.ctorIdx 0||(Ì x.ctorIdx 3||(Ì x.ctorIdx 15||Ì x.ctorIdx 5)))
def Yi(w:ce)(K:Ä)(i:Ń)(ad:À)(t:Å->Ő ϐ):ß:=match Ë 50 i with|bb=>C5 w K ad t|J=>Ie w K ad t
def yZ(w:ce)(K:Ä)(m:db)(g:Ń->Å)(i:Ń)(ad:À)(t:Å->Ő ϐ):ß:=match Ë 100 i with|bb=>Yi w K i ad t|J=>tJ w K m g ad t
def ĵ(c:Þ)(P:cp)(w:ce)(K:Ä)(m:db)(base:È)(k:Ń)(x:Å)(ps:ϐ)(sp:Sp):ß:=match c with|J=>nc P w K m base k x ps sp|bb=>tI P w K m base k x ps sp
def K3(c:Þ)(P:cp)(w:ce)(K:Ä)(m:db)(base:È)(k:Ń)(C:À)(x:Å)(ps:ϐ)(sp:Sp):ß:=match c with|J=>yX P w K m base (sG P w) k C x ps sp|bb=>rQ P w K m base k C x ps sp
def uT(P:cp)(w:ce)(K:Ä)(m:db)(base:È)(k:Ń)(nm:Å)(C:Ń->À)(c:Ń)(ps:ϐ)(sp:Sp):ß:=match Ë 80 c with|bb=>lH P w K m base k nm (C c) ps sp|J=>match Ë 90 c with|bb=>lH P w K m base k nm (C (c-80)) ps sp|J=>xg P w K m base k nm sp
def jl(a:Þ)(P:cp)(w:ce)(K:Ä)(m:db)(base:È)(k:Ń)(nm:Å)(C:Ń->À)(c:Ń)(ps:ϐ)(sp:Sp):ß:=match Ë 100 c with|bb=>uT P w K m base k nm C c ps sp|J=>K3 a P w K m base k (C (c/100-1)) nm ps sp
def acn{i:Ń}(h:Ë 50 i=bb):Ë 100 i=false:=by rw[bB]at h⊢;rwa[λz=>h (jL.mpr (aj ⋯ (jL.mp z)))]
def aaP{K:Ä}{m:Å->Ő _}{i:Ń}{ad:À}(h:Ë 50 i=bb)(T:yZ w K m g i ad tab):C5 w K ad tab:=by delta yZ Yi at T;rw[acn h,h]at T;rwa[T]
def ϒ{K:Ä}{m:Å->Ő _}{i:Ń}{ad:À}(h:Ë 50 i)(H:Ë 100 i=bb)(T:yZ w K m g i ad tab):Ie w K ad tab:=by delta yZ Yi at T;rw[H,h]at T;rwa[T]
def PM{K:Ä}{m:Å->Ő _}{i:Ń}{ad:À}(h:Ë 100 i)(T:yZ w K m g i ad tab):tJ w K m g ad tab:=by simp only[yZ,h]at T;rwa[T]
def zf{b i:Ń}(ab:a<=b)(h:Ë a i=bb):Ë b i=false:=by rw[bB]at h⊢;rwa[λz=>h (jL.mpr (aj ab (jL.mp z)))]
def MN{K:Ä}{c:Ń}(h:Ë 80 c=bb)(T:jl cm P w K mg base k nm ca c ps sp):lH P w K mg base k nm (ca c) ps sp:=by delta jl uT at T;rw[zf ⋯ h,h]at T;rwa[T]
def Z5{K:Ä}{c:Ń}(h:Ë 80 c)(H:Ë 90 c=bb)(T:jl cm P w K mg base k nm ca c ps sp):lH P w K mg base k nm (ca (c-80)) ps sp:=by delta jl uT at T;rw[zf ⋯ H,h,H]at T;rwa[T]
def Z4{K:Ä}{c:Ń}(h:Ë 90 c)(H:Ë 100 c=bb)(T:jl cm P w K mg base k nm ca c ps sp):xg P w K mg base k nm sp:=by delta jl uT at T;rw[H,jL.mpr (aj ⋯ (jL.mp h)),h]at T;rwa[T]
def GK{K:Ä}{c:Ń}(h:Ë 80 c=bb)(T:lH P w K mg base k nm (ca c) ps sp):jl cm P w K mg base k nm ca c ps sp:=by delta jl uT;rw[zf ⋯ h,h];rwa[T]
def Z6{K:Ä}{c:Ń}(h:Ë 100 c)(T:jl cm P w K mg base k nm ca c ps sp):K3 cm P w K mg base k (ca (c/100-1)) nm ps sp:=by simp only[jl,h]at T;rwa[T]
theorem K3.mono{K:Ä}(T:K3 cm P w K mg base j C nm ps sp)(h:j<=k):K3 cm P w K mg base k C nm ps sp:=by induction cm with|d=>rwa[yX.mono T h]|e=>rwa[rQ.mono T h]
theorem uT.mono{K:Ä}(T:uT P w K mg base j nm ca c ps sp)(h:j<=k):uT P w K mg base k nm ca c ps sp:=by
 delta uT at*;split at T;.rwa[T.mono h]
 .split at T;.rwa[T.mono h]
  .rwa[T.mono h]
theorem jl.mono{K:Ä}(T:jl cm P w K mg base j nm ca c ps sp)(h:j<=k):jl cm P w K mg base k nm ca c ps sp:=by
 delta jl at*;split at T;.rwa[T.mono h]
 .rwa[T.mono h]
def K4(K:Ä)(c:Ń)(C:À):ß:=match Ì c 999 with|bb=>K5 K C|J=>HY K C
def Zv{K:Ä}{c:Ń}(h:Ë 999 c=bb)(T:K4 K c C):K5 K C:=by
 let e:Ì c 999=false:=by induction q:Ì c 999 with|e=>rfl|d=>left
 simp only[K4,e]at T;rwa[T]
structure mV(Γ:Gm)(t:Tb)(k:Ń)(S:Sx)(X:Cx)(E:XK):ß where
 hN:X.N=S.N
 hs:X.env.scope=S.sc
 hc:S.cm=J->X.calm/\X.A.handled=ao
 hq:Hq X
 hp:gR (sG X.prog X.w) X E
 hr:gX (k+1) X.A
 bl:∀x∈S.bok,X.mg x=ao
 gB:S.gB=t.gB
 fn:∀i∈Γ.fok,∃ps,ĵ S.cm X.prog X.w X.K X.mg X.base (k+1) (t.gB i) ps (dG 'X' (Γ.fn i))gl:∀i∈Γ.ZM,∃u v,X.mg (S.gnm i)=O u/\RelV v u/\∀G M H,eg ('X'.z G) M H (Γ.gl i) v
 tab:∀i∈Γ.tok,∃ad,X.mg (S.tnm i)=O (.ref ad)/\yZ X.w X.K X.mg t.gB i ad (Γ.tab i)cls:∀c∈S.cok,sH X.K t c/\t.fl c=S.fl c
 lF:∀c∈Γ.iok,∃ps,jl S.cm X.prog X.w X.K X.mg X.base k (S.rX c) t.ca c ps (dG 'X' (Γ.lF c))fx:S.fr=J->CA X/\gi X E
 fu:∀i∈Γ.Kq,∃ps,tI X.prog X.w X.K X.mg X.base (k+1) (t.gB i) ps (dG 'X' (Γ.fn i))
def mV.hu(o:mV Γ t k S X E):X.A.units+64<Ï:=o.hr.units
def mV.SV(o:mV Γ t k S X E):X.A.units+1<Ï:=o.hr.aaZ
theorem mV.room(o:mV Γ t k S X E)(h:S.cm):ff (k+1) X.A:=o.hr.room (o.hc h).2
def mV.fnX(o:mV Γ t k S X E)(h:S.cm):∀i∈Γ.fok,∃ps,nc X.prog X.w X.K X.mg X.base (k+1) (t.gB i) ps (dG 'X' (Γ.fn i)):=λi H=>by let(ps,D):=o.fn i H;rw[h]at D;exact(ps,D)
theorem mV.runs(o:mV Γ t k S X E)(h:i∈Γ.fok):∃f,X.mg (t.gB i)=O (.ref f)/\keepIn X.K (.ref f)/\gj X f (dG 'X' (Γ.fn i)) [] E:=by let(ps,D):=o.fn i h;induction H:S.cm with|d=>rw[H]at D;let(f,d,F,m,a,b):=nc.ex D;exact(f,m,a,F.runs (o.room H) b .nil o.hp)|e=>rw[H]at D;let(f,d,F,m,a,b):=tI.ex D;exact(f,m,a,F.runs o.hr o.hq b .nil)
def mV.D_(o:mV Γ t k S X E)(h:c∈Γ.iok)(H:Ë 100 c):∃f,yY X.K (t.ca (c/100-1)) (S.rX c) f/\gj X f (dG 'X' (Γ.lF c)) [] E:=by let(ps,D):=o.lF c h;replace D:=(Z6 H D).mono (bj k);induction a:S.cm with|d=>rw[a]at D;let(f,d,F,m,H):=yX.ex D;exact(f,m,F.runs (o.room a) H .nil o.hp)|e=>rw[a]at D;let(f,d,F,m,H):=rQ.ex D;exact(f,m,F.runs o.hr o.hq H .nil)
def EE(h:T9 x=bb):(x=="__debug__")=bb/\(x=="__classdict__")=bb/\x≠"__name__":=by delta T9 at h;simp only[ĝ]at h;rw[oM,oM];exact(h.1.1,h.1.2,λz=>by rw[bN.mpr z]at h;rwa[ê h.2])
def Qb(h:Db sc x):Wz sc x:=by
 delta Db at h;split at h;.ext e;rwa[.inl e]
 .ext e;rwa[.inr (.inl e)]
 .ext e;rwa[.inr (.inr e)]
 .cases h
def Ac(h:TZ sc x):L2.Loc sc x:=by
 delta TZ at h;split at h;.ext e;rwa[.inl e]
 .ext e;rwa[.inr e]
 .cases h
def wq(h:Ak sc x):sc.names.lookup x=O .local:=by
 delta Ak at h;split at h;.done
 .cases h
def ZL(o:mV Γ t k S X E)(h:ZK S.sc x):Gl X x:=by
 delta ZK at h;split at h;.ext e;show X.env.scope.names.lookup x=_;rw[o.hs];rwa[e]
 .cases h
def fV(o:mV Γ t k S X E)(h:AO S n x):∃pos,x=.Name n pos/\Gl X n/\(n=="__debug__")=bb/\n≠"__name__":=by erw[jr h λy p h=>?_];let(H,h):=ag h;let(a,b):=ag h;let e1:=bN.mp H;subst e1;let z:=EE (gm b);exact(p,Ŗ,ZL o a,z.1,z.2.2)
def j_(o:mV Γ t k S X E)(h:W9 S i x):PE X x (AH i):=by erw[jr h λy p h=>?_];let(H,h):=ag h;let(a,b):=ag h;let z:=EE (gm b);rwa[wu (by rw[o.hN];rwa[jV H]) (by rw[o.hs];rwa[Qb a]) z.1 z.2.1]
def YR(h:YQ p x):PE X x (dm 'X' E (sC p)):=by
 erw[rk h λc j q h=>?_];cases p<;>first|done|skip
 case N=>induction c<;>first|done|rwa[Jz P' λ_ _ _=>by rfl]
 case B=>induction c<;>first|done|(rw[HR h];rwa[Jz Ź λ_ _ _=>by rfl])
 case I=>induction c<;>first|done|(rw[bL h];rwa[Jz EL λ_ _ _=>by rfl])
 case S=>induction c<;>first|done|(rw[bN.mp h];rwa[Jz Oe λ_ _ _=>by rfl])
def uG(h:mM b):hU o b=false:=by cases b<;>first|rfl|cases h
def zV(h:BM b):mw b:=by intro o i;cases b<;>first|rfl|cases h
def mz(h:NR a):g6 a f env w=w:=by
 cases a<;>first|rfl|skip
 ext F args K pos;cases args with|f=>cases h|g _ _=>cases F<;>rfl
def aa4(h:ϫ e)(H:PE X e (dm 'X' E A)):PT X e (kM 'X' E A):=by cases e<;>first|rwa[UH H λ_=>Ŗ]|cases h
variable(Γ:Gm)(t:Tb)
structure Em where
 m:Sm
 ck:Sx->Æ->Þ
 pe:∀{k S X E x},mV Γ t k S X E->ck S x->PE X x (dm 'X' E m)
structure Tm where
 m:Sm
 ck:Sx->Æ->Þ
 pt:∀{k S X E x},mV Γ t k S X E->ck S x->PT X x (kM 'X' E m)
structure Wm(op:BoolOp)where
 m:Sm
 ck:Sx->Ł Æ->Þ
 pw:∀{k S X E xs},mV Γ t k S X E->ck S xs->∀pos,PW X (.BoolOp op xs pos) (kM 'X' E m)
structure Am where
 m:Sm
 ck:Sx->Ł Æ->Þ
 pa:∀{k S X E xs},mV Γ t k S X E->ck S xs->PA X xs (gv 'X' E m)/\xs.all cL=J
structure Jm where
 m:Sm
 ck:Sx->Æ->Æ->Þ
 pi:∀{k S X E tx x},mV Γ t k S X E->ck S tx x->PI X tx x (AG 'X' E (Je m))
end F
namespace F
open L2
def NU(n:Þ):O1:=λx h Q=>match x with|.p a=>Q (.p (.B (xz n (W8 a)))) h|.r _=>Q (.p (.B n)) h
def sCh(o1 o:O2)(A B C:Sm):Sm:=λX σ h Q=>A X σ h λs a=>match s with
 |[x]=>B X σ a λY c=>match Y with
  |[y]=>o1 x y c λd H=>match d with|.p (.B b)=>br b (C X σ H λZ e=>match Z with|[z]=>o y z e λd f=>Q [d] f|_=>ŧ) (Q [.p (.B bb)] H)|_=>ŧ
  |_=>ŧ
 |_=>ŧ
structure Bo where
 o:O2
 op:Operator
 ok:∀t X,∃r,kH X (binaryOp op) r/\ic 'X' r o
def eT:Bo:=(_,_,λ_ _=>(_,Ud,SY))
def A7:Bo:=(_,_,λ_ _=>(_,B',Tv))
def A6:Bo:=(_,_,λ_ _=>(_,Uh,M0))
def zd:Bo:=(_,_,λ_ _=>(_,Ug,Td))
def o5:Bo:=(_,_,λ_ _=>(_,U_,Tq))
def ahZ:Bo:=(_,_,λ_ _=>(_,Y_,Tu))
structure Co where
 o:O2
 op:CmpOp
 ok:∀t X,X.A.units+64<Ï->∃r,kH X (compareOp op) r/\ic 'X' r o
def jy:Co:=(MF,.Eq,λ_ _ hu=>(_,R_ hu,a_))
def mf:Co:=(Č,_,λ_ _ hu=>(_,X_ hu,h_))
def KI:Co:=(ć,.Lt,λ_ _ _=>(_,aey,g_))
def Ps:Co:=(YP,_,λ_ _ _=>(_,aex,f_))
def AN:Co:=(Ĥ,.Gt,λ_ _ _=>(_,aew,c_))
def rn:Co:=(Ĺ,_,λ_ _ _=>(_,ό,b_))
def WF:Co:=(_,.In,λ_ _ _=>(_,Jt,d_))
def V5{c:Ń}(h:Ë c 4):em (lA c)=O (.type (lA c)):=by match c,aI h with|0,_=>rwa[YB]|1,_=>rwa[Le]|2,_=>rwa[Q2]|3,_=>rwa[u0]|4,_=>rwa[FX]
section
variable{Γ:Gm}{t:Tb}
namespace Em
def v(i:Ń):Em Γ t:=(_,λS x=>W9 S i x,λo h=>ŵ (j_ o h))
def c(p:Pv):Em Γ t:=(_,λ_ x=>YQ p x,λ_ h=>YR h)
abbrev i(n:Î):Em Γ t:=c (.I n)
abbrev s(z:Å):Em Γ t:=c (.S z)
instance oe{n:Ń}:OfNat (Em Γ t) n:=⟨.v n⟩
def ofV:(OfNat.ofNat n:Em Γ t)=.v n:=rfl
def g(i:Ń):Em Γ t:=(_,λS x=>iU i Γ.ZM&&AO S (S.gnm i) x,λo h=>by let(H,h):=ag h;let(pos,rfl,a,d,_):=fV o h;let(u,v,m,r,I):=o.gl i (cQ.mp H);rwa[Jz (gh a m r d) I])
def ty(c:Ń):Em Γ t:=(sC (.ty c),λS x=>Ë c 4&&(AO S (lA c) x&&pT (lA c) S.bok),λo h=>by let(H,h):=ag h;let(a,b):=ag h;let(pos,rfl,g,d,hn):=fV o a;rwa[Jz (Xv (o.bl _ (jT b)) (V5 H) g hn d) λ_ _ _=>Ŗ])
def b2(p:Bo)(A B:Em Γ t):Em Γ t:=(_,λS=>œ λa o b _=>Đ (o=p.op)&&(A.ck S a&&B.ck S b),λ{k S X E x}o h=>by erw[V7 h λa f b q h=>?_];let(H,h):=ag h;let(c,d):=ag h;rw[bL H];let(r,R,e):=p.ok t X;rwa[aeH R e (A.pe o c) (B.pe o d)])
def neg(A:Em Γ t):Em Γ t:=(_,λS=>Go λo a _=>Đ (o=.USub)&&A.ck S a,λo h=>by erw[P9 h λp a q h=>?_];let(H,h):=ag h;rw[bL H];rwa[ϛ ϴ Tt (A.pe o h)])
end Em
def xn(S:Sx)(p:CmpOp)(A B:Em Γ t):Æ->Þ:=P4 λa os bs _=>km (l1 os) λo=>km (l1 bs) λb=>Đ (o=p)&&(mM b&&(A.ck S a&&B.ck S b))
@[elab_as_elim]def Dy{B:Em Γ t}{P:Æ->ß}(h:xn S o A B x)(k:∀a b p,hU o b=bb->A.ck S a->B.ck S b->P (.Compare a [o] [b] p)):P x:=by erw[uO h λa os bs q h=>?_];let(c,e,h):=cG h;let(b,E,h):=cG h;let(H,h):=ag h;let(d,h):=ag h;let(f,g):=ag h;let e3:=bL H;subst e3;rw[fD e,fD E];rwa[k a b q (uG d) f g]
def Bv(n:Þ):CmpOp:=bif n then .IsNot else .Is
def Ġ(S:Sx)(n:Þ)(A:Em Γ t):Æ->Þ:=P4 λa os bs _=>km (l1 os) λo=>km (l1 bs) λb=>Đ (o=Bv n)&&(P7 (λc _ _=>lw .N c) b&&A.ck S a)
def QY(h:lw .N c):c=.none:=by induction c<;>first|rfl|cases h
@[elab_as_elim]def Tw{A:Em Γ t}{P:Æ->ß}(h:Ġ S n A x)(k:∀a j p q,A.ck S a=J->P (.Compare a [Bv n] [.Constant .none j p] q)):P x:=by erw[uO h λa os bs q h=>?_];let(o,e,h):=cG h;let(b,E,h):=cG h;let(d,h):=ag h;let(H,f):=ag h;rw[fD e,fD E,bL d];erw[rk H λc j p H=>?_];rw[QY H];rwa[k a j p q f]
def Z9(c:PE X x (dm 'X' E A)):PC X (Bv g) x (.Constant .none j p) (dm 'X' E (s1 (NU g) A)):=by
 let key:∀{τ H b},dm 'X' E (s1 (NU g) A) τ H b->dm 'X' E A τ H λv H1=>b (.B (g !=Đ (v=.iq))) H1:=by intro τ H b (G,M,σ,h,l,Q,k,q);erw[(G,M,σ,h,l,_,(k.rel,k.env,λd h1 m H1 v f R i a=>?_,k.exc),q)];induction d with|r n=>let(ad,_,rfl):=i;erw[k.out _ h1 m H1 _ f R ?_ a];rw[cw (λz=>by cases z),Bool.bne_false];rwa[lj]|p d=>
   let a:Q _ h1:=a;rw[EC]at a;erw[k.out _ h1 m H1 _ f R ?_ a];let:W8 d=Đ (v=.iq):=by
    cases d;case N=>cases i;rfl
    case B=>cases i;rfl
    case I=>cases i;rfl
    case S=>cases i;rfl
    case ty=>cases i;rfl
    case T=>let(_,_,e,_):=i;rw[e];rfl
    case L=>let(_,_,e,_):=i;rw[e];rfl
    case scr=>let(_,_,e,_):=i;rw[e];rfl
    case dct=>let(_,_,e,_):=i;rw[e];rfl
    case obj=>let(_,_,_,e,_):=i;rw[e];rfl
    case fn=>let(_,_,e):=i;rw[e];rfl
    case key=>let(_,e,_):=i;rw[e];rfl
    case wld=>let(_,_,e,_):=i;rw[e];rfl
   rw[this];rwa[lj]
 induction g with|d=>rwa[λP s σ H Q I q=>Ul c _ s σ H Q I (by let:=key q;simp only[qg]at this;rwa[this])]|e=>rwa[λP s σ H Q I q=>K' c _ s σ H Q I (by let:=key q;simp only[oP]at this;rwa[this])]
def Ű(u:ic 'X' r o)(D:ic 'X' g i)(h:dm 'X' E (sCh o i A B C) τ H QV):PB r g (dm 'X' E A) (dm 'X' E B) (dm 'X' E C) τ H QV:=by
 let(G,M,σ,h,c,Q,k,q):=h;erw[(G,M,σ,h,c,_,(k.rel,k.env,λx W F H1 K e j L N=>?_,k.exc),q)];erw[(G,F,σ,W,c,_,k.on e j λy P M2 S v a l I T=>?_,N)];erw[u G M2 P S x y K v _ _ l (L.ext j a) I T λd m n U w b R Y f=>?_];split at f;.ext p;erw[(p,QN Y,?_)];induction p with|d=>erw[(G,n,σ,m,c,_,k.on (e.trans (a.trans b)) R λz Z M4 H4 vz s r4 i4 q4=>?_,f)];rwa[D G M4 Z H4 y z v vz _ _ r4 ((I.ext l b).ext R s) i4 q4 λd5 h5 M5 H5 w5 e5 r5 i5 q5=>k.out d5 h5 M5 H5 w5 (e.trans (a.trans (b.trans (s.trans e5)))) r5 i5 q5]|e=>rwa[k.out _ m n U _ (e.trans (a.trans b)) R lj f]
 .left
def Œ(S:Sx)(p q:CmpOp)(A B C:Em Γ t):Æ->Þ:=P4 λa os bs _=>km (l2 os) λo=>km (l2 bs) λb=>Đ (o.1=p)&&Đ (o.2=q)&&(mM b.2&&(A.ck S a&&(B.ck S b.1&&C.ck S b.2)))
@[elab_as_elim]def YL{C:Em Γ t}{P:Æ->ß}(h:Œ S p q A B C x)(k:∀a b c ps,hU q c=bb->A.ck S a->B.ck S b->C.ck S c->P (.Compare a [p,q] [b,c] ps)):P x:=by erw[uO h λa os bs ps h=>?_];let(o,e,h):=cG h;let(b,E,h):=cG h;let(H,h):=ag h;let(W,D):=ag H;let(d,h):=ag h;let(f,h):=ag h;let(g,i):=ag h;rw[qN e,qN E,bL W,bL D];rwa[k a b.1 b.2 ps (uG d) f g i]
def EJ(hu:X.A.units+1<Ï)(h:PE X x (dm 'X' E A))(H:PE X y (dm 'X' E B)):PC X (bif neg then .NotIn else .In) x y (dm 'X' E (s2 (Jo neg) A B)):=by induction neg with|d=>rwa[EK hu h H]|e=>rwa[Uk hu h H]
namespace Em
def cmp(c:Co)(A B:Em Γ t):Em Γ t:=(_,λS=>xn S _ A B,λ{k S X E x}o h=>by erw[Dy h λa b p H d e=>?_];let(r,R,f):=c.ok t X o.hu;rwa[γ R f (A.pe o d) (B.pe o e) H])
def ch(c d:Co)(A B C:Em Γ t):Em Γ t:=(_,λS=>Œ S _ _ A B C,λ{k S X E x}o h=>by erw[YL h λa b m p H e f g=>?_];let(r,R,i):=c.ok t X o.hu;let(n,j,l):=d.ok t X o.hu;exact(N5 R j (A.pe o e) (B.pe o f) (C.pe o g) H).imp λ_ _ _=>Ű i l)
end Em
namespace Tm
def val(A:Em Γ t):Tm Γ t:=(A.m,_,λo h=>aa4 (ag h).1 (A.pe o (ag h).2))
def cmp(c:Co)(A B:Em Γ t):Tm Γ t:=(_,λS=>xn S _ A B,λ{k S X E x}o h=>by erw[Dy h λa b p H d e=>?_];let(r,R,f):=c.ok t X o.hu;rwa[UG R f (A.pe o d) (B.pe o e) H])
def isN(n:Þ)(A:Em Γ t):Tm Γ t:=(_,λS=>Ġ S n A,λo h=>by rwa[Tw h λa j p q H=>Ot (Z9 (A.pe o H)) (uG Ŗ)])
def din(n:Þ)(A B:Em Γ t):Tm Γ t:=(s2 (Jo n) A.m B.m,λS=>xn S _ A B,λo h=>by rwa[Dy h λa b p H c d=>Ot (EJ o.SV (A.pe o c) (B.pe o d)) H])
def not(A:Tm Γ t):Tm Γ t:=(_,λS=>Go λo a _=>Đ (o=.Not)&&A.ck S a,λo h=>by erw[P9 h λp a q h=>?_];let(H,h):=ag h;rw[bL H];exact(ů (A.pt o h)).imp λ_ _ _=>PJ)
end Tm
namespace Wm
def a1(A:Tm Γ t):Wm Γ t .And:=(A.m,λS x=>km (l1 x) _,λo h pos=>by let(a,e,h):=cG h;rw[fD e];rwa[U2 (A.pt o h)])
def o1(A:Tm Γ t):Wm Γ t .Or:=(A.m,λS x=>km (l1 x) _,λo h pos=>by let(a,e,h):=cG h;rw[fD e];rwa[ų (A.pt o h)])
def C4(xs:Ł Æ)(f:Æ->Ł Æ->Þ):Þ:=km (lc xs) λp=>!wY p.2&&f p.1 p.2
@[elab_as_elim]def Nn{P:Ł _->ß}(h:C4 xs f)(k:∀a b r,f a (b::r)=J->P (a::b::r)):P xs:=by obtain⟨⟨a,r⟩,e,h⟩:=cG h;rw[BG e];induction r with|f=>done|g b r=>rwa[k a b r h]
def ac(A:Tm Γ t)(B:Wm Γ t .And):Wm Γ t .And:=(_,λS x=>C4 x λa r=>A.ck S a&&B.ck S r,λo h pos=>by rwa[Nn h λa b r h=>(aaf (A.pt o (ag h).1) (B.pw o (ag h).2 pos)).imp λ_ _ _=>PH])
def oc(A:Tm Γ t)(B:Wm Γ t .Or):Wm Γ t .Or:=(_,λS x=>C4 x λa r=>A.ck S a&&B.ck S r,λo h pos=>by rwa[Nn h λa b r h=>(aeM (A.pt o (ag h).1) (B.pw o (ag h).2 pos)).imp λ_ _ _=>VH])
end Wm
def Tm.bo{a:BoolOp}(B:Wm Γ t a):Tm Γ t:=(B.m,λS=>XY λo x _=>Đ (o=a)&&B.ck S x,λo h=>by erw[P2 h λb x p h=>?_];let(H,h):=ag h;rw[bL H];exact(B.pw o h p).pt)
namespace Bm
end Bm
namespace Em
def Qz(T:Tm Γ t)(A B:Em Γ t):Em Γ t:=(_,λS=>ZB _,λo h=>by erw[V9 h λa b c p h=>?_];let(H,h):=ag h;let(d,e):=ag h;rwa[η (T.pt o H) (A.pe o d) (B.pe o e)])
end Em
namespace Am
def nil:Am Γ t:=(_,λ_ x=>wY x,λ_ h=>by rw[fU h];exact(Uz,Ŗ))
def cons(A:Em Γ t)(B:Am Γ t):Am Γ t:=(_,λS x=>km (lc x) λp=>cL p.1&&(A.ck S p.1&&B.ck S p.2),λo h=>by obtain⟨⟨a,r⟩,e,h⟩:=cG h;let(H,h):=ag h;let(b,c):=ag h;rw[BG e];let(p,q):=B.pa o c;exact(Oi (A.pe o b) p H,by grind))
abbrev u(A:Em Γ t):Am Γ t:=cons A nil
abbrev u2(A B:Em Γ t):Am Γ t:=cons A (u B)
abbrev u3(A B C:Em Γ t):Am Γ t:=cons A (u2 B C)
abbrev u4(A B C D:Em Γ t):Am Γ t:=cons A (u3 B C D)
abbrev u5(A B C D E:Em Γ t):Am Γ t:=cons A (u4 B C D E)
end Am
end
end F
namespace F
open L2
def Yy:em "max"=O (.builtin "max"):=by rfl
def Yz:em "min"=O (.builtin "min"):=by rfl
def zh:em "dict"=O (.type "dict"):=rfl
def BU(R:gj X f (dG 'X' C) [] E)(m:X.mg x=O (.ref f))(k:keepIn X.K (.ref f))(g:Gl X x)(b:PA X (a::r) (gv 'X' E A))(j:(x=="__debug__")=bb)(d:(a::r).all cL):PE X (.Call (.Name x p) (a::r) [] pos) (dm 'X' E (eV ρ C A)):=by
 rw[b8,aK]at d;erw[(BR R g m k b j (cy d.1) (fh d.2)).imp λτ H Q h=>?_];let e:yI (dG 'X' C) [] E (gv 'X' E A)=Cn (dG 'X' C) E (gv 'X' E A):=by delta yI Cn;simp only[aT]
 rw[e];rwa[Pz h]
structure Bi where
 o:ON
 nm:Å
 cm:Þ
 ok:∀{t X E A e es p pos},(cm=J->X.calm=J)->Gl X nm->X.mg nm=ao->PA X (e::es) (gv 'X' E A)->nm≠"__name__"->(nm==("__debug__":Å))=bb->(e::es).all cL->PE X (.Call (.Name nm p) (e::es) [] pos) (dm 'X' E (sN o A))
def eQ:Bi:=(_,_,bb,λ_ h H a hn j d=>BS Ip Tn h H Yx a hn j d)
def Ĩ:Bi:=(_,_,bb,λ_ h H a hn j d=>BS Io Th h H jc a hn j d)
def tS:Bi:=(_,_,bb,λ_ h H a hn j d=>wz xq M9 h H u0 a hn j d)
def R':Bi:=(_,_,bb,λ_ h H a hn j d=>wz zp MZ h H FX a hn j d)
def Zx:Bi:=(_,_,bb,λ_ h H a hn j d=>wz Il MY h H Le a hn j d)
def ϔ:Bi:=(_,_,_,λh H m a hn j d=>BS (Ir (h Ŗ)) To H m Yy a hn j d)
def ď:Bi:=(_,_,_,λh H m a hn j d=>BS (Iv (h Ŗ)) Tp H m Yz a hn j d)
def ail:Bi:=(_,_,_,λh H m a hn j d=>wz (lJ (h Ŗ)) Tc H m zh a hn j d)
structure Mt where
 c:Ń
 o:OM
 nm:Å
 ok:∀{t X E A R ob a rest cN dI},PE X ob (dm 'X' E A)->PA X (a::rest) (gv 'X' E R)->g6 ob nm X.env (Ê ob X.env)=Ê ob X.env->(a::rest).all cL->Á (a::rest)<30->(cN.endLine==dI.line)->PE X (.Call (.Attribute ob nm cN) (a::rest) [] dI) (dm 'X' E (i' c o A R))
def pX:Mt:=(4,_,_,λh H b p l hn=>ϓ PySem.F.plainAttrs_list PySem.F.slot_list_append PySem.F.type_list_append yq Ta h H b p l hn)
section
variable{Γ:Gm}{t:Tb}
def aeF(h:PE X x (dm 'X' E A))(H:PE X y (dm 'X' E B))(s:mw y):PE X (.Subscript x y pos) (dm 'X' E (s2 CK A B)):=(G8 k_ h H s).imp λ_ _ _=>wI e_
structure Pm(Γ:Gm)(t:Tb)where
 m:Ő Sm
 ck:Sx->Ő Æ->Þ
 po:∀{k S X E x},mV Γ t k S X E->ck S x->PO X x (Kk 'X' E m)
def Pm.no:Pm Γ t:=(_,λ_ x=>x.isNone,λ{k S X E x}_ h=>by induction x with|a=>rwa[Ol]|c x=>grind)
def Pm.of(A:Em Γ t):Pm Γ t:=(_,λS x=>km x _,λo h=>by let(a,e,h):=cG h;rw[e];rwa[Om (A.pe o h)])
def GU:Ł g5->Þ|[]=>J|_=>bb
def iV(h:GU l):l=[]:=by induction l<;>first|rfl|cases h
def Rl(S:Sx)(n:Å)(A:Am Γ t):Æ->Þ:=ki λf e k _=>GU k&&(AO S n f&&(!wY e&&A.ck S e))
@[elab_as_elim]def nI{k S X E}{A:Am Γ t}{P:Æ->ß}(o:mV Γ t k S X E)(h:Rl S n A x)(q:∀p pos e es,Gl X n->(n=="__debug__")=bb->n≠"__name__"->PA X (e::es) (gv 'X' E A.m)->(e::es).all cL->P (.Call (.Name n p) (e::es) [] pos)):P x:=by erw[fk h λf es K pos h=>?_];let(H,h):=ag h;let(b,h):=ag h;let(p,e,g,d,hn):=fV o b;rw[iV H,e];induction es with|f=>done|g a es=>let(pa,l):=A.pa o h;rwa[q p pos a es g d hn pa l]
def č(S:Sx)(A:Am Γ t):Æ->Þ:=H0 λe _=>A.ck S e
def y8(S:Sx)(A B:Em Γ t):Æ->Þ:=Fz λa i _=>BM i&&(A.ck S a&&B.ck S i)
@[elab_as_elim]def Pe{B:Em Γ t}{P:Æ->ß}(h:y8 S A B x)(q:∀a i p,mw i->A.ck S a->B.ck S i->P (.Subscript a i p)):P x:=by erw[oN h λa i p h=>?_];let(H,h):=ag h;let(b,c):=ag h;rwa[q a i p (zV H) b c]
def FR(h:lw (.I i) c):c=.int i:=by induction c<;>first|(rw[bL h])|cases h
def ml(S:Sx)(nm:Å)(o:Em Γ t)(f:Ł Æ->Þ):Æ->Þ:=ki λg e k q=>GU k&&(f e&&Kv (λb m p=>cE m nm&&(p.endLine==q.line&&(NR b&&o.ck S b))) g)
@[elab_as_elim]def si{o:Em Γ t}{P:Æ->ß}(h:ml S nm o f x)(q:∀b es cN d,f es=J->o.ck S b->NR b->(cN.endLine==d.line)->P (.Call (.Attribute b nm cN) es [] d)):P x:=by erw[fk h λg es k r h=>?_];let(H,h):=ag h;let(a,h):=ag h;rw[iV H];erw[rj h λb m p h=>?_];let(c,h):=ag h;let(e,h):=ag h;let(i,j):=ag h;rw[bN.mp c];rwa[q b es p r a j i e]
namespace Em
def tup(A:Am Γ t):Em Γ t:=(_,λS=>Kw _,λo h=>oO h λ_ _ _ h=>π (A.pa o h).1)
def lst(A:Am Γ t):Em Γ t:=(_,λS=>č S A,λo h=>AJ h λ_ _ h=>ν (A.pa o h).1)
def QA(A:Am Γ t):Em Γ t:=(_,λS=>č S A,λo h=>AJ h λ_ _ h=>μ (A.pa o h).1)
def ix(A B:Em Γ t):Em Γ t:=(_,λS=>y8 S A B,λo h=>Pe h λ_ _ _ H a b=>aeF (A.pe o a) (B.pe o b) H)
def sM(A B:Em Γ t):Em Γ t:=(_,λS=>y8 S A B,λo h=>Pe h λ_ _ _ H a b=>δ o.SV (A.pe o a) (B.pe o b) H)
def sl(A:Em Γ t)(L U:Pm Γ t):Em Γ t:=(_,λS=>Fz λa i _=>A.ck S a&&PP (λl u s _=>s.isNone&&(L.ck S l&&U.ck S u)) i,λo h=>by erw[oN h λa i p h=>?_];let(H,h):=ag h;erw[Wa h λl u s q h=>?_];let(d,h):=ag h;let(b,c):=ag h;induction s with|a=>rwa[aeI (A.pe o H) (L.po o b) (U.po o c)]|c s=>grind)
def bi(b:Bi)(A:Am Γ t):Em Γ t:=(_,λS x=>(S.cm||!b.cm)&&(pT _ _&&Rl S _ A x),λo h=>nI o (ag (ag h).2).2 λ_ _ _ _ H d hn pa p=>b.ok (λz=>(o.hc ()).1) H (o.bl _ (jT (ag (ag h).2).1)) pa hn d p)
def mt(m:Mt)(b:Em Γ t)(A:Am Γ t):Em Γ t:=(_,λS=>ml S _ b λe=>Ñ _ 30&&(!wY e&&A.ck S e),λo h=>si h λi e s D H c d f=>by let(G,g):=ag H;induction e with|f=>done|g a e=>let(pa,p):=A.pa o g;rwa[m.ok (b.pe o c) pa (mz d) p (aI G) f])
def cl(i:Ń)(ρ:Ϙ)(A:Am Γ t):Em Γ t:=(eV ρ _ A.m,λS x=>iU i _&&Rl S _ A x,λ{k S X E x}o h=>by let(f,H,a,R):=o.runs (cQ.mp (ag h).1);rw[<-o.gB]at H;rwa[nI o (ag h).2 λ_ _ _ _ g d hn pa p=>BU R H a g pa d p])
def ti(i:Ń)(A:Em Γ t):Em Γ t:=(_,λS=>Fz λf e _=>!Nat.ble 50 i&&iU i _&&(AO S _ f&&(BM e&&A.ck S e)),λo h=>by erw[oN h λf e p h=>?_];let(H,h):=ag h;let(a,h):=ag h;let(b,h):=ag h;let(P,E,g,d,hn):=fV o a;let(ad,m,T):=o.tab i (cQ.mp (ag H).2);replace T:=aaP (gm (ag H).1) T;rw[E];rwa[ο T g m (A.pe o h) d (zV b)])
def fld(c j:Ń)(A:Em Γ t):Em Γ t:=(s1 (Jq c j) A.m,λS=>Kv _,λo h=>by erw[rj h λa f p h=>?_];let(H,h):=ag h;let(b,h):=ag h;let(d,h):=ag h;let(C,e):=o.cls c (cQ.mp H);rwa[ε C (by rw[e];rwa[jV b]) (A.pe o h) (mz d)])
def R4:Æ->Þ:=ŕ λk v _=>wY k&&wY v
def Bn:Em Γ t:=(_,λ_=>R4,λo h=>by erw[uP h λk v p h=>?_];rw[fU (ag h).1];rwa[Uv])
def Gq:Em Γ t:=(_,λ_=>R4,λo h=>by erw[uP h λk v p h=>?_];rw[fU (ag h).1];rwa[Og])
end Em
namespace Jm
def s(A:Em Γ t):Jm Γ t:=(_,λS _ x=>A.ck S x,λo h=>UB (A.pe o h))
def r(A:Am Γ t):Jm Γ t:=(_,λS _ x=>pT _ _&&ki (λf E k _=>GU k&&(AO S _ f&&km (l1 E) λ_=>A.ck S E)) x,λo h=>by let(H,h):=ag h;erw[fk h λf E k q h=>?_];let(b,h):=ag h;let(c,h):=ag h;let(e,a,h):=cG h;let(p,d,g,i,hn):=fV o c;rw[fD a]at h;rw[iV b,fD a,d];let(p,q):=A.pa o h;rw[b8,aK]at q;rwa[UA g (o.bl _ (jT H)) p q.1])
def C3(S:Sx)(A:Am Γ t)(T x:Æ):Þ:=Kw (λ_ _ _=>pT "zip" S.bok&&ki (λf e k _=>GU k&&(AO S "zip" f&&km (l2 e) λ_=>A.ck S e)) x) T
@[elab_as_elim]def Qj{k S X E}{A:Am Γ t}{P:Æ->Æ->ß}(o:mV Γ t k S X E)(h:C3 S A c x)(q:∀es k0 T p pos a b,Gl X "zip"->X.mg "zip"=ao->PA X [a,b] (gv 'X' E A.m)->cL a->cL b->P (.Tuple es k0 T) (.Call (.Name "zip" p) [a,b] [] pos)):P c x:=by erw[oO h λes k0 T h=>?_];let(H,h):=ag h;erw[fk h λf s K pos h=>?_];let(g,h):=ag h;let(i,h):=ag h;let(e,d,h):=cG h;let(p,j,n,r,hn):=fV o i;rw[qN d]at h;rw[iV g,qN d,j];let(pa,l):=A.pa o h;rw[b8,b8,aK,aK]at l;rwa[q es k0 T p pos e.1 e.2 n (o.bl _ (jT H)) pa l.1 l.2.1]
def z(A:Am Γ t):Jm Γ t:=(_,λS T x=>C3 S A T x,λo h=>Qj o h λ_ _ _ _ _ _ _ g m pa b H=>G9 (c:=tO) (λr e i=>by cases HE e;let(a,v,h,s,i):=qo i;exact(a,v,h,λe=>(e.mv r).sqT s,i)) .inr (UP g m pa (by rw[cy b,cy H];rfl) (by rw[cy H];rfl)))
end Jm
end
end F
namespace F
open L2
def _root_.L2.nG.imp{X:Cx}{e:Ł _}{t t':TT}(h:nG X e t')(i:∀σ H Q,t σ H Q->t' σ H Q):nG X e t:=λp s σ H Q I q=>h _ s σ H Q I (i σ H Q q)
structure Fm(Γ:Gm)(t:Tb)where
 m:Sm
 ck:Sx->Ł Æ->Þ
 pf:∀{k S X E xs},mV Γ t k S X E->ck S xs->nG X xs (kM 'X' E m)
def B7(sc s:Í):Í:={s with names:=s.names.map λ(n,k)=>if k==.free&&sc.kind==.function&&sc.names.lookup n==O .cell then(n,.cell)else(n,k)}
def ajS(x:Æ):Ő Å:=if h:x.ctorIdx=23 then Expr.Name.elim x h λn _=>O n else ao
def Fo(x:Æ):ϐ:=match x with|.Name n _=>[n]|.Tuple e _ _=>e.filterMap ajS|_=>[]
def xf:ϐ->Þ|[]=>J|x::r=>!pT x r&&xf r
theorem qJ:∀{l:ϐ},x∈l->pT x l=J
 |[],h=>by grind|y::r,h=>by
  delta pT;rcases ax.mp h with h|h;.rw[bN.mpr h];rfl
  .rw[qJ h,nC]
theorem nX:∀{l:ϐ},xf l=J->l.Nodup|[],_=>iA|x::r,h=>by erw[dA.mpr (λz=>?_,nX (ag h).2)];let:=gm (ag h).1;rw[qJ z]at this;cases this
def ju(S:Sx)(x:Å):Þ:=TZ S.sc x&&(S.fr||Ak S.sc x)
def tw(S:Sx)(i:Ń):Æ->Þ:=wM λx _=>Jn x i S.N&&ju S x
def CL(S:Sx):Ϙ->Ł Æ->Þ|[],[]=>J|i::I,e::E=>tw S i e&&CL S I E|_,_=>bb
def im(S:Sx):Tg->Æ->Þ|.one i=>tw S i|.many I=>Kw λe _ _=>CL S I e
def Xx(a:X.N=S.N)(s:X.env.scope=S.sc)(d:X.N.Nodup)(f:∀y,ju S y=J->X.fn y\/X.env.scope.names.lookup y=O .local)(h:tw S i x):PG X x (lO i)/\∀env,ge [x] env=[(bb,assign x env)]:=by erw[jr h λn p h=>?_];let(b,H):=ag h;exact(UJ d (by rw[a];rwa[jV b]) (by rw[s];rwa[Ac (ag H).1]) (f n H),λ_=>Ŗ)
def Ii(h:cL x):ge (x::es) env=(bb,assign x env)::ge es env:=by cases x<;>first|rfl|cases h
def PQ(h:tw S i x):cL x=true:=jr h λ_ _ _=>Ŗ
theorem Ov(H:X.N=S.N)(s:X.env.scope=S.sc)(n:X.N.Nodup)(f:∀y,ju S y=J->X.fn y\/X.env.scope.names.lookup y=O .local):∀{is:Ϙ}{es:Ł _},CL S is es=J->Wx X es (Mu is)/\Á (ge es X.env)=Á is/\(ge es X.env).findIdx? (·.1)=ao|[],[],_=>(UL,Ŗ,Ŗ)|[],_::_,h=>by cases h|_::_,[],h=>by cases h|i::is,e::es,h=>by let(d,g):=ag h;let(a,b,c):=Ov H s n f g;let z:=Ii (es:=es) (env:=X.env) (PQ d);erw[(Ow (Xx H s n f d).1 a (by grind),by grind,?_)];rw[z,List.findIdx?_cons,c];rfl
def yw(d:Hq X)(H:X.N=S.N)(s:X.env.scope=S.sc)(n:X.N.Nodup)(f:∀y,ju S y=J->X.fn y\/X.env.scope.names.lookup y=O .local)(h:im S t x):PG X x (Sy X.K t):=by induction t with|one i=>exact(Xx H s n f h).1|many I=>erw[oO h λe k p h=>?_];let(a,b,c):=Ov H s n f h;rwa[UK d a b c]
def qH(h:mM e):hG e env x=pure x:=by cases e<;>first|rfl|cases h
section
variable{Γ:Gm}{t:Tb}
def Fm.no:Fm Γ t:=(sC (.B J),λ_ x=>wY x,λo h=>by rw[fU h];erw[Oz.imp λτ H a G=>?_];let(G,M,σ,h,X,Q,k,q):=G;let(b,e,z):=k.out _ h M H Ext.refl k.rel q;cases e;rwa[z])
def Fm.one(T:Tm Γ t):Fm Γ t:=(T.m,λS x=>km (l1 x) _,λo h=>by let(a,e,h):=cG h;rw[fD e];rwa[OA (T.pt o h)])
def tQ(s:Ϙ)(N:ϐ):ϐ:=s.map λj=>N[j]?.getD ""
def Rr(h:s.all (λj=>Ñ j (Á N))):s.map (λj=>N[j]?)=(tQ s N).map some:=by delta tQ;rw[bI];erw[yR λj H=>?_];rw[Function.comp_apply,ar (aI (bJ.mp h j H))];rfl
def Tk(N:ϐ)(sc s:Í):Þ:=Đ (s.kind=.function)&&(xf N&&(s.names.all (λy=>y.2 !=.cell)&&(s.names.all (λy=>y.2 !=.local||Ak s y.1)&&s.names.all λy=>y.2 !=.free||Đ (sc.names.lookup y.1=O .cell)&&!Ak (B7 sc s) y.1)))
def my{α:Type}{f:α->Þ}{l:Ł α}(h:l.all f):∀y∈l,f y=true:=bJ.mp h
def Vm(d:X.env.scope=sc)(h:Tk N sc scope):eO X N scope:=by
 let(g,h):=ag h;let(i,h):=ag h;let(j,h):=ag h;let(k,f):=ag h;let nx:∀{a b:NameKind}{c:Þ},(a !=b||c)=J->a=b->c=true:=λ{a b c}z e=>nofun
 erw[DA sc d (bL g) (nX i) (λy H z=>?_) (λy H z=>wq (nx (my k y H) z)) (λy H z=>bL (ag (nx (my f y H) z)).1) λy H z=>?_];.let:=my j y H;rw[z]at this;cases this
 .let q:=gm (ag (nx (my f y H) z)).2;delta Ak at q;intro w;rw[show(B7 sc _).names.lookup y.1=O _ from w]at q;cases q
def ZY(a:Ϙ)(S:Sx)(s:Í):Þ:=a.all (λj=>Ñ j (Á S.N))&&(tQ a S.N).all λy=>s.names.any λz=>cE z.1 y&&z.2==.free
def Ri(h:ZY a S s):a.map (λj=>S.N[j]?)=(tQ a S.N).map O/\∀y∈tQ a S.N,(y,å)∈s.names:=by let(H,b):=ag h;erw[(Rr H,λy c=>?_)];let(z,d,q):=List.any_eq_true.mp (my b y c);let(Z,f):=z;let(Q,e):=ag q;let E:Z=y:=bN.mp Q;let e2:=HR e;subst E e2;rwa[d]
def XN(S:Sx)(n:ϐ)(s:Í):Sx:={S with N:=n,sc:=B7 S.sc s,fr:=bb}
def G6(o:mV Γ t k S X E)(f:S.cm)(N:ϐ)(b:Í)(F:Ł _)(c:bn)(d:Hp):mV Γ t k (XN S N b) (ig X N b F c d) λ_ _ _=>ŧ where
 hN:=Ŗ;hs:=by show relabel _ _=B7 _ _;rw[<-o.hs];rfl
 hc:=o.hc;hq:=.inl (o.hc f).2;hp:=λp σ H s e g I h=>by let(a,C,_,i,_,_,q):=h;rwa[q.elim]
 hr:=o.hr;bl:=o.bl;gB:=o.gB;fn:=o.fn;gl:=o.gl;tab:=o.tab;cls:=o.cls;lF:=o.lF;fx:=λh=>by cases h
 fu:=o.fu
def Js(o:mV Γ t k S X E)(b:S.cm)(N:ϐ)(s:Í)(f:Ł _)(a:bn)(H:Hp):mV Γ t k (XN S N s) (c7 X N s f a H E) E where
 hN:=Ŗ;hs:=by show relabel _ _=B7 _ _;rw[<-o.hs];rfl
 hc:=o.hc;hq:=.inl (o.hc b).2;hp:=Dz;hr:=o.hr;bl:=o.bl;gB:=o.gB;fn:=o.fn;gl:=o.gl;tab:=o.tab;cls:=o.cls;lF:=o.lF;fx:=λh=>by cases h
 fu:=o.fu
def Lr(S:Sx)(n:Ń)(s:Ϙ)(T:Tg)(j:Sx->Æ->Æ->Þ)(F:Fm Γ t)(A:Sx->Æ->Þ):Æ->Þ:=P5 λe G sc _=>km (l1 G) λg=>S.cm&&Đ (g.is_async=0)&&(mM g.iter&&(Ì (Á (Fo g.target)) n&&(VQ n T&&(ZY s S sc&&(Tk (Fo g.target++tQ s S.N) S.sc sc&&(im (XN S (Fo g.target++tQ s S.N) sc) T g.target&&(j S g.target g.iter&&(F.ck (XN S (Fo g.target++tQ s S.N) sc) g.ifs&&A (XN S (Fo g.target++tQ s S.N) sc) e))))))))
@[elab_as_elim]def uk{F:Fm Γ t}{P:Æ->ß}(o:mV Γ t k S X E)(h:Lr S n s g j F A x)(q:∀a T ix i e sc p,eO X a sc->(∀σ:Ç,Á σ=Á X.N->k9 X a sc σ (sJ n s σ))->j S T ix->VQ n g->(∀{b c},mV Γ t k (XN S a sc) b c->PG b T (Sy b.K g))->F.ck (XN S a sc) i->A (XN S a sc) e->(∀v,hG ix X.env v=pure v)->S.cm->P (.ListComp e [(T,ix,i,0)] sc p)):P x:=by
 erw[P6 h λe M sc p h=>?_];obtain⟨⟨T,ix,i,Q⟩,l,h⟩:=cG h;rw[fD l];let(H,h):=ag h;let(m,h):=ag h;let(r,h):=ag h;let(u,h):=ag h;let(w,h):=ag h;let(d,h):=ag h;let(z,h):=ag h;let(B,h):=ag h;let(I,W):=ag h;let e0:=bL (ag H).2;subst e0;let f:Á (Fo T)=n:=aV r;let(C,G):=Ri w;let D:(Fo T++tQ s S.N).drop n=tQ s S.N:=by rw[<-f,List.drop_left]
 rwa[q _ T ix i e sc p (Vm o.hs d) (ϙ n s (by rw[aq,f];delta tQ;rw[ae]) (by rw[D,o.hN];rwa[C]) (by rw[D];rwa[G])) B u (λ{b c}oc=>yw oc.hq oc.hN oc.hs (by rw[oc.hN];rwa[nX (ag (ag d).2).1]) (λy L=>.inr (by rw[oc.hs];rwa[wq (ag L).2])) z) I W (λ_=>qH m) (ag H).1]
def Em.comp(n:Ń)(a:Ϙ)(T:Tg)(j:Jm Γ t)(F:Fm Γ t)(A:Em Γ t):Em Γ t:=(yC n a T _ F.m A.m bb,λS x=>S.fr&&Lr S n a T _ F _ x,λo h=>uk o (ag h).2 λN u ix i e sc p b c d g k l q r w=>(N6 (o.fx (ag h).1).1 (o.fx (ag h).1).2 b (o.hc w).1 c (j.pi o d) (λf s H=>k (Js o w _ _ f _ _)) (λf s H=>F.pf (Js o w _ _ f _ _) l) (λf s H=>A.pe (Js o w _ _ f _ _) q) r).imp λ_ _ _=>um λ_ _ _ z=>by lia g)
def El(f:Ő Æ->Ó->Þ)(x:É):Þ:=tj _ 3 λe=>Stmt.Return.elim x e f
@[elab_as_elim]def HL{P:É->ß}(h:El f x)(q:∀e p,f e p=J->P (.Return e p)):P x:=(eo h).elim λe h=>Stmt.Return.elim x e (λe p _ h=>q e p h) e h
def P1(f:Ł Æ->Æ->Ó->Þ)(x:É):Þ:=tj _ 5 λe=>Stmt.Assign.elim x e f
@[elab_as_elim]def uN{P:É->ß}(h:P1 f x)(q:∀T e p,f T e p=J->P (.Assign T e p)):P x:=(eo h).elim λe h=>Stmt.Assign.elim x e (λT e p _ h=>q T e p h) e h
def P8(f:Æ->Æ->Ł É->Ł É->Ó->Þ)(x:É):Þ:=tj _ 9 λe=>Stmt.For.elim x e f
@[elab_as_elim]def uQ{P:É->ß}(h:P8 f x)(q:∀a b c d p,f a b c d p=J->P (.For a b c d p)):P x:=(eo h).elim λe h=>Stmt.For.elim x e (λa b c d p _ h=>q a b c d p h) e h
def ě(f:Æ->Ł É->Ł É->Ó->Þ)(x:É):Þ:=tj _ 11 λe=>Stmt.While.elim x e f
@[elab_as_elim]def Wc{P:É->ß}(h:ě f x)(q:∀a b c p,f a b c p=J->P (.While a b c p)):P x:=(eo h).elim λe h=>Stmt.While.elim x e (λa b c p _ h=>q a b c p h) e h
def EQ(f:Æ->Ł É->Ł É->Ó->Þ)(x:É):Þ:=tj _ 12 λe=>Stmt.If.elim x e f
@[elab_as_elim]def HK{P:É->ß}(h:EQ f x)(q:∀a b c p,f a b c p=J->P (.If a b c p)):P x:=(eo h).elim λe h=>Stmt.If.elim x e (λa b c p _ h=>q a b c p h) e h
def Ch(f:Ő Æ->Ő Æ->Ó->Þ)(x:É):Þ:=tj _ 16 λe=>Stmt.Raise.elim x e f
@[elab_as_elim]def HM{P:É->ß}(h:Ch f x)(q:∀a b p,f a b p=J->P (.Raise a b p)):P x:=(eo h).elim λe h=>Stmt.Raise.elim x e (λa b p _ h=>q a b p h) e h
def Ļ(f:Æ->Ó->Þ)(x:É):Þ:=tj _ 24 λe=>Stmt.Expr.elim x e f
@[elab_as_elim]def V8{P:É->ß}(h:Ļ f x)(q:∀a p,f a p=J->P (.Expr a p)):P x:=(eo h).elim λe h=>Stmt.Expr.elim x e (λa p _ h=>q a p h) e h
def Wp(f:Æ->Operator->Æ->Ó->Þ)(x:É):Þ:=tj _ 7 λe=>Stmt.AugAssign.elim x e f
@[elab_as_elim]def V6{P:É->ß}(h:Wp f x)(q:∀a o b p,f a o b p=J->P (.AugAssign a o b p)):P x:=(eo h).elim λe h=>Stmt.AugAssign.elim x e (λa o b p _ h=>q a o b p h) e h
structure û(Γ:Gm)(t:Tb)(k:Ń)(S:Sx)(X:Cx)(E:XK):ß where
 x:mV Γ t k S X E
 nd:X.N.Nodup
 hf:∀y,ju S y=J->X.fn y\/X.env.scope.names.lookup y=O .local
 po:PassesOwn (cc X.prog X.w) X.A X.env X.xe
 kd:X.env.scope.kind=.function
 exc:∀c∈S.xok,X.mg (S.rX c)=O (.ref (t.ca c))/\K4 X.K c (t.ca c)
structure Mm(Γ:Gm)(t:Tb)where
 m:Ss
 ck:Sx->É->Þ
 ps:∀{k S X E st},û Γ t k S X E->ck S st->PS X st (eJ 'X' E m)
structure Ms(Γ:Gm)(t:Tb)where
 m:Ss
 ck:Sx->Ł É->Þ
 ps:∀{k S X E st},û Γ t k S X E->ck S st->jt X st (eJ 'X' E m)
def o9(f:Dv->Ő Pv):Ł Dv->Ő ϑ|[]=>O []|d::r=>match f d with
  |O x=>match o9 f r with|O X=>O (x::X)|ao=>ao
  |ao=>ao
def pR(h:Hs)(k:Ń):Ń->Dv->Ő Pv|_,.p x=>O x|0,.r _=>ao|n+1,.r i=>match Ë k i with|bb=>ao|J=>match h[i]? with|O (.L X)=>O (.L X)|O (.C K u)=>O (.dct K u)|O (.D ds)=>(o9 (pR h k n) ds).map .L|O (.E K ds)=>(o9 (pR h k n) ds).map (.dct K)|O (.I C fs)=>(o9 (pR h k n) fs).map (.obj C)|_=>ao
def Mo(h:Hs)(k:Ń):Dv->Ő Dv|.p x=>O (.p x)|.r i=>match Ë k i with|bb=>O (.r i)|J=>(pR h k 6 (.r i)).map .p
def ZU(e:Æ):Þ:=!(Ì e.ctorIdx 8||(Ì e.ctorIdx 9||Ì e.ctorIdx 10))
def Xk(h:ZU e):hF e o l env=pure false:=by cases e<;>first|rfl|cases h
def Fj:hF e (O (.Subscript a i p)) l env=pure false:=by cases e<;>rfl
def Yq:hF e (O (.Attribute a f p)) l env=pure false:=by cases e<;>rfl
def Z1(e:Æ):Þ:=!Nat.beq e.ctorIdx 25&&ZU e
def Xo(h:Z1 e):swapsWithSole [.Tuple es j p] e l env=pure bb/\swappedStores [.Tuple es j p] e env=pure none:=by cases e<;>first|done|rfl
theorem uF{H:Hp}{f:Dv->Ő Pv}(h:∀d x v,eK Z M H d v->f d=O x->eg Z m H x v):∀{ds:Ł Dv}{xs:ϑ}{vs:ϕ},cU Z M H ds vs->o9 f ds=O xs->aY Z m H xs vs
 |[],xs,vs,q,e=>by cases e;induction vs with|f=>done|g _ _=>rwa[q]
 |d::r,xs,vs,q,e=>by
  delta o9 at e;split at e
  .ext x a;split at e;.ext Y y;cases e;induction vs with|f=>rwa[q]|g v vs=>exact(h d x v q.1 a,uF h q.2 y)
   .lia
  .lia
def ZE{k n:Ń}(r:bq Z M H h)(c:M[n]?=O a)(e:Ë k n):a∉M.take k/\a∉Z.G:=by
 erw[(λz=>?_,r.dj a (aL c))];let(j,d):=mm z;let b:j<k:=by grind
 rw[jv b]at d;let(l1,E):=aw.mp c;let(l2,f):=aw.mp d;let:=(iH r.nd).mp (E.trans f.symm);let:=aI e;lia
theorem oF(r:bq Z M H h):∀(n:Ń)(d:Dv)(x:Pv)(v:V),eK Z M H d v->pR h k n d=O x->eg Z (M.take k) H x v
 |n,.p y,x,v,i,e=>by
  let e:O y=O x:=by induction n<;>rwa[e]
  cases e;rwa[eg.mv (Mv.cut r k) i]|0,.r _,x,v,i,e=>by cases e|n+1,.r j,x,v,i,e=>by
  delta pR at e;split at e;.lia
  ext l;let(a,f,rfl):=i;let na:=ZE r f l;split at e;.ext o;cases e;let(s,b,c):=r.ob j a _ f o;exact(a,s,Ŗ,na,b,aY.mv (Mv.cut r k) c)
  .ext o;cases e;let(A,b,c,g):=r.ob j a _ f o;exact(a,A,Ŗ,na,.inl b,aY.mv (Mv.cut r k) c,aY.mv (Mv.cut r k) g)
  .ext o;let(X,E,rfl):=dF.mp e;let(s,b,c):=r.ob j a _ f o;exact(a,s,Ŗ,na,b,uF (oF r n) c E)
  .ext o;let(X,E,rfl):=dF.mp e;let(A,b,c,g):=r.ob j a _ f o;exact(a,A,Ŗ,na,.inl b,aY.mv (Mv.cut r k) c,uF (oF r n) g E)
  .ext o;let(X,E,rfl):=dF.mp e;let(D,F,b,_,c,g):=r.ob j a _ f o;let q:=uF (oF r n) g E;erw[(a,D,F,Ŗ,na,b,?_,q)];rw[c,q.len,<-g.len]
  .lia
def Mq(r:bq Z M H h)(i:eK Z M H d v)(e:Mo h k d=O x):eK Z (M.take k) H x v:=by
 delta Mo at e;split at e;.cases e;rwa[eg.mv (Mv.cut r k) i]
 .split at e;.ext a;cases e;rwa[i.cut r (cM (Nat.lt_of_not_le λz=>by rw[aB z]at a;cases a))]
  .let(y,E,rfl):=dF.mp e;rwa[oF r 6 _ _ _ i E]
def E6(S:Sx)(i:Ń)(f:Å->Ó->Æ->Þ):É->Þ:=P1 λT e _=>km (l1 T) (wM λx p=>Jn x i S.N&&(ju S x&&f x p e))
@[elab_as_elim]def oK{k S X E}{P:É->ß}{st:É}(o:û Γ t k S X E)(h:E6 S i f st)(q:∀x p e pos,X.N[i]?=O x->L2.Loc X.env.scope x->X.fn x\/X.env.scope.names.lookup x=O .local->f x p e->P (.Assign [.Name x p] e pos)):P st:=by erw[uN h λT e pos h=>?_];let(c,a,h):=cG h;rw[fD a];erw[jr h λx p h=>?_];let(b,h):=ag h;let(H,h):=ag h;rwa[q x p e pos (by rw[o.x.hN];rwa[jV b]) (by rw[o.x.hs];rwa[Ac (ag H).1]) (o.hf x H) h]
def ul(f:Æ->Æ->Æ->Þ):É->Þ:=P1 λT e _=>km (l1 T) (Fz λa i _=>f a i e)
@[elab_as_elim]def Fi{P:É->ß}{st:É}(h:ul f st)(q:∀a i p e pos,f a i e=J->P (.Assign [.Subscript a i p] e pos)):P st:=by erw[uN h λT e pos h=>?_];let(x,E,h):=cG h;rw[fD E];rwa[oN h λa i p h=>q a i p e pos h]
def QX(h:BM i):∀v,assign (.Subscript o i p) env v=(do
   let a<-holding [v] (Ê o env)let I<-holding [v,a] (Ê i env)standAt p
   holding [v,a,I] (setItem a I v)release [v,a,I] []):=by intro v;cases i<;>first|rfl|cases h
def VB:swapsWithSole [.Subscript a i p] e l env=pure false:=Fj (a:=a) (i:=i) (p:=p) (l:=l) (env:=env)
def aaJ:swappedStores [.Subscript a i p] e env=pure none:=rfl
namespace Mm
def ex(A:Em Γ t):Mm Γ t:=(_,λS=>Ļ _,λo h=>V8 h λe p h=>χ (A.pe o.x (ag h).2) (Xk (ag h).1))
def ret(A:Em Γ t):Mm Γ t:=(_,λS=>El λe _=>km e _,λo h=>by erw[HL h λe p h=>?_];let(a,E,h):=cG h;rw[E];rwa[Hf (A.pe o.x h)])
def set(i:Ń)(A:Em Γ t):Mm Γ t:=(_,λS=>E6 S i _,λo h=>oK o h λx p e pos a b c H=>UD (λT d=>As o.nd a b d (Xk (ag H).1) c) (A.pe o.x (ag H).2))
def Kp(is:Ϙ)(A:Em Γ t):Mm Γ t:=(_,λS=>P1 λT e _=>Z1 e&&(A.ck S e&&km (l1 T) (im S (.many is))),λo h=>by erw[uN h λT e pos h=>?_];let(H,h):=ag h;let(a,h):=ag h;let(c,E,h):=cG h;rw[fD E];let g:=yw o.x.hq o.x.hN o.x.hs o.nd o.hf h;revert g;rwa[oO h λs j p _ g=>UE (λd b=>OG b g (Xo H).1 (Xo (l:=0) H).2 Ŗ) (A.pe o.x a)])
def put(A B C:Em Γ t):Mm Γ t:=(_,λS=>ul _,λo h=>by erw[Fi h λa i p e pos h=>?_];let(H,h):=ag h;let(b,h):=ag h;let(c,d):=ag h;exact(OG (A.pe o.x b) (ψ (B.pe o.x c) (C.pe o.x d) Pp (QX H)) VB aaJ Ŗ).imp λ_ _ _=>aad)
def dput(A B C:Em Γ t):Mm Γ t:=(_,λS=>ul _,λo h=>by erw[Fi h λa i p e pos h=>?_];let(H,h):=ag h;let(b,c):=ag h;exact(Hk o.x.SV (B.pe o.x b) (C.pe o.x c) (A.pe o.x H) Fj).imp λ_ _ _=>R5)
def fS(c j:Ń)(A B:Em Γ t):Mm Γ t:=(XH c j A.m B.m,λS=>P1 λT e _=>km (l1 T) (Kv _),λo h=>by erw[uN h λT e pos h=>?_];let(k,E,h):=cG h;rw[fD E];erw[rj h λa f p h=>?_];let(H,h):=ag h;let(b,h):=ag h;let(d,g):=ag h;let(C,i):=o.x.cls c (cQ.mp H);exact(Φ (B.pe o.x g) (A.pe o.x d) Yq).imp λ_ _ _=>Su C (by rw[i];rwa[jV b]))
def raise(c:Ń)(A:Em Γ t):Mm Γ t:=(_,λS=>Ch λe b _=>S.cm&&b.isNone&&(S.fr&&(iU c S.xok&&!Nat.ble 999 c&&km e (ki λf E k _=>GU k&&(AO S (S.rX c) f&&km (l1 E) λe0=>cL e0&&A.ck S e0)))),λo h=>by erw[HM h λe b pos h=>?_];let(a,h):=ag h;let(i,h):=ag h;let(d,h):=ag h;let(y,j,g):=cG h;rw[j];induction b with|c _=>simp at a|a=>erw[fk g λf E k C h=>?_];let(l,h):=ag h;let(m,h):=ag h;let(e0,n,h):=cG h;let(p,q,r,s,hn):=fV o.x m;rw[iV l,fD n,q];let(fr,u):=o.x.fx i;let(v,K):=o.exc c (cQ.mp (ag d).1);let H:=gm (ag d).2;rwa[JD (bB.mpr λz=>by rw[aB (aj (bj 999) (aI z))]at H;cases H) (λT w=>OI fr u (o.x.hc (ag a).1).1 r v (Zv H K) w (ag h).1 s) (A.pe o.x (ag h).2)])
def iff(T:Tm Γ t)(A B:Ms Γ t):Mm Γ t:=(_,λS=>EQ _,λo h=>by erw[HK h λc a b p h=>?_];let(H,h):=ag h;let(d,e):=ag h;rwa[Oq (T.pt o.x H) (A.ps o d) (B.ps o e)])
def fo(g:Tg)(j:Jm Γ t)(B:Ms Γ t):Mm Γ t:=(_,λS=>P8 λT ix b e _=>S.cm&&wY e&&(mM ix&&(im S g T&&(j.ck S T ix&&B.ck S b))),λo h=>by erw[uQ h λT ix b e p h=>?_];let(H,h):=ag h;let(a,h):=ag h;let(c,h):=ag h;let(d,f):=ag h;rw[fU (ag H).2];exact(ER o.po (o.x.hc (ag H).1).1 (j.pi o.x d) (yw o.x.hq o.x.hN o.x.hs o.nd o.hf c) (B.ps o f) λ_=>qH a).imp λ_ _ _=>ZC)
def wh(T:Tm Γ t)(B:Ms Γ t):Mm Γ t:=(_,λS=>ě λc b e _=>wY e&&(T.ck S c&&B.ck S b),λo h=>by erw[Wc h λc b e p h=>?_];let(H,h):=ag h;let(a,d):=ag h;rw[fU H];exact(OJ o.po (T.pt o.x a) (B.ps o d)).imp λ_ _ _=>Qe)
def ct:Mm Γ t:=(zn,λ_ st=>Ì _ 27,λ{k S X E st}o h=>by rwa[Stmt.Continue.elim st (aV h) λp=>υ])
end Mm
namespace Ms
def nil:Ms Γ t:=(QE,λ_ l=>wY l,λo h=>by rw[fU h];rwa[Hc])
def one(A:Mm Γ t):Ms Γ t:=(A.m,λS l=>km (l1 l) _,λo h=>by let(a,e,h):=cG h;rw[fD e];rwa[He (A.ps o h)])
abbrev re(A:Em Γ t):Ms Γ t:=one (.ret A)
def seq(A:Mm Γ t)(B:Ms Γ t):Ms Γ t:=(_,λS l=>km (lc l) λp=>A.ck S p.1&&B.ck S p.2,λo h=>by obtain⟨⟨a,r⟩,e,h⟩:=cG h;rw[BG e];rwa[BV (A.ps o (ag h).1) (B.ps o (ag h).2)])
def cut(A:Mm Γ t)(B:Ms Γ t):Ms Γ t:=(_,λS l=>km (lc l) λp=>A.ck S p.1&&B.ck S p.2,λo h=>by obtain⟨⟨a,r⟩,e,h⟩:=cG h;rw[BG e];rwa[UC (A.ps o (ag h).1) (B.ps o (ag h).2)])
end Ms
end
end F
namespace F
open L2
section
variable{Γ:Gm}{t:Tb}
def Pq(h:eJ 'X' E (AA i A) D τ H):tZ (dm 'X' E A) (lO i) D τ H:=by let(G,M,σ,h,N,k,q):=h;exact(G,M,σ,h,_,_,(k.rel,k.env,λd a m b v e r i q=>k.nx _ a m b _ e r ((k.env.ext k.rel e).set i) q,k.exc),q)
def ħ(x:Å)(p:Ó):Æ->Þ:=P5 λ_ _ sc c=>p.line==c.line&&!sc.names.any λ(n,k)=>n==x&&(k==.local||k==.cell)
def Nf{env:Ø}(h:env.scope.kind=.function):(env.blockKind==ScopeKind.function)=true:=by delta Env.blockKind;rw[h];rfl
def Mm.setC(i n:Ń)(l:Ϙ)(T:Tg)(j:Jm Γ t)(F:Fm Γ t)(A:Em Γ t):Mm Γ t:=(AA i (yC n l T _ F.m A.m bb),λS=>E6 S i λx p e=>Ak _ x&&(ħ x p e&&Lr S n l T _ F _ e),λ{k S X E st}o h=>by
 erw[oK o h λx p e pos r u v y=>?_];let(B,g):=ag y;let(G,C):=ag g;revert G;erw[uk o.x C λR U ix I e sc D W K a b L M N P w G=>?_];erw[(UU o.nd r u W (o.x.hc w).1 K (j.pi o.x a) (λf s H=>L (G6 o.x w _ _ f _ _)) (λf s H=>F.pf (G6 o.x w _ _ f _ _) M) (λf s H=>A.pe (G6 o.x w _ _ f _ _) N) P ?_ v).imp λ_ _ _ q=>um λ_ _ _ z=>by lia b (Pq q)];let(c,d):=ag G;show pure (X.env.blockKind==.function&&X.env.kindOf x==O _&&p.line==D.line&&!sc.names.any _)=pure _;let Q:X.env.kindOf x=O .local:=by show X.env.scope.names.lookup x=_;rw[o.x.hs];rwa[wq B]
 rw[Nf o.kd,Q,c,d];rfl)
structure Gk(cm:Þ)(Γ:Gm)(t:Tb)(k:Ń)(S:Sx)(P:cp)(w:ce)(K:Ä)(mg:db)(base:È):ß where
 bl:∀x∈S.bok,mg x=ao
 gB:S.gB=t.gB
 fn:∀i∈Γ.fok,∃ps,ĵ cm P w K mg base (k+1) (t.gB i) ps (dG (K,mg,t) (Γ.fn i))gl:∀i∈Γ.ZM,∃u v,mg (S.gnm i)=O u/\RelV v u/\∀G M H,eg (((K,mg,t):T0).z G) M H (Γ.gl i) v
 tab:∀i∈Γ.tok,∃ad,mg (S.tnm i)=O (.ref ad)/\yZ w K mg t.gB i ad (Γ.tab i)cls:∀c∈S.cok,sH K t c/\t.fl c=S.fl c
 lF:∀c∈Γ.iok,∃ps,jl cm P w K mg base k (S.rX c) t.ca c ps (dG (K,mg,t) (Γ.lF c))exc:∀c∈S.xok,mg (S.rX c)=O (.ref (t.ca c))/\K4 K c (t.ca c)fu:∀i∈Γ.Kq,∃ps,tI P w K mg base (k+1) (t.gB i) ps (dG (K,mg,t) (Γ.fn i))
def jp(z:Þ)(k:Ń)(Q:Dv->Hs->ß)(d:Dv)(h:Hs):ß:=match z with|bb=>Q d h|J=>match Mo h k d with|O x=>gd (bH k (h.take k)) (Q x (h.take k))|ao=>ŧ
def C1(z:Þ)(k:Ń)(x:XP):XP:=λc h=>match z with|bb=>x c h|J=>gd (bH k (h.take k)) (x c (h.take k))
def hJ(z:Þ)(k:Ń)(Q:Dv->Hs->ß)(x:XP):En:=(λ_ h=>jp z k Q (.p .N) h,jp z k Q,λ_ _=>ŧ,λ_ _=>ŧ,C1 z k x)
def pG(n:Ń)(ds:Ł Dv):Es:=ds.map O++Ò (n-Á ds) ao
def lz(N:ϐ)(i:cU Z M H ds vs):dB Z M H (pG (Á N) ds) (L2.start N vs):=by
 erw[(by delta pG L2.start;rw[aq,aq,ae,ae,cC,cC,i.len],λj d h=>?_)];delta pG at h;delta L2.start;by_cases a:j<Á ds;.rw[aX nofun,aM]at h;rw[aX (by rw[ae,<-i.len];rwa[a]),aM];induction e:ds[j]? with|a=>rw[e]at h;cases h|c D=>rw[e]at h;cases h;let(v,b,c):=i.get e;exact(v,by rw[b];rfl,c)
 .rw[aQ nofun,fY]at h;split at h<;>cases h
def B9{a:VK}(R:bq Z M H h)(out:∀d h' m H' v,Ext M H m H'->bq Z m H' h'->eK Z m H' d v->Q d h'->a v H')(e:Ext M H m H')(r:bq Z m H' h')(i:eK Z m H' d v)(q:jp z (Á h) Q d h'):a v H':=by
 delta jp at q;split at q;.rwa[out d h' m H' v e r i q]
 .split at q;.ext x b;let(c,q):=cJ q;rwa[out x _ _ H' v (e.cut (by rw[R.ln];rwa[ah _])) (r.cut _ c) (Mq r i b) q]
  .left
def afY{E:Hp->ß}(R:bq Z M H h)(out:∀h' m H',Ext M H m H'->bq Z m H' h'->x c h'->E H')(e:Ext M H m H')(r:bq Z m H' h')(q:C1 z (Á h) x c h'):E H':=by
 delta C1 at q;split at q;.rwa[out h' m H' e r q]
 .let(C,q):=cJ q;rwa[out _ _ _ (e.cut (by rw[R.ln];rwa[ah _])) (r.cut _ C) q]
def Sx.at(S:Sx)(N:ϐ)(sc:Í)(fr:Þ):Sx:={S with N:=N,sc:=sc,fr:=fr,cm:=J}
def Sx.au(S:Sx)(N:ϐ)(sc:Í):Sx:={S with N:=N,sc:=sc,fr:=bb,cm:=bb}
def nQ(r:bq ('X'.z G) M H h)(v:dB ('X'.z G) M H σ τ)(out:∀d h' m H' v,Ext M H m H'->bq ('X'.z G) m H' h'->eK ('X'.z G) m H' d v->Q d h'->a v H')(b:∀c h' m H',Ext M H m H'->bq ('X'.z G) m H' h'->x c h'->rB t.ca E c H'):Yc ('X'.z G) E τ H {nx:=λ_ H'=>a .iq H',rt:=a} M σ h (hJ z (Á h) Q x):=(r,v,λf h' m H' g e R j q=>B9 r out e R uz q,λd h' m H' v e R i q=>B9 r out e R i q,λ_ _ _ _ _ _ _ _ q=>q.elim,λ_ _ _ _ _ _ _ _ q=>q.elim,λc h' m H' e R q=>afY r (b c) e R q)
variable{P:cp}{w:ce}{K:Ä}{mg:db}{base:È}{x:Å}{st:É}{ps N:ϐ}{k:Ń}{C:Ct}{S:Sx}
def Gk.yu{fr:Þ}(g:Gk J Γ t k S X.prog X.w X.K X.mg X.base)(H:X.N=N)(s:X.env.scope=sc)(c:X.calm)(p:gR (sG X.prog X.w) X E)(h:ff (k+1) X.A)(f:fr->CA X/\gi X E):mV Γ t k (S.at N sc fr) X E:=(H,s,λ_=>(c,h.hd),.inl h.hd,p,h.u,g.bl,g.gB,g.fn,g.gl,g.tab,g.cls,g.lF,f,g.fu)
def Ms.aid(B:Ms Γ t)(z:Þ)(b:Src K mg x st ps)(F:cP N ps (av st))(g:Gk J Γ t k S P w K mg base)(U:B.ck (S.at N (av st) J) (bQ st)=J)(a:∀ds h Q X,C ds h Q X->Á ds=Á ps/\B.m (hJ z (Á h) Q X) (pG (Á N) ds) h):nc P w K mg base (k+2) x ps (dG (K,mg,t) C):=by rwa[b.N_ F (λv H Q E t=>t.ln λ_ _ _ _ c=>(a _ _ _ _ c).1) λf D A o s H v Q E d Z=>by let(G,M,h,ds,q,X,r,i,c,out,e):=Z;exact(_,B.ps (Gk.yu g rfl rfl rfl (gi.pass j4 lu) d λ_=>(j4,lu),F.nd,λy _=>.inl Ŗ,ku,F.kind,g.exc) U,(G,M,_,h,_,nQ r (lz N i) out e,(a _ _ _ _ c).2))]
def Ms.aia(B:Ms Γ t)(z:Þ)(d:qp K (t.ca a) l st ps)(j:mg x=O (.ref (t.ca a)))(F:cP N ps (av st))(g:Gk J Γ t k S P w K mg base)(U:B.ck (S.at N (av st) bb) (bQ st)=J)(b:∀ds h Q X,C ds h Q X->Á ds=Á ps/\B.m (hJ z (Á h) Q λ_ _=>ŧ) (pG (Á N) ds) h):lH P w K mg base (k+2) x (t.ca a) ps (dG (K,mg,t) C):=by rwa[d.ok j F (λv H Q E t=>t.ln λ_ _ _ _ c=>(b _ _ _ _ c).1) λf D A o s H v Q E n Z=>by let(G,M,h,ds,L,X,r,i,c,out,u):=Z;exact(_,B.ps (E:=λ_ _ _=>ŧ) (Gk.yu g rfl rfl rfl (λp σ H s e R I Z=>by let(_,_,_,_,_,_,q):=Z;rwa[q.elim]) n (λh=>by cases h),F.nd,λy _=>.inl Ŗ,ug,F.kind,g.exc) U,(G,M,_,h,_,nQ r (lz N i) out λ_ _ _ _ _ _ q=>q.elim,(b _ _ _ _ c).2))]
def Ms.acF(B:Ms Γ t)(z:Þ)(d:gT K a x q st ps)(F:cP N ps (av st))(g:Gk J Γ t k S P w K mg base)(U:B.ck (S.at N (av st) J) (bQ st)=J)(b:∀ds h Q X,C ds h Q X->Á ds=Á ps/\B.m (hJ z (Á h) Q X) (pG (Á N) ds) h):yX P w K mg base (sG P w) (k+2) a x ps (dG (K,mg,t) C):=by rwa[d.N_ F (λv H Q E t=>t.ln λ_ _ _ _ c=>(b _ _ _ _ c).1) λf D A o s H v Q E j (G,M,h,ds,l,X,r,i,c,out,e)=>(_,B.ps (Gk.yu g rfl rfl rfl (gi.pass j4 lu) j λ_=>(j4,lu),F.nd,λy _=>.inl Ŗ,ku,F.kind,g.exc) U,(G,M,_,h,_,nQ r (lz N i) out e,(b _ _ _ _ c).2))]
def Gk.oku(g:Gk bb Γ t k S X.prog X.w X.K X.mg X.base)(H:X.N=N)(s:X.env.scope=sc)(q:Hq X)(p:gR (sG X.prog X.w) X E)(r:gX (k+1) X.A):mV Γ t k (S.au N sc) X E:=(H,s,λh=>(by cases h),q,p,r,g.bl,g.gB,g.fn,g.gl,g.tab,g.cls,g.lF,(λh=>by cases h),g.fu)
def Ms.aib(B:Ms Γ t)(z:Þ)(b:Src K mg x st ps)(F:cP N ps (av st))(g:Gk bb Γ t k S P w K mg base)(U:B.ck (S.au N (av st)) (bQ st))(a:∀ds h Q X,C ds h Q X->Á ds=Á ps/\B.m (hJ z (Á h) Q λ_ _=>ŧ) (pG (Á N) ds) h):tI P w K mg base (k+2) x ps (dG (K,mg,t) C):=b.okU F (λv H Q E t=>t.ln λ_ _ _ _ c=>(a _ _ _ _ c).1) λf D A o s H v Q E pn d (G,M,h,ds,n,X,r,i,c,out,j) l=>(_,B.ps (E:=λ_ _ _=>ŧ) (Gk.oku g rfl rfl l (λp σ H s e u I Z=>by let(_,_,_,_,_,_,q):=Z;rwa[q.elim]) d,F.nd,λy _=>.inl Ŗ,ug,F.kind,g.exc) U,(G,M,_,h,_,nQ r (lz N i) out λ_ _ _ _ _ _ q=>q.elim,(a _ _ _ _ c).2))
def Ms.aic(B:Ms Γ t)(z:Þ)(d:gT K a x l st ps)(F:cP N ps (av st))(g:Gk bb Γ t k S P w K mg base)(U:B.ck (S.au N (av st)) (bQ st))(b:∀ds h Q X,C ds h Q X->Á ds=Á ps/\B.m (hJ z (Á h) Q λ_ _=>ŧ) (pG (Á N) ds) h):rQ P w K mg base (k+2) a x ps (dG (K,mg,t) C):=d.okU F (λv H Q E t=>t.ln λ_ _ _ _ c=>(b _ _ _ _ c).1) λf D A o s H v Q E pn j (G,M,h,ds,L,X,r,i,c,out,n) u=>(_,B.ps (E:=λ_ _ _=>ŧ) (Gk.oku g rfl rfl u (λp σ H s e R I Z=>by let(_,_,_,_,_,_,q):=Z;rwa[q.elim]) j,F.nd,λy _=>.inl Ŗ,ug,F.kind,g.exc) U,(G,M,_,h,_,nQ r (lz N i) out λ_ _ _ _ _ _ q=>q.elim,(b _ _ _ _ c).2))
end
structure Wd where
 P:cp
 w:ce
 K:Ä
 mg:db
 base:È
structure Lw where
 S:Sx
 ca:Ń->À
 gl:Ń->Pv
 ZM:Ϙ
 tab:Ń->Å->Ő (Ł Å)tok:Ϙ
 lF:Ń->Ct
abbrev Lw.t(L:Lw):Tb:=(L.S.gB,L.ca,L.S.fl)
abbrev Lw.g(L:Lw)(fn:Ń->Ct)(fok iok:Ϙ):Gm:=(fn,fok,L.gl,L.ZM,L.lF,iok,L.tab,L.tok,[])
abbrev Lw.y(L:Lw)(W:Wd):T0:=(W.K,W.mg,L.t)
structure Lk(L:Lw)(W:Wd):ß where
 bl:∀x∈L.S.bok,W.mg x=ao
 gl:∀i∈L.ZM,∃u v,W.mg (L.S.gnm i)=O u/\RelV v u/\∀G M H,eg ((L.y W).z G) M H (L.gl i) v
 tab:∀i∈L.tok,∃ad,W.mg (L.S.tnm i)=O (.ref ad)/\yZ W.w W.K W.mg L.S.gB i ad (L.tab i)cls:∀c∈L.S.cok,sH W.K L.t c
 exc:∀c∈L.S.xok,W.mg (L.S.rX c)=O (.ref (L.ca c))/\K4 W.K c (L.ca c)
def Dt(L:Lw)(W:Wd)(i k:Ń)(C:Ct):ß:=∃ps,nc W.P W.w W.K W.mg W.base k (L.S.gB i) ps (dG (L.y W) C)
def Di(L:Lw)(W:Wd)(c k:Ń):ß:=∃ps,jl J W.P W.w W.K W.mg W.base k (L.S.rX c) L.ca c ps (dG (L.y W) (L.lF c))
def xi(L:Lw)(W:Wd)(fn:Ń->Ct)(k:Ń):Ϙ->ß|[]=>æ|i::r=>Dt L W i k (fn i)/\xi L W fn k r
def wU(L:Lw)(W:Wd)(k:Ń):Ϙ->ß|[]=>æ|i::r=>Di L W i k/\wU L W k r
theorem xi.at{fn:Ń->Ct}:∀{l:Ϙ},xi L W fn k l->∀i∈l,Dt L W i k (fn i)|[],_,i,h=>by grind|j::r,f,i,h=>(ax.mp h).elim (λz=>by rw[z];rwa[f.1]) λz=>xi.at f.2 i z
theorem wU.at:∀{l:Ϙ},wU L W k l->∀i∈l,Di L W i k|[],_,i,h=>by grind|j::r,f,i,h=>(ax.mp h).elim (λz=>by rw[z];rwa[f.1]) λz=>wU.at f.2 i z
def Dt.up{k:Ń}(D:Dt L W i j C)(h:Ë j k):Dt L W i k C:=let (ps,d):=D;(ps,d.mono (aI h))
def Dt.le(D:Dt L W i j C)(h:j<=k):Dt L W i k C:=let (ps,d):=D;(ps,d.mono h)
def Di.le(D:Di L W i j)(h:j<=k):Di L W i k:=let (ps,d):=D;(ps,d.mono h)
theorem Dt.imp(D:Dt L W i k C)(h:∀ds h Q x,C' ds h Q x->C ds h Q x):Dt L W i k C':=let (ps,d):=D;(ps,d.imp λv H Q E z=>by let(G,M,a,ds,q,x,r,i,c,o,b):=z;exact(G,M,a,ds,q,x,r,i,h _ _ _ _ c,o,b))
def Lk.gk(B:Lk L W)(h:xi L W fn (k+1) fok)(hi:wU L W k iok):Gk J (L.g fn fok iok) L.t k L.S W.P W.w W.K W.mg W.base:=(B.bl,Ŗ,h.at,B.gl,B.tab,λc H=>(B.cls c H,Ŗ),hi.at,B.exc,λi hi=>by cases hi)
def Lk.d{C:Ct}{st:É}(N ps:ϐ)(z:Þ)(B:Lk L W)(b:Ms (L.g fn fok iok) L.t)(s:Src W.K W.mg (L.S.gB i) st ps)(F:cP N ps (av st))(H:b.ck (L.S.at N (av st) J) (bQ st)=J)(f:xi L W fn (k+1) fok)(hi:wU L W k iok)(a:∀ds h Q x,C ds h Q x->Á ds=Á ps/\b.m (hJ z (Á h) Q x) (pG (Á N) ds) h):Dt L W i (k+2) C:=(ps,b.aid z s F (B.gk f hi) H a)
def Lk.mk1{st:É}(N ps:ϐ)(z:Þ)(B:Lk L W)(b:Ms (L.g fn fok iok) L.t)(s:qp W.K (L.ca c) q st ps)(H:W.mg (L.S.rX c)=O (.ref (L.ca c)))(F:cP N ps (av st))(a:Ë 80 c=bb)(U:b.ck (L.S.at N (av st) bb) (bQ st)=J)(f:xi L W fn (k+1) fok)(hi:wU L W k iok)(d:∀ds h Q x,L.lF c ds h Q x->Á ds=Á ps/\b.m (hJ z (Á h) Q λ_ _=>ŧ) (pG (Á N) ds) h):Di L W c (k+2):=(ps,by rwa[GK a (b.aia z s H F (B.gk f hi) U d)])
def Lk.ajO{st:É}(N ps:ϐ)(z:Þ)(B:Lk L W)(b:Ms (L.g fn fok iok) L.t)(s:gT W.K (L.ca (c/100-1)) (L.S.rX c) q st ps)(F:cP N ps (av st))(H:Ë 100 c)(U:b.ck (L.S.at N (av st) J) (bQ st)=J)(f:xi L W fn (k+1) fok)(hi:wU L W k iok)(a:∀ds h Q x,L.lF c ds h Q x->Á ds=Á ps/\b.m (hJ z (Á h) Q x) (pG (Á N) ds) h):Di L W c (k+2):=(ps,by delta jl;rw[H];rwa[b.acF z s F (B.gk f hi) U a])
end F
namespace F
open L2
def F8(H:bH k (h.take k))(q:R (h.take k)):YU k R h:=bK H q
def qZ{α:Type}(h:Ł α):h.take (Á h)=h:=gF (ah _)
def r8{α:Type}{xs:Ł α}{x:α}(h:xs[i]?=O x):xs=xs.take i++x::xs.drop (i+1):=by let(H,e):=aw.mp h;rw[<-e,kq,uR]
def xT{α:Type}{xs:Ł α}{x:α}(h:xs[i]?=O x):xs.take (i+1)=xs.take i++[x]:=by let(H,e):=aw.mp h;rw[<-e,List.take_append_getElem]
def oA{h:Hs}{xs:ϑ}{e:Pv->Ő Es}{T A:Es->Hs->KP->ß}{Q:ϑ->Hs->ß}(g:Pv->Þ)(f:Pv->Pv)(d:bH (Á h) h)(step:∀y∈xs,match e y with|O a=>(∀R:KP,R [.p (.B (g y))] h->T a h R)/\(g y=J->∀R:KP,R [.p (f y)] h->A a h R)|ao=>ŧ)(q:Q ((xs.filter g).map f) h):nJ h xs e T A Q:=by
 delta nJ;erw[(λi c j=>j=h/\c=((xs.take i).filter g).map f,(Ŗ,by rfl),?_,?_)];.rintro i y c j b ⟨rfl,rfl⟩;let z:=step y (aL b);induction k:e y with|a=>rw[k]at z;rwa[z]|c a=>rw[k]at z;rwa[z.1 _ (dX (λH=>z.2 H _ (F8 (by rw[qZ];rwa[d]) (qZ _,by rw[xT b,List.filter_append,aH,List.filter_cons_of_pos H];rfl))) λH=>F8 (by rw[qZ];rwa[d]) (qZ _,by rw[xT b,List.filter_append,List.filter_cons_of_neg (by rw[H];rwa[aF])];simp))]
 .left
def mD{H:Hs}{xs:ϑ}{e:Pv->Ő Es}{A:Es->Hs->KP->ß}{Q:ϑ->Hs->ß}(f:Pv->Pv)(c:bH (Á H) H)(step:∀y∈xs,match e y with|O a=>∀R:KP,R [.p (f y)] H->A a H R|ao=>ŧ)(q:Q (xs.map f) H):nJ H xs e (λ_ h R=>R [.p (.B J)] h) A Q:=by erw[oA _ f c (λy d=>?_) (by rw[List.filter_eq_self.mpr λ_ _=>Ŗ];rwa[q])];let z:=step y d;induction b:e y with|a=>rw[b]at z;rwa[z]|c a=>rw[b]at z;exact(λR q=>q,λ_=>z)
def iT{k:Ń}{xs:ϑ}{a:Pv->Es->Ő Es}{b:Ss}{N:En}{σ:Es}{h:Hs}(c:ϑ->ϑ->Es->Hs->ß)(g:c [] xs σ h)(step:∀pre x post σ' h',xs=pre++x::post->c pre (x::post) σ' h'->match a x σ' with|O d=>b (N.lp (mE k (c (pre++[x]) post)) (mE k N.nx)) d h'|ao=>ŧ)(f:∀σ' h',c xs [] σ' h'->N.nx σ' h'):DQ k xs a b N σ h:=by
 delta DQ;erw[(λi σ' h'=>c (xs.take i) (xs.drop i) σ' h',by done,λi x σ' h' H j=>?_,λσ' h' j=>f σ' h' (by dsimp only at j;rw[fe,List.drop_length]at j;rwa[j]))];let(l,e):=aw.mp H;let E:xs.drop i=x::xs.drop (i+1):=by rw[<-e,kq]
 let z:=step _ x _ σ' h' (r8 H) (E▸j);rw[<-xT H]at z;rwa[z]
def Yw{Q:Dv->Hs->ß}(q:Q (.p (.B (a&&b))) h)(k:a->Q (.p (.B b)) h->X):br a X (Q (.p (.B bb)) h):=by induction a with|d=>rwa[k Ŗ q]|e=>rwa[q]
def rV{c:Þ}(h:c)(a:A):br c A B:=by subst h;rwa[a]
def FW(h:c=bb)(b:B):br c A B:=by subst h;rwa[b]
def isInt:Pv->Þ|.I _=>J|_=>bb
def AT{p:ß}(h:bb):p:=ê h
def qr(z:(a&&(b&&c))):a/\b/\c=true:=((ag z).1,ag (ag z).2)
def uY(z:(a&&(b&&(c&&d)))):a/\b/\c/\d=true:=((ag z).1,qr (ag z).2)
abbrev mC(h:Hs)(k:Î->Hs->ß):ß:=match h with|.L [.I x]::r=>k x r|_=>ŧ
def tz:Ct:=λ_ _ _ _=>ŧ
theorem Dt.no{st:É}{ps:ϐ}(r:Src W.K W.mg (L.S.gB i) st ps):Dt L W i k tz:=by let(f,F,a,h,b):=r.ex;let no:∀v H Q E,¬dG (L.y W) tz v H Q E:=λv H Q E z=>(by let(_,_,_,_,_,_,_,_,c,_,_):=z;rwa[c]);exact(ps,f,F,(λv H Q E q=>Ă q (no v H Q E),λA o s H args u v Q E _ _ _ _ q=>Ă q (no v H Q E)),h,a.kp,b)
def yd:Ł (Ń×Ct)->Ń->Ct|[],_=>tz|(j,c)::r,i=>match Ì i j with|J=>c|bb=>yd r i
def All(L:Lw)(W:Wd)(k:Ń):Ł (Ń×Ct)->ß|[]=>æ|(i,c)::r=>Dt L W i k c/\All L W k r
theorem All.at:∀{l:Ł _},All L W k l->∀i∈l.map (·.1),Dt L W i k (yd l i)|[],_,i,h=>by grind|(j,c)::r,f,i,h=>by induction e:Ì i j with
  |d=>
   let E:yd ((j,c)::r) i=c:=by show(match Ì i j with|J=>c|bb=>yd r i)=c;rw[e]
   rw[E,aV e];rwa[f.1]|e=>
   let E:yd ((j,c)::r) i=yd r i:=by show(match Ì i j with|J=>c|bb=>yd r i)=_;rw[e]
   rw[E];erw[All.at f.2 i ((ax.mp h).resolve_left λz=>?_)];rw[show i=j from z,tF]at e;cases e
theorem xi.of:∀{l:Ϙ},(∀i∈l,Dt L W i k (fn i))->xi L W fn k l|[],_=>Ť|_::_,h=>(h _ aJ,xi.of λi H=>h i (aG _ H))
abbrev Lw.G(L:Lw)(l:Ł (Ń×Ct))(iok:Ϙ):Gm:=L.g (yd l) (l.map (·.1)) iok
def Fh:ϐ->ϐ->Þ|[],[]=>J|x::r,y::q=>cE x y&&Fh r q|_,_=>bb
theorem yG:∀{l m:ϐ},Fh l m=J->l=m|[],[],_=>Ŗ|[],_::_,h=>by cases h|_::_,[],h=>by cases h|x::r,y::q,h=>by rw[bN.mp (ag h).1,yG (ag h).2]
def IU(N ps:ϐ)(sc:Í):Þ:=sc.kind==.function&&(!sc.isCoroutine&&(!sc.isGenerator&&(xf N&&(Fh (N.take (Á ps)) ps&&(ps.all (TZ sc)&&sc.names.all λy=>y.2 !=.free)))))
def jB(h:IU N ps sc):cP N ps sc:=by let(H,h):=ag h;let(a,h):=ag h;let(b,h):=ag h;let(c,h):=ag h;let(d,h):=ag h;let(e,f):=ag h;exact(HR H,gm a,gm b,nX c,yG d,λx g=>Ac (my e x g),λy i z=>by let:=my f y i;rw[z]at this;cases this)
def uB(sc:Í):ϐ:=(sc.names.filter λp=>match p.2 with|.local=>J|.cell=>J|_=>bb).map (·.1)
def Lk.eN0{C:Ct}{st:É}(N:ϐ)(z:Þ)(l:Ł _)(iok:Ϙ)(B:Lk L W)(b:Ms (L.G l iok) L.t)(s:Src W.K W.mg (L.S.gB i) st ps)(H:(IU N ps (av st)&&b.ck (L.S.at N (av st) J) (bQ st))=J)(f:All L W (k+1) l)(hi:wU L W k iok)(a:∀ds h Q x,C ds h Q x->Á ds=Á ps/\b.m (hJ z (Á h) Q x) (pG (Á N) ds) h):Dt L W i (k+2) C:=B.d N ps z b s (jB (ag H).1) (ag H).2 (xi.of f.at) hi a
def Lk.e0{C:Ct}{st:É}(n:Ń)(z:Þ)(l:Ł _)(iok:Ϙ)(B:Lk L W)(b:Ms (L.G l iok) L.t)(s:Src W.K W.mg (L.S.gB i) st ps)(H:(Ì (Á (uB (av st))) n&&(IU (uB (av st)) ps (av st)&&b.ck (L.S.at (uB (av st)) (av st) J) (bQ st)))=J)(f:All L W (k+1) l)(hi:wU L W k iok)(a:∀ds h Q x,C ds h Q x->Á ds=Á ps/\b.m (hJ z (Á h) Q x) (pG n ds) h):Dt L W i (k+2) C:=by let h:=aV (ag H).1;subst h;rwa[B.eN0 _ z l iok b s (ag H).2 f hi a]
def Lk.ajf{st:É}(N ps:ϐ)(z:Þ)(l:Ł _)(iok:Ϙ)(B:Lk L W)(b:Ms (L.G l iok) L.t)(s:qp W.K (L.ca c) q st ps)(x:W.mg (L.S.rX c)=O (.ref (L.ca c)))(H:(!Nat.ble 80 c&&(IU N ps (av st)&&b.ck (L.S.at N (av st) bb) (bQ st)))=J)(f:All L W (k+1) l)(hi:wU L W k iok)(C:∀ds h Q X,L.lF c ds h Q X->Á ds=Á ps/\b.m (hJ z (Á h) Q λ_ _=>ŧ) (pG (Á N) ds) h):Di L W c (k+2):=B.mk1 N ps z b s x (jB (ag (ag H).2).1) (gm (ag H).1) (ag (ag H).2).2 (xi.of f.at) hi C
def Lk.ajN{st:É}(n:Ń)(z:Þ)(l:Ł _)(iok:Ϙ)(B:Lk L W)(b:Ms (L.G l iok) L.t)(s:gT W.K (L.ca (c/100-1)) (L.S.rX c) q st ps)(H:(Ë 100 c&&(Ì (Á (uB (av st))) n&&(IU (uB (av st)) ps (av st)&&b.ck (L.S.at (uB (av st)) (av st) J) (bQ st))))=J)(f:All L W (k+1) l)(hi:wU L W k iok)(C:∀ds h Q x,L.lF c ds h Q x->Á ds=Á ps/\b.m (hJ z (Á h) Q x) (pG n ds) h):Di L W c (k+2):=by let e:=aV (ag (ag H).2).1;subst e;rwa[B.ajO _ ps z b s (jB (ag (ag (ag H).2).2).1) (ag H).1 (ag (ag (ag H).2).2).2 (xi.of f.at) hi C]
end F
namespace F
open L2
def kW(C:Ct)(x:XP)(Q:KP):KP:=λds h=>C ds h (qD Q) x
def aau(C:Ct)(A:Sm):Sm:=λx σ h Q=>A x σ h (kW C x Q)
abbrev Pw:=Hs->Ł Dv->ß
abbrev Ig:=XP->Es->Hs->(Pw->Hs->ß)->ß
def JG(Y:T0)(G M:Ł À)(H:Hp)(j:It)(P:Pw):ß:=∀g m h a X,(∀b∈g,b∈G\/H b=ao)->Ext M H m h->bq (Y.z g) m h a->P a X->(∀(i:Ń)x,X[i]?=O x->j.go i h/\∀v p,j.yld i h v p->Ext m h m p/\bq (Y.z g) m p a/\eK (Y.z g) m p x v)/\j.stop (Á X) h
structure KnG(Y:T0)(G:Ł À)(E:XK)(τ:Ç)(H:Hp)(R:It->Hp->ß)(M:Ł À)(σ:Es)(h:Hs)(xc:XP)(Q:Pw->Hs->ß):ß where
 rel:bq (Y.z G) M H h
 env:dB (Y.z G) M H σ τ
 out:∀P h' M' H' a,Ext M H M' H'->bq (Y.z G) M' H' h'->JG Y G M' H' a P->Q P h'->R a H'
 exc:∀C h' M' H',Ext M H M' H'->bq (Y.z G) M' H' h'->xc C h'->rB Y.t.ca E C H'
inductive PF(Y:T0)(E:XK)(m:Ig)(τ:Ç)(H:Hp)(R:It->Hp->ß):ß|mk(G M:Ł À)(σ:Es)(h:Hs)(xc:XP)(Q:_)(k:KnG Y G E τ H R M σ h xc Q)(q:m xc σ h Q):PF Y E m τ H R
def Ki(h:dm 'X' E (aau C A) τ H l):gv 'X' E A τ H λvs m=>dG 'X' C vs m l E:=by let(G,M,σ,s,x,Q,k,q):=h;exact(G,M,σ,s,x,_,(k.rel,k.env,λd n o y v e R i p=>(G,o,n,d,_,x,R,i,p,λd2 a M2 f w g r u j=>k.out d2 a M2 f w (e.trans g) r u j,λc a M2 f g r j=>k.exc c a M2 f (e.trans g) r j),k.exc),q)
def ϳ(I:Im):Ig:=λx σ h Q=>I x σ h λy a=>Q (λ_ s=>s=y.map .p) a
def Wv.jg(j:Wv Y G M H c ys):JG Y G M H c λ_ xs=>xs=ys.map .p:=λl m n o xs q e r p=>by subst p;let(a,b):=j l m n o q e r;erw[(λi x d=>?_,by rw[ae];rwa[b])];rw[aM]at d;induction f:ys[i]? with|a=>left|c y=>rw[f]at d;cases d;let(g,k):=a i y f;exact(g,λv P s=>k v P s)
def ϩ(h:PF 'X' E (ϳ I) τ H R):AG 'X' E I τ H R:=by let(G,M,σ,h,x,Q,k,q):=h;exact(G,M,σ,h,x,_,(k.rel,k.env,λs c m d a e r j _ q=>k.out _ c m d a e r j.jg q,k.exc),q)
def qNw(h:Hs)(Q:KP)(d:Dv)(H:Hs):ß:=gd (MU d) (Q [.r (Á h)] H)
def kNw(c:Ń)(C:Ct)(Q:KP):KP:=λds h=>C (.r (Á h)::ds) (h++[.I c []]) (qNw h Q) λ_ _=>ŧ
def ϋ(c:Ń)(C:Ct)(A:Sm):Sm:=λx σ h Q=>A x σ h (kNw c C Q)
theorem sh:∀{F:Ł (Å×V)},f∉F.map (·.1)->F.lookup f=ao|[],_=>Ŗ|(g,w)::F,h=>by rw[cF,ax,not_or]at h;rw[iJ,da.mpr h.1];rwa[sh h.2]
def Ŵ{Q:KP}{j:VK}(r:bq (Y.z G) M H h)(i:cU (Y.z G) M H d vs)(q:C (.r (Á h)::d) (h++[.I c []]) (λd b=>gd (MU d) (Q [.r (Á h)] b)) λ_ _=>ŧ)(out:∀d h' m H' v,Ext M H m H'->bq (Y.z G) m H' h'->eK (Y.z G) m H' d v->Q [d] h'->j v H')(nx:H x=ao)(k:H D=ao)(n:D≠x):dG Y C (.A x::(vs++[])) (dq (dq H D (.own x)) x (.ins (Y.t.ca c) D [])) (λv e=>v=.iq/\j (.A x) e) E0:=by
 let NT:dq H D (.own x) x=none:=by rw[bA (c4 n)];rwa[nx]
 let R:bq _ M (dq H D (.own x)) h:=r.add k;let l:Ext M H _ (dq _ x (.ins (Y.t.ca c) D [])):=(Ext.add k).trans (Ext.push R NT);let s:(M++[x])[Á h]?=O x:=by rw[<-r.ln,aQ (ah _),fM];rfl
 rw[aT];erw[(G,_,_,.r _::d,_,_,bq.push (o:=.I c []) R NT (D,[],bC,by rw[bA n];rwa[bC],Ŗ,Ť),((x,s,Ŗ),i.ext r l),q,λd2 b M2 e w f u y g=>?_,λc b M2 e f u g=>g.elim)];let dn:d2=.p .N:=by induction d2 with|r _=>done|p d=>cases d<;>first|rfl|done
 subst dn;exact(Wu y,out (.r _) b M2 e _ (l.trans f) u (x,f.at s,Ŗ) g)
def Oh(D:lH X.prog X.w X.K X.mg X.base k0 x (t.ca c) ps (dG 'X' ct))(r:ff (k0+1) X.A)(g:Gl X x)(b:PA X (a::rest) (gv 'X' E A))(j:(x=="__debug__")=bb)(S:(a::rest).all cL):PE X (.Call (.Name x p) (a::rest) [] pos) (dm 'X' E (ϋ c ct A)):=(Oa D r g b j S).imp λτ H C z=>by let(G,M,σ,h,e,Q,k,q):=z;exact(G,M,σ,h,e,_,(k.rel,k.env,λd F L P v f R i l=>λx T nx N n=>Ŵ R i l (λd2 m M2 o w s u I y=>k.out d2 m M2 o w (f.trans s) u I y) nx N n,k.exc),q)
end F
namespace L2
end L2
namespace F
open L2
def Jj(h:Hs)(d:Dv):Ő (Ł Dv):=match nW h d with|O x=>O (x.map .p)|ao=>zZ h d
theorem aY.ds:∀{xs:ϑ}{vs:ϕ},aY Z M H xs vs->cU Z M H (xs.map .p) vs|[],[],_=>Ť|[],_::_,q=>by assumption|_::_,[],q=>by done|_::_,_::_,q=>by exact(q.1,aY.ds q.2)
def GX{Y:T0}(r:bq (Y.z G) M H h)(i:eK (Y.z G) M H x v)(e:Jj h x=O xs):∃a vs,v=.A a/\H a=O (.L vs)/\cU (Y.z G) M H xs vs:=by
 delta Jj at e;split at e;.ext s y;cases e;let(a,vs,E,s1,I):=il r i y;exact(a,vs,E,s1,I.ds)
 .let(_,a,vs,_,_,E,s1,I):=GZ r i e;exact(a,vs,E,s1,I)
structure Jg(Γ:Gm)(t:Tb)where
 m:Ig
 ck:Sx->Æ->Æ->Þ
 pi:∀{k S X E tx x},mV Γ t k S X E->ck S tx x->PI X tx x (PF 'X' E m)
def aat(t:Å->Ő ϐ)(fn:Ń->Ct)(fok:Ϙ)(A R:Sm):Sm:=λx σ h Q=>A x σ h λX H=>match X with|[.p (.S z)]=>gC (t z) (λk=>gd (iU (Á k) fok) (R x σ H λds a=>fn (Á k) ds a (λd b=>Q [d] b) x)) ŧ|_=>ŧ
def aj8(t:Å->Ő ϐ):O1:=λx h Q=>match x with|.p (.S z)=>Q (.p (.B (t z).isSome)) h|_=>ŧ
section
variable{Γ:Gm}{t:Tb}
def Jg.p(j:Jm Γ t):Jg Γ t:=(_,j.ck,λo h=>(j.pi o h).imp λ_ _ _=>ϩ)
def Of{ad:À}(T:tJ X.w X.K X.mg t.gB ad g)(D:∀i∈fok,∃ps,nc X.prog X.w X.K X.mg X.base k (t.gB i) ps (dG 'X' (fn i)))(P:ff k X.A)(U:gR (sG X.prog X.w) X E)(W:Gl X n)(Y:X.mg n=O (.ref ad))(Z:(n=="__debug__")=bb)(he:PE X e (dm 'X' E A))(hs:mw e)(ha:PA X (a::b) (gv 'X' E R))(dS:(a::b).all cL):PE X (.Call (.Subscript (.Name n p) e q) (a::b) [] pos) (dm 'X' E (aat g fn fok A R)):=(N4 (G8 (TJ T) (gh (v:=.A ad) W Y Ŗ Z) he hs) P U ha dS).imp λτ H QV zz=>by let(G,M,σ,h,x,Q,k,q):=zz;erw[(G,M,σ,h,x,_,(k.rel,k.env,λd h1 M1 H1 v l r1 i1 q1=>?_,k.exc),q)];induction d with|r _=>done|p d=>cases d with|S z=>let(ks,hk,m):=cK q1;let(c,j):=cJ m;let(ps,f,fd,F,o,s,hb):=D _ (cQ.mp c);erw[(Ŗ,z,ks,pj i1,hk,λf' L=>?_)];rw[o]at L;cases L;exact(f,fd,ps,_,Ŗ,F,s,hb,G,M1,σ,h1,x,_,(r1,k.env.ext k.rel l,λds h2 M2 H2 vs N r2 i2 m=>(G,M2,h2,ds,_,x,r2,i2,m,λd3 u y B w C I i3 j=>k.out d3 u y B w (l.trans (N.trans C)) I i3 j,λc u y B C I j=>k.exc c u y B (l.trans (N.trans C)) I j),k.IP l),j)|_=>left
namespace Em
def x8(i:Ń)(A:Am Γ t):Em Γ t:=(_,λS x=>iU i _&&(S.cm&&Rl S _ A x),λ{k S X E x}o h=>by let(ps,D):=o.fnX (ag (ag h).2).1 i (cQ.mp (ag h).1);rw[<-o.gB]at D;rwa[nI o (ag (ag h).2).2 λ_ _ _ _ H d hn pa p=>(Us D (o.room (ag (ag h).2).1) o.hp H pa d p).imp λ_ _ _=>Ki])
def nw(c:Ń)(A:Am Γ t):Em Γ t:=(_,λS x=>!Nat.ble 80 c&&iU c _&&(S.cm&&Rl S _ A x),λ{k S X E x}o h=>by let(ps,D):=o.lF c (cQ.mp (ag (ag h).1).2);replace D:=MN (gm (ag (ag h).1).1) D;rwa[nI o (ag (ag h).2).2 λ_ _ _ _ H d hn pa p=>Oh D (o.room (ag (ag h).2).1) H pa d p])
def clf(i:Ń)(A:Em Γ t)(R:Am Γ t):Em Γ t:=(_,λS=>ki λf s K _=>Ë 100 i&&iU i _&&(S.cm&&GU K&&(!wY s&&R.ck S s&&Fz (λa e _=>AO S (S.tnm i) a&&(BM e&&A.ck S e)) f)),λ{k S X E x}o h=>by erw[fk h λf s K q h=>?_];let(d,h):=ag h;let(H,g,j):=qr h;let(l,c):=ag g;rw[iV (ag H).2];erw[oN j λa e p h=>?_];let(m,n,r):=qr h;let(z,u,v,w,hn):=fV o m;let(ad,y,T):=o.tab i (cQ.mp (ag d).2);replace T:=PM (ag d).1 T;rw[u];induction s with|f=>done|g b s=>let(pa,P):=R.pa o c;rwa[Of T (o.fnX (ag H).1) (o.room (ag H).1) o.hp v y w (A.pe o r) (zV n) pa P])
end Em
def Tm.tin(i:Ń)(A:Em Γ t):Tm Γ t:=(s1 (aj8 _) A.m,λS=>P4 λa os bs _=>km (l1 os) λo=>km (l1 bs) λb=>Đ (o=.In)&&(Ë 100 i&&iU i _&&(AO S _ b&&A.ck S a)),λ{k S X E x}o h=>by erw[uO h λa os bs q h=>?_];let(F,e,h):=cG h;let(b,j,h):=cG h;let(c,g,l,n):=uY h;let(P,s,u,w,hn):=fV o l;let(ad,y,T):=o.tab i (cQ.mp (ag g).2);replace T:=PM (ag g).1 T;rw[fD e,fD j,bL c,s];erw[(Hm (S_ T) (A.pe o n) (gh (v:=.A ad) u y Ŗ w) (uG Ŗ)).imp λτ H K h=>?_];let(G,M,σ,h,B,Q,k,q):=HJ h;erw[(G,M,σ,h,B,_,(k.rel,k.env,λd c C D v e R I f=>?_,k.exc),q)];induction d with|r _=>rwa[f.elim]|p d=>cases d with|S z=>exact(Ŗ,z,pj I,k.out _ c C D _ e R lj f)|_=>rwa[f.elim])
namespace Mm
end Mm
end
end F
namespace L2
end L2
namespace F
open L2
end F
namespace F
open L2
def A_(e:h[l]?=O (.L xs)):nW h (.r l)=O xs:=by show(match h[l]? with|O (.L xs)=>O xs|_=>ao)=_;rw[e]
end F
namespace F
open L2
section
variable{Γ:Gm}{t:Tb}
namespace E1
end E1
end
end F
namespace F
open L2
variable{Γ:Gm}{t:Tb}
end F
namespace F
open L2
@[irreducible]def Mn(t:Tg)(P:Pw)(b:Ss)(N:En)(σ:Es)(h:Hs):ß:=∃(X:Ł Dv)(W:Ń->Es->Hs->ß),W 0 σ h/\(∀i a H,W i a H->P H X)/\(∀(i:Ń)x a H,X[i]?=O x->W i a H->match x with
  |.p y=>match QW t y a with|O c=>b (N.lp (W (i+1)) N.nx) c H|ao=>ŧ
  |_=>ŧ)/\∀a H,W (Á X) a H->N.nx a H
def afg(t:Tg)(I:Ig)(b:Ss):Ss:=λN σ h=>I N.xc σ h λP H=>Mn t P b N σ H
def So(h:eJ 'X' E (afg tg I b) D τ H):Kj (PF 'X' E I) (Sy X.K tg) (eJ 'X' E b) D τ H:=by
 let(G,M,σ,h0,N,k,q):=h;erw[(G,M,σ,h0,_,_,(k.rel,k.env,λP h1 B H1 j A r1 jo q=>?_,k.exc),q)];delta Mn at q;erw[cps λR k0=>?_];let(x,W,w0,hP,T,F):=q;erw[k0 (λi m p u=>m=Á x-i/\i<=Á x/\∃f a h',Ext B H1 f u/\bq _ f u h'/\dB _ f u a p/\W i a h',(_,Ŗ,aN _,B,σ,h1,Ext.refl,r1,k.env.ext k.rel A,w0),?_)];erw[λi m p u z=>cps λR k1=>?_];let(rfl,hi,f,a,h',S,U,v2,w):=z;let(ja,jb):=jo G f u h' x (λ_ z=>.inl z) S U (hP _ _ _ w);by_cases o7:i<Á x
 .let(g,y):=ja i _ (ar o7);erw[k1 (.inr (g,_,λτ2 H2 zz=>by done,λv pK yl=>cps λR k2=>?_))];let(e3,r3,ip):=y v pK yl;let q:=T i _ a h' (ar o7) w;let L:=S.trans e3;let nx:∀c o l e n,Ext f pK l e->bq ('X'.z G) l e o->dB ('X'.z G) l e c n->W (i+1) c o->∃m',m'<Á x-i/\m'=Á x-(i+1)/\i+1<=Á x/\∃f a h',Ext B H1 f e/\bq _ f e h'/\dB _ f e a n/\W _ a h':=λc o l e n r s Z Q=>(_,(),Ŗ,dh ‹_›,l,c,o,L.trans r,s,Z,Q);split at q
  .ext y ey;split at q;.ext σ4 e4;rw[ey]at ip;rwa[k2 (Sz e4 ip (v2.ext U e3) λτ4 v4=>(G,f,_,h',N.lp _ _,(r3,v4,nx,λd o l e v r s i5 Q=>k.rt d o l e v (A.trans (L.trans r)) s i5 Q,λc o l e n r s Z Q=>k.nx c o l e n (A.trans (L.trans r)) s Z Q,nx,λC o l e r s Q=>k.exc C o l e (A.trans (L.trans r)) s Q),q))]
   .rwa[q.elim]
  .left
 .let hx:i=Á x:=()
  subst hx;rwa[k1 (.inl (jb,k.nx a h' f u p (A.trans S) U v2 (F a h' w)))]
variable{Γ:Gm}{t:Tb}
def Mm.foT(g:Tg)(j:Jg Γ t)(B:Ms Γ t):Mm Γ t:=(_,λS=>P8 λT ix b e _=>S.cm&&wY e&&(mM ix&&(im S g T&&(j.ck S T ix&&B.ck S b))),λo h=>by erw[uQ h λT ix b e p h=>?_];let(H,h):=ag h;let(a,h):=ag h;let(c,h):=ag h;let(d,f):=ag h;rw[fU (ag H).2];exact(ER o.po (o.x.hc (ag H).1).1 (j.pi o.x d) (yw o.x.hq o.x.hN o.x.hs o.nd o.hf c) (B.ps o f) λ_=>qH a).imp λ_ _ _=>So)
def Gy{T:Tg}{P:Pw}{b:Ss}{N:En}{σ:Es}{h:Hs}(xs:ϑ)(a:ϑ->ϑ->Es->Hs->ß)(k:a [] xs σ h)(g:∀pre post σ' h',a pre post σ' h'->P h' (xs.map .p))(step:∀pre x post σ' h',xs=pre++x::post->a pre (x::post) σ' h'->match QW T x σ' with|O c=>b (N.lp (a (pre++[x]) post) N.nx) c h'|ao=>ŧ)(f:∀σ' h',a xs [] σ' h'->N.nx σ' h'):Mn T P b N σ h:=by delta Mn;erw[(_,λi σ' h'=>a (xs.take i) (xs.drop i) σ' h',by done,λi σ' h' j=>g _ _ _ _ j,λi x σ' h' d j=>?_,λσ' h' j=>f σ' h' nofun)];rw[aM]at d;induction H:xs[i]? with|a=>left|c y=>
 rw[H]at d;cases d;let(l,e):=aw.mp H;let E:xs.drop i=y::xs.drop (i+1):=by rw[<-e,kq]
 let z:=step _ y _ σ' h' (r8 H) (E▸j);rw[<-xT H]at z;rwa[z]
end F
namespace F
open L2
def Em.F7{Γ:Gm}{t:Tb}(n:Ń)(a:Ϙ)(T:Tg)(j:Jm Γ t)(F:Fm Γ t)(A:Em Γ t):Em Γ t:=(yC n a T _ F.m A.m bb,λS x=>Lr S n a T _ F _ x,λo h=>uk o h λN u ix i e sc p b c d g k l q r w=>(Uq b (o.hc w).1 c (j.pi o d) (λf s H=>k (G6 o w _ _ f _ _)) (λf s H=>F.pf (G6 o w _ _ f _ _) l) (λf s H=>A.pe (G6 o w _ _ f _ _) q) r).imp λ_ _ _=>um λ_ _ _ z=>by lia g)
end F
namespace F
open L2 PySem.SeqAt
def vT{Y:T0}(r:Vals vs us)(R:Vals ws Z)(ix:aY (Y.z G) M H xs vs)(i:aY (Y.z G) M H xs ws)(I:∀{p:Pv}{v u:V}{b U:Â},p∈xs->eg (Y.z G) M H p v->eg (Y.z G) M H p u->RelV v b->RelV u U->EqAt A s b U J):∀j(h:j<us.toArray.size)(a:j<Z.toArray.size),EqAt A s us.toArray[j] Z.toArray[j] ((λ_=>J) j):=by
 intro j h a;let l1:=r.length;let l:=ix.len;simp only[aZ]at h a;let e:xs[j]?=O (xs[j]'()):=ar _;let(v,d,pv):=ix.get e;let(w,f,P):=i.get e;let(u,hu,g):=r.get d;let(z,c,C):=R.get f;let E:us.toArray[j]=u:=by rw[ar h]at hu;simpa using hu
 let k:Z.toArray[j]=z:=by rw[ar a]at c;simpa using c
 rw[E,k];rwa[I (fZ _) pv P g C]
def PU{σ:Ç}{Y:T0}{A:cr}(I:Inv X be σ H s)(S:g9 X.K H a vs)(d:g9 X.K H b ws)(ix:aY (Y.z G) M H xs vs)(i:aY (Y.z G) M H xs ws)(h:∀{p:Pv}{v u:V}{c U:Â},p∈xs->eg (Y.z G) M H p v->eg (Y.z G) M H p u->RelV v c->RelV u U->EqAt A.in1 s c U J):∃(B T:Array _)(e:Ń->Þ),s.heap.IsTuple a B/\s.heap.IsTuple b T/\(∀j(g:j<B.size)(k:j<T.size),EqAt A.in1 s B[j] T[j] (e j))/\((ä (min B.size T.size)).all e&&B.size==T.size)=true:=by let(B,r,t,_):=I.tuple S;let(T,R,f,_):=I.tuple d;erw[(_,_,_,t,f,vT r R ix i h,?_)];rw[aZ,aZ,<-r.length,<-R.length,<-ix.len,<-i.len,iL,Bool.and_true];rwa[bJ.mpr λ_ _=>Ŗ]
end F
namespace L2
open PySem.SeqAt PySem.MeetsSeq PySem.Builtin PySem.Builtin.Str
end L2
namespace F
open L2
section
variable{Γ:Gm}{t:Tb}
namespace E1
end E1
end
end F
namespace F
open L2
end F
namespace L2
def BK{o:Æ}{m:Å}{cN pos:Ó}{args:Ł _}{env:Ø}(q:g6 o m env (Ê o env)=Ê o env)(a:methodCallForm (Á args+0) (e9 pos (d4 args env)) (backToKw pos (hX [] env)))(h:(cN.endLine==pos.line)):∃p,Ê (.Call (.Attribute o m cN) args [] pos) env=(do
   let v<-Ê o env
   standAt cN.atName let(f,first)<-holding [v] (getMethod v m p)callWith pos f first (e9 pos (d4 args env)) (backToKw pos (hX [] env))):=by
 let e:methodCallPos J o env cN pos=pure pos:=by delta methodCallPos;rw[h];rfl
 erw[(do return(<-importBound o env).getD J,?_)];let H:methodCallForm (Á _+Á ([]:Ł g5)) _ _=true:=a;rw[arm_eval_Call,q];delta methodCall;rw[H,e];rfl
end L2
namespace F
open L2
def Ř(h:Hs)(Q:KP):KP:=λds H=>m1 ds λd=>gC (Mo H (Á h) d) (λx=>gd (bH (Á h) (H.take (Á h))) (Q [x] (H.take (Á h)))) ŧ
def aky(A:Sm):Sm:=λx σ h Q=>A x σ h (Ř h Q)
def afh:Sm:=λ_ _ h Q=>Q [.r (Á h)] (h++[.K []])
def afc:Sm:=λ_ _ h Q=>Q [.r (Á h)] (h++[.E [] []])
def GW:ϑ->Ő (Ł cs)|[]=>O []|x::r=>match kJ x with
  |O κ=>match GW r with|O l=>O (κ::l)|ao=>ao
  |ao=>ao
def rr:cs->Pv|.inl i=>.I i|.inr x=>.S x
def Ϫ:ON:=λx h Q=>gC (ib x) (λps=>gC (GW ps) (λk=>gd (sA (Á k)) (Q (.p (.key k)) h)) ŧ) ŧ
def J_(n:Ń):O1:=λx h Q=>match x with|.p (.key k)=>gC k[n]? (λκ=>Q (.p (rr κ)) h) ŧ|_=>ŧ
def isC(c:Ń)(h:Hs):Dv->Þ
 |.r i=>match h[i]? with|O (.I C _)=>Ì C c|_=>bb
 |.p (.obj C _)=>Ì C c|_=>bb
def ajm(C:Ct)(X:XP)(Q:KP)(x:Dv):KP:=λds h=>C (x::ds) h (qD Q) X
def kMe(c:Ń)(C:Ct)(A:Sm)(X:XP)(σ:Es)(Q:KP):KP:=λs h=>m1 s λx=>gd (isC c h x) (A X σ h (ajm C X Q x))
def w4(c:Ń)(C:Ct)(o A:Sm):Sm:=λx σ h Q=>o x σ h (kMe c C A x σ Q)
def Ej(κ:Ł cs)(K:Ł (Ł cs)):Ł (Ł cs):=bif K.any λk=>Đ (k=κ)then K else K++[κ]
def mu:Ő Ob->Ő (Ł (Ł cs))|O (.K k)=>O k|_=>ao
def adL:Dv->Þ|.p (.B J)=>J|_=>bb
def afi(A B C:Sm):Ss:=λN σ h=>A N.xc σ h λs a=>match s with
 |[v]=>gd (adL v) (B N.xc σ a λx b=>match x with
  |[.r i]=>C N.xc σ b λy H=>match y with|[.p (.key κ)]=>gC (mu H[i]?) (λk=>gd (sA (Á k+1)) (N.nx σ (H.set i (.K (Ej κ k))))) ŧ|_=>ŧ
  |_=>ŧ)|_=>ŧ
def ζ(f:PE X a (dm 'X' E A)):PE X a (dm 'X' E (aky A)):=f.imp λτ H l z=>by let(G,M,σ,h,g,Q,k,q):=z;erw[(G,M,σ,h,g,_,(k.rel,k.env,λd m n i v e r I b=>?_,k.exc),q)];let(x,j,b):=cK b;let(c,b):=cJ b;rwa[k.out x _ _ i v (e.cut (by rw[k.rel.ln];rwa[ah _])) (r.cut _ c) (Mq r I j) b]
def Ux:PE X (.Dict [] [] pos) (dm 'X' E afh):=N8.imp λτ H c (G,M,σ,h,x,Q,k,q) p b=>k.out _ _ _ _ _ (Ext.push k.rel b) (k.rel.push (o:=.K []) b bC) (nU k.rel.ln) q
def Uw:PE X (.Dict [] [] pos) (dm 'X' E afc):=wt.imp λτ H c (G,M,σ,h,x,Q,k,q) p b=>k.out _ _ _ _ _ (Ext.push k.rel b) (k.rel.push (o:=.E [] []) b ([],bC,Ť,Ť)) (nU k.rel.ln) q
theorem Xb{Y:T0}{G M:Ł À}{H:Hp}:∀{ps:ϑ}{k:Ł cs}{vs:ϕ},GW ps=O k->aY (Y.z G) M H ps vs->vs=k.map kV
 |[],k,vs,e,i=>by cases e;induction vs with|f=>rfl|g _ _=>rwa[i.elim]
 |x::r,k,vs,e,i=>by
  delta GW at e;split at e
  .ext κ b;split at e;.ext l c;cases e;cases vs with|f=>rwa[i.elim]|g v vs=>rw[Eo b i.1,Xb c i.2];rfl
   .lia
  .lia
def θ{k1:Ń}(h:PA X rest (gv 'X' E A)):PE X (.Tuple rest k1 pos) (dm 'X' E (sN Ϫ A)):=(An h).imp λτ H n h=>by let(G,M,σ,h,x,Q,k,q):=h;erw[(G,M,σ,h,x,_,(k.rel,k.env,λd g m s v i r I b=>?_,k.exc),q)];let(ps,e,b):=cK b;let(K,j,b):=cK b;let(c,b):=cJ b;let l:=Xb j (wB e I);subst l;exact(by rw[ae];rwa[gU c],λp f=>k.out (.p (.key K)) g m _ _ (i.trans (Ext.add f)) (r.add f) (p,Ŗ,bC) b)
def Nj{Y:T0}:eg (Y.z G) M H (rr κ) (kV κ):=by induction κ<;>rwa[Ŗ]
def Tj{n:Ń}:QP Y (λx H Q=>FN Y.K x (.I n) H Q) (J_ n):=λG M h H x v Q c r i q out=>by induction x with|r _=>rwa[q.elim]|p x=>cases x with|key k=>let(κ,e,q):=cK q;let(a,rfl,b):=i;exact(a,_,n,_,Ŗ,Ŗ,.inl (.inl b),QZ nofun,out (.p _) h M H _ Ext.refl r Nj q)|_=>rwa[q.elim]
def ι{n:Ń}(c:PE X a (dm 'X' E A))(d:PE X b (tC (.I n)))(s:mw b):PE X (.Subscript a b pos) (dm 'X' E (s1 (J_ n) A)):=(G8 Nc c d s).imp λτ H Q h=>XO Tj h
def Xj(hc:sH X.K t c)(Z:m∉t.fl c)(h:dm 'X' E (w4 c W Oo A) τ H QV):dm 'X' E Oo τ H λx b=>∃a D fs,x=.A a/\b a=O (.ins (t.ca c) D fs)/\fs.lookup m=ao/\gv 'X' E A τ b λvs H2=>dG 'X' W (x::(vs++[])) H2 QV E:=by
 let(G,M,σ,h,j,Q,k,q):=h;erw[(G,M,σ,h,j,_,(k.rel,k.env,λd h1 M1 b v e l n s=>?_,k.exc),q)];let(g,s):=cJ s;let F:∃a D fs,v=.A a/\b a=O (.ins (t.ca c) D fs)/\fs.lookup m=none:=by induction d with
  |r i=>
   change(match h1[i]? with|O (.I u _)=>Ì u c|_=>bb)=J at g;split at g;.ext u fs ho;obtain rfl:=aV g;let(a,g0,rfl):=n;let(D,f,s1,_,l1,i2):=l.at' g0 ho;exact(a,D,f,Ŗ,s1,sh λz=>Z (by rw[l1]at z;rwa[fJ z]))
   .done|p x=>cases x with|obj u fs=>obtain rfl:=aV g;let(a,D,f,rfl,_,s1,l1,_):=n;exact(a,D,f,Ŗ,s1,sh λz=>Z (by rw[l1]at z;rwa[fJ z]))|_=>done
 let(a,D,f,rfl,s1,l1):=F;erw[(a,D,f,Ŗ,s1,l1,G,M1,σ,h1,j,_,(l,k.env.ext k.rel e,λds h2 M2 H2 vs y r2 i2 q2=>?_,k.IP e),s)];rw[aT];exact(G,M2,h2,d::ds,_,j,r2,(n.ext l y,i2),q2,λd3 L N P w S T i3 U=>k.out d3 L N P w (e.trans (y.trans S)) T i3 U,λc L N P S T U=>k.exc c L N P (e.trans (y.trans S)) T U)
def Sq{X:Cx}(d:(e::es).all cL)(l:Á (e::es)<30):methodCallForm (Á (e::es)+0) (e9 dI (d4 (e::es) X.env)) (backToKw dI (hX [] X.env))=true:=zP d l
def Xw(e:PE X o (dm 'X' E Oo))(d:sH X.K t c)(g:m∉t.fl c)(M:yY X.K (t.ca c) m f)(Rn:gj X f (dG 'X' b) [] E)(i:PA X (a::rest) (gv 'X' E A))(j:g6 o m X.env (Ê o X.env)=Ê o X.env)(D:(a::rest).all cL)(l:Á (a::rest)<30)(n:(cN.endLine==dI.line)):PE X (.Call (.Attribute o m cN) (a::rest) [] dI) (dm 'X' E (w4 c b Oo A)):=by let(P,k):=BK j (Sq D l) n;let hp:=D;rw[b8,aK]at hp;exact(Oc e d.cl M Rn i (cy hp.1) (fh hp.2) k).imp λτ H Q h=>Xj d g h
def ξ(r:PE X o (dm 'X' E Oo))(g:sH X.K t c)(u:m∉t.fl c)(M:yY X.K (t.ca c) m f)(Rn:gj X f (dG 'X' b) [] E)(w:g6 o m X.env (Ê o X.env)=Ê o X.env)(n:(cN.endLine==dI.line)):PE X (.Call (.Attribute o m cN) [] [] dI) (dm 'X' E (w4 c b Oo dD)):=by let(pl,x):=BK (args:=[]) w Ŗ n;erw[(Jy r g.cl M Rn x).imp λτ H QV h=>?_];let(G,M,σ,h,y,Q,k,q):=Xj g u h;erw[(G,M,σ,h,y,Q,(k.rel,k.env,λd z D i v F I L N=>?_,k.exc),q)];let(a,P,fs,e,s,l,G',S,T,U,W,Q',j,Z):=k.out d z D i v F I L N;exact(a,P,fs,e,s,l,j.out [] U S i [] Ext.refl j.rel Ť Z)
def OL{K:Ł _}:kg (K.map λk=>(k,V.B J)) κ (.B J)=(Ej κ K).map λk=>(k,V.B J):=by
 delta kg Ej;let e:(K.map λk=>Ý k (V.B J)).any (λv=>Đ (v.1=κ))=K.any λk=>Đ (k=κ):=by rw[List.any_map];rfl
 rw[e];induction K.any _ with|d=>rw[bI];rwa[yR λk _=>⋯]|e=>rw[cond_false,aH];rfl
def TR(h:eJ 'X' E (afi A B C) D τ H):O8 (dm 'X' E B) (dm 'X' E C) (dm 'X' E A) D τ H:=by
 let(G,M,σ,h,N,k,q):=h;let ex:∀{w y},Ext M H w y->∀C f m H1,Ext w y m H1->bq _ m H1 f->N.xc C f->rB t.ca E C H1:=λe C f m H1 x r q=>k.exc C f m H1 (e.trans x) r q;erw[(G,M,σ,h,_,_,(k.rel,k.env,λd f m H1 v g P i1 l=>?_,k.exc),q)];let(z,l):=cJ l;let S:v=.B true:=by induction d with|r _=>done|p x=>cases x with
   |B b=>induction b with|d=>done|e=>cases z
   |_=>cases z
 subst S;erw[(G,m,σ,f,_,_,(P,k.env.ext k.rel g,λd2 T M2 H2 v2 i F U I=>?_,ex g),l)]
 induction d2 with|p _=>rwa[I.elim]|r n=>erw[(G,M2,σ,T,_,_,(F,k.env.ext k.rel (g.trans i),λW Z M3 H3 v3 s L i3 Q=>?_,ex (g.trans i)),I)];induction W with|r _=>rwa[Q.elim]|p kk=>cases kk with|key κ=>
    let(ks,j,Q):=cK Q;let(c,Q):=cJ Q;let(a,u,g2):=U.ext F s;let(b,rfl,hb):=i3;let j:Z[n]?=O (.K ks):=by
     delta mu at j;split at j;.left
     .done
    let ha:=aL u;let c2:=gU c;erw[(a,_,g2,AY.t (L.at' u j) hb (by rw[ae];rwa[‹_›]),?_)];rw[OL];rwa[k.nx σ _ M3 _ τ ((g.trans (i.trans s)).trans (Ext.put ha)) (L.put (o:=.K _) u bC) (k.env.ext k.rel ((g.trans (i.trans s)).trans (Ext.put ha))) Q]|_=>left
section
variable{Γ:Gm}{t:Tb}
namespace Em
def lM(A:Em Γ t):Em Γ t:=(_,_,λo h=>ζ (A.pe o h))
def TQ:Em Γ t:=(_,λ_=>R4,λo h=>by erw[uP h λk v p h=>?_];rw[fU (ag h).1];rwa[Ux])
def Zr:Em Γ t:=(_,λ_=>R4,λo h=>by erw[uP h λk v p h=>?_];rw[fU (ag h).1];rwa[Uw])
def key(A:Am Γ t):Em Γ t:=(_,λS=>Kw _,λo h=>oO h λ_ _ _ h=>θ (A.pa o h).1)
def kix(n:Ń)(A:Em Γ t):Em Γ t:=(s1 (J_ n) A.m,λS=>Fz λa i _=>A.ck S a&&P7 (λc _ _=>lw _ c) i,λo h=>by erw[oN h λa i p h=>?_];let(H,h):=ag h;revert h;erw[λh=>rk h λc j q h=>?_];rw[FR h];rwa[ι (A.pe o H) EL (zV Ŗ)])
def me(c:Ń)(b:Em Γ t)(A:Am Γ t):Em Γ t:=(_,λS=>ml S _ b λe=>Ë 100 c&&(iU c _&&(iU (c/100-1) _&&!pT (S.rX c) (S.fl (c/100-1))))&&(Ñ _ 30&&(!wY e&&A.ck S e)),λ{k S X E x}o h=>si h λv e s D H d i j=>by let(l,g):=ag H;let(m,n,p,G):=uY l;let(q,g):=ag g;let(C,r):=o.cls _ (cQ.mp p);let(f,u,R):=o.D_ (cQ.mp n) m;induction e with|f=>done|g a e=>let(pa,P):=A.pa o (ag g).2;rwa[Xw (b.pe o d) C (λw=>by rw[r]at w;rw[qJ w]at G;cases G) u R pa (mz i) P (aI q) j])
def EB(c:Ń)(a:Em Γ t):Em Γ t:=(_,λS=>ml S _ a λe=>Ë 100 c&&(iU c _&&(iU _ _&&!pT _ _))&&wY e,λ{k S X E x}o h=>si h λr e A D H b d i=>by let(j,g):=ag H;let(l,m,n,G):=uY j;let(C,p):=o.cls _ (cQ.mp n);let(f,q,R):=o.D_ (cQ.mp m) l;rw[fU g];rwa[ξ (a.pe o b) C (λw=>by rw[p]at w;rw[qJ w]at G;cases G) q R (mz d) i])
end Em
def Mm.Ek(A B C:Em Γ t):Mm Γ t:=(_,λS=>ul _,λo h=>by erw[Fi h λa i p e pos h=>?_];let(H,h):=ag h;let(b,c):=ag h;exact(Hk o.x.SV (B.pe o.x b) (C.pe o.x c) (A.pe o.x H) Fj).imp λ_ _ _=>TR)
end
end F
namespace F
open L2
def Vl(A:Sm):Ss:=λN σ h=>A N.xc σ h λx H=>match x with|[.p (.I (.ofNat n))]=>N.xc (1000+n) H|_=>ŧ
def rB.num(h:rB c E (1000+n) H)(a:H d=O (.xd [("number",.I n)])):E (.ref (c 999)) (O d) H:=by simp only[rB,aB (aO 1000 n)]at h;rwa[h d (by rw[f6];rwa[a])]
def J4(h:eJ 'X' E (Vl A) D τ H):HG E (t.ca 999) (dm 'X' E A) D τ H:=by
 let(G,M,σ,h,N,k,q):=h;erw[(G,M,σ,h,_,_,(k.rel,k.env,λd a b f v e r i Q=>?_,k.exc),q)];split at Q;.ext n c;cases c;exact(n,i,λx m=>rB.num (k.exc _ a b _ (e.trans (Ext.add m)) (r.add m) Q) bC)
 .left
def Mm.mS{Γ:Gm}{t:Tb}(A:Em Γ t):Mm Γ t:=(_,λS=>Ch λe b _=>S.cm&&b.isNone&&(S.fr&&(iU 999 S.xok&&km e (ki λf E k _=>GU k&&(AO S (S.rX 999) f&&km (l1 E) λe0=>cL e0&&A.ck S e0)))),λo h=>by erw[HM h λe b pos h=>?_];let(H,h):=ag h;let(a,h):=ag h;let(c,h):=ag h;let(s,d,g):=cG h;rw[d];induction b with|c _=>simp at H|a=>erw[fk g λf E k C h=>?_];let(i,h):=ag h;let(j,h):=ag h;let(e0,l,h):=cG h;let(p,m,n,q,hn):=fV o.x j;rw[iV i,fD l,m];let(fr,u):=o.x.fx a;let(r,K):=o.exc 999 (cQ.mp c);exact(JP fr u (o.x.hc (ag H).1).1 (o.x.room (ag H).1) n r K (A.pe o.x (ag h).2) (ag h).1 q).imp λ_ _ _=>J4)
def I'(f:Ł É->Ł ExceptHandler->Ł É->Ł É->Ó->Þ)(x:É):Þ:=tj _ 17 λe=>Stmt.Try.elim x e f
@[elab_as_elim]def Wb{P:É->ß}(h:I' f x)(q:∀a b c d p,f a b c d p=J->P (.Try a b c d p)):P x:=(eo h).elim λe h=>Stmt.Try.elim x e (λa b c d p _ h=>q a b c d p h) e h
def ϗ(f:Ő Æ->Ő Å->Ł É->Þ):ExceptHandler->Þ|.ExceptHandler ty n b _=>f ty n b
def TD(S:Sx):Sx:={S with fr:=bb}
theorem mV.BN(o:mV Γ t k S X E):mV Γ t k (TD S) X.BN λ_ _ _=>ŧ:=(o.hN,o.hs,o.hc,o.hq,λp σ H s e a I h=>by let(_,_,_,_,_,_,q):=h;rwa[q.elim],o.hr,o.bl,o.gB,o.fn,o.gl,o.tab,o.cls,o.lF,(λh=>by cases h),o.fu)
def Nb(H:X.N=S.N)(s:X.env.scope=S.sc)(h:W9 S i x):PE X x (AH i):=by erw[jr h λy p h=>?_];let(a,h):=ag h;let(b,c):=ag h;let z:=EE (gm c);rwa[wu (by rw[H];rwa[jV a]) (by rw[s];rwa[Qb b]) z.1 z.2.1]
def WV(i j w a:Ń)(z:Å)(C:Ct)(N:En)(σ:Es):XP:=λc h=>gd (Ë 1000 c&&(Ñ i (Á σ)&&!Nat.beq i j)) (match((σ.set i ao).set j (O (.p (.S z))))[w]? with|O (O D)=>C [D,.p (.I (c-1000:Ń))] h (λd H=>N.nx ((((σ.set i ao).set j (O (.p (.S z)))).set a (O d)).set i ao) H) λ_ _=>ŧ|_=>ŧ)
def XJ(i j w a:Ń)(z:Å)(C c:Ct)(A:Sm):Ss:=λN σ h=>A (λ_ _=>ŧ) σ h λds H=>C ds H (λd b=>N.nx (σ.set j (O d)) b) (WV i j w a z c N σ)
def dB.hide(q:dB Z M H σ τ)(i:Ń)(x:Ő V):dB Z M H (σ.set i ao) (τ.set i x):=(by rw[cH,cH];rwa[q.ln],λk d h=>by
 by_cases a:i=k
 .rw[List.getElem?_set]at h;split at h;.lia
  .done
 .rw[cW a]at h⊢;rwa[q.at' k d h])
def xv(i j b w:Ń)(z:Å)(sp:Sp)(a:À)(d:Ő À):TS:=VJ (tZ (tC (.S z)) (lO j)) (tZ (λσ H Q=>AH w σ H λv h=>Į i a d σ h λu c=>sp [v,u] c Q E0) (lO b))
def VX(U:subIn X.K (.ref (t.ca 999)) (.ref (t.ca 999))=O J)(h:eJ 'X' E (XJ i j w l z u m A) D τ H):XU X.K (t.ca 999) i j (dG 'X' u) (gv 'X' (λ_ _ _=>ŧ) A) (λa C d D σ H=>C=t.ca 999/\xv i j l w z (dG 'X' m) a d D σ H) D τ H:=by
 let(G,M,σ,h,N,k,q):=h;erw[(G,M,σ,h,_,_,(k.rel,k.env,λds W y Y vs f Z i1 q1=>?_,λ_ _ _ _ _ _ q=>q.elim),q)];erw[(λcv B g=>∃c F L,Ext y Y L g/\bq ('X'.z G) L g F/\WV i j w l z m N σ c F/\cv=.ref (t.ca 999)/\∃x,B=O x/\g x=O (.xd [("number",.I (c-1000:Ń))]),(G,y,W,ds,_,_,Z,i1,q1,λd b M2 P v e r i2 Q=>k.nx _ b M2 P _ (f.trans e) r ((k.env.ext k.rel (f.trans e)).set i2) Q,λc b M2 P e r Q=>?_),λC B g a hE=>?_)];.rw[rB,(ag (cJ Q).1).1];rwa[λx n=>(c,b,M2,e,r,Q,Ŗ,x,Ŗ,n)]
 .let(c,b,M2,e,r,Q,hC,x,rfl,n):=hE;cases hC;erw[(U,?_)];let(o,Q):=cJ Q;let(hc1,o):=ag o;let(s,hij):=ag o;let v2:=((k.env.ext k.rel (f.trans e)).hide i (O (.A a))).set (i:=j) (d:=.p (.S z)) Ŗ;erw[(Ŗ,?_)];split at Q;.ext R hw;let(vw,hv,iw):=v2.at' w R hw;erw[(vw,hv,(?_,x,_,Ŗ,n,(G,M2,b,[R,.p (.I _)],_,_,r,(iw,Ŗ,Ť),Q,λd h3 M3 H3 v T r3 i3 q3=>k.nx _ h3 M3 H3 _ (f.trans (e.trans T)) r3 (((v2.ext r T).set i3).hide i _) q3,λ_ _ _ _ _ _ q=>q.elim)))];.rw[cW (c4 λz=>nofun),c5];rw[<-k.env.ln];rwa[aI s]
  .left
def Px{pn:Ł _}(o:û Γ t k S X E)(B:Hd (X.hn pn a) a C d)(D:HX X.K C F)(I:X.N[j]?=O y)(L:L2.Loc X.env.scope y)(M:X.fn y\/X.env.scope.names.lookup y=O .local)(b:X.N[m]?=O c)(lc:L2.Loc X.env.scope c)(R:X.fn c\/X.env.scope.names.lookup c=O .local)(n:Gl X G)(T:X.mg G=O (.ref f))(U:keepIn X.K (.ref f))(l:(G=="__debug__")=bb)(Rn:gj (X.hn pn a) f (dG 'X' (Γ.fn g)) [] E0)(W:W9 S w e)(q:cL e)(hn:W9 S i (.Name p P)):jt (X.hn pn a) [.Assign [.Name y p1] (.Constant (.str z) A p2) p3,.Assign [.Name c p4] (.Call (.Name G r) [e,.Attribute (.Name p P) "number" s] [] u) v] (xv i j m w z (dG 'X' (Γ.fn g)) a d):=by rwa[kb (As o.nd I L Oe rfl M) (oJ (As o.nd b lc ((BR Rn n T U (uH (Nb o.x.hN o.x.hs W) (uH (V' B D (Nb o.x.hN o.x.hs hn)) iX Ŗ) q) l (cy q) (fh Ŗ)).imp λσ H Q h=>h) rfl R))]
def ϧ(S:Sx)(i:Ń):Æ->Þ:=Kv λo m _=>cE m "number"&&(W9 S i o&&wM (λ_ _=>J) o)
def aiA(S:Sx)(i j w a g:Ń)(z:Å):ExceptHandler->Þ:=ϗ λty m b=>km ty (AO S (S.rX 999))&&(km m (λn=>Jn n i S.N&&Ak S.sc n)&&km (l2 b) λp=>E6 S j (λ_ _ e=>YQ (.S z) e) p.1&&E6 S a (λ_ _ e=>ki (λf E k _=>GU k&&(AO S (S.gB g) f&&km (l2 E) λq=>cL q.1&&(W9 S w q.1&&ϧ S i q.2))) e) p.2)
def Mm.aaV{Γ:Gm}{t:Tb}(i j w r:Ń)(z:Å)(f g:Ń)(A:Am Γ t):Mm Γ t:=(XJ i j w r z (Γ.fn f) (Γ.fn g) A.m,λS=>I' λb hs o fl _=>S.cm&&(S.fr&&(wY o&&wY fl))&&(iU 999 S.xok&&(iU f Γ.fok&&iU g Γ.Kq)&&(km (l1 b) (E6 S j λ_ _ e=>Rl (TD S) (S.gB f) A e)&&km (l1 hs) (aiA S i j w r g z))),λ{k S X E st}o h=>by
 erw[Wb h λb hs ol fl pos h=>?_];let(h1,h):=ag h;let(wX,nz,ho,u):=uY h1;let(h2,h):=ag h;let(hx,v,B):=qr h2;let(F,L):=ag h;rw[fU ho,fU u];let(bs,e1,F):=cG F;let(M,e2,L):=cG L;rw[fD e1,fD e2];let(ty,nm,hbd,hp):=M;let(N,gg):=ag L;let(s,Q):=ag gg;let(ty0,e3,N):=cG N;let(n,e4,s):=cG s;obtain⟨⟨s1,s2⟩,e5,Q⟩:=cG Q;let(px,e6,R,My,_):=fV o.x N;rw[e3,e4,qN e5,e6];let(fr,ou):=o.x.fx nz;let(hm,hK):=o.exc 999 (cQ.mp hx);let FS:HY X.K (t.ca 999):=hK;let(fI,fd,c3,ist,q1,q2,q3,q4,oI,FK,_):=FS.ex;let(psf,Df):=o.x.fnX wX f (cQ.mp v);let(psg,Dg):=o.x.fu g (cQ.mp B);let(fg,fdg,Fg,Qt,T,U):=Dg.ex;rw[<-o.x.gB]at Df Qt;let key:∀pn a C d,Hd (X.hn pn a) a C d->jt (X.hn pn a) [s1,s2] λD σ H=>C=t.ca 999/\xv i j r w z (dG 'X' (Γ.fn g)) a d D σ H:=λpn a C d W p s' σ H D I q=>by
  let(rfl,q):=q;erw[(show jt (X.hn pn a) [s1,s2] (xv i j r w z (dG 'X' (Γ.fn g)) a d)from ?_) p s' σ H D I q];let Rn:gj (X.hn pn a) fg (dG 'X' (Γ.fn g)) [] E0:=Fg.runs (X:=X.hn pn a) (o.x.hr.dp,o.x.hr.un) (.inr (let (t0,tb,hp):=W.pn;(a,_,t0,d,tb,W.hd,hp))) U .nil;let(G,l):=ag Q;erw[oK (P:=λx=>jt (X.hn pn a) [x,s2] _) o G λy' p1 e1' p3 Y Z fy' G=>?_];erw[oK (P:=λx=>jt (X.hn pn a) [_,x] _) o l λc p4 e2' p9 hj2 lc fc l=>?_];erw[rk (P:=λx=>jt (X.hn pn a) [.Assign [.Name y' p1] x p3,_] _) G λc0 j0 p2 G=>?_];let ec:c0=.str z:=by
   induction c0<;>first|cases G|skip
   rw[bN.mp G]
  subst ec;erw[fk (P:=λx=>jt (X.hn pn a) [_,.Assign [.Name c p4] x p9] _) l λf' es ks p8 l=>?_];let(u1,u2,u3):=qr l;obtain⟨⟨ew,en⟩,eu,u3⟩:=cG u3;let(u4,u5,u6):=qr u3;let(p5,e7,hgg,hdg,_):=fV o.x u2;rw[iV u1,qN eu,e7];erw[rj (P:=λx=>jt (X.hn pn a) [_,.Assign [.Name c p4] (.Call (.Name (S.gB g) p5) [ew,x] [] p8) p9] _) u6 λob m p7 u6=>?_];let(u7,u8,u9):=qr u6;rw[bN.mp u7];revert u8;erw[jr (P:=λx=>W9 S i x=J->jt (X.hn pn a) [_,.Assign [.Name c p4] (.Call (.Name (S.gB g) p5) [ew,.Attribute x "number" p7] [] p8) p9] _) u9 λnn p6 _ u8=>?_];rwa[Px o W FK Y Z fy' hj2 lc fc hgg Qt T hdg Rn u5 u4 u8]
 rwa[oK o F λy yp e ap hj ly fy he=>nI o.x.BN he λa0 rest p0 aqe hg0 SJ hn0 pa pl=>(UZ fr o.nd (by rw[o.x.hN];rwa[jV (ag s).1]) (by rw[o.x.hs];rwa[wq (ag s).2]) (fr.fn _) R hm FS.hit key Df (o.x.room wX) hg0 pa hj ly fy My SJ pl).imp λ_ _ _=>VX FS.sub])
structure Sw(H H':Hp)(a:À)(aU:Ł (cs×V)):ß where
 ne:∀b,b≠a->H' b=H b
 l:Rd H a (.dK aU)r:Rd H' a (.dK aU)
theorem Sw.at(s:Sw H H' a aU)(e:H b=O o)(n:∀k,o≠.dK k)(N:∀c k,o≠.lM c (.dK k)):H' b=O o:=by
 rw[s.ne b λz=>?_];.rwa[e]
 .subst z;rcases s.l with q|⟨c,q⟩;.rw[e]at q;cases q;rwa[n _ Ŗ]
  .rw[e]at q;cases q;rwa[N _ _ Ŗ]
def Sw.rd(s:Sw H H' a aU)(e:Rd H b u)(n:∀k,u≠.dK k)(N:∀c k,u≠.lM c (.dK k)):Rd H' b u:=by
 rcases e with e|⟨o,e⟩;.rwa[.inl (s.at e n N)]
 .rwa[.inr (o,s.at e (λk z=>by cases z) λc k z=>nofun)]
def Sw.dk(s:Sw H H' a aU)(e:Rd H b (.dK k)):Rd H' b (.dK k):=by
 by_cases c:b=a
 .subst c;let:k=aU:=by rcases e with e|⟨_,e⟩<;>rcases s.l with q|⟨_,q⟩<;>rw[e]at q<;>cases q<;>rfl
  rw[this];rwa[s.r]
 .delta Rd;rw[s.ne b c];rwa[e]
def Sw.tf(s:Sw H H' a aU):Tf Z Z.G M H M H':=(λq=>s.at q (λ_=>nofun) λ_ _=>nofun,λq=>s.rd q (λ_=>nofun) λ_ _=>nofun,λn _=>n,λ_ e q=>s.at q (λ_ z=>by subst z;cases e) (λ_ _ z=>by subst z;cases e),λ_ q=>s.rd q (λ_=>nofun) λ_ _=>nofun,λ_ q=>s.dk q)
def eg.sw(s:Sw H H' a aU)(h:eg Z M H x v):eg Z M H' x v:=eg.tf s.tf h
def aY.sw(s:Sw H H' a aU)(h:aY Z M H x v):aY Z M H' x v:=aY.tf s.tf h
theorem eK.sw(s:Sw H H' a aU)(q:eK Z M H d v):eK Z M H' d v:=by induction d with|p x=>rwa[eg.sw s q]|r i=>rwa[q]
theorem cU.sw(s:Sw H H' a aU):∀{ds:Ł Dv}{vs:ϕ},cU Z M H ds vs->cU Z M H' ds vs|[],[],_=>Ť|[],_::_,h=>h|_::_,[],h=>h|_::_,_::_,h=>(eK.sw s h.1,cU.sw s h.2)
theorem dB.sw(s:Sw H H' a aU)(q:dB Z M H σ τ):dB Z M H' σ τ:=(q.ln,λi d b=>let (v,c,q):=q.at' i d b;(v,c,q.sw s))
theorem uU.sw(s:Sw H H' a aU)(d:b≠a)(q:uU Z M H b o):uU Z M H' b o:=by let e0:=s.ne b d;induction o with|L x=>let(v,e,q):=q;exact(v,e0.trans e,aY.sw s q)|D x=>let(v,e,q):=q;exact(v,e0.trans e,q.sw s)|C c u=>let(k,e,q,Q):=q;exact(k,e0.trans e,aY.sw s q,aY.sw s Q)|I C fs=>let(f,g,e,n,l,q):=q;exact(f,g,e0.trans e,s.at n (λ_ z=>by cases z) (λ_ _ z=>by cases z),l,q.sw s)|K c=>rwa[e0.trans q]|E c ds=>let(k,e,q,Q):=q;exact(k,e0.trans e,aY.sw s q,Q.sw s)|F i c u=>let(k,e,q,Q):=q;exact(k,e0.trans e,aY.sw s q,aY.sw s Q)
theorem bq.sw(s:Sw H H' a aU)(n:a∉M)(r:bq Z M H h):bq Z M H' h:=(r.nd,r.dj,r.ln,λb d=>by
  by_cases e:b=a;.subst e;rcases s.r with q|⟨_,q⟩<;>exact(_,q)
  .rw[s.ne b e];rwa[r.gs b d],λi b o c f=>(r.ob i b o c f).sw s λz=>n (z▸aL c))
def bq.swM(s:Sw H H' a aU)(hi:M[i]?=O a)(r:bq Z M H h)(g:uU Z M H' a o):bq Z M H' (h.set i o):=(r.nd,r.dj,by rw[cH];rwa[r.ln],λb k=>by
  by_cases e:b=a;.subst e;rcases s.r with q|⟨_,q⟩<;>exact(_,q)
  .rw[s.ne b e];rwa[r.gs b k],λj b q c d=>by
 by_cases f:j=i
 .subst f;rw[hi]at c;cases c;let l:j<Á h:=by rw[<-r.ln];exact(aw.mp hi).1
  rw[c5 l]at d;cases d;rwa[g]
 .rw[cW (c4 f)]at d;erw[(r.ob j b q c d).sw s λz=>f ?_];let(L,E):=aw.mp c;let(n,m):=aw.mp hi;exact(iH r.nd).mp (by rw[E,m,z]))
abbrev vu(N:En):En:={N with rt:=λ_ _=>ŧ,xc:=λ_ _=>ŧ}
def aff(t:Tg)(A:Sm)(b:Ss):Ss:=λN σ h=>A N.xc σ h λds H=>match ds with|[.p (.dct k _)]=>gC (gq k) (λ_=>DQ (Á H) k (QW t) b (vu N) σ H) ŧ|_=>ŧ
section
variable{Γ:Gm}{t:Tb}{X:Cx}{E:XK}{A:Sm}{b:Ss}{tg:Tg}
theorem Pu:∀{K:ϑ}{ws:ϐ}{i:Ń}{x:Pv},gq K=O ws->K[i]?=O x->∃y,ws[i]?=O y/\x=.S y
 |[],_,_,_,_,e=>by done|k::K,ws,i,x,h,e=>by
  delta gq at h;split at h;.lia
  .ext y r H;cases H;split at h;.ext l a;cases h;induction i with|h=>cases e;exact(_,Ŗ,Ŗ)|j i=>let(z,d,c):=Pu a (by done);exact(z,by done,c)
   .lia
  .lia
theorem Ck:∀{K:ϑ}{ws:ϐ},gq K=O ws->Á ws=Á K
 |[],_,h=>by cases h;rfl|k::K,ws,h=>by
  delta gq at h;split at h;.lia
  .ext H;cases H;split at h;.ext l a;cases h;rw[aR,aR,Ck a]
   .lia
  .lia
def Nw{G M:Ł _}{H:Hp}{h:Hs}{N:En}{σ:Es}{τ:Ç}{a:À}{Z:Ù}{aU:Ł (cs×V)}{k:ϑ}{ws:ϐ}{D:Õ}(Qy:gq k=O ws)(hk:aU.map (·.1)=ws.map Ü)(r:bq ('X'.z G) M H h)(v:dB ('X'.z G) M H σ τ){W:Ń->Es->Hs->ß}(K:∀i σ' h' H',W i σ' h'->Ext M H M H'->bq ('X'.z G) M H' h'->ww a Z ws H')(nx:∀σ' h' H' c,Ext M H M H'->bq ('X'.z G) M H' h'->dB ('X'.z G) M H' σ' c->N.nx σ' h'->D.nx c H')(w0:W 0 σ h)(T:∀(i:Ń)x σ' h',k[i]?=O x->W i σ' h'->match QW tg x σ' with|O e=>b ((vu N).lp (mE (Á h) (W (i+1))) (mE (Á h) N.nx)) e h'|ao=>ŧ)(fin:∀σ' h',W (Á k) σ' h'->N.nx σ' h'):∃W:Ń->Ń->Ç->Hp->ß,(∃m,W 0 m τ H)/\∀i m c H',W i m c H'->(li a Z ws).stop i H'/\D.nx c H'\/(li a Z ws).go i H'/\∃Nx:Ç->Hp->ß,(∀e g,Nx e g->∃p,p<m/\W (i+1) p e g)/\∀x pK,(li a Z ws).yld i H' x pK->Sy X.K tg x c pK λe g=>eJ 'X' E b {D with nx:=Nx,ct:=Nx,bk:=D.nx} e g:=by
 let hl:=Ck Qy;erw[(λi m c H'=>m=Á k-i/\i<=Á k/\∃σ' h',Ext M H M H'/\bq _ M H' h'/\dB _ M H' σ' c/\W i σ' h',(_,Ŗ,aN _,σ,h,Ext.refl,r,v,w0),?_)];erw[λi m c H' z=>cps λR k1=>?_];let(rfl,hi,σ',h',s,r2,v2,w):=z;let it:=K i σ' h' H' w s r2;by_cases o7:i<Á k
 .erw[k1 (.inr ((it,by rw[hl];rwa[o7]),λj g=>∃p,p<Á k-i/\p=Á k-(i+1)/\i+1<=Á k/\∃σ' h',Ext M H M g/\bq _ M g h'/\dB _ M g σ' j/\W _ σ' h',λj g zz=>by done,λu pK yl=>cps λR k2=>?_))];let(rfl,yl):=yl;let(y,hy,hx):=Pu Qy (ar o7);let q:=T i _ σ' h' (ar o7) w;split at q
  .ext e hσ;let hu:=yl y hy;subst hu;erw[k2 (Sz hσ (by rw[hx];rfl) v2 λj v4=>?_)];erw[(G,M,e,h',_,(r2,v4,?_,?_,?_,?_,?_),q)];.intro B h5 M5 F l n o I Q;let(L,f,P,S,U,Y):=nK r (s.trans n) o I Q;exact(_,(),Ŗ,dh ‹_›,f,L,P,S,U,Y)
   .rwa[λd h5 M5 F v n o i5 Q=>Q.elim]
   .intro B h5 M5 F l n o I Q;let(L,f,P,S,U,Y):=nK r (s.trans n) o I Q;rwa[nx f L F l P S U Y]
   .intro B h5 M5 F l n o I Q;let(L,f,P,S,U,Y):=nK r (s.trans n) o I Q;exact(_,(),Ŗ,dh ‹_›,f,L,P,S,U,Y)
   .rwa[λC h5 M5 F n o Q=>Q.elim]
  .left
 .let hx:i=Á k:=()
  subst hx;rwa[k1 (.inl ((it,by rw[hl];rwa[ah _]),nx σ' h' H' c s r2 v2 (fin σ' h' w)))]
def Sk(h:eJ 'X' E (aff tg A b) D τ H):Kj (GG X (dm 'X' E A)) (Sy X.K tg) (eJ 'X' E b) (PN X D) τ H:=by
 let(G,M,σ,h0,N,k,q):=h
 erw[(G,M,σ,h0,_,_,(k.rel,k.env,λd h1 B H1 v C Z i1 Q=>?_,k.exc),q)];induction d with|r _=>left|p x=>cases x with|dct ks us=>
   let(ws,I,Q):=cK Q;let(a,aU,rfl,s,L,ik,iu):=i1;let u:=qM (uM I ik);let v1:=k.env.ext k.rel C;delta DQ at Q;let(W,w0,T,F):=Q;erw[(a,aU,ws,Ŗ,u,?_)];rcases L with l|⟨w,l⟩
   .erw[.inl (l,λw nf=>?_)];let sw:Sw H1 _ a aU:=(λb g=>bA g,.inl l,.inr (w,bC));erw[Nw I u (Z.sw sw s.1) (v1.sw sw) (λi c y m _ f R=>(aU,f.keep a _ s.1 bC,u)) (λc y m j f R P U=>?_) w0 T F];let z:=f.keep a _ s.1 bC;let S:Sw m (dq m a _) a aU:=(λb g=>bA g,.inr (w,z),.inl bC);erw[.inl (a,w,aU,nf,z,k.nx c y B _ j (C.trans (([],(aT B).symm),λb o g Y=>?_,λb g n=>Ă g n)) (R.sw S s.1) (P.sw S) U)];by_cases e:b=a;.subst e;rw[l]at Y;cases Y;rwa[bC]
    .rw[bA e];rwa[f.keep b o g (by rw[bA e];rwa[Y])]
   .rwa[.inr (w,l,Nw I u Z v1 (λi c y m _ f R=>(aU,f.keep a _ s.1 l,u)) (λc y m j f R P U=>.inr (k.nx c y B m j (C.trans f) R P U)) w0 T F)]|_=>left
def Mm.foP(tg:Tg)(A:Em Γ t)(B:Ms Γ t):Mm Γ t:=(_,λS=>P8 λT ix b e _=>S.cm&&wY e&&(mM ix&&(im S tg T&&(A.ck S ix&&B.ck S b))),λo h=>by erw[uQ h λT ix b e p h=>?_];let(H,h):=ag h;let(a,h):=ag h;let(c,h):=ag h;let(d,f):=ag h;rw[fU (ag H).2];exact(Hl o.po (o.x.hc (ag H).1).1 (A.pe o.x d) (yw o.x.hq o.x.hN o.x.hs o.nd o.hf c) (B.ps o f) λ_=>qH a).imp λ_ _ _=>Sk)
abbrev oo(i:Ń)(o:Ù)(k us:ϑ)(N:En):En:={N with nx:=λa h=>h[i]?=O (.F o k us)/\N.nx a (h.set i (.C k us))}
@[irreducible]def Sl(i:Ń)(o:Ù)(k us:ϑ)(a:Pv->Es->Ő Es)(b:Ss)(N:En)(σ:Es)(h:Hs):ß:=∃W:Ń->Es->Hs->ß,W 0 σ h/\(∀j c H,W j c H->H[i]?=O (.F o k us))/\(∀(j:Ń)x c H,k[j]?=O x->W j c H->match a x c with|O d=>b ((vu (oo i o k us N)).lp (mE (Á h) (W (j+1))) (mE (Á h) (oo i o k us N).nx)) d H|ao=>ŧ)/\∀c H,W (Á k) c H->N.nx c (H.set i (.C k us))
def C2:Ő Ob->Ő (ϑ×ϑ)|O (.C k u)=>O (k,u)|_=>ao
def YI(e:C2 o=O p):o=O (.C p.1 p.2):=by
 delta C2 at e;split at e;.cases e;rfl
 .cases e
def Ϧ(tg:Tg)(A:Sm)(b:Ss):Ss:=λN σ h=>A N.xc σ h λds H=>match ds with|[.r i]=>gC (C2 H[i]?) (λp=>gC (gq p.1) (λ_=>∀o,Sl i o p.1 p.2 (QW tg) b N σ (H.set i (.F o p.1 p.2))) ŧ) ŧ|_=>ŧ
def Sj(h:eJ 'X' E (Ϧ tg A b) D τ H):Kj (GG X (dm 'X' E A)) (Sy X.K tg) (eJ 'X' E b) (PN X D) τ H:=by let(G,M,σ,h0,N,k,q):=h;erw[(G,M,σ,h0,_,_,(k.rel,k.env,λd h1 u H1 v e1 r1 I Q=>?_,k.exc),q)];induction d with|p _=>left|r i=>
  obtain⟨⟨x,U⟩,ho,Q⟩:=cK Q;let(ws,P,Q):=cK Q;let(a,y,rfl):=I;let(aU,ha,ik,iu):=r1.at' y (YI ho);let hk:=qM (uM P ik);erw[(a,aU,ws,Ŗ,hk,.inl (ha,λm nf=>?_))];let Q:=Q m;delta Sl at Q;let(W,w0,inv,T,S):=Q;let sw:Sw H1 (dq H1 a _) a aU:=(λb f=>bA f,.inl ha,.inr (m,bC));let key:∀{g:Hs}{l:Hp},g[i]?=O (.F m x U)->bq ('X'.z G) u l g->∃L:Ł _,l a=O _/\L.map _=ws.map _/\aY _ u l x _/\aY _ u l U _:=λhf R=>by let(L,e,I,Y):=R.at' y hf;exact(_,e,qM (uM P I),I,Y)
  erw[Nw (N:=oo i m x U N) P hk (r1.swM (o:=.F m x U) sw y (aU,bC,aY.sw sw ik,aY.sw sw iu)) ((k.env.ext k.rel e1).sw sw) (λj c g l w e' R=>let (L,e,SM,_):=key (inv j c g w) R;(_,e,SM)) (λc g l Z e' R v' q'=>?_) w0 T λc g w=>(inv _ c g w,S c g w)];.let(L,B,_,I,Y):=key q'.1 R;let s:Sw l (dq l a _) a _:=(λb f=>bA f,.inr (m,B),.inl bC);erw[.inl (a,m,_,nf,B,k.nx c _ u _ Z (e1.trans (([],(aT u).symm),λb o f hq=>?_,λb f n=>Ă f n)) (R.swM (o:=.C x U) s y (_,bC,aY.sw s I,aY.sw s Y)) (v'.sw s) q'.2)];let e:b≠a:=λz=>f (z▸aL y);rw[bA e];rwa[e'.keep b o f (by rw[bA e];rwa[hq])]
def Mm.foH(tg:Tg)(A:Em Γ t)(B:Ms Γ t):Mm Γ t:=(_,λS=>P8 λT ix b e _=>S.cm&&wY e&&(mM ix&&(im S tg T&&(A.ck S ix&&B.ck S b))),λo h=>by erw[uQ h λT ix b e p h=>?_];let(H,h):=ag h;let(a,h):=ag h;let(c,h):=ag h;let(d,f):=ag h;rw[fU (ag H).2];exact(Hl o.po (o.x.hc (ag H).1).1 (A.pe o.x d) (yw o.x.hq o.x.hN o.x.hs o.nd o.hf c) (B.ps o f) λ_=>qH a).imp λ_ _ _=>Sj)
end
end F
namespace L2
def vy(K:Ä)(a:À)(n:Ń):It:=(λi H=>i<n/\∃X,gA K H a X/\Á X=n,λi H x h=>h=H/\∀X,gA K H a X->X[n-1-i]?=O x,λi _=>n<=i)
def PV{K:Ä}(a t:À)(n:Ń):xk P w K T (vy K a n) [t] t λi h=>i<=n/\h.IsRevIter t a (n-1-i):=oy (n:="list_reverseiterator") rfl (λ(_,o,e,c,d)=>(o,_,e,c,d)) (λst k=>(st.1,st.2.at k)) (λ{X i b s σ H E Q}f j l m I st g q=>by
  subst f j l;let(D,x,r,G):=g;let(L,R,p,M):=I.list r;let v:x[n-1-i]?=O x[n-1-i]:=ar _;let(u,hu,y):=R.get v;let z:(n:Î)-1-i=(n-1-i:Ń):=()
  let F:=st.2;rw[z]at F;erw[wpAny_pyNext_rev_item F p.isList (by simpa using hu) λA B S=>q u _ A _ y (Ŗ,λY C=>by rw[I.qO C r];rwa[v]) (dh ‹_›,?_) S.extBut];rw[show(n:Î)-1-(i+1:Ń)=(n-1-i:Ń)-1 by lia];rwa[B]) (λ{X i b s σ H E Q}f j l m I st g q=>by let g:n<=i:=g;let F:=st.2;rw[show(n:Î)-1-i=-1 by lia]at F;rwa[wpAny_pyNext_rev_end (I.ok.hd m) F q]) λst h=>ZV st.2 h
def ajb(K:Ä)(t:TA):TI:=λσ H R=>t σ H λv h=>∃a x,v=[.A a]/\gA K h a x/\R (vy K a (Á x)) h
def A8:em "reversed"=O (.type "reversed"):=by rfl
def ω(g:Gl X "reversed")(m:X.mg "reversed"=ao)(c:PA X [a] t)(d:d4 [a] X.env=[(bb,Ê a X.env)]):PI X T (.Call (.Name "reversed" p) [a] [] pos) (ajb X.K t):=by intro P s σ H R I h;erw[Call_ (pW I g m A8 (eX (XW (c pos _ s σ H _ I h) λU s1 y f i j Q=>?_) d Ŗ))];let(l,x,rfl,k,q):=Q;cases j with|g r n=>
  cases n;cases r;let(B,v,u,z):=i.list k;let st:(s1.heap.push (revObj l _)).IsRevIter _ l (Á x-1-(0:Ń)):=(_,aA _ Ŗ,Ŗ,by rw[v.length,show(B.length:Î)-1-(0:Ń)=B.length-1 by lia];rfl);erw[call_reversed_list u.isList (ZV st ?_)];erw[(_,_,_,_,f,Ŗ,i.kept λb o e=>af _ e,PV l _ _,(aN _,st),λb w=>?_,q)];let e:=by simpa using w
  subst e;rwa[i.DR (ah _) (i.cY.fresh (ah _))]
end L2
namespace F
open L2
def Pd(l n:Ń):Pw:=λh x=>Jj h (.r l)=O x.reverse/\Á x=n
def akz(A:Sm):Ig:=λX σ h Q=>A X σ h λds H=>match ds with|[.r l]=>gC (Jj H (.r l)) (λx=>Q (Pd l (Á x)) H) ŧ|[.p (.L x)]=>Q (λ_ y=>y=x.reverse.map .p) H|_=>ŧ
def adP(c:M[l]?=O a):JG Y G M H (vy Y.K a n) (Pd l n):=λk m o q d u e r p=>by
 let(p,hn):=p;let(B,s,f,s1,I):=GX (x:=.r l) r (a,e.at c,Ŗ) p;cases f;let hl:=I.len;rw[jj]at hl;erw[(λi x b=>?_,iK hn.symm)];let(C,ex):=aw.mp b;let W:d.reverse[n-1-i]?=O x:=by rw[Ō (),<-b];congr 1;lia
 let(v,g,h):=I.get W;erw[(((),s,.inl (.inl s1),()),λw P z=>z.elim λj y=>?_)];subst j;let hw:=y s (.inl (.inl s1));rw[g]at hw;cases hw;exact(Ext.refl,r,h)
def o_(n:a∉M)(j:H a=O (.L vs))(I:∀g m H' h',(∀b∈g,b∈G\/H b=ao)->Ext M H m H'->bq (Y.z g) m H' h'->aY (Y.z g) m H' xs vs):JG Y G M H (vy Y.K a (Á vs)) λ_ ys=>ys=xs.reverse.map .p:=λg m H' h' ys k e r p=>by
 subst p;let s1:=e.keep a _ n j;let i1:=I g m H' h' k e r;let hl:=i1.len;erw[(λi x d=>?_,by show _<=_;rw[ae,jj];lia)];rw[aM]at d;let(z,h,rfl):=dF.mp d;let(f,ex):=aw.mp h;rw[jj]at f;let W:xs[Á vs-1-i]?=O z:=by rw[Ō f]at h;rw[<-h];lia
 let(v,l,c):=i1.get W;erw[(((),vs,.inl (.inl s1),Ŗ),λw P Z=>Z.elim λo y=>?_)];subst o;let hw:=y vs (.inl (.inl s1));rw[l]at hw;cases hw;exact(Ext.refl,r,c)
def UQ(g:Gl X "reversed")(y:X.mg "reversed"=ao)(z:PE X a (dm 'X' E A))(D:cL a):PI X T (.Call (.Name "reversed" p) [a] [] pos) (PF 'X' E (akz A)):=(ω g y (uH z iX D) (cy D)).imp λτ H R Z=>by let(G,M,σ,h,B,Q,k,q):=Z;erw[(G,M,σ,h,B,_,(k.rel,k.env,λd f m j v n b i c=>?_,k.exc),q)];show ∃a o,[v]=[V.A a]/\_;induction d with|r l=>let(o,ex,c):=cK c;let(a,C,u):=id i;let(F,s,w,s1,I):=GX b i ex;rw[u]at w;cases w;erw[(a,s,by rw[u],gA.of s1,k.out _ f m j _ n b (adP C) ?_)];rw[<-I.len];rwa[c]|p x=>cases x with|L o=>let(a,s,rfl,N,s1,I):=i;exact(a,s,Ŗ,gA.of s1,k.out _ f m j _ n b (o_ N.1 s1 λK P S U g e W=>aY.mv (e.mv b) (aY.wk g I)) c)|_=>left
def Jg.rev{Γ:Gm}{t:Tb}(A:Em Γ t):Jg Γ t:=(_,λS _ x=>pT _ _&&ki (λf s k _=>GU k&&(AO S _ f&&km (l1 s) _)) x,λo h=>by let(a,h):=ag h;erw[fk h λf s k q h=>?_];let(b,h):=ag h;let(c,h):=ag h;let(e,d,h):=cG h;let(p,g,i,_):=fV o c;rw[iV b,fD d,g];rwa[UQ i (o.bl _ (jT a)) (A.pe o (ag h).2) (ag h).1])
end F
namespace L2
def IN(t ty:TE):TE:=λσ H Q=>t σ H λx b=>∃a,x=.A a/\eK b a/\ty σ b λy h=>∃U k,h a=O (.dK U)/\y=kV k/\∀p,h p=ao->(∀v,jF U k=O v->Q v (dq h p (.L [])))/\(jF U k=ao->Á U<Ã/\Q (.A p) (dq (dq h p (.L [])) a (.dK (kg U k (.A p)))))
def Y'(M:PE X o T)(N:PE X e ty)(m:M2 X o "setdefault" b e (.List [] lp) D):PE X (.Call (.Attribute o "setdefault" b) [e,.List [] lp] [] D) (IN T ty):=by
 intro P s σ H Q I h;erw[wpAny_Call_method m.base m.few m.line rN KY PySem.F.type_dict_setdefault (kh (M P s σ H _ I h) λu s1 x R B S a=>?_)];let(a,ex,d,W):=a;subst ex;obtain rfl:u=Ð a:=S;let(Y,t2,_):=MT B d;erw[(Y,t2,?_)];rw[m.trees];erw[kn Ŗ (fG (dP (kh (N P s1 σ R _ B W) λiv s2 y f I2 ry (U,k,i,ey,q2)=>dP (kh (EM (pos:=lp) iX P s2 σ f (λz C=>∃p,z=.A p/\f p=ao/\C=dq f p (.L [])) I2 (aN _,λp g=>(p,Ŗ,g,Ŗ))) λfv s3 z C j rz (p,ez,g,eH)=>hV ?_))))];subst ey ez eH;obtain rfl:fv=Ð p:=rz;let ne:a≠p:=λz=>by rw[z,g]at i;cases i
 let E:dq f p (.L []) a=O (.dK U):=by rw[bA ne];rwa[i]
 let(q3,q4):=q2 p g;let(z,G,K,rel,dd):=WO j.cY E;let hz:Á K<=Ã:=by rw[<-rel.length];rwa[z]
 erw[CP KY dd.typeIs PySem.F.entry_dict_setdefault (PySem.F.args_dict_setdefault_3 _ _ _) (kt_meets_setdefault (d8 X.prog X.w) a (sU ry) G (.ref p)) (K,dd,hz,λv l=>?_,λl h' Z hs=>?_)];.let r:=rel.val k;rw[l]at r;induction c:jF U k with|a=>rw[c]at r;rwa[r.elim]|c n=>rw[c]at r;exact(n,_,j.tok _,r,q3 n c)
 .let r:=rel.val k;rw[l]at r;induction c:jF U k with|c n=>rw[c]at r;rwa[r.elim]|a=>
   let(hl,q5):=q4 c;let t:=by let:=k6 U k (.A p);rwa[aj ‹_› ‹_›]
   exact(.A p,_,zD j (by rw[E];rwa[ç]) hs (let (q,_,_,hq,_):=Z;(q,hq)) (DK t G (rel.put k Ŗ) Z),Ŗ,q5)
end L2
namespace F
open L2
def qK:Ő Ob->Ő (ϑ×Ł Dv)|O (.E k ds)=>O (k,ds)|_=>ao
def zL(e:qK o=O p):o=O (.E p.1 p.2):=by
 delta qK at e;split at e;.cases e;rfl
 .cases e
def mI(k:Pv):ϑ->Ł Dv->Ő Dv
 |K::s,d::ds=>match lR K k with|J=>O d|bb=>mI k s ds
 |_,_=>ao
section
variable{Γ:Gm}{t:Tb}{X:Cx}{E:XK}{A B C:Sm}{Y:T0}{G M:Ł À}{H:Hp}
theorem zM(b:kJ k=O κ):∀{K:ϑ}{ds:Ł Dv}{U:Ł _},aY (Y.z G) M H K (U.map λp=>kV p.1)->cU (Y.z G) M H ds (U.map (·.2))->(∃d v,mI k K ds=O d/\jF U κ=O v/\eK (Y.z G) M H d v)\/mI k K ds=ao/\jF U κ=ao
 |[],[],[],_,_=>.inr (Ŗ,Ŗ)|c::K,d::ds,p::U,h,a=>by
  let e:=vX (Nk h.1) b;by_cases z:p.1=κ;.rw[cM z]at e;rwa[.inl (d,p.2,by rw[mI,e],ma z,a.1)]
  .rw[cw z]at e;let f:mI k (c::K) (d::ds)=mI k K ds:=by show(match lR c k with|J=>O d|bb=>mI k K ds)=_;rw[e]
   rw[f,l0 z];rwa[zM b h.2 a.2]|[],_,_::_,h,_=>h.elim|_::_,_,[],h,_=>h.elim|_,[],_::_,_,a=>a.elim|_,_::_,[],_,a=>a.elim
def U1{κ:cs}(h:jF a κ=ao):kg a κ v=a++[(κ,v)]:=by delta kg;rw[bM];rw[Bool.not_eq_true,CN];intro p b c;induction a with|f=>cases b|g q r i=>
  by_cases e:q.1=κ;.rw[ma e]at h;cases h
  .rw[l0 e]at h;rcases ax.mp b with z|z;.subst z;rwa[e (bL c)]
   .rwa[i h z]
def T1(A B:Sm):Sm:=λx σ h Q=>A x σ h λs b=>match s with|[.r i]=>gd (qK b[i]?).isSome (B x σ b λy a=>match y with|[.p k]=>gC (kJ k) (λ_=>gC (qK a[i]?) (λp=>gC (mI k p.1 p.2) (λd=>Q [d] a) (gd (sA (Á p.1+1)) (Q [.r (Á a)] (List.set (a++[Ob.L []]) i (Ob.E (p.1++[k]) (p.2++[Dv.r (Á a)])))))) ŧ) ŧ|_=>ŧ)|_=>ŧ
def Ϣ(h:dm 'X' E (T1 A B) τ H QV):IN (dm 'X' E A) (dm 'X' E B) τ H QV:=by let(G,M,σ,h,z,Q,k,q):=h;erw[(G,M,σ,h,z,_,(k.rel,k.env,λd h1 M1 H1 v j D i1 m=>?_,k.exc),q)];induction d with|p _=>left|r i=>let(c1,m):=cJ m;let(p1,SR):=fQ.mp c1;let(a,F,rfl):=i1;let(K,s1,_):=D.at' F (zL SR);erw[(a,Ŗ,.inl (K,.inl s1),G,M1,σ,h1,z,_,(D,k.env.ext k.rel j,λd2 N M2 n v2 s R P b=>?_,k.IP j),m)];induction d2 with|r _=>left|p kk=>
   let(κ,S,b):=cK b;obtain⟨⟨ks,ds⟩,ho,b⟩:=cK b;let T:=s.at F;let(U,s2,I,id):=R.at' T (zL ho);let Z:=Eo S P;erw[(U,κ,s2,Z,λp e=>?_)];rcases zM S I id with ⟨d,w,W,u,x⟩|⟨W,u⟩;.erw[(λw' y=>?_,λhn=>nofun)];rw[u]at y;cases y;let q3:=NX b W;rwa[k.out d N M2 _ w (j.trans (s.trans (Ext.add e))) (R.add (o:=.L []) e) (x.ext R (Ext.add e)) q3]
   .erw[(λw' y=>nofun,λ_=>?_)];let(c,b):=cJ (NW b W);erw[(by let:=I.len;rw[ae]at this;let:=gU c;lia,?_)];let l:=R.push (o:=.L []) e ([],bC,Ť);let f:Ext M2 n _ (dq n p (.L [])):=Ext.push R e;let g4:=f.at T;let g:Ext _ (dq n p (.L [])) _ (dq _ a (.dK (kg U κ (.A p)))):=Ext.put (aL g4);rw[U1 u]at g⊢;let gp:(M2++[p])[Á N]?=O p:=by rw[<-R.ln,aQ (ah _),fM];rfl
    erw[k.out (.r _) _ _ _ _ (j.trans (s.trans (f.trans g))) (l.put (o:=.E _ _) g4 (_,bC,?_,?_)) (p,gp,Ŗ) b];.rw[aH];erw[((I.ext R f).ext l g).app (?_,Ť)];let i3:=((P).ext R f).ext l g;rw[Z]at i3;rwa[i3]
    .rw[aH];exact((id.ext R f).ext l g).app ((p,gp,Ŗ),Ť)
def iy(h:Hs)(k:Pv)(x:Dv):Ő (Ő Dv):=match LV h x with|O (K,u)=>O ((jS k K u).map .p)|ao=>match x with
  |.r i=>match qK h[i]? with|O (K,ds)=>O (mI k K ds)|ao=>ao
  |_=>ao
def O9(A B C:Sm):Sm:=λc σ h Q=>A c σ h λs a=>match s with|[x]=>gd (iy a .N x).isSome (B c σ a λy d=>match y with|[.p k]=>gC (kJ k) (λ_=>C c σ d λZ b=>match Z with|[z]=>gC (iy b k x) (λo=>Q [o.getD z] b) ŧ|_=>ŧ) ŧ|_=>ŧ)|_=>ŧ
def ZO(f:kJ k=O κ)(r:bq (Y.z G) M H h)(i:eK (Y.z G) M H x v)(e:iy h k x=O o):∃a U,v=.A a/\Rd H a (.dK U)/\((∃d w,o=O d/\jF U κ=O w/\eK (Y.z G) M H d w)\/o=ao/\jF U κ=ao):=by
 delta iy at e;split at e
 .ext K u g;cases e;let(a,U,j,s1,d1):=uq r i g;erw[(a,U,j,s1,?_)];rcases zF f d1 with ⟨p,w,b,c,l⟩|⟨b,c⟩;.rwa[.inl (.p p,w,by rw[b];rfl,c,l)]
  .rwa[.inr (by rw[b];rfl,c)]
 .split at e
  .split at e;.ext K ds m;cases e;let(a,n,rfl):=i;let(U,s1,I,id):=r.at' n (zL m);exact(a,U,Ŗ,.inl s1,zM f I id)
   .cases e
  .cases e
def ZN(r:bq (Y.z G) M H h)(i:eK (Y.z G) M H x v)(e:iy h k x=O o):∃a,v=.A a/\L2.eK H a:=by
 delta iy at e;split at e;.ext d;let(a,U,b,s1,_):=uq r i d;exact(a,b,.inl (U,s1))
 .split at e
  .split at e;.ext c;let(a,g,rfl):=i;let(U,s1,_):=r.at' g (zL c);exact(a,Ŗ,.inl (U,.inl s1))
   .cases e
  .cases e
def Zk(h:dm 'X' E (O9 A B C) τ H QV):PD (dm 'X' E A) (dm 'X' E B) (dm 'X' E C) τ H QV:=by let(G,M,σ,h,x,Q,k,q):=h;erw[(G,M,σ,h,x,_,(k.rel,k.env,λd F K H1 v e R I g=>?_,k.exc),q)];let(L,g):=cJ g;let(o1,N):=fQ.mp L;let(a,rfl,i):=ZN R I N;erw[(a,Ŗ,i,G,K,σ,F,x,_,(R,k.env.ext k.rel e,λd2 P M2 H2 v2 b j S l=>?_,k.IP e),g)];induction d2 with|r _=>left|p kk=>
  let(κ,s,l):=cK l;erw[(G,M2,σ,P,x,_,(j,k.env.ext k.rel (e.trans b),λT u y D U c m W f=>?_,k.IP (e.trans b)),l)];let(o,Z,f):=cK f;let(a',aU,ea,s3,z):=ZO s m ((I.ext R b).ext j c) Z;cases ea;erw[(_,.inl (aU,κ,s3,Eo s ((S).ext j c),Ŗ),?_)];rcases z with ⟨d,w,rfl,n,id⟩|⟨rfl,n⟩;.rw[n];rwa[k.out d u y D w (e.trans (b.trans c)) m id f]
  .rw[n];rwa[k.out T u y D U (e.trans (b.trans c)) m W f]
def Xg(h:g6 o m X.env (Ê o X.env)=Ê o X.env)(a:cL e)(b:cL f)(l:(cN.endLine==dI.line)):M2 X o m cN e f dI:=(h,zP nofun (by show 2<30;decide),l,by rw[cy a,cy b];rfl)
namespace Em
def dg2(a A B:Em Γ t):Em Γ t:=(_,λS=>ml S _ a λe=>km (l2 e) _,λo h=>si h λl e s D d f i j=>by let(p,k,g):=cG d;let(b,c):=ag g;rw[qN k];exact(N7 o.SV (a.pe o f) (A.pe o (ag c).1) (B.pe o (ag c).2) (Xg (mz i) (ag b).1 (ag b).2 j)).imp λ_ _ _=>Zk)
def emL:Æ->Þ:=H0 λe _=>wY e
def sdf(a A:Em Γ t):Em Γ t:=(_,λS=>ml S _ a λs=>km (l2 s) λp=>cL p.1&&(A.ck S p.1&&emL p.2),λo h=>si h λq s c D d i j k=>by obtain⟨⟨e,f⟩,l,g⟩:=cG d;let(m,n,b):=qr g;rw[qN l];erw[AJ b λs p b=>?_];rw[fU b];exact(Y' (a.pe o i) (A.pe o n) (Xg (mz j) m Ŗ k)).imp λ_ _ _=>Ϣ)
end Em
end
end F
namespace F
open L2
def tK(k:Ł cs):Pv:=.T (k.map rr)
def Xs:ON:=λds h Q=>match ds with|[.r i]=>gC (mu h[i]?) (λk=>gd (Ñ (Á k) 64&&nM k) (Q (.p (.L ((Ke k).map tK))) h)) ŧ|_=>ŧ
theorem GV{Y:T0}:∀{k:Ł cs},aY (Y.z G) M H (k.map rr) (k.map kV)|[]=>Ť|κ::r=>(Nj,GV)
def q_(e:mu o=O k):o=O (.K k):=by
 delta mu at e;split at e;.left
 .cases e
def M8:pL Y (λxs H Q=>∃(a:À)(U:Ł _),xs=[.A a]/\H a=O (.dT U)/\Á U<64/\nM (U.map (·.1))=J/\∀(D:À)(vs:ϕ),H D=ao->Paired (λv k=>∃b,v=V.A b/\H b=O (.T (k.map kV))) vs (Ke (U.map (·.1)))->Q (.A D) (dq H D (.L vs))) Xs:=λG M h H xs vs Q s r i q out=>by
 delta Xs at q;split at q
 .let(v,rfl,I):=i.sx;let(ks,f,q):=cK q;let(c,q):=cJ q;let(C,g):=ag c;let(a,j,rfl):=I;let e:(ks.map λk=>Ý k (V.B J)).map (·.1)=ks:=by rw[bI];rwa[List.map_id ks]
  erw[(a,_,Ŗ,r.at' j (q_ f),by rw[ae];rwa[aI C],by rw[e];rwa[g],λD ws d p=>?_)];rw[e]at p;erw[out _ h M _ _ (Ext.add d) (r.add d) (j7 r d ?_) q];generalize Ke ks=l at p;induction p with|f=>done|g m _ n=>let(b,rfl,o):=m;exact((b,_,Ŗ,g9.of o,GV),n)
 .left
def ώ:Bi:=(_,_,_,λh g m a hn j d=>BS (zu (h Ŗ)) M8 g m x3 a hn j d)
def aeo:O1:=λx h Q=>gC (nW h x) (λa=>gC (gq a) (λws=>gd (Ë (Á (dR ws)+1) 64) (∀s:ϐ,s.Perm (dR ws)->sortedS s->Q (.p (.L (s.map .S))) h)) ŧ) ŧ
theorem HC{Y:T0}:∀{ss:ϐ},aY (Y.z G) M H (ss.map Pv.S) (ss.map V.S)|[]=>Ť|_::_=>(Ŗ,HC)
def Uy(l:X.calm)(s:Gl X "sorted")(u:X.mg "sorted"=ao)(g:Gl X "set")(i:X.mg "set"=ao)(x:PE X e (dm 'X' E A))(S:cL e):PE X (.Call (.Name "sorted" p) [.Call (.Name "set" p2) [e] [] m] [] pos) (dm 'X' E (s1 aeo A)):=(BQ (tN l) s u x3 (uH (Xu (vh l) g i YA (uH x iX S) ∅ rfl nofun) iX Ŗ) ∅ rfl rfl).imp λτ H U z=>by let(G,M,σ,h,y,Q,k,q):=z;erw[(G,M,σ,h,y,_,(k.rel,k.env,λd B C W v F r I f=>?_,k.exc),q)];let(Z,ex,f):=cK f;let(ws,K,f):=cK f;let(c,f):=cJ f;let(a,vs,rfl,s1,L):=il r I ex;rw[uM K L]at s1;erw[(a,ws,Ŗ,gA.of s1,aI c,λb n=>(b,_,Ŗ,bC,aI c,λD N j P T=>?_))];let R:=r.add (o:=.ext λh=>lI X.prog X.w h b (dR ws)) n;rwa[k.out _ B C _ _ (F.trans ((Ext.add n).trans (Ext.add j))) (R.add j) (j7 R j HC) (f N P T)]
def Em.aaG{Γ:Gm}{t:Tb}(A:Em Γ t):Em Γ t:=(_,λS=>ki λf e k _=>S.cm&&GU k&&(AO S _ f&&(pT _ _&&(pT _ _&&km (l1 e) (ki λg s l _=>GU l&&(AO S _ g&&km (l1 s) _))))),λo h=>by erw[fk h λf e k p h=>?_];let(b,h):=ag h;let(c,h):=ag h;let(d,h):=ag h;let(i,h):=ag h;let(x,j,h):=cG h;let(P,m,n,z,hn):=fV o c;rw[iV (ag b).2,fD j,m];erw[fk h λg s l q h=>?_];let(r,h):=ag h;let(u,h):=ag h;let(x,v,h):=cG h;let(B,w,a,y,Q):=fV o u;rw[iV r,fD v,w];rwa[Uy (o.hc (ag b).1).1 n (o.bl _ (jT d)) a (o.bl _ (jT i)) (A.pe o (ag h).2) (ag h).1])
end F
namespace L2
def DY(K:Ä)(a:À):It:=(λi H=>∃X x,gA K H a X/\X[i]?=O x,λi H v h=>∃T,H T=ao/\v=.A T/\∀X x,gA K H a X->X[i]?=O x->h=dq H T (.T [.I i,x]),λi H=>∃X,gA K H a X/\Á X<=i)
def yF{p:Ł _}{σ:Ç}(I:Inv X p σ H s)(h:gA X.K H t xs)(f:mr X p H b):t≠b:=by
 rintro rfl;let(a,c,d,F,g,i):=f;rcases h with(h|⟨o,h⟩)|⟨o,B,n,k,_⟩;.left
 .left
 .let e:=I.ok.mod.CJ t o k;rcases F with q|q;.rwa[I.ok.sk t o e q]
  .rwa[Ă (bp (ay e) (aj I.ok.zg q)) (cR _)]
def Km{K:Ä}(D:z≠c):xk P w K (.Tuple es k pos) (DY K a) [z,c] z λi h=>(∃j,IsEnum h z c i j)/\h.IsListIter c a i where
 mem:=.head _;obj:=λi h st e d=>by
  obtain⟨⟨j,Z⟩,o1,e1,c1,d1⟩:=st;rcases ax.mp d with rfl|d;.exact(_,Z,λv g=>ì g)
  .rw[aE.mp d];exact(_,e1,λv g=>ì (d1.symm.trans g))
 keep:=λi h h' st C=>by obtain⟨⟨j,Z⟩,y⟩:=st;exact((j,C z (.head _) _ Z),y.at λo e=>C c (.tail _ (.head _)) o e)
 item:=by
  intro X F L M hc i p s σ H E I l st Q;subst F L M;erw[cps λG k=>?_];let(xs,x,B,S):=Q;obtain⟨⟨j,Z⟩,y⟩:=st;let(bT,U,W,l1):=I.list B;let(u1,SV,Y):=U.get S;let Qm:=λ(e:À)(d:e ∈[z,c])=>yF I B (l e d);erw[k (wpAny_pyNext_enum_item Z y W.isList (x:=u1) (by simpa using SV) D λhp Zo z2 pr sz C=>?_)];erw[(_,Ŗ,wpAny_letOwnedTupleGo_enum Zo λhq zq sq=>?_)];let N:H s.heap.objs.size=none:=I.fresh;let R:∀e o,e ∉[z,c]->s.heap.get? e=O o->hq.get? e=O o:=λe o d g=>sq.extBut _ _ (λq=>d (q▸.head _)) (C e o (λq=>d (q▸.head _)) (λq=>d (q▸.tail _ (.head _))) g);let Tz:s.heap.objs.size≠z:=eW (ay Z);let prq:=sq.extBut _ _ Tz pr;let t:∀e u,H e=O u->e ∉[z,c]:=λe u d hm=>by let:H e=none:=(l e hm).1;rw[this]at d;cases d
  let MI:kG X.prog X.w (dq H s.heap.objs.size (.T [.I i,x])) hq:=λe u d=>by
   by_cases ee:e=s.heap.objs.size;.subst ee;rw[bC]at d;cases d;exact(by show 2<=Ã;decide,[.int i s.toks,u1],.cons (_,Ŗ) (.cons Y .nil),(_,prq,Ŗ,_,Ŗ))
   .rw[bA ee]at d;erw[(I.cY e u d).tY (λf o MA g=>R f o ?_ g) (λf g=>by rw[bA (cn g N)];rwa[g]) λf zs g=>by rw[bA (cn g N)];rwa[g]]
    rcases MA with rfl|MA;.rwa[t f u d]
    .rwa[t f _ MA]
  let I1:Inv X p σ (dq H s.heap.objs.size (.T [.I i,x])) {s with heap:=hq,toks:=s.toks+1}:=by
   erw[I.step (g':=s.gens) (d':=s.drawn) (t':=s.toks+1) (λe d=>?_) (λe o _ _ d g _=>R e o d g) (λe o _ _ d g _=>(_,R e o d g)) (λe o _ g n=>by rw[bA (aP (ay g))];rwa[n]) (λe o d g=>(o,R e o d g)) (λe zs g=>by rw[bA (cn g N)];rwa[g]) (λe o u g=>by rw[bA (cn g N)];rwa[g]) (λe ps g=>(#[],by rw[bA (cn g N),g];simp)) (λm hm=>?_) MI I.bare];.let(f0,f1,f2,f3,f4,f5):=l e d;exact(f3,f1,f4,f5)
   .let(o,Me,ep,ho,r):=hm;exact(o,Me,ep,R _ o (λME=>(l _ ME).2.1 Ŗ) ho,r)
  erw[(.A _,_,I1,Ŗ,(_,N,Ŗ,λxs' x' g1 gx=>?_),((_,by done),z2.extBut sq.extBut (c4 D)),λe d=>?_)];.let e1:=I.qO g1 B;subst e1;rw[S]at gx;cases gx;rfl
  .rw[bA];.exact(l e d).1
   .rcases ax.mp d with rfl|d;.rwa[c4 Tz]
    .rw[aE.mp d];let(o,ho,_):=y;rwa[aP (ay ho)]
 done:=by intro X F L M hc i p s σ H E I l st Q;subst F L M;erw[cps λG k=>?_];let(xs,B,S):=Q;obtain⟨⟨j,Z⟩,y⟩:=st;let(bT,U,W,l1):=I.list B;let e1:=U.length;let(f0,f1,f2,f3,f4,f5):=l c (.tail _ (.head _));rwa[k (wpAny_pyNext_enum_end (I.ok.hd hc) Z y W.isList nofun λh' eb=>(Ŗ,I.turned (λb o hb e=>eb b o hb e) f0 f1 f3 f4 f5))]
 self:=λ_ _ _ _ _ st h=>by obtain⟨⟨j,Z⟩,_⟩:=st;rwa[wpAny_pyIter_enum Z h]
def adF(K:Ä)(t:TA):TI:=λσ H R=>t σ H λv h=>∃a x,v=[.A a]/\gA K h a x/\R (DY K a) h
def zj:em "enumerate"=O (.type "enumerate"):=by rfl
def UN(g:Gl X "enumerate")(m:X.mg "enumerate"=ao)(j:PA X [a] t)(n:d4 [a] X.env=[(bb,Ê a X.env)]):PI X (.Tuple es k S) (.Call (.Name "enumerate" p) [a] [] pos) (adF X.K t):=by intro P s σ H R I h;erw[Call_ (pW I g m zj (eX (XW (j pos _ s σ H _ I h) λU s1 B u i v Q=>?_) n Ŗ))];let(l,C,rfl,w,q):=Q;cases v with|g r x=>
  cases x;cases r;let(T,D,y,E):=i.list w;erw[call_enumerate_list y.isList λF f z sz A=>wpAny_pyIter_enum f ?_];erw[(_,_,_,_,u,Ŗ,i.kept λb o e=>A b o e,Km (),((_,f),z),λb d=>?_,q)];let c:s1.heap.objs.size<=b:=by
   rcases ax.mp d with rfl|d;.rwa[bj _]
   .rw[aE.mp d];rwa[ah _]
  rwa[i.DR c (i.cY.fresh c)]
end L2
namespace F
open L2
def IL:Ń->ϑ->ϑ|_,[]=>[]|n,x::X=>.T [.I n,x]::IL (n+1) X
theorem vB:∀(xs:ϑ)(n:Ń),Á (IL n xs)=Á xs|[],_=>Ŗ|_::xs,n=>bU (·+1) (vB xs _)
theorem vA:∀{xs:ϑ}{n i:Ń}{z:Pv},(IL n xs)[i]?=O z->∃x,xs[i]?=O x/\z=.T [.I (n+i:Ń),x]|[],_,_,_,e=>by cases e|x::xs,n,0,_,e=>by cases e;exact(x,Ŗ,Ŗ)|_::xs,n,i+1,_,e=>by let(x,h,H):=vA (xs:=xs) e;exact(x,h,())
def ajZ:O1:=λx h Q=>match x with|.p (.L X)=>Q (.p (.L (IL 0 X))) h|_=>ŧ
def n_(r:bq (Y.z G) M H h)(n:a∉M)(d:H a=O (.L vs))(I:aY (Y.z G) M H xs vs):Wv Y G M H (DY Y.K a) (IL 0 xs):=λl m f o g e R=>by let s:gA Y.K f a vs:=gA.of (e.keep a _ n d);erw[(λi z j=>?_,(vs,s,by rw[vB,I.len];rwa[ah _]))];let(x,k,rfl):=vA j;let(v,c,pv):=(aY.mv (e.mv r) (aY.wk g I)).get k;erw[((vs,v,s,c),λu p T=>?_)];let(T,b,hu,y):=T;let e2:=y vs v s c;subst e2 hu;rw[cB];exact(Ext.add b,R.add b,By R b Ŗ pv)
def Oj(g:Gl X "enumerate")(m:X.mg "enumerate"=ao)(f:PE X a (dm 'X' E A))(b:cL a):PI X (.Tuple es k0 s) (.Call (.Name "enumerate" p) [a] [] pos) (AG 'X' E (Je (s1 ajZ A))):=(Ao (UN g m (uH f iX b) (cy b))).imp λτ H R z=>by let(G,M,σ,h,x,Q,k,q):=z;erw[(G,M,σ,h,x,_,(k.rel,k.env,λd b j l v n e I c=>?_,k.exc),q)];show ∃a o,[v]=[V.A a]/\_;induction d with|r _=>rwa[c.elim]|p d=>cases d with|L o=>let(a,u,rfl,N,s1,i):=I;exact(a,u,Ŗ,gA.of s1,λhd=>k.out _ b j l _ n e (n_ e N.1 s1 i) (by rw[vB,i.len];rwa[hd.len (.inl (gA.of s1))]) c)|_=>rwa[c.elim]
def Jm.e{Γ:Gm}{t:Tb}(A:Em Γ t):Jm Γ t:=(_,λS T x=>Kw (λ_ _ _=>pT _ _&&ki (λf s k _=>GU k&&(AO S _ f&&km (l1 s) _)) x) T,λo h=>by erw[oO h λs K j h=>?_];let(a,h):=ag h;erw[fk h λf l k pos h=>?_];let(b,h):=ag h;let(c,h):=ag h;let(e,d,h):=cG h;let(p,g,i,_):=fV o c;rw[iV b,fD d,g];rwa[Oj i (o.bl _ (jT a)) (A.pe o (ag h).2) (ag h).1])
def akC(t:Å->Ő ϐ)(A B:Sm):Sm:=λx σ h Q=>A x σ h λX a=>match X with
 |[.p (.S z)]=>B x σ a λY H=>match Y with|[d]=>gC (t z) (λk=>∃y,k=[y]/\Q [.p (.S y)] H) (Q [d] H)|_=>ŧ
 |_=>ŧ
def ź(h:dm 'X' E (akC T A B) τ H QV):XT T (dm 'X' E A) (dm 'X' E B) τ H QV:=by let(G,M,σ,h,x,Q,k,q):=h;erw[(G,M,σ,h,x,_,(k.rel,k.env,λd j m s v b l I n=>?_,k.exc),q)];induction d with|r _=>left|p d=>cases d with
  |S z=>erw[(z,pj I,G,m,σ,j,x,_,(l,k.env.ext k.rel b,λd2 c M2 f u g R o a=>?_,k.IP b),n)];induction i:T z with|c K=>rw[i]at a;let(y,rfl,a):=a;intro Y e;cases e;rwa[k.out (.p (.S y)) c M2 f _ (b.trans g) R rfl a]|a=>rw[i]at a;rwa[k.out _ c M2 f _ (b.trans g) R o a]
  |_=>left
def Em.tgs{Γ:Gm}{t:Tb}(i:Ń)(A B:Em Γ t):Em Γ t:=(_,λS=>ki λg s k q=>GU k&&(Ë 50 i&&(!Nat.ble 100 i&&iU i _)&&Kv (λf m p=>AO S _ f&&(cE m _&&(p.endLine==q.line&&km (l2 s) λz=>cL z.1&&cL z.2&&(A.ck S z.1&&B.ck S z.2)))) g),λo h=>by erw[fk h λg s k q h=>?_];let(a,h):=ag h;let(b,h):=ag h;rw[iV a];erw[rj h λf m p h=>?_];let(c,h):=ag h;let(d,h):=ag h;let(j,h):=ag h;let(e,l,h):=cG h;let(P,n,r,u,hn):=fV o c;let(G,v,w):=qr b;let(ad,x,T):=o.tab i (cQ.mp w);replace T:=ϒ G (gm v) T;rw[bN.mp d,qN l,n];let(k1,k2):=ag h;exact(Uu T r x (A.pe o (ag k2).1) (B.pe o (ag k2).2) u rfl (zP nofun (by show 2<30;decide)) j (by rw[cy (ag k1).1,cy (ag k1).2];rfl)).imp λ_ _ _=>ź)
end F
namespace L2
structure X8(K:Ä)(x c3:Å)(st:É)(f:À)(fd:ed):ß where
 ex:∃(oc:Â)(od:Ő À)(dV kV doc pm:Â)(an:Ő À)(dY ct:Â)(qP:Array (Ő Â)),fd=fnOf x c3 (ij st) (bQ st) (av st) dV kV doc pm an dY ct/\K.lookup f=O (oc,od,.func fd,qP)/\codeIn K dY c3=J
 kp:keepIn K (.ref f)=J
structure A2(K:Ä)(mg:db)(x:Å)(st:É)(ps:ϐ)(ds:Ł Â):ß where ex:∃(f:À)(fd:ed),X8 K x x st f fd/\mg x=O (.ref f)/\Binds K fd ps []/\Binds K fd ps ds
structure CZ(K:Ä)(C:À)(c3:Å)(st:É)(ps:ϐ)(ds:Ł Â):ß where ex:∃(f:À)(fd:ed),X8 K "__init__" c3 st f fd/\Mk K C f/\Binds K fd ps []/\Binds K fd ps ds
def A2.N_{K:Ä}{st:É}(S:A2 K mg x st ps ds)(F:cP N ps (av st))(len:∀vs H Q E,sp vs H Q E->Á vs=Á ps)(g:∀(f:À)(d:Â)(A:cr)(o:Ł Ø)(s:bn)(H:Hp)(vs:ϕ)(Q:VK)(E:XK),ff k (A.deeper (envOfC x (av st) s.heap.objs.size f d))->sp vs H Q E->∃t,jt (mG (sG P w) P w K mg base N x (av st) f d A o s H E) (bQ st) t/\t {nx:=λ_ H'=>Q .iq H',rt:=Q} (start N vs) H):nc P w K mg base (k+1) x ps sp/\∀(xO:Sp)(dvs:ϕ),Vals dvs ds->(∀vs H Q E,xO vs H Q E->sp (vs++dvs) H Q E)->xg P w K mg base (k+1) x xO:=by let(f,j,a,h,c,q):=S.ex;let(oc,l,D,kV,doc,p,m,d,ct,u,rfl,lk,n):=a.ex;let b:=ye lk n F len λA o s H vs Q E r e=>g f d A _ s H vs Q E r e;exact((f,_,b,h,a.kp,c),λxO dvs v i=>(f,_,ps,sp,ds,dvs,b,h,a.kp,q,v,i))
def CZ.ok{K:Ä}{mg:db}{base:È}{x c3:Å}{st:É}{ps N:ϐ}{k:Ń}{sp:Sp}{ds:Ł Â}{C:À}(S:CZ K C c3 st ps ds)(a:mg x=O (.ref C))(F:cP N ps (av st))(len:∀vs H Q E,sp vs H Q E->Á vs=Á ps)(g:∀(f:À)(d:Â)(A:cr)(o:Ł Ø)(s:bn)(H:Hp)(vs:ϕ)(Q:VK)(E:XK),ff k (A.deeper (envOfC c3 (av st) s.heap.objs.size f d))->sp vs H Q E->∃t,jt (mG yW P w K mg base N c3 (av st) f d A o s H E).BN (bQ st) t/\t {nx:=λ_ H'=>Q .iq H',rt:=Q} (start N vs) H):lH P w K mg base (k+1) x C ps sp/\∀(xO:Sp)(dvs:ϕ),Vals dvs ds->(∀vs H Q E,xO vs H Q E->sp (vs++dvs) H Q E)->∀p,lH P w K mg base (k+1) x C p xO:=by
 let(f,u,c,m,e,r):=S.ex;let(oc,y,D,kV,doc,z,B,d,ct,G,rfl,lk,n):=c.ex;let b:=ye lk n F len λA o s H vs Q E i j=>by let(t,h,q):=g f d A _ s H vs Q E i j;exact(t,h.BN,q)
 exact((f,_,ps,sp,[],[],b,m,e,.nil,λ_ _ _ _ h=>by rw[aT];rwa[h],a),λxO dvs v l p=>(f,_,ps,sp,ds,dvs,b,m,r,v,l,a))
end L2
namespace F
open L2
section
variable{Γ:Gm}{t:Tb}
namespace Em
def nwd(c:Ń)(A:Am Γ t):Em Γ t:=(_,λS x=>Ë 80 c&&(!Nat.ble 90 c&&iU c _)&&(S.cm&&Rl S _ A x),λ{k S X E x}o h=>by let(g,h):=ag h;let(G,a,b):=qr g;let(ps,D):=o.lF c (cQ.mp b);replace D:=Z5 G (gm a) D;rwa[nI o (ag h).2 λ_ _ _ _ H d hn pa p=>Oh D (o.room (ag h).1) H pa d p])
def cld(ρ:Ϙ)(c:Ń)(A:Am Γ t):Em Γ t:=(eV ρ _ A.m,λS x=>Ë 90 c&&(!Nat.ble 100 c&&iU c _)&&(S.cm&&Rl S _ A x),λ{k S X E x}o h=>by let(g,h):=ag h;let(G,a,b):=qr g;let(ps,D):=o.lF c (cQ.mp b);let(f,H,d,R):=((Z4 G (gm a) D).mono (bj k)).runs (o.room (ag h).1) o.hp;rwa[nI o (ag h).2 λ_ _ _ _ e i hn pa p=>BU R H d e pa i p])
end Em
end
end F
namespace F
open L2
def HH(d:∀G M H,cU (Y.z G) M H dd dvs)(b:∀ds h Q x,a ds h Q x->C (ds++dd) h Q x)(vs:ϕ)(H:Hp)(Q:VK)(E:XK)(q:dG Y a vs H Q E):dG Y C (vs++dvs) H Q E:=by let(G,M,h,ds,f,x,r,i,c,out,e):=q;exact(G,M,h,_,f,x,r,i.app (d G M H),b _ _ _ _ c,out,e)
def Ms.acG{K:Ä}{st:É}{ps:ϐ}{C:Ct}(B:Ms Γ t)(z:Þ)(d:A2 K mg x st ps us)(F:cP N ps (av st))(g:Gk J Γ t k S P w K mg base)(U:B.ck (S.at N (av st) J) (bQ st)=J)(b:∀ds h Q X,C ds h Q X->Á ds=Á ps/\B.m (hJ z (Á h) Q X) (pG (Á N) ds) h):nc P w K mg base (k+2) x ps (dG (K,mg,t) C)/\∀(a:Ct)(dd:Ł Dv)(dvs:ϕ),Vals dvs us->(∀G M H,cU (((K,mg,t):T0).z G) M H dd dvs)->(∀ds h Q X,a ds h Q X->C (ds++dd) h Q X)->xg P w K mg base (k+2) x (dG (K,mg,t) a):=by let z:=d.N_ (sp:=dG (K,mg,t) C) F (λv H Q E t=>t.ln λ_ _ _ _ c=>(b _ _ _ _ c).1) λf D A o s H v Q E j Z=>(by let(G,M,h,ds,q,X,r,i,c,out,e):=Z;exact(_,B.ps (Gk.yu g rfl rfl rfl (gi.pass j4 lu) j λ_=>(j4,lu),F.nd,λy _=>.inl Ŗ,ku,F.kind,g.exc) U,(G,M,_,h,_,nQ r (lz N i) out e,(b _ _ _ _ c).2)));exact(z.1,λa dd dvs l n p=>z.2 _ dvs l (HH n p))
def Ms.acE{K:Ä}{st:É}{ps:ϐ}{C:Ct}(B:Ms Γ t)(z:Þ)(n:CZ K (t.ca a) l st ps us)(u:mg x=O (.ref (t.ca a)))(F:cP N ps (av st))(g:Gk J Γ t k S P w K mg base)(U:B.ck (S.at N (av st) bb) (bQ st)=J)(d:∀ds h Q X,C ds h Q X->Á ds=Á ps/\B.m (hJ z (Á h) Q λ_ _=>ŧ) (pG (Á N) ds) h):lH P w K mg base (k+2) x (t.ca a) ps (dG (K,mg,t) C)/\∀(b:Ct)(dd:Ł Dv)(dvs:ϕ),Vals dvs us->(∀G M H,cU (((K,mg,t):T0).z G) M H dd dvs)->(∀ds h Q X,b ds h Q X->C (ds++dd) h Q X)->∀p,lH P w K mg base (k+2) x (t.ca a) p (dG (K,mg,t) b):=by let z:=n.ok (sp:=dG (K,mg,t) C) u F (λv H Q E t=>t.ln λ_ _ _ _ c=>(d _ _ _ _ c).1) λf Y A o s H v Q E D Z=>(by let(G,M,h,ds,Q',X,r,i,c,out,L):=Z;exact(_,B.ps (E:=λ_ _ _=>ŧ) (Gk.yu g rfl rfl rfl (λj σ H s e s' I Z=>by let(_,_,_,_,_,_,q):=Z;rwa[q.elim]) D (λh=>by cases h),F.nd,λy _=>.inl Ŗ,ug,F.kind,g.exc) U,(G,M,_,h,_,nQ r (lz N i) out λ_ _ _ _ _ _ q=>q.elim,(d _ _ _ _ c).2)));exact(z.1,λb dd dvs R T W p=>z.2 _ dvs R (HH T W) p)
end F
namespace L2
end L2
namespace F
open L2
end F
namespace L2
theorem yM:∀{bs:Ł _}{B:Ł _},Vals (bs.map V.A) B->B=bs.map Ð|[],_,h=>by cases h;rfl|b::bs,_,h=>by cases h with|g r R=>cases r;rw[yM R];rfl
theorem yB:∀(bs:Ł _),Vals (bs.map V.A) (bs.map Ð)|[]=>.nil|_::bs=>.cons Ŗ (yB bs)
def VY:∀h H:È,QR h a bT->(∀o,h.get? a=O o->H.get? a=O o)->QR H a bT:=λh H (o,n,e,r) k=>(o,n,k o e,r)
def Bb:eE X (.type "tuple") λxs H Q=>∃p bs,xs=[.A p]/\gA X.K H p (bs.map V.A)/\∀l,H l=ao->Q (.A l) (dq H l (Ih l bs)):=by intro P s σ H xs U Q I r h;let(p,bs,rfl,c,q):=h;let(u,rfl,R):=KD r;cases R;let(B,d,f,z):=I.list c;cases yM d;erw[call_tuple_list f.isList (λa k=>?_) nofun];let i:Inv X _ σ H {s with heap:=a}:=I.kept k;let hn:QR (a.push {cls:=.type _,data:=.seq (bs.map Ð).toArray}) _ _:=(_,_,aA _ Ŗ,Ŗ,Ŗ,Ŗ);let g:Inv X _ σ (dq H a.objs.size (Ih _ bs)) {s with heap:=a.push _}:=i.laid (λb o e=>af _ e) (ah _) (hn,(_,aA _ Ŗ),VY);exact(.A _,_,g,Ŗ,q _ (i.cY.fresh (ah _)))
def Dm(g:X.calm):eE X (.type "dict") λxs H Q=>∃(l:À)(bs:Ł _)(U:Ł _),xs=[.A l]/\H l=O (Ih l bs)/\Á U<=100/\Paired (λt v=>∃b,t=V.A b/\g9 X.K H b [kV v.1,v.2]) (bs.map V.A) U/\∀a,H a=ao->Q (.A a) (dq H a (.dK (j9 [] U))):=by intro p s σ H xs m Q I r h;let(l,bs,U,rfl,i,z,j,q):=h;let(u,rfl,R):=KD r;cases R;let(o,n,e,c,dn,d):=(I.cY l _ i).1;let f:X.A.in1.in1.handled=none:=I.ok.hd g;rwa[ya I (yB bs) z j q e c rfl (λe k=>NN F.slot_tuple_getattribute am_entry_tuple_getattribute F.args_tuple_getattribute_2 am_tuple_getattr_none (λsl u=>meets_getattribute_miss_tuple l _ _ sl _ _ rfl rfl (by size_fits)) e c d dn f k) (λe q=>oZ (o,e,c,n,d) q) (λI n=>Walks.tuple f I l n _) λh e=>((_,aA _ Ŗ,Ŗ,Ŗ),o,af _ e,c,n,d)]
end L2
namespace F
open L2
def Ym:ϑ->Þ|[]=>J|.T _::r=>Ym r|_::_=>bb
def aep:ON:=λds h Q=>d1 ds λx=>gC (nW h x) (λX=>gd (Ym X) (Q (.p (.wld X)) h)) ŧ
def CI:Dv->Ő ϑ|.p (.wld x)=>O x|_=>ao
def ŝ:ON:=λds h Q=>d1 ds λx=>gC (CI x) (λX=>gC (pE X) (λp=>gd (Ë (Á p.1) 100) (Q (.p (.dct (tR p.1 p.2 ([],[])).1 (tR p.1 p.2 ([],[])).2)) h)) ŧ) ŧ
def aa7(e:CI x=O xs):x=.p (.wld xs):=by
 delta CI at e;split at e;.left
 .cases e
theorem FP{Y:T0}{G M:Ł À}{H:Hp}:∀{xs:ϑ}{vs:ϕ},Ym xs=J->aY (Y.z G) M H xs vs->∃bs:Ł _,vs=bs.map V.A|[],[],_,_=>([],Ŗ)|[],_::_,_,q=>q.elim|_::_,[],_,q=>q.elim|x::xs,v::vs,h,q=>by cases x with|T y=>let(bs,e):=FP (xs:=xs) h q.2;let(a,_,E,_):=q.1;exact(a::bs,nofun)|_=>cases h
def Na:pL Y (λxs H Q=>∃p bs,xs=[.A p]/\gA Y.K H p (bs.map V.A)/\∀l,H l=ao->Q (.A l) (dq H l (Ih l bs))) aep:=λG M h H xs s Q f r d q out=>by let(x,rfl,q):=WL q;let(y,e,q):=cK q;let(c,q):=cJ q;let(v,rfl,i):=d.sx;let(a,ws,rfl,s1,I):=il r i e;let(bs,rfl):=FP c I;exact(a,bs,Ŗ,gA.of s1,λl b=>out (.p (.wld y)) h M _ _ (Ext.add b) (r.add b) (l,bs,Ŗ,r.pQ b,bC,I.ext r (Ext.add b)) q)
def MX:pL Y (λxs H Q=>∃(l:À)(bs:Ł _)(U:Ł _),xs=[.A l]/\H l=O (Ih l bs)/\Á U<=100/\Paired (λt k=>∃b,t=V.A b/\g9 Y.K H b [kV k.1,k.2]) (bs.map V.A) U/\∀a,H a=ao->Q (.A a) (dq H a (.dK (j9 [] U)))) ŝ:=λG M h H xs s Q j r I q out=>by
 let(x,rfl,q):=WL q;let(y,e,q):=cK q;let(p,E,q):=cK q;let(c,z):=cJ q;let(v,rfl,i):=I.sx;cases aa7 e;let(a,bs,rfl,n,s1,g):=i;let(U,d,pp):=EO E g;let hl:=by let:=d.1.len;rw[ae]at this;rwa[this.symm]
 erw[(a,bs,U,Ŗ,s1,by rw[hl];rwa[aI c],pp,λb f=>?_)];let d2:=uo d kF.nil;erw[out _ h M _ _ (Ext.add f) (r.add f) ?_ z];exact(b,_,Ŗ,r.pQ f,.inl bC,d2.1.ext r (Ext.add f),d2.2.ext r (Ext.add f))
def acX:Bi:=(_,_,bb,λ_ h H a hn j d=>wz Bb Na h H u0 a hn j d)
def WU:Bi:=(_,_,_,λh H m a hn j d=>wz (Dm (h Ŗ)) MX H m zh a hn j d)
def Du(L:Lw)(W:Wd)(i k:Ń)(C:Ct):ß:=∃ps,tI W.P W.w W.K W.mg W.base k (L.S.gB i) ps (dG (L.y W) C)
def Dj(L:Lw)(W:Wd)(c k:Ń):ß:=∃ps,rQ W.P W.w W.K W.mg W.base k (L.ca (c/100-1)) (L.S.rX c) ps (dG (L.y W) (L.lF c))
section
variable{L:Lw}{W:Wd}{i j k c:Ń}{C C':Ct}
def Du.dt(D:Du L W i k C):Dt L W i k C:=let (ps,d):=D;(ps,d.toX)
def Du.le(D:Du L W i j C)(h:j<=k):Du L W i k C:=let (ps,d):=D;(ps,d.mono h)
def Dj.le(D:Dj L W c j)(h:j<=k):Dj L W c k:=let (ps,d):=D;(ps,d.mono h)
def MQ{K:Ä}{M:Å->Ő _}(h:Ë 100 c)(D:rQ P w K M base k (a (c/100-1)) nm ps sp):jl m P w K M base k nm a c ps sp:=by delta jl;rw[h];induction m with|d=>rwa[rQ.toM D]|e=>rwa[D]
def Dj.di(D:Dj L W c k)(h:Ë 100 c):Di L W c k:=let (ps,d):=D;(ps,MQ h d)
def Lk.gkU{iok:Ϙ}(B:Lk L W)(H:∀i∈fok,Du L W i (k+1) (fn i))(hi:∀c∈iok,Ë 100 c=J/\Dj L W c k):Gk bb (L.g fn fok iok) L.t k L.S W.P W.w W.K W.mg W.base:=(B.bl,Ŗ,λi h=>let (ps,d):=H i h;(ps,d),B.gl,B.tab,λc a=>(B.cls c a,Ŗ),λc h=>let (b,ps,d):=hi c h;(ps,MQ b d),B.exc,λi hi=>by done)
abbrev Lw.gu(L:Lw)(fn:Ń->Ct)(fok iok K:Ϙ):Gm:=(fn,fok,L.gl,L.ZM,L.lF,iok,L.tab,L.tok,K)
def Lk.gkC(B:Lk L W)(H:xi L W fn (k+1) fok)(hi:wU L W k iok)(hu:∀i∈q,Du L W i (k+1) (fn i)):Gk J (L.gu fn fok iok q) L.t k L.S W.P W.w W.K W.mg W.base:=(B.bl,Ŗ,H.at,B.gl,B.tab,λc a=>(B.cls c a,Ŗ),hi.at,B.exc,λi h=>let (ps,d):=hu i h;(ps,d))
def Lk.du{st:É}(N ps:ϐ)(z:Þ)(B:Lk L W)(b:Ms (L.g fn fok iok) L.t)(s:Src W.K W.mg (L.S.gB i) st ps)(F:cP N ps (av st))(H:b.ck (L.S.au N (av st)) (bQ st))(f:∀i∈fok,Du L W i (k+1) (fn i))(hi:∀c∈iok,Ë 100 c=J/\Dj L W c k)(a:∀ds h Q x,C ds h Q x->Á ds=Á ps/\b.m (hJ z (Á h) Q λ_ _=>ŧ) (pG (Á N) ds) h):Du L W i (k+2) C:=(ps,b.aib z s F (B.gkU f hi) H a)
def Lk.dv{st:É}(N ps:ϐ)(z:Þ)(B:Lk L W)(b:Ms (L.g fn fok iok) L.t)(s:gT W.K (L.ca (c/100-1)) (L.S.rX c) q st ps)(F:cP N ps (av st))(H:b.ck (L.S.au N (av st)) (bQ st))(f:∀i∈fok,Du L W i (k+1) (fn i))(hi:∀c∈iok,Ë 100 c=J/\Dj L W c k)(a:∀ds h Q x,L.lF c ds h Q x->Á ds=Á ps/\b.m (hJ z (Á h) Q λ_ _=>ŧ) (pG (Á N) ds) h):Dj L W c (k+2):=(ps,b.aic z s F (B.gkU f hi) H a)
end
def MO{c:Ń}{K:Ä}(h:Ë 90 c)(H:Ë 100 c=bb)(D:xg P w K mg base k nm sp):jl cm P w K mg base k nm ca c ps sp:=by delta jl uT;rw[H,jL.mpr (aj ⋯ (jL.mp h)),h];rwa[D]
def MP{c:Ń}{K:Ä}(h:Ë 80 c)(H:Ë 90 c=bb)(D:lH P w K mg base k nm (ca (c-80)) ps sp):jl cm P w K mg base k nm ca c ps sp:=by delta jl uT;rw[zf ⋯ H,h,H];rwa[D]
def Lk.ah9{c:Ń}{C:Ct}{st:É}{dd:Ł Dv}(N ps:ϐ)(z:Þ)(B:Lk L W)(b:Ms (L.g fn fok iok) L.t)(s:A2 W.K W.mg (L.S.gB i) st ps us)(F:cP N ps (av st))(U:b.ck (L.S.at N (av st) J) (bQ st)=J)(f:xi L W fn (k+1) fok)(hi:wU L W k iok)(d:∀ds h Q x,C ds h Q x->Á ds=Á ps/\b.m (hJ z (Á h) Q x) (pG (Á N) ds) h)(l:Ë 90 c)(n:Ë 100 c=bb)(hn:L.S.rX c=L.S.gB i)(v:Vals dvs us)(o:∀G M H,cU ((L.y W).z G) M H dd dvs)(p:∀ds h Q x,L.lF c ds h Q x->C (ds++dd) h Q x):Dt L W i (k+2) C/\Di L W c (k+2):=by let(a,q):=b.acG z s F (B.gk f hi) U d;exact((ps,a),[],MO l n (by rw[hn];rwa[q _ dd dvs v o p]))
def Lk.aif{c e:Ń}{st:É}{dd:Ł Dv}(N ps:ϐ)(z:Þ)(B:Lk L W)(b:Ms (L.g fn fok iok) L.t)(s:CZ W.K (L.ca e) l st ps us)(d:W.mg (L.S.rX e)=O (.ref (L.ca e)))(F:cP N ps (av st))(U:b.ck (L.S.at N (av st) bb) (bQ st)=J)(f:xi L W fn (k+1) fok)(hi:wU L W k iok)(n:∀ds h Q x,L.lF e ds h Q x->Á ds=Á ps/\b.m (hJ z (Á h) Q λ_ _=>ŧ) (pG (Á N) ds) h)(o:Ë 80 e=bb)(p:Ë 80 c)(r:Ë 90 c=bb)(u:c-80=e)(hn:L.S.rX c=L.S.rX e)(v:Vals dvs us)(A:∀G M H,cU ((L.y W).z G) M H dd dvs)(D:∀ds h Q x,L.lF c ds h Q x->L.lF e (ds++dd) h Q x):Di L W e (k+2)/\Di L W c (k+2):=by let(a,q):=Ms.acE b z s d F (B.gk f hi) U n;exact((ps,GK o a),[],MP p r (by rw[hn,u];rwa[q _ dd dvs v A D []]))
end F
namespace L2
def OV(K:Ä):R2:=λx y H Q=>∃(l:À)(k:Î)(X:ϕ),x=.A l/\y=.I k/\g9 K H l X/\Á X<=10/\0<=k/\k<=1000/\∀p h,iD H h->g9 K h p (Ò k.toNat X).flatten->Q (.A p) h
def NZ:kH X (binaryOp .Mult) (OV X.K):=by
 intro P s σ H x y v u Q I R j h;let(l,k,m,rfl,rfl,d,w,C,f,q):=h;cases R;let(t,rfl):=j;let(B,r,p,z):=I.tuple d;obtain⟨⟨cls,dd,data,sl⟩,e,g,n,i⟩:=id p;simp only at g i;subst g i;let hl:=r.length;erw[Wr (by rfl) (_,e,Ŗ) (λS=>AW S k t) sj F.fills_int_mul ud Ay F.slot_int_index.lookup
  (jM ud (AW s k t) F.entry_int_rmul (F.args_int_rmul_2 _ _) (vQ k t l _ n dd sl) (e,Ŗ,(_,e,Ŗ),?_))];cases m with|f=>
  obtain rfl:B=[]:=by cases r;rfl
  erw[jM iG (_,e,Ŗ) qa (oQ _ _) (Ft k t l n dd sl C f) (e,.A l,H,I,Ŗ,q l H (iD.refl H) ?_)];rw[show(Ò _ _).flatten=[]by simp];rwa[d]|g y Y=>
 let a:B.toArray.isEmpty=false:=by cases r;rfl
 by_cases D:k=1;.subst D;rwa[jM iG (_,e,Ŗ) qa (oQ _ _) (Fq t l _ n dd sl) (e,.A l,H,I,Ŗ,q l H (iD.refl H) nofun)]
 by_cases c:k=0;.subst c;rwa[jM iG (_,e,Ŗ) qa (oQ _ _) (Fv t l _ n dd sl a) (e,(.A _,_,I.laid (o:=.T []) (λb E q=>af _ q) (ah _) (aN _,[],.nil,HN _ _),Ŗ,q _ _ (jq (I.cY.fresh (ah _)) _) (g9.of bC)))]
 erw[jM iG (_,e,Ŗ) qa (oQ _ _) (Fu k t l _ n dd sl a () f nofun) (e,?_)];let f0:=by let:=HS B k.toNat [];rwa[this]
 rw[f0];erw[(.A _,_,I.laid (λb E q=>af _ q) (ah _) ?_,Ŗ,q _ _ (jq (I.cY.fresh (ah _)) _) (g9.of bC))];erw[(?_,_,r.rep _,HN _ _)];rw[Aa];let M:k.toNat<=1000:=()
 let:=QJ M w;rwa[aj ‹_› ∅]
end L2
namespace F
open L2
def G5:O2:=λx y h Q=>gC (tO x) (λX=>gC (iO y) (λk=>gd (uC 0 k&&(uC k 1000&&Ë (Á X) 10)) (Q (.p (.T (Ò k.toNat X).flatten)) h)) ŧ) ŧ
def M7:ic Y (OV Y.K) G5:=λG M h H x y v u Q t r i j q out=>by let(X,e,b):=cK q;let(k,f,d):=cK b;let(c,g):=cJ d;let(C,l,m):=qr c;clear q b d;cases HE e;cases sT f;let(a,n,E,s1,I):=qo i;erw[(a,k,n,E,eU j,s1,by rw[<-I.len];rwa[b'.mp m],gN.mp C,gN.mp l,λp o s S=>?_)];erw[out _ h M o _ (jm s) (qR r s) ?_ g];exact(p,_,Ŗ,S,(I.rep _).ext r (jm s))
def uZ:Bo:=(_,_,λ_ _=>(_,NZ,M7))
def Mm.Pk{Γ:Gm}{t:Tb}(i n:Ń)(l:Ϙ)(T:Tg)(j:Jm Γ t)(F:Fm Γ t)(A:Em Γ t):Mm Γ t:=(AA i (yC n l T _ F.m A.m J),λS st=>S.fr&&E6 S i (λx p e=>Ak _ x&&(ħ x p e&&Lr S n l T _ F _ e)) st,λ{k S X E st}o h=>by
 let(N,h):=ag h;erw[oK o h λx p e pos r u v y=>?_];let(B,g):=ag y;let(G,C):=ag g;revert G;erw[uk o.x C λU Y ix I e sc D W K a b L M P Q w G=>?_];erw[(OH (o.x.fx N).1 (o.x.fx N).2 o.nd r u W (o.x.hc w).1 K (j.pi o.x a) (λf s H=>L (Js o.x w _ _ f _ _)) (λf s H=>F.pf (Js o.x w _ _ f _ _) M) (λf s H=>A.pe (Js o.x w _ _ f _ _) P) Q ?_ v).imp λ_ _ _ q=>um (λ_ _ _ _ z=>z) b (Pq q)];let(c,d):=ag G;show pure (X.env.blockKind==.function&&X.env.kindOf x==O _&&p.line==D.line&&!sc.names.any _)=pure _;let R:X.env.kindOf x=O .local:=by show X.env.scope.names.lookup x=_;rw[o.x.hs];rwa[wq B]
 rw[Nf o.kd,R,c,d];rfl)
end F
namespace L2
def lH.imp{K:Ä}{m:Å->Ő _}(D:lH P w K m base k x C ps sp)(i:∀vs H Q E,xO vs H Q E->sp vs H Q E):lH P w K m base k x C ps xO:=by let(f,g,j,l,ds,s,F,a,b,c,d,e):=D.ex;exact(f,g,j,l,ds,s,F,a,b,c,λvs H Q E h=>d vs H Q E (i vs H Q E h),e)
def gj.imp(R:gj X f sp [] E)(i:∀vs H Q E,x vs H Q E->sp vs H Q E):gj X f x [] E:=λp σ H s Q u vs I r h=>R _ σ H s Q u vs I r (i _ _ _ _ h)
end L2
namespace F
open L2
def ϻ(C:Ct):Ct:=λds h Q x=>match ds with|.r n::r=>TX [n] C (.r n::r) h Q x|_=>ŧ
def VT(z:dG Y (ϻ C) vs H q EV):dG Y C vs H q EV:=by
 let(G,M,h,ds,Q,x,r,i,c,o,a):=z;rcases ds with _|⟨_|n,ds⟩;.rwa[c.elim]
 .rwa[c.elim]
 .rwa[sD r i c o a]
def VS(z:dG Y (TX [] C) vs H q EV):dG Y C vs H q EV:=by let(G,M,h,ds,Q,x,r,i,c,o,a):=z;rwa[sD r i c o a]
section
variable{Γ:Gm}{t:Tb}
namespace Em
def nwl(c:Ń)(A:Am Γ t):Em Γ t:=(_,λS x=>!Nat.ble 80 c&&iU c _&&(S.cm&&Rl S _ A x),λ{k S X E x}o h=>by let(ps,D):=o.lF c (cQ.mp (ag (ag h).1).2);replace D:=MN (gm (ag (ag h).1).1) D;rwa[nI o (ag (ag h).2).2 λ_ _ _ _ H d hn pa p=>Oh (D.imp λ_ _ _ _=>VT) (o.room (ag (ag h).2).1) H pa d p])
def mel(c:Ń)(b:Em Γ t)(A:Am Γ t):Em Γ t:=(_,(me c b A).ck,λ{k S X E x}o h=>si h λv e s D H d i j=>by let(l,g):=ag H;let(m,n,p,G):=uY l;let(q,g):=ag g;let(C,r):=o.cls _ (cQ.mp p);let(f,u,R):=o.D_ (cQ.mp n) m;induction e with|f=>done|g a e=>let(pa,P):=A.pa o (ag g).2;rwa[Xw (b.pe o d) C (λw=>by rw[r]at w;rw[qJ w]at G;cases G) u (R.imp λ_ _ _ _=>VS) pa (mz i) P (aI q) j])
end Em
end
theorem BJ(h:∀d,f (b d)=g d):∀ds:Ł Dv,o9 f (ds.map b)=o9 g ds|[]=>Ŗ|d::r=>by rw[cF];delta o9;rw[h d,BJ h r]
theorem Gz(H:∀i,Qn ρ m (.r i)=.r (n+i))(b:∀i,h[n+i]?=l[i]?.map (Ld ρ m)):∀(f:Ń)(d:Dv),pR h n f (Qn ρ m d)=pR l 0 f d|0,.p x=>Ŗ|f+1,.p x=>Ŗ|0,.r i=>by rw[H];rfl|f+1,.r i=>by rw[H];delta pR;rw[aB (aO n i),b];let a:=BJ (Gz H b f);induction l[i]? with|a=>rfl|c o=>induction o with|L X=>rfl|C k u=>rfl|K k=>rfl|F c k u=>rfl|D ds=>rwa[bU (è _) (a ds)]|E k ds=>rwa[bU (è _) (a ds)]|I C fs=>rwa[bU (è _) (a fs)]
def acm:Qn [n] (n+1) (.r i)=.r (n+i):=by induction i with|h=>rfl|j i=>show Dv.r (n+1+(i+1-1))=_;lia
def Sv{x:Ob}{l:Hs}:Mo (QC [h.length] (h.length+1) [h.length] (o::l) (h++[x])) h.length (.r h.length)=(pR (o::l) 0 6 (.r 0)).map .p:=by
 let e:QC [h.length] (h.length+1) [h.length] (o::l) (h++[x])=h++(o::l).map (Ld [h.length] (h.length+1)):=by
  let E:(h++[x]).set h.length (Ld [h.length] (h.length+1) o)=h++[Ld [h.length] (h.length+1) o]:=⋯
  show QC _ _ [] l _=_;rw[E];induction l with|f=>rfl|g a l=>show h++[_]++_=_;rw[bw];rfl
 rw[e];let:=Gz (h:=h++(o::l).map _) (l:=o::l) (λ_=>acm) λi=>by rw[aQ (aO _ _),f6,aM] 6 (.r 0);show(match Ë _ _ with|bb=>_|J=>_)=_;rw[aB (ah _)];rwa[bU (è _) this]
end F
namespace F
open L2
def L0(i:Ń)(n:Î):Ss:=λN σ h=>match σ[i]? with|O (O (.p (.I k)))=>N.nx (σ.set i (O (.p (.I (k+n))))) h|_=>ŧ
def Yr(h:eJ 'X' E (L0 i n) D τ H):Uf i (tC (.I n)) (Ņ λa b=>a+b) D τ H:=by
 let(G,M,σ,h,N,k,q):=h;change match σ[i]? with|O (O (.p (.I k)))=>N.nx _ h|_=>ŧ at q;split at q;.ext m c;let(v,e,f):=k.env.at' i _ c;cases eU f;exact(_,e,_,_,Ŗ,Ŗ,k.nx _ h M H _ Ext.refl k.rel (k.env.set (d:=.p (.I _)) Ŗ) q)
 .left
def Mm.aug{Γ:Gm}{t:Tb}(i:Ń)(n:Î):Mm Γ t:=(L0 i n,λS=>Wp λa o b _=>Đ (o=.Add)&&(P7 (λc _ _=>lw _ c) b&&wM _ a),λo h=>by erw[V6 h λa j b pos h=>?_];let(e,H,f):=qr h;rw[bL e];erw[jr f λx p h=>?_];let(g,d):=ag h;erw[rk H λC k P H=>?_];rw[FR H];exact(Ξ o.nd (by rw[o.x.hN];rwa[jV g]) (by rw[o.x.hs];rwa[Ac (ag d).1]) EL Z8 (o.hf x d)).imp λ_ _ _=>Yr)
def Xp:ON:=λds h Q=>match ds with
 |[x]=>match nW h x with|O X=>gC (pE X) (λp=>gd (Ë (Á p.1) 100) (Q (.r (Á h)) (h++[.C (tR p.1 p.2 ([],[])).1 (tR p.1 p.2 ([],[])).2]))) ŧ|ao=>ŧ
 |_=>ŧ
def MW:pL Y (λxs H Q=>∃(l:À)(T:ϕ)(U:Ł _),xs=[.A l]/\gA Y.K H l T/\Á U<=100/\Paired (λt k=>∃b,t=V.A b/\g9 Y.K H b [kV k.1,k.2]) T U/\∀a,H a=ao->Q (.A a) (dq H a (.dK (j9 [] U)))) Xp:=λG M h H xs s Q g r I q out=>by
 delta Xp gC at q;split at q
 .let(v,rfl,i):=I.sx;split at q
  .ext xs ex;split at q
   .ext p E;let(c,q):=cJ q;let(a,ws,rfl,s1,f):=il r i ex;let(U,d,pp):=EO E f;let hl:=by let:=d.1.len;rw[ae]at this;rwa[this.symm]
    erw[(a,ws,U,Ŗ,gA.of s1,by rw[hl];rwa[aI c],pp,λb e=>?_)];let d2:=uo d kF.nil;rwa[out _ _ _ _ _ (Ext.push r e) (r.push (o:=.C _ _) e (_,bC,d2.1.ext r (Ext.push r e),d2.2.ext r (Ext.push r e))) (nU r.ln) q]
   .left
  .left
 .left
def ũ:Bi:=(_,_,_,λh H m a hn j d=>wz (lJ (h Ŗ)) MW H m zh a hn j d)
end F
namespace W2
open L2 F
abbrev Nm:=Fin 1000000
def nP(n:Nm):Pv:=.I n.val
def iP(n:Ń):Pv:=.I n
def eZ:Ő Ń->Pv|ao=>.I (-1)|O n=>.I n
def kK{α:Type}(z:Å):Ł (Å×α)->Ő α|[]=>ao|p::r=>match cE p.1 z with|J=>O p.2|bb=>kK z r
def gO{α:Type}(n:Ń):Ł (Ń×α)->Ő α|[]=>ao|p::r=>match Ì p.1 n with|J=>O p.2|bb=>gO n r
def pos(z:Å):ϐ->Ń->Ő Ń|[],_=>ao|y::r,n=>match cE y z with|J=>O n|bb=>pos z r (n+1)
def jU:ϐ->Ń->ϑ|[],_=>[]|_::r,n=>iP n::jU r (n+1)
def kL(l:ϐ):Pv:=.dct (l.map .S) (jU l 0)
def Zh{α:Type}(g:α->Pv)(l:Ł (Å×α)):Pv:=.dct (l.map λp=>.S p.1) (l.map λp=>g p.2)
def sB{α:Type}(g:α->Pv)(l:Ł (Ń×α)):Pv:=.dct (l.map λp=>iP p.1) (l.map λp=>g p.2)
inductive Op where|pl|mi|ti|ov|re|le|sa
def Op.w:Op->Å|.pl=>"plus"|.mi=>"minus"|.ti=>"times"|.ov=>"over"|.re=>"rest"|.le=>"less"|.sa=>"same"
inductive Ou where|v(n:Nm)|x(c:Ń)
def Op.f:Op->Nm->Nm->Ou|.pl,a,b=>.v (a+b)|.mi,a,b=>.v (a-b)|.ti,a,b=>.v (a*b)|.ov,a,b=>bif Ì b.val 0 then .x 1 else .v (a/b)|.re,a,b=>bif Ì b.val 0 then .x 1 else .v (a%b)|.le,a,b=>.v (bif Ñ a.val b.val then 1 else 0)|.sa,a,b=>.v (bif Ì a.val b.val then 1 else 0)
inductive Vx where|n(i:Nm)|b(z:Å)|s(z:Å)|i(z:Å)(v:Vx)|t(v:Vx)|o(k:Op)(x y:Vx)
def Vx.p:Vx->Pv|.n m=>.T [.S "number",nP m]|.b z=>.T [.S "box",.S z]|.s z=>.T [.S "size",.S z]|.i z v=>.T [.S "item",.S z,v.p]|.t v=>.T [.S "not",v.p]|.o k x y=>.T [.S k.w,x.p,y.p]
def Vx.dp:Vx->Ń|.i _ v=>v.dp+1|.t v=>v.dp+1|.o _ x y=>max x.dp y.dp+1|_=>0
inductive Rw where|st(z:Å)(v:Vx)|pu(z:Å)(v:Vx)|po(z y:Å)|pt(z:Å)(u v:Vx)|ak(z d:Å)|te(v:Vx)|ii(v:Vx)(a b:Pv)|wh(v:Vx)(a:Pv)|tr(a:Pv)(z:Å)(b:Pv)|fa(v:Vx)|ca(z f:Å)(vs:Ł Vx)|rt(v:Vx)|df(z:Å)
def Rw.p:Rw->Pv|.st z v=>.T [.S "set",.S z,v.p]|.pu z v=>.T [.S "push",.S z,v.p]|.po z y=>.T [.S "pop",.S z,.S y]|.pt z u v=>.T [.S "put",.S z,u.p,v.p]|.ak z d=>.T [.S "ask",.S z,.S d]|.te v=>.T [.S "tell",v.p]|.ii v a b=>.T [.S "if",v.p,a,b]|.wh v a=>.T [.S "while",v.p,a]|.tr a z b=>.T [.S "try",a,.S z,b]|.fa v=>.T [.S "fail",v.p]|.ca z f s=>.T [.S "call",.S z,.S f,.T (s.map Vx.p)]|.rt v=>.T [.S "return",v.p]|.df z=>.T [.S "def",.S z]
def wf(d:Ń)(vs:Ł Vx):Þ:=vs.all λv=>Ñ v.dp d
def Rw.lo(d:Ń):Rw->Þ|.st _ v=>Ñ v.dp d|.pu _ v=>Ñ v.dp d|.pt _ u v=>Ñ u.dp d&&Ñ v.dp d|.te v=>Ñ v.dp d|.ii v _ _=>Ñ v.dp d|.wh v _=>Ñ v.dp d|.fa v=>Ñ v.dp d|.ca _ _ s=>Ë s.length 100&&wf d s|.rt v=>Ñ v.dp d|_=>J
structure Pn where
 bs:ϐ
 ls:ϐ
 ds:ϐ
 ow:Ł (Å×ϐ)wd:Ł (Å×Ł Nm)rw:Ł Rw
 wi:Pv
 bh:Ł (Ń×Ő Ń)fs:Ł (Ń×Ő Ń)sc:Ł (Ń×Ő Ń)ct:Ł (Ń×Ő Ń)df:Ł (Å×Ń)st:Ł (Å×Ő Ń)
def Pn.pa(P:Pn):Pv:=.obj 3 [.L (P.rw.map Rw.p),P.wi,sB eZ P.bh,sB eZ P.fs,sB eZ P.sc,sB eZ P.ct,Zh iP P.df,Zh eZ P.st]
def Pn.p(P:Pn):Pv:=.obj 2 [kL P.bs,kL P.ls,Zh kL P.ow,kL P.ds,Zh (λn:Ł Nm=>.T (n.map nP)) P.wd,P.pa]
structure Fr where
 f:Å
 ns:Ł Nm
 pt:Ő Ń
def Fr.p(x:Fr):Pv:=.T [.S x.f,.T (x.ns.map nP),eZ x.pt]
def jA:Ł Fr->ϑ|[]=>[]|x::r=>jA r++[x.p]
structure Wk where
 bx:Ł Nm
 ls:Ł (Ł Nm)fr:Ł Fr
 ak:Ϙ
 td:Ł Nm
 bk:Þ
 rd:Ł (Ł cs)wr:Ł (Ł cs)
def ro(l:Ł (Ł Nm)):ϑ:=l.map λn=>.T (n.map nP)
def W7(P:Pn)(w:Wk):Ob:=.I 1 [.p P.p,.p (.T (w.bx.map nP)),.p (.T (ro w.ls)),.p (.T (jA w.fr)),.p (.T (w.ak.map iP)),.p (.T (w.td.map nP)),.p (.B w.bk),.r 1,.r 2]
def yO(P:Pn)(w:Wk):Hs:=[W7 P w,.K w.rd,.K w.wr]
def Qf(fr:Ł Fr):Å:=match fr with|[(_,_,ao)]=>"done"|_=>"on"
def Wk.wo(w:Wk):Å:=bif w.bk then"broken"else Qf w.fr
def Wk.p(w:Wk):Pv:=.T [.T (w.bx.map nP),.T (ro w.ls),.T (jA w.fr),.T (w.ak.map iP),.T (w.td.map nP),.S w.wo]
def kA(κ:Ł cs)(k:Ł (Ł cs)):Ő (Ł (Ł cs)):=bif Ñ k.length 1000 then O (Ej κ k)else ao
def rp{α:Type}(l:Ł α)(i:Ń)(x:α):Ő (Ł α):=bif Ñ i l.length&&Ë l.length 100000 then O (l.set i x)else ao
def xC(d:Ń)(z:Å):Ł cs:=[.inr "own",.inl d,.inr z]
def Ei(z:Å):Ł cs:=[.inr "box",.inr z]
def p_(z:Å):Ł cs:=[.inr "list",.inr z]
def own(P:Pn)(w:Wk):Ő (Fr×Ł Fr×ϐ):=match w.fr with|[]=>ao|x::r=>(kK x.f P.ow).map λo=>(x,r,o)
def cell(P:Pn)(w:Wk)(z:Å):Ő (Ł cs):=(own P w).map λp=>match pos z p.2.2 0 with|O _=>xC p.2.1.length z|ao=>Ei z
def B6(P:Pn)(w:Wk)(z:Å):Ő (Wk×Nm):=(own P w).bind λp=>match pos z p.2.2 0 with|O i=>(kA (xC p.2.1.length z) w.rd).bind λk=>p.1.ns[i]?.map λn=>({w with rd:=k},n)|ao=>(kA (Ei z) w.rd).bind λk=>(pos z P.bs 0).bind λi=>w.bx[i]?.map λn=>({w with rd:=k},n)
def pI(P:Pn)(w:Wk)(z:Å)(n:Nm):Ő Wk:=(own P w).bind λp=>match pos z p.2.2 0 with|O i=>(kA (xC p.2.1.length z) w.wr).bind λk=>(rp p.1.ns i n).bind λns=>bif Ñ p.2.1.length 1000 then O {w with wr:=k,fr:={p.1 with ns:=ns}::p.2.1}else ao|ao=>(kA (Ei z) w.wr).bind λk=>(pos z P.bs 0).bind λi=>(rp w.bx i n).map λb=>{w with wr:=k,bx:=b}
def oh(P:Pn)(w:Wk)(z:Å):Ő (Wk×Ł Nm):=(kA (p_ z) w.rd).bind λk=>(pos z P.ls 0).bind λi=>w.ls[i]?.map λl=>({w with rd:=k},l)
def wO(P:Pn)(w:Wk)(z:Å)(l:Ł Nm):Ő Wk:=(kA (p_ z) w.wr).bind λk=>(pos z P.ls 0).bind λi=>(rp w.ls i l).map λls=>{w with wr:=k,ls:=ls}
def sK(P:Pn)(d:Å)(a:Ń):Nm:=match kK d P.wd with|O n=>n[a]?.getD 0|ao=>0
def ask(P:Pn)(w:Wk)(d:Å):Ő (Wk×Nm):=(pos d P.ds 0).bind λi=>w.ak[i]?.bind λa=>(rp w.ak i (a+1)).map λk=>({w with ak:=k},sK P d a)
def move(w:Wk)(p:Ő Ń):Ő Wk:=match w.fr with|[]=>ao|x::r=>bif Ñ r.length 1000 then O {w with fr:={x with pt:=p}::r}else ao
def ym(w:Wk):Ő Wk:=match w.fr with|[]=>ao|_::r=>O {w with fr:=r}
def nZ(w:Wk):Ő (Ő Ń):=match w.fr with|[]=>ao|x::_=>O x.pt
def xQ(d:Ń):ϐ->Ł (Ł cs)->Ő (Ł (Ł cs))|[],k=>O k|z::r,k=>(kA (xC d z) k).bind (xQ d r)
def gn(P:Pn)(w:Wk)(f:Å)(vs:Ł Nm):Ő Wk:=(kK f P.ow).bind λo=>(kK f P.st).bind λp=>bif Ë vs.length o.length&&(Ë o.length 100&&Ñ w.fr.length 1000)then(xQ w.fr.length o w.wr).map λk=>{w with wr:=k,fr:=(f,vs++Ò (o.length-vs.length) 0,p)::w.fr}else ao
@[irreducible]def vG{α:Type}(o:Ő (Wk×Ou))(k:Wk->Nm->Ő (Wk×α))(x:Ń->α):Ő (Wk×α):=o.bind λp=>match p.2 with|.v n=>k p.1 n|.x c=>O (p.1,x c)
def Vp(l:Ł Nm):Ő Nm:=if h:l.length<1000000 then O (_,h) else ao
def xx(l:Ł Nm)(n:Nm):Ou:=match l[n.val]? with|O y=>.v y|ao=>.x 2
def ev(P:Pn):Vx->Wk->Ő (Wk×Ou)|.n i,w=>O (w,.v i)|.b z,w=>(B6 P w z).map λp=>(p.1,.v p.2)|.s z,w=>(oh P w z).bind λp=>(Vp p.2).map λn=>(p.1,.v n)|.i z v,w=>vG (ev P v w) (λw n=>(oh P w z).map λq=>(q.1,xx q.2 n)) .x|.t v,w=>vG (ev P v w) (λw n=>O (w,Op.sa.f n 0)) .x|.o k a b,w=>vG (ev P a w) (λw x=>vG (ev P b w) (λw y=>O (w,k.f x y)) .x) .x
abbrev Do:=Pn->Wk->Rw->Ő (Wk×Ő Ń)
def EG(o:Ő Wk):Ő (Wk×Ő Ń):=o.map λw=>(w,ao)
def RA:Do|P,w,.st z v=>vG (ev P v w) (λw n=>EG (pI P w z n)) O|_,_,_=>ao
def Gd:Do|P,w,.pu z v=>vG (ev P v w) (λw n=>(oh P w z).bind λp=>bif Ë 12 p.2.length then O (p.1,O 3)else EG (wO P p.1 z (p.2++[n]))) O|_,_,_=>ao
def Rx:Do
 |P,w,.po z y=>(oh P w y).bind λp=>match p.2.getLast? with|ao=>O (p.1,O 4)|O n=>(wO P p.1 y p.2.dropLast).bind λw=>EG (pI P w z n)
 |_,_,_=>ao
def Ry:Do|P,w,.pt z u v=>vG (ev P u w) (λw i=>vG (ev P v w) (λw n=>(oh P w z).bind λp=>bif Ë p.2.length i.val then O (p.1,O 2)else(rp p.2 i.val n).bind λl=>EG (wO P p.1 z l)) O) O|_,_,_=>ao
def Ru:Do|P,w,.ak z d=>(ask P w d).bind λp=>EG (pI P p.1 z p.2)|_,_,_=>ao
def Ge:Do|P,w,.te v=>vG (ev P v w) (λW n=>bif Ë w.td.length 100000 then O ({W with td:=w.td++[n]},ao)else ao) O|_,_,_=>ao
def kT:Do|P,w,.ii v _ _=>(nZ w).bind λp=>p.bind λk=>vG (ev P v w) (λw n=>(bif Ì n.val 0 then gO k P.sc else gO k P.fs).bind λq=>EG (move w q)) O|_,_,_=>ao
def WM:Do|P,w,.wh v _=>(nZ w).bind λp=>p.bind λk=>vG (ev P v w) (λw n=>(bif Ì n.val 0 then gO k P.bh else gO k P.fs).bind λq=>EG (move w q)) O|_,_,_=>ao
def Zu(P:Pn):Ł Vx->Wk->Ő (Wk×(Ł Nm ⊕ Ń))|[],w=>O (w,.inl [])|v::r,w=>(ev P v w).bind λp=>match p.2 with|.x c=>O (p.1,.inr c)|.v n=>(Zu P r p.1).map λq=>(q.1,match q.2 with|.inl N=>.inl (n::N)|.inr c=>.inr c)
def Ga:Do
 |P,w,.ca _ f v=>(Zu P v w).bind λp=>match p.2 with|.inr c=>O (p.1,O c)|.inl n=>bif Ë 8 p.1.fr.length then O (p.1,O 5)else EG (gn P p.1 f n)
 |_,_,_=>ao
def Rh:Ő Rw->Ő Å|O (.ca z _ _)=>O z|_=>ao
def SD(P:Pn)(w:Wk)(n:Nm):Ő Wk:=(ym w).bind λw=>(nZ w).bind λp=>p.bind λc=>(Rh P.rw[c]?).bind λz=>(pI P w z n).bind λw=>(gO c P.bh).bind λq=>move w q
def Rz:Do|P,w,.rt v=>vG (ev P v w) (λw n=>EG (SD P w n)) O|_,_,_=>ao
def Rv:Do|P,w,.df _=>EG (SD P w 0)|_,_,_=>ao
def Gb:Do|P,w,.fa v=>vG (ev P v w) (λw n=>O (w,O n.val)) O|_,_,_=>ao
def plain:Rw->Ő Do|.st _ _=>O RA|.pu _ _=>O Gd|.po _ _=>O Rx|.pt _ _ _=>O Ry|.ak _ _=>O Ru|.te _=>O Ge|_=>ao
def G7:Rw->Ő Do|.ii _ _ _=>O kT|.wh _ _=>O WM|.ca _ _ _=>O Ga|.rt _=>O Rz|.df _=>O Rv|.fa _=>O Gb|_=>ao
def kind:Rw->Å|.ca _ _ _=>"call"|.rt _=>"return"|.df _=>"off"|_=>"plain"
def sR(P:Pn)(w:Wk)(n:Ń):Ő (Wk×Ő Ń):=P.rw[n]?.bind λr=>match plain r with
 |O d=>(d P w r).bind λp=>match p.2 with|O c=>O (p.1,O c)|ao=>(gO n P.bh).bind λq=>EG (move p.1 q)
 |ao=>(G7 r).bind λd=>d P w r
def rW(P:Pn):Ł Fr->Ő (Ł Fr×Ő Ń)|[]=>ao|x::r=>x.pt.bind λp=>(gO p P.ct).bind λc=>match c with|O k=>O (x::r,O k)|ao=>match r.isEmpty with|J=>O ([x],ao)|bb=>rW P r
def VW:Ő Rw->Ő Å|O (.tr _ z _)=>O z|_=>ao
def VR(c:Ń):Ő Nm:=if h:c<1000000 then O (c,h) else ao
def vi(P:Pn)(w:Wk)(c:Ń):Ő (Wk×Ő Ń):=(rW P w.fr).bind λp=>match p.2 with|ao=>O ({w with fr:=p.1,bk:=J},ao)|O k=>(VW P.rw[k]?).bind λz=>(VR c).bind λn=>(pI P {w with fr:=p.1} z n).bind λw=>(gO k P.sc).bind λq=>(move w q).map λw=>(w,O k)
def wg(P:Pn)(w:Wk):Ő Ń:=match w.fr with|[]=>ao|x::_=>match x.pt with|ao=>kK x.f P.df|O p=>O p
def FY(w:Wk):Pv:=match w.fr with|_::y::_=>eZ y.pt|_=>.I (-1)
def zw(k:Ł (Ł cs)):Pv:=.T ((Ke k).map tK)
def G6(k:Ł (Ł cs)):Þ:=Ñ k.length 64&&nM k
def Wk.cl(w:Wk):Wk:={w with bk:=bb,rd:=[],wr:=[]}
def G4(w0:Wk)(n:Ń)(k:Å)(w:Wk)(c:Ő Ń):Pv:=.T [iP n,.S k,zw w.rd,zw w.wr,FY w0,eZ c]
def Tl(o:Ő Rw):Å:=match o with|O r=>kind r|ao=>""
def Zq(P:Pn)(n:Ń)(p:Wk×Ő Ń):Ő (Wk×Å×Ő Ń):=match p.2 with|ao=>O (p.1,Tl P.rw[n]?,ao)|O c=>(vi P p.1 c).map λq=>(q.1,"fault",q.2)
def tu(P:Pn)(w0:Wk):Ő (Wk×Pv):=(wg P w0).bind λn=>(sR P w0.cl n).bind λp=>(Zq P n p).bind λq=>bif G6 q.1.rd&&G6 q.1.wr then O (q.1,G4 w0 n q.2.1 q.1 q.2.2)else ao
inductive Rn(P:Pn):Wk->Ń->Wk->ϑ->ß|z{w:Wk}:Rn P w 0 w []|s{w w1 w':Wk}{n:Ń}{x:Pv}{xs:ϑ}(hw:w.wo="on")(e:tu P w=O (w1,x))(r:Rn P w1 n w' xs):Rn P w (n+1) w' (x::xs)
def rD(P:Pn)(w:Wk):Pv:=.obj 4 [P.p,w.p]
def yu:Pv->Þ|.I _=>J|.B _=>J|.N=>J|.S _=>J|.T _=>J|_=>bb
def xy(a b:Î):Pv->Þ|.I n=>uC a n&&uC n b|_=>bb
def Pn.lo(P:Pn):Þ:=P.rw.all λr=>r.lo 6
end W2
namespace L2
def XV(D:Ql z a b c d)(o1:t≠z/\t≠b/\t≠c/\t≠d)(o:t2≠z/\t2≠b/\t2≠c/\t2≠d):ZipApart z a b c d t t2:=(D.az,D.bz,D.cz,D.dz,D.ab,D.ac,D.ad,D.bc,D.bd,D.cd,o1.1,o1.2.1,o1.2.2.1,o1.2.2.2,o.1,o.2.1,o.2.2.1,o.2.2.2)
def KA{E:dC}(D:Ql z a b c d)(Z:CC ą s.heap z a b c d t T k .none)(o1:t≠z/\t≠b/\t≠c/\t≠d)(g:T≠z/\T≠b/\T≠c/\T≠d)(G:s.heap.IsList t xs)(j:s.heap.IsList T ys)(H:xs[k]?=O x)(i:ys[k]?=O y)(l:∀h,CC ą h z a b c d t T (k+1) (ef s.heap.objs.size)->IsPair h s.heap.objs.size x y->(∀e o,e≠z->e≠b->e≠c->e≠d->s.heap.get? e=O o->h.get? e=O o)->Q (O (.ref s.heap.objs.size)) {s with heap:=h}):bv (cc P w) A (eR (.ref z)) Q E s:=by let(p,q,m):=Z.own;rwa[wpAny_pyNext_zip_item (XV D o1 g) Z.zip Z.bT m Z.i1 Z.i2 G j H i λn a1 r u v B C f=>l n (a1,f _ _ D.az D.ab D.ac D.ad Z.bT,(_,_,r),u,v) B f]
def KC{E:dC}(H:A.handled=ao)(D:Ql z a b c d)(Z:CC ą s.heap z a b c d t T k .none)(o1:t≠z/\t≠b/\t≠c/\t≠d)(e:T≠z/\T≠b/\T≠c/\T≠d)(G:s.heap.IsList t xs)(j:s.heap.IsList T ys)(M:xs[k]?=ao\/ys[k]?=ao)(g:∀h,(∀f o,f≠z->f≠b->f≠c->f≠d->s.heap.get? f=O o->h.get? f=O o)->Q ao {s with heap:=h}):bv (cc P w) A (eR (.ref z)) Q E s:=by let(p,q,i):=Z.own;rwa[wpAny_pyNext_zip_end H (XV D o1 e) Z.zip Z.bT i Z.i1 Z.i2 G j M g]
def UO(H:Gl X "zip")(m:X.mg "zip"=ao)(j:PA X [a,b] t)(l:d4 [a,b] X.env=[(bb,Ê a X.env),(bb,Ê b X.env)])(W:d4 [b] X.env=[(bb,Ê b X.env)]):PI X (.Tuple es k s) (.Call (.Name "zip" p) [a,b] [] pos) (SW (gA X.K) t):=Ox H m j l W (λi G u q=>by let(T,R,P,l1):=i.list G;let(Z,E,w,l2):=i.list u;rwa[call_zip_2 P.isList w.isList λx y Y A B C F up=>q x (y,Y,(_,_,A),B,C) up]) λn L M D=>Cr (λ(o,e,c,d)=>(o,e,λv g=>ì (d.symm.trans g))) (λz k=>z.at k) (λe I q=>(I.list (e▸q)).imp λ_ z=>(z.1,z.2.1.isList,z.2.2)) (λe I q r=>I.qO (e▸q) (e▸r)) (λe I q f=>yF I (e▸q) f) (KA D) (λh=>KC h D) D
end L2
namespace F
open L2
def Ix:Dv->Ő ϑ|.p (.L x)=>O x|_=>ao
def z_(h:Ix x=O xs):x=.p (.L xs):=by
 delta Ix at h;split at h;.left
 .cases h
def Jm.zl{Γ:Gm}{t:Tb}(A:Am Γ t):Jm Γ t:=(_,λS T x=>C3 S A T x,λo h=>Qj o h λ_ _ _ _ _ _ _ g m pa b H=>G9 (c:=Ix) (λr e i=>by cases z_ e;let(a,v,h,n,s,i):=i;exact(a,v,h,λe=>gA.of (e.keep a _ n.1 s),i)) .inl (UO g m pa (by rw[cy b,cy H];rfl) (by rw[cy H];rfl)))
end F
namespace W2
open L2 F
def top(i:Ń):É:=PySem.Challenge.pw_retrace_k23_runs.main.body.getD i (.Pass (0,0,0,0))
nonrec def Xl:Ł String:=["parts_within","rows_of","add_rows","doors_of","is_whole","names_of","own_names","word_by","replaced","plus","minus","times","over","rest","less","same","reckoned","item","check_place","do_set","do_push","do_pop","do_put","do_ask","do_tell","do_if","do_while","do_call","do_return","do_off","do_fail","give_back","do_row","catch","places","first_state","cells","caller","state_at","notes","run_length","check_steps","_law_cell_at","_law_state","_law_next","_law_names","_law_value","_law_plain","_law_rows","_law_program","_law_world","_law_class","_law_asked","_law_stepped","law"]
def ais:ϐ:=["NO_ROW","MOST_THINGS","BEYOND","BY_NOTHING","NO_PLACE","FULL_LIST","EMPTY_LIST","TOO_DEEP","MOST_FRAMES","NO_FUNCTION","WORD","MOST_STEPS"]
def ah6:Ń->Å|0=>"NoStep"|1=>"Work"|2=>"Plan"|3=>"Paths"|4=>"Machine"|5=>"RunError"|84=>"Machine"|90=>"run_length"|200=>"state"|201=>"point"|202=>"move"|203=>"leave"|204=>"enter"|205=>"box_cell"|206=>"read_box"|207=>"write_box"|208=>"read_list"|209=>"write_list"|210=>"ask"|300=>"answer"|400=>"lay_rows"|401=>"lay_row"|500=>"first"|501=>"step"|502=>"next_row"|_=>"Fault"
def gls:ϑ:=[.I (-1),.I 12,.I 1000000,.I 1,.I 2,.I 3,.I 4,.I 5,.I 8,.S "",.I 5,.I 2000]
def akZ:Ń->Å|0=>"ROW_FORMS"|50=>"KINDS"|100=>"PLAIN_DEEDS"|101=>"DEEDS"|_=>"OF_TWO"
def Yv:ϐ:=["len","isinstance","zip","range","list","tuple","int","bool","set","dict","max","min","sorted","reversed","enumerate"]
nonrec def vl{α:Type}(l:Ł α)(d:α)(i:Ń):α:=l.getD i d
def S0:Sx:=([],av (.Pass (0,0,0,0)),λi=>í (vl Xl "" i),vl ais "",akZ,ah6,λc=>match c with|1=>["plan","boxes","lists","frames","asked","told","broken","reads","wrote"]|2=>["box_places","list_places","own_places","door_places","door_numbers","paths"]|3=>["rows","within","behind","firsts","seconds","catchers","defs","starts"]|4=>["plan","beginning"]|_=>[],Yv,[1,2,3,4],[0,999],J,J)
def Br:Ł (Å×ϐ):=[("set",["box","value"]),("push",["list","value"]),("pop",["box","list"]),("put",["list","value","value"]),("ask",["box","door"]),("tell",["value"]),("if",["value","rows","rows"]),("while",["value","rows"]),("try",["rows","box","rows"]),("fail",["value"]),("call",["box","function","values"]),("return",["value"])]
def u_:Ł (Å×ϐ):=[("call",["call"]),("return",["return"]),("def",["off"])]
def CF:Ł (Å×Ń):=[("set",19),("push",20),("pop",21),("put",22),("ask",23),("tell",24)]
def Zp:Ł (Å×Ń):=[("if",25),("while",26),("call",27),("return",28),("def",29),("fail",30)]
def F':Ł (Å×Ń):=[("plus",9),("minus",10),("times",11),("over",12),("rest",13),("less",14),("same",15)]
def Ϭ:Ń->Å->Ő ϐ|0,x=>kK x Br|50,x=>kK x u_|100,x=>(kK x CF).map λn=>Ò n ""|101,x=>(kK x Zp).map λn=>Ò n ""|_,x=>(kK x F').map λn=>Ò n ""
inductive iR(R:Pn->Wk->ϑ->Wk->Pv->ß):Ct|mk{P:Pn}{w w':Wk}{as:ϑ}{x:Pv}{Q:Dv->Hs->ß}{xc:XP}(r:R P w as w' x)(q:Q (.p x) (yO P w')):iR R (.r 0::as.map .p) (yO P w) Q xc
inductive YG:Ct|mk{P:Pn}{w:Wk}{Q:Dv->Hs->ß}{xc:XP}(q:Q (.p .N) (yO P w.cl)):YG [.r 0,.p P.p,.p w.p] [.I 1 []] Q xc
inductive Ĭ:Ct|mk{P:Pn}{d:Å}{a:Ń}{h:Hs}{Q:Dv->Hs->ß}{xc:XP}(q:Q (.p (nP (sK P d a))) h):Ĭ [.p P.p,.p (.S d),.p (iP a)] h Q xc
inductive YE:Ct|mk{P:Pn}{w:Wk}{h:Hs}{Q:Dv->Hs->ß}{xc:XP}(q:Q (.p w.p) h):YE [.p (rD P w)] h Q xc
inductive YH:Ct|mk{P:Pn}{w0 w:Wk}{n:Ń}{h:Hs}{Q:Dv->Hs->ß}{xc:XP}(hw:w.wo="on")(e:wg P w=O n)(q:Q (.p (iP n)) h):YH [.p (rD P w0),.p w.p] h Q xc
inductive ve:Ct|ok{P:Pn}{w0 w w':Wk}{x:Pv}{Q:Dv->Hs->ß}{xc:XP}(hl:P.lo)(hw:w.wo="on")(e:tu P w=O (w',x))(q:Q (.p (.T [w'.p,x])) []):ve [.p (rD P w0),.p w.p] [] Q xc|no{P:Pn}{w0 w:Wk}{Q:Dv->Hs->ß}{xc:XP}(hw:w.wo≠"on")(q:xc 0 []):ve [.p (rD P w0),.p w.p] [] Q xc
inductive xo:Ct|ok{P:Pn}{w0 w':Wk}{m n:Ń}{xs:ϑ}{Q:Dv->Hs->ß}{xc:XP}(hl:P.lo)(r:Rn P w0 m w' xs)(hm:m<=n)(he:m=n\/w'.wo≠"on")(hn:n<=2000)(q:Q (.p (iP m)) []):xo [.p (rD P w0),.p (iP n)] [] Q xc|od{P:Pn}{w0:Wk}{x:Pv}{Q:Dv->Hs->ß}{xc:XP}(hx:yu x)(e:xy 0 2000 x=bb)(q:xc 0 []):xo [.p (rD P w0),.p x] [] Q xc
def ajg(Jc:Ń->Ct):Ń->Ct|1=>YG|90=>λds h Q X=>xo (ds++[.p (.I 2000)]) h Q X|200=>iR λ_ w a W x=>a=[]/\W=w/\x=w.p|201=>iR λ_ w a W x=>a=[]/\W=w/\∃p,nZ w=O p/\x=eZ p|202=>iR λ_ w a W x=>∃p,a=[eZ p]/\move w p=O W/\x=.N|203=>iR λ_ w a W x=>a=[]/\ym w=O W/\x=.N|204=>iR λP w a W x=>∃f v,a=[.S f,.L (v.map nP)]/\gn P w f v=O W/\x=.N|205=>iR λP w a W x=>∃z c,a=[.S z]/\W=w/\cell P w z=O c/\x=.key c|206=>iR λP w a W x=>∃z n,a=[.S z]/\B6 P w z=O (W,n)/\x=nP n|207=>iR λP w a W x=>∃z n,a=[.S z,nP n]/\pI P w z n=O W/\x=.N|208=>iR λP w a W x=>∃z l,a=[.S z]/\oh P w z=O (W,l)/\x=.T (l.map nP)|209=>iR λP w a W x=>∃z l,a=[.S z,.T (l.map nP)]/\wO P w z l=O W/\x=.N|210=>iR λP w a W x=>∃d n,a=[.S d]/\ask P w d=O (W,n)/\x=nP n|300=>Ĭ|500=>YE|501=>ve|502=>YH|n=>Jc n
def Lx(c:Ń->À)(Jc:Ń->Ct):Lw:=(S0,c,vl gls .N,[0,1,2,3,4,5,6,7,8,9,10,11],Ϭ,[0,50,100,101,102],ajg Jc)
structure Sg(ca:Ń->À)(K:Ä)(mg:db):ß where xJ:Src K mg "parts_within" (top 13) ["row"]OS:Src K mg "rows_of" (top 16) ["program"]yz:Src K mg "add_rows" (top 17) ["triples","rows","around"]JX:Src K mg "doors_of" (top 18) ["program"]JZ:Src K mg "is_whole" (top 20) ["thing","least","most"]J1:Src K mg "names_of" (top 23) ["things"]EW:Src K mg "own_names" (top 24) ["function"]OT:Src K mg "word_by" (top 31) ["frames"]J2:Src K mg "replaced" (top 32) ["things","place","thing"]aeQ:Src K mg "plus" (top 33) ["one","other"]aak:Src K mg "minus" (top 34) ["one","other"]aam:Src K mg "times" (top 35) ["one","other"]aeP:Src K mg "over" (top 36) ["one","other"]aeR:Src K mg "rest" (top 37) ["one","other"]aeO:Src K mg "less" (top 38) ["one","other"]aeS:Src K mg "same" (top 39) ["one","other"]yA:Src K mg "reckoned" (top 41) ["work","value"]aeN:Src K mg "item" (top 42) ["work","value"]Au:Src K mg "check_place" (top 43) ["things","place"]U9:Src K mg "do_set" (top 49) ["work","row"]OQ:Src K mg "do_push" (top 50) ["work","row"]U6:Src K mg "do_pop" (top 51) ["work","row"]U7:Src K mg "do_put" (top 52) ["work","row"]U4:Src K mg "do_ask" (top 53) ["work","row"]OR:Src K mg "do_tell" (top 54) ["work","row"]aaj:Src K mg "do_if" (top 55) ["work","row"]JS:Src K mg "do_while" (top 56) ["work","row"]OO:Src K mg "do_call" (top 57) ["work","row"]ET:Src K mg "do_return" (top 58) ["work","row"]U5:Src K mg "do_off" (top 59) ["work","row"]OP:Src K mg "do_fail" (top 60) ["work","row"]EU:Src K mg "give_back" (top 61) ["work","number"]U8:Src K mg "do_row" (top 65) ["work","number"]aah:Src K mg "catch" (top 66) ["work","number"]Va:Src K mg "places" (top 71) ["names"]Aw:Src K mg "first_state" (top 75) ["program","plan"]aai:Src K mg "cells" (top 76) ["found"]U3:Src K mg "caller" (top 77) ["state"]J3:Src K mg "state_at" (top 80) ["machine","steps"]aal:Src K mg "notes" (top 81) ["machine","steps"]Av:Src K mg "check_steps" (top 83) ["steps"]xG:Src K mg "_law_cell_at" (top 85) ["_law_script","_law_k"]B4:Src K mg "_law_state" (top 86) ["_law_cell","_law_k"]ES:Src K mg "_law_next" (top 87) ["_law_state_here","_law_size"]B1:Src K mg "_law_names" (top 88) ["_law_state_here","_law_amount"]tm:Src K mg "_law_value" (top 89) ["_law_state_here","_law_deep","_law_boxes","_law_lists"]B2:Src K mg "_law_plain" (top 90) ["_law_state_here","_law_names_here"]wC:Src K mg "_law_rows" (top 91) ["_law_state_here","_law_names_here","_law_deep","_law_most","_law_left"]xH:Src K mg "_law_program" (top 92) ["_law_state_here","_law_most"]B5:Src K mg "_law_world" (top 93) ["_law_state_here"]B0:Src K mg "_law_class" (top 95) ["_law_e"]BZ:Src K mg "_law_asked" (top 96) ["_law_way","_law_machine","_law_steps"]xI:Src K mg "_law_stepped" (top 97) ["_law_machine","_law_most"]ajv:gT K (ca 1) "state" "Work.state" (c8 (top 30) 1) ["self"]ajw:gT K (ca 1) "point" "Work.point" (c8 (top 30) 2) ["self"]ajx:gT K (ca 1) "move" "Work.move" (c8 (top 30) 3) ["self","point"]ajy:gT K (ca 1) "leave" "Work.leave" (c8 (top 30) 4) ["self"]ajz:gT K (ca 1) "enter" "Work.enter" (c8 (top 30) 5) ["self","function","values"]ajA:gT K (ca 1) "box_cell" "Work.box_cell" (c8 (top 30) 6) ["self","name"]ajB:gT K (ca 1) "read_box" "Work.read_box" (c8 (top 30) 7) ["self","name"]ajC:gT K (ca 1) "write_box" "Work.write_box" (c8 (top 30) 8) ["self","name","number"]ajD:gT K (ca 1) "read_list" "Work.read_list" (c8 (top 30) 9) ["self","name"]ajE:gT K (ca 1) "write_list" "Work.write_list" (c8 (top 30) 10) ["self","name","things"]ajF:gT K (ca 1) "ask" "Work.ask" (c8 (top 30) 11) ["self","door"]ajG:gT K (ca 2) "answer" "Plan.answer" (c8 (top 69) 1) ["self","door","place"]ajH:gT K (ca 3) "lay_rows" "Paths.lay_rows" (c8 (top 70) 1) ["self","numbers","behind","catcher"]ad0:gT K (ca 3) "lay_row" "Paths.lay_row" (c8 (top 70) 2) ["self","number","behind","catcher"]ajI:gT K (ca 4) "first" "Machine.first" (c8 (top 74) 1) ["self"]ajJ:gT K (ca 4) "step" "Machine.step" (c8 (top 74) 2) ["self","state"]ajK:gT K (ca 4) "next_row" "Machine.next_row" (c8 (top 74) 3) ["self","state"]
abbrev LX(c:Ń->À)(Jc:Ń->Ct)(W:Wd):ß:=Lk (Lx c Jc) W
abbrev DX(c:Ń->À)(Jc:Ń->Ct)(W:Wd)(i k:Ń)(C:Ct):ß:=Dt (Lx c Jc) W i k C
abbrev DI(C:Ń->À)(Jc:Ń->Ct)(W:Wd)(c k:Ń):ß:=Di (Lx C Jc) W c k
abbrev UX(c:Ń->À)(Jc:Ń->Ct)(W:Wd)(i k:Ń)(C:Ct):ß:=Du (Lx c Jc) W i k C
abbrev UI(C:Ń->À)(Jc:Ń->Ct)(W:Wd)(c k:Ń):ß:=Dj (Lx C Jc) W c k
abbrev SX(c:Ń->À)(W:Wd):ß:=Sg c W.K W.mg
nonrec def Ĕ:Lean.Syntax:=Lean.Unhygienic.run do let i:=("Am.cons Am.nil Am.u Am.u2 Am.u3 Am.u4 Am.u5 Em.b2 Em.bi Em.c Em.ch Em.cl Em.clf Em.x8 Em.cmp Em.comp Em.F7 Em.sM _root_.F.Tm.din Em.fld Em.g Em.i Em.Qz Em.ix Em.QA Em.lst Em.mt Em.neg Em.nw Em.s Em.sl Em.ti Em.tup Em.ty Em.v Fm.no Fm.one Jg.p Jm.r Jm.s Jm.z Mm.ct Mm.ex Mm.fo Mm.fS Mm.iff Mm.put Mm.raise Mm.ret Mm.set Mm.setC Mm.Kp Ms.cut Ms.nil Ms.one Ms.re Ms.seq Pm.no Pm.of _root_.F.Tm.bo _root_.F.Tm.cmp _root_.F.Tm.isN _root_.F.Tm.not _root_.F.Tm.tin _root_.F.Tm.val Wm.a1 Wm.ac Wm.o1 Wm.oc Em.ofV Em.me Em.EB Em.key Em.kix Em.lM Em.TQ Em.Zr Em.dg2 Em.sdf Em.tgs Em.aaG Em.nwd Em.cld Em.Bn Em.Gq Mm.Ek Mm.mS Mm.aaV Mm.foP Mm.foH Mm.wh Mm.dput Jg.rev Jm.e Jm.zl Mm.foT Mm.Pk Em.nwl Em.mel Mm.aug Lw.G Lw.g Lw.gu Lx yd".splitOn " ").toArray.map fun s=>Lean.mkIdent s.toName;`(tacticSeq|dsimp only[$[$i:term],*])
def Xm{C:Ń->À}{Jc:Ń->Ct}{l:Ł _}{iok:Ϙ}{M:Ss}(b:Ms ((Lx C Jc).G l iok) (Lx C Jc).t)(h:ø (b.m=M) Ĕ):b.m=M:=h
def nfC{C:Ń->À}{Jc:Ń->Ct}{l:Ł _}{iok K:Ϙ}{M:Ss}(b:Ms ((Lx C Jc).gu (yd l) (l.map (·.1)) iok K) (Lx C Jc).t)(h:ø (b.m=M) Ĕ):b.m=M:=h
def nfG{c:Ń->À}{Jc:Ń->Ct}{l:Ł _}{iok:Ϙ}{M:Ss}{N:En}{σ:Es}{h:Hs}(b:Ms ((Lx c Jc).G l iok) (Lx c Jc).t)(q:M N σ h)(H:autoParam (b.m=M) ë):b.m N σ h:=H▸q
section
variable{ca:Ń->À}{Jc:Ń->Ct}{W:Wd}{i c k:Ń}{C:Ct}{st:É}{c3:Å}{ps:ϐ}{M:Ss}
def _root_.F.Lk.e(n:Ń)(z:Þ)(l:Ł _)(iok:Ϙ)(B:Lk (Lx ca Jc) W)(b:Ms ((Lx ca Jc).G l iok) (Lx ca Jc).t)(s:Src W.K W.mg ((Lx ca Jc).S.gB i) st ps)(H:(Ì (Á (uB (av st))) n&&(IU (uB (av st)) ps (av st)&&b.ck ((Lx ca Jc).S.at (uB (av st)) (av st) J) (bQ st)))=J)(f:All (Lx ca Jc) W (k+1) l)(hi:wU (Lx ca Jc) W k iok)(a:∀ds h Q x,C ds h Q x->Á ds=Á ps/\M (hJ z (Á h) Q x) (pG n ds) h)(d:autoParam (b.m=M) ë):DX ca Jc W i (k+2) C:=by subst d;rwa[B.e0 n z l iok b s H f hi a]
theorem _root_.F.Lk.lF(N ps:ϐ)(z:Þ)(l:Ł _)(iok:Ϙ)(B:Lk (Lx ca Jc) W)(b:Ms ((Lx ca Jc).G l iok) (Lx ca Jc).t)(s:qp W.K ((Lx ca Jc).ca c) c3 st ps)(H:W.mg ((Lx ca Jc).S.rX c)=O (.ref ((Lx ca Jc).ca c)))(U:(!Nat.ble 80 c&&(IU N ps (av st)&&b.ck ((Lx ca Jc).S.at N (av st) bb) (bQ st)))=J)(f:All (Lx ca Jc) W (k+1) l)(hi:wU (Lx ca Jc) W k iok)(a:∀ds h Q x,(Lx ca Jc).lF c ds h Q x->Á ds=Á ps/\M (hJ z (Á h) Q λ_ _=>ŧ) (pG (Á N) ds) h)(d:autoParam (b.m=M) ë):DI ca Jc W c (k+2):=by subst d;rwa[B.ajf N ps z l iok b s H U f hi a]
def _root_.F.Lk.NJ(n:Ń)(z:Þ)(l:Ł _)(iok:Ϙ)(B:Lk (Lx ca Jc) W)(b:Ms ((Lx ca Jc).G l iok) (Lx ca Jc).t)(s:gT W.K ((Lx ca Jc).ca (c/100-1)) ((Lx ca Jc).S.rX c) c3 st ps)(H:(Ë 100 c&&(Ì (Á (uB (av st))) n&&(IU (uB (av st)) ps (av st)&&b.ck ((Lx ca Jc).S.at (uB (av st)) (av st) J) (bQ st))))=J)(f:All (Lx ca Jc) W (k+1) l)(hi:wU (Lx ca Jc) W k iok)(a:∀ds h Q x,(Lx ca Jc).lF c ds h Q x->Á ds=Á ps/\M (hJ z (Á h) Q x) (pG n ds) h)(d:autoParam (b.m=M) ë):DI ca Jc W c (k+2):=by subst d;rwa[B.ajN n z l iok b s H f hi a]
def HW(L:Lw)(W:Wd)(k:Ń):Ł (Ń×Ct)->ß|[]=>æ|(i,c)::r=>Du L W i k c/\HW L W k r
def Ic(L:Lw)(W:Wd)(k:Ń):Ϙ->ß|[]=>æ|c::r=>Dj L W c k/\Ic L W k r
theorem HW.at{W:Wd}{k:Ń}:∀{l:Ł _},HW L W k l->∀i∈l.map (·.1),Du L W i k (yd l i)|[],_,i,h=>by cases h|(j,c)::r,f,i,h=>by induction e:Ì i j with
  |d=>
   let E:yd ((j,c)::r) i=c:=by show(match Ì i j with|J=>c|bb=>yd r i)=c;rw[e]
   rw[E,aV e];rwa[f.1]|e=>
   let E:yd ((j,c)::r) i=yd r i:=by show(match Ì i j with|J=>c|bb=>yd r i)=_;rw[e]
   rw[E];erw[HW.at f.2 i ((ax.mp h).resolve_left λz=>?_)];rw[show i=j from z,tF]at e;cases e
theorem Ic.at{W:Wd}{k:Ń}:∀{l:Ϙ},Ic L W k l->l.all (Ë 100)->∀c∈l,Ë 100 c=J/\Dj L W c k
 |[],_,_,c,h=>by cases h|j::r,f,g,c,h=>by
  rw[b8]at g;rcases ax.mp h with z|z;.subst z;exact((ag g).1,f.1)
  .rwa[Ic.at f.2 (ag g).2 c z]
def _root_.F.Lk.u(n:Ń)(z:Þ)(l:Ł _)(iok:Ϙ)(B:Lk (Lx ca Jc) W)(b:Ms ((Lx ca Jc).G l iok) (Lx ca Jc).t)(s:Src W.K W.mg ((Lx ca Jc).S.gB i) st ps)(H:(Ì (Á (uB (av st))) n&&(iok.all (Ë 100)&&(IU (uB (av st)) ps (av st)&&b.ck ((Lx ca Jc).S.au (uB (av st)) (av st)) (bQ st)))))(f:HW (Lx ca Jc) W (k+1) l)(hi:Ic (Lx ca Jc) W k iok)(a:∀ds h Q x,C ds h Q x->Á ds=Á ps/\M (hJ z (Á h) Q λ_ _=>ŧ) (pG n ds) h)(d:autoParam (b.m=M) ë):UX ca Jc W i (k+2) C:=by subst d;let(e,g,j,o):=uY H;obtain rfl:=aV e;rwa[B.du _ ps z b s (jB j) o f.at (hi.at g) a]
def _root_.F.Lk.v(n:Ń)(z:Þ)(l:Ł _)(iok:Ϙ)(B:Lk (Lx ca Jc) W)(b:Ms ((Lx ca Jc).G l iok) (Lx ca Jc).t)(s:gT W.K ((Lx ca Jc).ca (c/100-1)) ((Lx ca Jc).S.rX c) c3 st ps)(H:(Ì (Á (uB (av st))) n&&(iok.all (Ë 100)&&(IU (uB (av st)) ps (av st)&&b.ck ((Lx ca Jc).S.au (uB (av st)) (av st)) (bQ st)))))(f:HW (Lx ca Jc) W (k+1) l)(hi:Ic (Lx ca Jc) W k iok)(a:∀ds h Q x,(Lx ca Jc).lF c ds h Q x->Á ds=Á ps/\M (hJ z (Á h) Q λ_ _=>ŧ) (pG n ds) h)(d:autoParam (b.m=M) ë):UI ca Jc W c (k+2):=by subst d;let(e,g,j,o):=uY H;obtain rfl:=aV e;rwa[B.dv _ ps z b s (jB j) o f.at (hi.at g) a]
def _root_.F.Lk.mtC(n:Ń)(z:Þ)(l:Ł _)(iok q:Ϙ)(B:Lk (Lx ca Jc) W)(b:Ms ((Lx ca Jc).gu (yd l) (l.map (·.1)) iok q) (Lx ca Jc).t)(s:gT W.K ((Lx ca Jc).ca (c/100-1)) ((Lx ca Jc).S.rX c) c3 st ps)(H:(Ë 100 c&&(Ì (Á (uB (av st))) n&&(IU (uB (av st)) ps (av st)&&b.ck ((Lx ca Jc).S.at (uB (av st)) (av st) J) (bQ st))))=J)(f:All (Lx ca Jc) W (k+1) l)(hi:wU (Lx ca Jc) W k iok)(hu:∀i∈q,Du (Lx ca Jc) W i (k+1) (yd l i))(a:∀ds h Q x,(Lx ca Jc).lF c ds h Q x->Á ds=Á ps/\M (hJ z (Á h) Q x) (pG n ds) h)(d:autoParam (b.m=M) Ķ6):DI ca Jc W c (k+2):=by subst d;let(e,g,j,o):=uY H;obtain rfl:=aV g;exact(ps,by delta jl;rw[e];rwa[b.acF z s (jB j) (B.gkC (xi.of f.at) hi hu) o a])
theorem _root_.F.Lk.dd{us:Ł Â}{dd:Ł Dv}{dvs:ϕ}(n:Ń)(z:Þ)(l:Ł _)(iok:Ϙ)(B:Lk (Lx ca Jc) W)(b:Ms ((Lx ca Jc).G l iok) (Lx ca Jc).t)(s:A2 W.K W.mg ((Lx ca Jc).S.gB i) st ps us)(U:(Ì (Á (uB (av st))) n&&(Ë 90 c&&!Nat.ble 100 c&&(IU (uB (av st)) ps (av st)&&b.ck ((Lx ca Jc).S.at (uB (av st)) (av st) J) (bQ st))))=J)(f:All (Lx ca Jc) W (k+1) l)(hi:wU (Lx ca Jc) W k iok)(d:∀ds h Q x,C ds h Q x->Á ds=Á ps/\M (hJ z (Á h) Q x) (pG n ds) h)(hn:(Lx ca Jc).S.rX c=(Lx ca Jc).S.gB i)(v:Vals dvs us)(e:∀G M H,cU (((Lx ca Jc).y W).z G) M H dd dvs)(g:∀ds h Q x,(Lx ca Jc).lF c ds h Q x->C (ds++dd) h Q x)(j:autoParam (b.m=M) ë):DX ca Jc W i (k+2) C/\DI ca Jc W c (k+2):=by subst j;let(o,a,p,q):=uY U;obtain rfl:=aV o;rwa[B.ah9 _ ps z b s (jB p) q (xi.of f.at) hi d (ag a).1 (gm (ag a).2) hn v e g]
end
def pH{n:Ń}(h:Ë n 1000000):sA n=true:=ŭ (aj (aI h) ∅)
def iS{r:Wk×α}(h:vG o k x=O r):(∃w n,o=O (w,.v n)/\k w n=O r)\/∃w c,o=O (w,.x c)/\r=(w,x c):=by delta vG at h;induction o with|a=>cases h|c p=>let(w,u):=p;induction u with|v n=>rwa[.inl (w,n,Ŗ,h)]|x c=>cases h;rwa[.inr (w,c,Ŗ,Ŗ)]
def bd{α β:Type}{o:Ő α}{f:α->Ő β}{b:β}(h:o.bind f=O b):∃a,o=O a/\f a=O b:=Option.bind_eq_some_iff.mp h
theorem mp{α β:Type}{o:Ő α}{f:α->β}{b:β}(h:o.map f=O b):∃a,o=O a/\b=f a:=by let(a,e,f):=dF.mp h;exact(a,e,f.symm)
def bf{α:Type}{a:α}{o:Ő α}(h:(bif c then o else ao)=O a):c/\o=O a:=by induction c with|d=>exact(Ŗ,h)|e=>cases h
theorem zE{g:α->Pv}:∀{l:Ł _},jS (.S z) (l.map λp=>.S p.1) (l.map λp=>g p.2)=(kK z l).map g|[]=>Ŗ|p::r=>by show(match cE p.1 z with|J=>O _|bb=>jS _ _ _)=è g (match cE p.1 z with|J=>O p.2|bb=>kK z r);induction cE p.1 z with|d=>rfl|e=>rwa[zE]
theorem LW{g:α->Pv}{n:Ń}:∀{l:Ł _},jS (.I n) (l.map λp=>iP p.1) (l.map λp=>g p.2)=(gO n l).map g|[]=>Ŗ|p::r=>by let e:nq p.1 n=Ì p.1 n:=Ŗ;show(match nq p.1 n with|J=>O _|bb=>jS _ _ _)=è g (match Ì p.1 n with|J=>O p.2|bb=>gO n r);rw[e];induction Ì p.1 n with|d=>rfl|e=>rwa[LW]
theorem DG:∀{l:ϐ}{n:Ń},jS (.S z) (l.map .S) (jU l n)=(pos z l n).map iP|[],_=>Ŗ|y::r,n=>by show(match cE y z with|J=>O _|bb=>jS _ _ _)=è iP (match cE y z with|J=>O n|bb=>pos z r _);induction cE y z with|d=>rfl|e=>rwa[DG]
def ui:rq (xs++[x]) (-1)=O x:=by show(match Ë (0+1) _ with|J=>(xs++[x])[Á _-(0+1)]?|bb=>ao)=_;rw[aq];show(xs++[x])[xs.length]?=_;rw[aQ (ah _),fM];rfl
def qA:eG (xs++[x]) ao (O (-1))=xs:=by show((xs++[x]).take _).drop 0=xs;rw[aq,b6,AU,fz,oU]
theorem gK:∀{l:Ł Fr},(jA l).length=l.length|[]=>Ŗ|x::r=>by show(jA r++[x.p]).length=_;rw[aq,gK];rfl
def ZD:rq (jA (x::r)) ((jA (x::r)).length-1)=O x.p:=by rw[show((jA _).length-1:Î)=r.length by rw[gK,aR];lia];show(jA r++[x.p])[r.length]?=_;rw[aQ (by rw[gK];rwa[ah _]),gK,fM];rfl
def Al(e:own P w=O p):w.fr=p.1::p.2.1/\kK p.1.f P.ow=O p.2.2:=by
 delta own at e;split at e;.cases e
 .ext x r h;let(o,E,rfl):=mp e;exact(h,E)
def JJ(e:nZ w=O p):∃x r,w.fr=x::r/\p=x.pt:=by
 delta nZ at e;split at e;.cases e
 .ext x r h;cases e;exact(x,r,h,Ŗ)
inductive pM:Ct|mk{xs ys:ϑ}{i:Ń}{x:Pv}{h:Hs}{Q:Dv->Hs->ß}{xc:XP}(e:rp xs i x=O ys)(q:Q (.p (.T ys)) h):pM [.p (.T xs),.p (.I (i:Ń)),.p x] h Q xc
abbrev sm(P:Pn)(fs:ϑ)(w:Wk)(rd W:Ł (Ł cs)):Hs:=[.I 1 [.p P.p,.p (.T (w.bx.map nP)),.p (.T (ro w.ls)),.p (.T fs),.p (.T (w.ak.map iP)),.p (.T (w.td.map nP)),.p (.B w.bk),.r 1,.r 2],.K rd,.K W]
def YY(B:LX ca Jc W)(S:SX ca W):UI ca Jc W 205 2:=by erw[B.v 3 bb [] [] (.set 2 (.b2 A7 (.bi eQ (.u (.fld 1 3 0))) (.i 1))<|>.iff (.din bb 1 (.sM (.fld 2 2 (.fld 1 0 0)) (.ix (.ix (.fld 1 3 0) 2) (.i 0)))) (.re (.key (.u3 (.s "own") 2 1))) .nil<|>.re (.key (.u2 (.s "box") 1))) S.ajA rfl Ť Ť λds h Q X c=>?_];induction c with|@mk P w a A x Q X r q=>
  let(z,c,rfl,rfl,e,rfl):=r;let(p,E,rfl):=mp e;let(H,o):=Al E;let d:((jA a.fr).length-1:Î)=p.2.1.length:=by rw[gK,H,aR];lia
  erw[(Ŗ,bt (show rq _ _=O p.1.p by rw[H];rwa[ZD]) (bt (zE.trans (by rw[o];rfl)) ?_))];show br (jS _ _ _).isSome _ _;rw[DG];revert q;induction pos z _ 0 with|a=>rwa[λq=>bK (pH (n:=2) Ŗ) q]|c i=>intro q;erw[bK (pH (n:=3) Ŗ) ?_];simp only[d];rwa[q]
def acD(B:LX ca Jc W)(S:SX ca W):UX ca Jc W 8 2 pM:=by erw[B.u 3 bb [] [] (.re (.b2 eT (.b2 eT (.sl 0 .no (.of 1)) (.tup (.u 2))) (.sl 0 (.of (.b2 eT 1 (.i 1))) .no))) S.J2 rfl Ť Ť λds h Q b c=>?_];cases c with|@mk X y i x _ _ _ e q=>
  let(c,e):=bf e;cases e;let(C,a):=ag c;let H:i<X.length:=aI C;let h2:=aI a;erw[(Ŗ,bK (pH (n:=((X.take i).drop 0).length+1) (b'.mpr ?_)) (bK (pH (n:=((X.take i).drop 0++[x]).length+(X.drop (i+1)).length) (b'.mpr ?_)) ?_))];.rw[fz,bX];lia
  .rw[fz,aq,bX,eA,b6];lia
  .show Q _ h;rw[List.set_eq_take_append_cons_drop,b5 H]at q;rw[bw];rwa[q]
def RS(B:LX ca Jc W)(S:SX ca W):UI ca Jc W 201 2:=by erw[B.v 1 bb [] [] (.re (.ix (.ix (.fld 1 3 0) (.neg (.i 1))) (.i 2))) S.ajw rfl Ť Ť λds h Q X c=>?_];induction c with|@mk P w a A x Q X r q=>let(rfl,rfl,p,e,rfl):=r;let(x,r,H,rfl):=JJ e;exact(Ŗ,bt (show rq _ _=O x.p by rw[H];rwa[ui]) q)
def RM(B:LX ca Jc W)(S:SX ca W):UI ca Jc W 203 2:=by erw[B.v 1 bb [] [] (.one (.fS 1 3 (.sl (.fld 1 3 0) .no (.of (.neg (.i 1)))) 0)) S.ajy rfl Ť Ť λds h Q X c=>?_];induction c with|@mk P w a A x Q X r q=>let(rfl,e,rfl):=r;let(b,l,fr,k,t,bk,rd,d):=w;cases fr with|f=>cases e|g x r=>cases e;erw[(Ŗ,?_)];show Q _ (sm _ (eG (jA r++[x.p]) _ _) _ _ _);rw[qA];rwa[q]
def Y4(B:LX ca Jc W)(S:SX ca W):UI ca Jc W 202 2:=by erw[B.v 5 bb [] [] (.Kp [2,3,4] (.ix (.fld 1 3 0) (.neg (.i 1)))<|>.one (.fS 1 3 (.b2 eT (.sl (.fld 1 3 0) .no (.of (.neg (.i 1)))) (.tup (.u (.tup (.u3 2 3 1))))) 0)) S.ajx rfl Ť Ť λds h Q X c=>?_];induction c with|@mk P w a A x Q X r q=>let(p,rfl,e,rfl):=r;let(b,l,fr,k,t,bk,rd,d):=w;cases fr with|f=>cases e|g x r=>let(c,e):=bf e;cases e;let h1:=aI c;erw[(Ŗ,bt ui ?_)];show gd (sA ((eG (jA r++[x.p]) _ _).length+1)) (Q _ (sm _ (eG (jA r++[x.p]) _ _++[_]) _ _ _));rw[qA];rwa[bK (pH (b'.mpr (by rw[gK];rwa[aj ‹_› ⋯]))) q]
def pV(e:kA κ ks=O u):sA (ks.length+1)/\u=Ej κ ks:=by let(c,e):=bf e;cases e;exact(pH (b'.mpr (by let:=aI c;rwa[aj ‹_› ⋯])),Ŗ)
def wD{g:α->Pv}(e:rp l i x=O L):rp (l.map g) i (g x)=O (L.map g):=by delta rp at e⊢;rw[ae];let(c,e):=bf e;cases e;rw[c,List.map_set];rfl
def jx{α:Type}{g:α->Pv}{l:Ł α}{i:Ń}{x:α}(e:l[i]?=O x):rq (l.map g) i=O (g x):=by show(l.map g)[i]?=_;rw[aM,e];rfl
def C9{w:Wk}(h:w.fr=x::r):rq (jA w.fr) (-1)=O x.p:=by rw[h];rwa[ui]
def vJ(e:pos z l n=O i):jS (.S z) (l.map .S) (jU l n)=O (iP i):=DG.trans (by rw[e];rfl)
def vL{g:α->Pv}(e:kK z l=O x):jS (.S z) (l.map λp=>.S p.1) (l.map λp=>g p.2)=O (g x):=zE.trans (by rw[e];rfl)
def j6{g:α->Pv}(e:gO n l=O x):jS (.I n) (l.map λp=>iP p.1) (l.map λp=>g p.2)=O (g x):=LW.trans (by rw[e];rfl)
def Bc(e:own P w=O p)(h:pos z p.2.2 0=ao):cell P w z=O (Ei z):=by delta cell;rw[e];show O (match pos z _ 0 with|O _=>_|ao=>_)=_;rw[h]
def vj(e:own P w=O p)(h:pos z p.2.2 0=O i):cell P w z=O (xC p.2.1.length z):=by delta cell;rw[e];show O (match pos z _ 0 with|O _=>_|ao=>_)=_;rw[h]
section
variable{ca:Ń->À}{Jc:Ń->Ct}{W:Wd}
def RT(B:LX ca Jc W)(S:SX ca W)(D:UI ca Jc W 205 2):DI ca Jc W 206 4:=by erw[B.NJ 6 bb [] [205] (.set 2 (.me 205 0 (.u 1))<|>.Ek (.c (.B J)) (.fld 1 7 0) 2<|>.iff (.cmp jy (.kix 0 2) (.s "box")) (.re (.ix (.fld 1 1 0) (.sM (.fld 2 0 (.fld 1 0 0)) 1))) .nil<|>.Kp [3,4,5] (.ix (.fld 1 3 0) (.neg (.i 1)))<|>.re (.ix 4 (.sM (.sM (.fld 2 2 (.fld 1 0 0)) 3) 1))) S.ajB rfl Ť (D.di Ŗ,Ť) λds h Q X c=>?_];induction c with|@mk P w j as x Q X r q=>let(z,n,rfl,e,rfl):=r;let(p,E,e):=bd e;let(f,o):=Al E;induction H:pos z _ 0 with|a=>rw[H]at e;let(k,a,e):=bd e;let(i,g,e):=bd e;let(m,b,e):=mp e;cases e;let(d,rfl):=pV a;exact(Ŗ,iR.mk (as:=[.S z]) (z,_,Ŗ,Ŗ,Bc E H,Ŗ) (bK d (bt (vJ g) (bt (jx b) q))))|c i=>rw[H]at e;let(k,a,e):=bd e;let(m,b,e):=mp e;cases e;let(d,rfl):=pV a;exact(Ŗ,iR.mk (as:=[.S z]) (z,_,Ŗ,Ŗ,vj E H,Ŗ) (bK d (bt (C9 f) (bt (vL o) (bt (vJ H) (bt (jx b) q))))))
def RZ(B:LX ca Jc W)(S:SX ca W)(D:UI ca Jc W 205 2)(g:UX ca Jc W 8 2 pM):UI ca Jc W 207 4:=by erw[B.v 7 bb [(8,pM)] [205] (.set 3 (.me 205 0 (.u 1))<|>.Ek (.c (.B J)) (.fld 1 8 0) 3<|>.one (.iff (.cmp jy (.kix 0 3) (.s "box")) (.one (.fS 1 1 (.cl 8 [] (.u3 (.fld 1 1 0) (.sM (.fld 2 0 (.fld 1 0 0)) 1) 2)) 0)) (.Kp [4,5,6] (.ix (.fld 1 3 0) (.neg (.i 1)))<|>.set 5 (.cl 8 [] (.u3 5 (.sM (.sM (.fld 2 2 (.fld 1 0 0)) 4) 1) 2))<|>.one (.fS 1 3 (.b2 eT (.sl (.fld 1 3 0) .no (.of (.neg (.i 1)))) (.tup (.u (.tup (.u3 4 5 6))))) 0)))) S.ajC rfl (g.le (bj _),Ť) (D,Ť) λds h Q X c=>?_];induction c with|@mk P w t as x Q X r q=>let(z,n,rfl,e,rfl):=r;let(p,E,e):=bd e;let(f,o):=Al E;induction H:pos z p.2.2 0 with|a=>rw[H]at e;let(k,a,e):=bd e;let(i,j,e):=bd e;let(m,b,e):=mp e;cases e;let(d,rfl):=pV a;exact(Ŗ,iR.mk (as:=[.S z]) (z,_,Ŗ,Ŗ,Bc E H,Ŗ) (bK d (bt (vJ j) (pM.mk (wD b) q))))|c i=>
   rw[H]at e;let(k,a,e):=bd e;let(N,b,e):=bd e;let(c,e):=bf e;cases e;let(d,rfl):=pV a;erw[(Ŗ,iR.mk (as:=[.S z]) (z,_,Ŗ,Ŗ,vj E H,Ŗ) (bK d (bt (C9 f) (bt (vL o) (bt (vJ H) (pM.mk (wD b) ?_))))))];show gd (sA ((eG (jA w.fr) ao (O (-1))).length+1)) (Q _ (sm _ (eG (jA w.fr) ao (O _)++[_]) _ _ _));let l:eG (jA w.fr) ao (O (-1))=jA p.2.1:=by rw[f];rwa[qA]
   rw[l];rwa[bK (pH (b'.mpr (by let:=aI c;rw[gK];rwa[aj ‹_› ⋯]))) q]
def RU(B:LX ca Jc W)(S:SX ca W):DI ca Jc W 208 2:=by erw[B.NJ 2 bb [] [] (.Ek (.c (.B J)) (.fld 1 7 0) (.key (.u2 (.s "list") 1))<|>.re (.ix (.fld 1 2 0) (.sM (.fld 2 1 (.fld 1 0 0)) 1))) S.ajD rfl Ť Ť λds h Q X c=>?_];induction c with|@mk P w d A x Q X r q=>let(z,l,rfl,e,rfl):=r;let(k,E,e):=bd e;let(i,a,e):=bd e;let(m,b,e):=mp e;cases e;let(H,rfl):=pV E;exact(Ŗ,bK H (bt (vJ a) (bt (jx b) q)))
def R0(B:LX ca Jc W)(S:SX ca W)(D:UX ca Jc W 8 2 pM):DI ca Jc W 209 4:=by erw[B.NJ 3 bb [(8,pM)] [] (.Ek (.c (.B J)) (.fld 1 8 0) (.key (.u2 (.s "list") 1))<|>.one (.fS 1 2 (.cl 8 [] (.u3 (.fld 1 2 0) (.sM (.fld 2 1 (.fld 1 0 0)) 1) 2)) 0)) S.ajE rfl ((D.le (bj _)).dt,Ť) Ť λds h Q X c=>?_];induction c with|@mk P w d A x Q X r q=>let(z,l,rfl,e,rfl):=r;let(k,E,e):=bd e;let(i,a,e):=bd e;let(m,b,e):=mp e;cases e;let(H,rfl):=pV E;exact(Ŗ,bK H (bt (vJ a) (pM.mk (wD b) q)))
inductive vg:Ct|mk{fr:Ł Fr}{h:Hs}{Q:Dv->Hs->ß}{xc:XP}(q:Q (.p (.S (Qf fr))) h):vg [.p (.T (jA fr))] h Q xc
def acI{A B C:Sm}{X:XP}{σ:Es}{h:Hs}{Q:KP}{d:Pv}(H:∀a:KP,a [.p (Zh g l)] h->A X σ h a)(b:∀a:KP,a [.p (.S z)] h->B X σ h a)(c:∀a:KP,a [.p d] h->C X σ h a)(q:Q [.p (((kK z l).map g).getD d)] h):O9 A B C X σ h Q:=by erw[H _ ?_];erw[bK (by rfl) (b _ (bt (by rfl) (c _ (bt (bU (λo=>O _) zE) ?_))))];revert q;induction kK z l with|a=>rwa[λq=>q]|c x=>rwa[λq=>q]
def LG(B:LX ca Jc W)(S:SX ca W):DI ca Jc W 300 2:=by erw[B.NJ 4 bb [] [] (.set 3 (.dg2 (.fld 2 4 0) 1 (.tup .nil))<|>.re (.Qz (.cmp KI 2 (.bi eQ (.u 3))) (.ix 3 2) (.i 0))) S.ajG rfl Ť Ť λds h Q x c=>?_];induction c with|@mk P d a h Q x q=>erw[(Ŗ,?_)];erw[acI (λ_ q=>q) (λ_ q=>q) (λ_ q=>q) ?_];delta sK at q;revert q;induction kK d _ with|a=>intro q;rwa[q]|c n=>
   intro q;change Q (.p (nP (n[a]?.getD 0))) h at q;erw[dX (λe=>?_) λe=>?_]
   .let e:=f9.mp e;rw[ae]at e;let H:a<n.length:=()
    rw[ar H]at q;rwa[bt (jx (ar H)) q]
   .let e:=bB.mp e;rw[ne_eq,f9,ae]at e;rw[fC ()]at q;rwa[q]
def acA(B:LX ca Jc W)(S:SX ca W)(D:DI ca Jc W 300 2)(b:UX ca Jc W 8 2 pM):DI ca Jc W 210 4:=by erw[B.NJ 4 bb [(8,pM)] [300] (.set 2 (.sM (.fld 2 3 (.fld 1 0 0)) 1)<|>.set 3 (.ix (.fld 1 4 0) 2)<|>.fS 1 4 (.cl 8 [] (.u3 (.fld 1 4 0) 2 (.b2 eT 3 (.i 1)))) 0<|>.re (.me 300 (.fld 1 0 0) (.u2 1 3))) S.ajF rfl ((b.le (bj _)).dt,Ť) (D,Ť) λds h Q X c=>?_];induction c with|@mk P w j A x Q X r q=>let(d,n,rfl,e,rfl):=r;let(i,E,e):=bd e;let(a,f,e):=bd e;let(k,g,e):=mp e;cases e;exact(Ŗ,bt (vJ E) (bt (jx f) (pM.mk (wD g) (.mk q))))
def LU(B:LX ca Jc W)(S:SX ca W):DX ca Jc W 7 2 vg:=by erw[B.e 1 bb [] [] (.iff (.bo (Wm.ac (.cmp jy (.bi eQ (.u 0)) (.i 1)) (Wm.a1 (.cmp jy (.ix (.ix 0 (.i 0)) (.i 2)) (.g 0))))) (.re (.s "done")) .nil<|>.re (.s "on")) S.OT rfl Ť Ť λds h Q x c=>?_];induction c with|@mk fr h Q x q=>
  erw[(Ŗ,?_)];rcases fr with _|⟨⟨f,N,pt⟩,_|⟨y,r⟩⟩;.rwa[q]
  .induction pt with|a=>rwa[q]|c n=>rwa[q]
  .erw[FW (bB.mpr λz=>?_) (by induction pt<;>rwa[q])];let:=qF.mp (show nq (jA _).length 1=J from z);rw[gK,aR,aR]at this;lia
def RV(B:LX ca Jc W)(S:SX ca W)(D:DX ca Jc W 7 2 vg):DI ca Jc W 200 4:=by erw[B.NJ 2 bb [(7,vg)] [] (.set 1 (.Qz (.val (.fld 1 6 0)) (.s "broken") (.cl 7 [] (.u (.fld 1 3 0))))<|>.re (.tup (.cons (.fld 1 1 0) (.u5 (.fld 1 2 0) (.fld 1 3 0) (.fld 1 4 0) (.fld 1 5 0) 1)))) S.ajv rfl (D.le (bj _),Ť) Ť λds h Q X c=>?_];induction c with|@mk P w a A x Q X r q=>let(rfl,rfl,rfl):=r;erw[(Ŗ,?_)];delta Wk.p Wk.wo at q;show br _ _ _;revert q;induction a.bk with|d=>rwa[λq=>q]|e=>rwa[λq=>.mk q]
def Y8(B:LX ca Jc W)(S:qp W.K (ca 1) "Work.__init__" (c8 (top 30) 0) ["self","plan","state"])(H:W.mg "Work"=O (.ref (ca 1))):DI ca Jc W 1 2:=by erw[Lk.lF ["self","plan","state"] _ bb [] [] B (.fS 1 0 1 0<|>.fS 1 1 (.ix 2 (.i 0)) 0<|>.fS 1 2 (.ix 2 (.i 1)) 0<|>.fS 1 3 (.ix 2 (.i 2)) 0<|>.fS 1 4 (.ix 2 (.i 3)) 0<|>.fS 1 5 (.ix 2 (.i 4)) 0<|>.fS 1 6 (.c (.B bb)) 0<|>.fS 1 7 .TQ 0<|>.one (.fS 1 8 .TQ 0)) S H rfl Ť Ť λds h Q x c=>?_];induction c with|@mk P w Q x q=>exact(Ŗ,q)
theorem mQ:∀{o:ϐ}{n:Ń},z∈o->∃i,pos z o n=O i|y::r,n,h=>by show ∃i,(match cE y z with|J=>O n|bb=>pos z r _)=O i;induction e:cE y z with|d=>lia|e=>
   rcases ax.mp h with h|h;.subst h;rw[bN.mpr Ŗ]at e;cases e
   .rwa[mQ h]
def eY:gq (o.map Pv.S)=O o:=by induction o with|f=>rfl|g y r i=>rw[cF,gq,i]
inductive JE(P:Pn)(w:Wk)(f:Å)(vs:Ł Nm)(o:ϐ)(p:Ő Ń)(k:Ł (Ł cs))(post:ϑ):Es->Hs->ß|mk{x:Ő Dv}{po:ϐ}{ks:Ł (Ł cs)}(hp:post=po.map Pv.S)(hm:∀z∈po,z∈o)(e:xQ w.fr.length po ks=O k):JE P w f vs o p k post [O (.r 0),O (.p (.S f)),O (.p (.L (vs.map nP))),O (.p (kL o)),O (.p (.T ((vs++Ò (o.length-vs.length) 0).map nP))),x] (yO P {w with wr:=ks,fr:=(f,vs++Ò (o.length-vs.length) 0,p)::w.fr})
def RJ(B:LX ca Jc W)(S:SX ca W)(D:UI ca Jc W 205 2):DI ca Jc W 204 4:=by erw[B.NJ 6 bb [] [205] (.set 3 (.sM (.fld 2 2 (.fld 1 0 0)) 1)<|>.set 4 (.b2 eT (.bi tS (.u 2)) (.b2 uZ (.tup (.u (.i 0))) (.b2 A7 (.bi eQ (.u 3)) (.bi eQ (.u 2)))))<|>.fS 1 3 (.b2 eT (.fld 1 3 0) (.tup (.u (.tup (.u3 1 4 (.sM (.fld 3 7 (.fld 2 5 (.fld 1 0 0))) 1)))))) 0<|>.one (.foP (.one 5) 3 (.one (.Ek (.c (.B J)) (.fld 1 8 0) (.me 205 0 (.u 5)))))) S.ajz rfl Ť (D.di Ŗ,Ť) λds h Q X c=>?_];induction c with|@mk P w w' as x Q X r q=>
  let(f,v,rfl,e,rfl):=r;let(o,d,e):=bd e;let(p,n,e):=bd e;let(c,e):=bf e;let(k,s,e):=mp e;subst e;let(C,t,A):=qr c;let h1:=aI C;let h2:=aI t;let h3:w.fr.length<1000:=aI A;let g:(((o.map Pv.S).length:Ń)-((v.map nP).length:Ń):Î)=((o.length-v.length:Ń):Î):=by rw[ae,ae];lia
  let hn:(Ò (((o.map Pv.S).length:Ń)-((v.map nP).length:Ń):Î).toNat [Pv.I 0]).flatten=(Ò (o.length-v.length) (0:Nm)).map nP:=by rw[g,List.map_replicate];show(Ò (o.length-v.length) [Pv.I 0]).flatten=Ò (o.length-v.length) (Pv.I 0);generalize o.length-v.length=m;induction m with|h=>rfl|j m F=>rw[yS,List.flatten_cons,F];rfl
  erw[(Ŗ,bt (vL d) (bK ?_ (bK ?_ (bt (vL n) (bK ?_ ?_)))))];.show(uC 0 (((o.map Pv.S).length:Ń)-((v.map nP).length:Ń):Î)&&(uC (((o.map Pv.S).length:Ń)-((v.map nP).length:Ń):Î) 1000&&J))=J;rw[g,gN.mpr (),gN.mpr ()];rfl
  .show sA ((v.map nP).length+((Ò (((o.map Pv.S).length:Ń)-((v.map nP).length:Ń):Î).toNat [Pv.I 0]).flatten).length)=J;rw[hn,ae,ae,cC];rwa[pH (b'.mpr ())]
  .show sA ((jA w.fr).length+1)=J;rw[gK];rwa[pH (b'.mpr (aj ‹_› ∅))]
  show gC (gq (o.map .S)) (λ_=>DQ _ _ _ _ _ [O (.r 0),O (.p (.S f)),O (.p (.L (v.map nP))),O (.p (kL o)),O (.p (.T (v.map nP++(Ò (((o.map Pv.S).length:Ń)-((v.map nP).length:Ń):Î).toNat [Pv.I 0]).flatten))),ao] (sm P (jA w.fr++[.T [.S f,.T (v.map nP++(Ò (((o.map Pv.S).length:Ń)-((v.map nP).length:Ń):Î).toNat [Pv.I 0]).flatten),eZ p]]) w w.rd w.wr)) ŧ;rw[hn,<-aH];erw[bt eY (iT (λ_=>JE P w f v o p k) (.mk (x:=ao) Ŗ (λ_ h=>h) s) (λpre x post b G ex j=>?_) λb G j=>?_)];.induction j with|@mk y a K l H E=>cases a with|f=>done|g z a=>
   cases l;let(i,M):=mQ (H z aJ);let(uA,N,R):=bd E;let(U,rfl):=pV N;let Y:own P {w with wr:=K,fr:=(f,v++Ò (o.length-v.length) 0,p)::w.fr}=O ((f,v++Ò (o.length-v.length) 0,p),w.fr,o):=by show(kK f _).map _=_;rw[d];rfl
   rwa[iR.mk (as:=[.S z]) (z,_,Ŗ,Ŗ,vj Y M,Ŗ) (bK U (JE.mk Ŗ (λy Z=>H y (aG _ Z)) R))]
  .induction j with|@mk y a K l H E=>induction a with|g z a=>done|f=>cases E;rwa[q]
def Ou.k(Q:Dv->Hs->ß)(X:XP)(h:Hs):Ou->ß|.v n=>Q (.p (nP n)) h|.x c=>X (1000+c) h
inductive uj(k:Op):Ct|mk{a b:Nm}{h:Hs}{Q:Dv->Hs->ß}{xc:XP}(q:(k.f a b).k Q xc h):uj k [.p (nP a),.p (nP b)] h Q xc
inductive A9:Ct|ok{l:Ł Nm}{n:Nm}{h:Hs}{Q:Dv->Hs->ß}{xc:XP}(e:n.val<l.length)(q:Q (.p .N) h):A9 [.p (.T (l.map nP)),.p (nP n)] h Q xc|no{l:Ł Nm}{n:Nm}{h:Hs}{Q:Dv->Hs->ß}{xc:XP}(e:l.length<=n.val)(q:xc 1002 h):A9 [.p (.T (l.map nP)),.p (nP n)] h Q xc
inductive jd(d:Ń):Ct|mk{P:Pn}{w w':Wk}{v:Vx}{u:Ou}{Q:Dv->Hs->ß}{xc:XP}(hd:v.dp<d)(e:ev P v w=O (w',u))(q:u.k Q xc (yO P w')):jd d [.r 0,.p v.p] (yO P w) Q xc
inductive cIt(d:Ń):Ct|mk{P:Pn}{w w':Wk}{z:Å}{v:Vx}{u:Ou}{Q:Dv->Hs->ß}{xc:XP}(hd:v.dp<d)(e:ev P (.i z v) w=O (w',u))(q:u.k Q xc (yO P w')):cIt d [.r 0,.p (Vx.i z v).p] (yO P w) Q xc
def Ro(a b:Nm):zk a.val b.val=true:=by let:=b.isLt;delta zk j';rw[aB (show(b.val:Î).natAbs<=18446744073709551615 by lia)];rfl
def FZ(a:Nm){b:Nm}(h:Ì b.val 0=bb):Q4 a.val b.val=true:=by
 let:b.val≠0:=λz=>nofun
 delta Q4;rw[cM (),cM ()];rfl
def zN{a b:Ń}:nq a b=Ì a b:=rfl
def ur{a:Ń}:nq a 0=Ì a 0:=zN
def Nr{a b:Ń}:uC a b=Ë a b:=rfl
def NK{a b:Ń}(h:Ë a b=bb):b<a:=Nat.lt_of_not_le λz=>by rw[aB z]at h;cases h
def wa{a b:Ń}:tV a b=Ñ a b:=rfl
def Zb(B:LX ca Jc W)(S:SX ca W):DX ca Jc W 9 2 (uj .pl):=by erw[B.e 2 bb [] [] (.re (.b2 o5 (.b2 eT 0 1) (.g 2))) S.aeQ rfl Ť Ť λds h Q x c=>?_];induction c with|@mk a b h Q x q=>done
def RN(B:LX ca Jc W)(S:SX ca W):DX ca Jc W 10 2 (uj .mi):=by erw[B.e 2 bb [] [] (.re (.b2 o5 (.b2 A7 0 1) (.g 2))) S.aak rfl Ť Ť λds h Q x c=>?_];induction c with|@mk a b h Q x q=>erw[(Ŗ,?_)];show Q (.p (.I ((a.val-b.val)%1000000))) h;rw[show((a.val-b.val)%1000000:Î)=(a-b).val by let:=b.isLt;rw[Fin.val_sub];lia];rwa[q]
def RW(B:LX ca Jc W)(S:SX ca W):DX ca Jc W 11 2 (uj .ti):=by erw[B.e 2 bb [] [] (.re (.b2 o5 (.b2 A6 0 1) (.g 2))) S.aam rfl Ť Ť λds h Q x c=>?_];induction c with|@mk a b h Q x q=>exact(Ŗ,bK (Ro a b) q)
def Za(B:LX ca Jc W)(S:SX ca W):DX ca Jc W 12 2 (uj .ov):=by erw[B.e 2 bb [] [] (.iff (.cmp jy 1 (.i 0)) (.one (.mS (.g 3))) .nil<|>.re (.b2 zd 0 1)) S.aeP rfl Ť Ť λds h Q X c=>?_];induction c with|@mk a b h Q X q=>erw[(Ŗ,?_)];show br (nq b.val 0) (X 1001 h) (gd _ (Q _ h));rw[ur];change Ou.k Q X h (bif Ì _ 0 then .x 1 else .v _)at q;revert q;induction H:Ì _ 0 with|d=>rwa[λq=>q]|e=>rwa[λq=>bK (FZ a H) q]
def Zd(B:LX ca Jc W)(S:SX ca W):DX ca Jc W 13 2 (uj .re):=by erw[B.e 2 bb [] [] (.iff (.cmp jy 1 (.i 0)) (.one (.mS (.g 3))) .nil<|>.re (.b2 o5 0 1)) S.aeR rfl Ť Ť λds h Q X c=>?_];induction c with|@mk a b h Q X q=>erw[(Ŗ,?_)];show br (nq b.val 0) (X 1001 h) (gd _ (Q _ h));rw[ur];change Ou.k Q X h (bif Ì _ 0 then .x 1 else .v _)at q;revert q;induction H:Ì _ 0 with|d=>rwa[λq=>q]|e=>rwa[λq=>bK (ag (FZ a H)).1 q]
def Y3(B:LX ca Jc W)(S:SX ca W):DX ca Jc W 14 2 (uj .le):=by erw[B.e 2 bb [] [] (.re (.Qz (.cmp KI 0 1) (.i 1) (.i 0))) S.aeO rfl Ť Ť λds h Q x c=>?_];induction c with|@mk a b h Q x q=>erw[(Ŗ,?_)];show br _ (Q _ h) (Q _ h);rw[wa];change Q _ h at q;revert q;induction Ñ _ _ with|d=>rwa[λq=>q]|e=>rwa[λq=>q]
def Ze(B:LX ca Jc W)(S:SX ca W):DX ca Jc W 15 2 (uj .sa):=by erw[B.e 2 bb [] [] (.re (.Qz (.cmp jy 0 1) (.i 1) (.i 0))) S.aeS rfl Ť Ť λds h Q x c=>?_];induction c with|@mk a b h Q x q=>erw[(Ŗ,?_)];show br (nq a.val b.val) (Q _ h) (Q _ h);rw[zN];change Q _ h at q;revert q;induction Ì _ _ with|d=>rwa[λq=>q]|e=>rwa[λq=>q]
def RE(B:LX ca Jc W)(S:SX ca W):DX ca Jc W 18 2 A9:=by erw[B.e 2 bb [] [] (.one (.iff (.cmp rn 1 (.bi eQ (.u 0))) (.one (.mS (.g 4))) .nil)) S.Au rfl Ť Ť λds h Q x c=>?_];induction c with|@ok l n h Q x e q=>erw[(Ŗ,FW (c:=uC _ _) (bB.mpr λz=>?_) q)];let:=gN.mp z;rw[ae]at this;lia|@no l n h Q x e q=>exact(Ŗ,rV (c:=uC _ _) (gN.mpr nofun) q)
structure A3(ca:Ń->À)(Jc:Ń->Ct)(W:Wd):ß where
 a0:DI ca Jc W 200 4a1:UI ca Jc W 201 4a2:UI ca Jc W 202 4a3:UI ca Jc W 203 4a4:DI ca Jc W 204 4a6:DI ca Jc W 206 4a7:UI ca Jc W 207 4a8:DI ca Jc W 208 4a9:DI ca Jc W 209 4a10:DI ca Jc W 210 4nw:DI ca Jc W 1 4rep:UX ca Jc W 8 4 pM
 pl:DX ca Jc W 9 4 (uj .pl)mi:DX ca Jc W 10 4 (uj .mi)ti:DX ca Jc W 11 4 (uj .ti)ov:DX ca Jc W 12 4 (uj .ov)re:DX ca Jc W 13 4 (uj .re)le:DX ca Jc W 14 4 (uj .le)sa:DX ca Jc W 15 4 (uj .sa)ch:DX ca Jc W 18 4 A9
def Zg(B:LX ca Jc W)(S:SX ca W)(s:qp W.K (ca 1) "Work.__init__" (c8 (top 30) 0) ["self","plan","state"])(h:W.mg "Work"=O (.ref (ca 1))):A3 ca Jc W:=let D:=YY B S;let R:=acD B S;(RV B S (LU B S),(RS B S).le (aD _ _),(Y4 B S).le (aD _ _),(RM B S).le (aD _ _),RJ B S D,RT B S D,RZ B S D R,(RU B S).le (aD _ _),R0 B S R,acA B S (LG B S) R,(Y8 B s h).le (aD _ _),R.le (aD _ _),(Zb B S).le (aD _ _),(RN B S).le (aD _ _),(RW B S).le (aD _ _),(Za B S).le (aD _ _),(Zd B S).le (aD _ _),(Y3 B S).le (aD _ _),(Ze B S).le (aD _ _),(RE B S).le (aD _ _))
def Y1(B:LX ca Jc W)(S:SX ca W)(M:A3 ca Jc W)(h:4<=k)(D:DX ca Jc W 16 (k+1) (jd d)):DX ca Jc W 17 (k+2) (cIt d):=by erw[B.e 4 bb [(16,jd d),(18,A9)] [208] (.set 2 (.x8 16 (.u2 0 (.ix 1 (.i 2))))<|>.set 3 (.me 208 0 (.u (.ix 1 (.i 1))))<|>.ex (.cl 18 [] (.u2 3 2))<|>.re (.ix 3 2)) S.aeN rfl (D,M.ch.le (aS ‹_›),Ť) (M.a8.le h,Ť) λds h Q x c=>?_];induction c with|@mk P w f z v u Q x H e q=>
  erw[(Ŗ,?_)];rcases iS e with ⟨a,n,E,e⟩|⟨a,c,E,e⟩;.let(p,b,e):=mp e;cases e;erw[jd.mk H E (iR.mk (as:=[.S z]) (z,p.2,Ŗ,b,Ŗ) ?_)];delta xx at q;induction hn:p.2[n.val]? with|a=>rw[hn]at q;rwa[.no (List.getElem?_eq_none_iff.mp hn) q]|c y=>rw[hn]at q;rwa[.ok (aw.mp hn).1 (bt (jx hn) q)]
  .cases e;rwa[jd.mk H E q]
def Zc(B:LX ca Jc W)(S:SX ca W)(M:A3 ca Jc W)(h:4<=k)(D:DX ca Jc W 16 (k+1) (jd d))(Di:DX ca Jc W 17 (k+1) (cIt d)):DX ca Jc W 16 (k+2) (jd (d+1)):=by erw[B.e 4 bb [(16,jd d),(17,cIt d),(9,uj .pl),(10,uj .mi),(11,uj .ti),(12,uj .ov),(13,uj .re),(14,uj .le),(15,uj .sa)] [206,208] (.set 2 (.ix 1 (.i 0))<|>.iff (.cmp jy 2 (.s "number")) (.re (.ix 1 (.i 1))) .nil<|>.iff (.cmp jy 2 (.s "box")) (.re (.me 206 0 (.u (.ix 1 (.i 1))))) .nil<|>.iff (.cmp jy 2 (.s "size")) (.re (.bi eQ (.u (.me 208 0 (.u (.ix 1 (.i 1))))))) .nil<|>.iff (.cmp jy 2 (.s "item")) (.re (.x8 17 (.u2 0 1))) .nil<|>.set 3 (.x8 16 (.u2 0 (.ix 1 (.i 1))))<|>.iff (.cmp jy 2 (.s "not")) (.re (.cl 15 [] (.u2 3 (.i 0)))) .nil<|>.re (.clf 102 2 (.u2 3 (.x8 16 (.u2 0 (.ix 1 (.i 2))))))) S.yA rfl (D,Di,M.pl.le (aS ‹_›),M.mi.le (aS ‹_›),M.ti.le (aS ‹_›),M.ov.le (aS ‹_›),M.re.le (aS ‹_›),M.le.le (aS ‹_›),M.sa.le (aS ‹_›),Ť) (M.a6.le h,M.a8.le h,Ť) λds h Q X c=>?_];induction c with|@mk P w A v u Q X H e q=>erw[(Ŗ,?_)];cases v with
  |n m=>cases e;rwa[q]|b z=>let(p,E,e):=mp e;cases e;rwa[iR.mk (as:=[.S z]) (z,p.2,Ŗ,E,Ŗ) q]|s z=>
   let(p,E,e):=bd e;let(n,f,e):=mp e;cases e;erw[iR.mk (as:=[.S z]) (z,p.2,Ŗ,E,Ŗ) ?_];show Q (.p (.I ((p.2.map nP).length:Ń))) _;delta Vp at f;split at f;.cases f;rw[ae];rwa[q]
   .cases f|i z v=>rwa[cIt.mk (gG H) e q]|t v=>
   rcases iS e with ⟨g,n,E,e⟩|⟨g,c,E,e⟩;.cases e;rwa[jd.mk (gG H) E (uj.mk (b:=0) q)]
   .cases e;rwa[jd.mk (gG H) E q]|o k a b=>
   let H:max a.dp b.dp+1<d+1:=H;let j:a.dp<d:=()
   let l:b.dp<d:=()
   rcases iS e with ⟨g,x,E,e⟩|⟨g,c,E,e⟩
   .rcases iS e with ⟨r,y,f,e⟩|⟨r,c,f,e⟩;.cases e;induction k<;>rwa[jd.mk j E (jd.mk l f (uj.mk q))]
    .cases e;induction k<;>rwa[jd.mk j E (jd.mk l f q)]
   .cases e;induction k<;>rwa[jd.mk j E q]
theorem Gg(B:LX ca Jc W)(S:SX ca W)(M:A3 ca Jc W):∀d:Ń,DX ca Jc W 16 (2*d+6) (jd d)
 |0=>(Dt.no S.yA).imp λds h Q x c=>by induction c with|mk H e q=>lia
 |d+1=>by let D:=Gg B S M d;rwa[Zc (k:=2*d+6) B S M (aD _ _) (D.le (bj _)) (Y1 B S M (aD _ _) D)]
end
def dK(Q:Dv->Hs->ß)(x:XP)(h:Hs):Ő Ń->ß|ao=>Q (.p .N) h|O c=>x (1000+c) h
inductive iQ(f:Do)(d:Ń):Ct|mk{P:Pn}{w w':Wk}{r:Rw}{o:Ő Ń}{Q:Dv->Hs->ß}{xc:XP}(hd:r.lo d)(e:f P w r=O (w',o))(q:dK Q xc (yO P w') o):iQ f d [.r 0,.p r.p] (yO P w) Q xc
inductive WK:Ct|mk{P:Pn}{w w':Wk}{n:Nm}{Q:Dv->Hs->ß}{xc:XP}(e:SD P w n=O w')(q:Q (.p .N) (yO P w')):WK [.r 0,.p (nP n)] (yO P w) Q xc
def Lm(e:Rh o=O z):∃f vs,o=O (.ca z f vs):=by
 delta Rh at e;split at e;.cases e;exact(_,_,Ŗ)
 .cases e
def dW(h:Ñ a b):a<b:=aI h
section
variable{ca:Ń->À}{Jc:Ń->Ct}{W:Wd}{d k:Ń}
def LP(B:LX ca Jc W)(S:SX ca W)(M:A3 ca Jc W)(h:4<=k)(D:DX ca Jc W 16 (k+1) (jd d)):DX ca Jc W 19 (k+2) (iQ RA d):=by erw[B.e 2 bb [(16,jd d)] [207] (.one (.ex (.me 207 0 (.u2 (.ix 1 (.i 1)) (.x8 16 (.u2 0 (.ix 1 (.i 2)))))))) S.U9 rfl (D,Ť) ((M.a7.di Ŗ).le h,Ť) λds h Q x c=>?_];induction c with|@mk P w f r o Q x H e q=>
  erw[(Ŗ,?_)];induction r<;>first|cases e|skip
  ext z v;rcases iS e with ⟨a,n,E,e⟩|⟨a,c,E,e⟩;.let(g,b,e):=mp e;cases e;rwa[jd.mk (dW H) E (iR.mk (as:=[.S z,nP n]) (z,n,Ŗ,b,Ŗ) q)]
  .cases e;rwa[jd.mk (dW H) E q]
def IC(B:LX ca Jc W)(S:SX ca W)(M:A3 ca Jc W)(h:4<=k)(D:DX ca Jc W 16 (k+1) (jd d)):DX ca Jc W 20 (k+2) (iQ Gd d):=by erw[B.e 4 bb [(16,jd d)] [208,209] (.set 2 (.x8 16 (.u2 0 (.ix 1 (.i 2))))<|>.set 3 (.me 208 0 (.u (.ix 1 (.i 1))))<|>.iff (.cmp rn (.bi eQ (.u 3)) (.g 1)) (.one (.mS (.g 5))) .nil<|>.one (.ex (.me 209 0 (.u2 (.ix 1 (.i 1)) (.b2 eT 3 (.tup (.u 2))))))) S.OQ rfl (D,Ť) (M.a8.le h,M.a9.le h,Ť) λds h Q x c=>?_];induction c with|@mk P w l r o Q x a e q=>
  erw[(Ŗ,?_)];induction r<;>first|cases e|skip
  ext z v;rcases iS e with ⟨b,n,E,e⟩|⟨b,c,E,e⟩;.let(p,f,e):=bd e;erw[jd.mk (dW a) E (iR.mk (as:=[.S z]) (z,p.2,Ŗ,f,Ŗ) ?_)];show br (uC (12:Ń) _) _ _;rw[ae,Nr];induction H:Ë 12 _ with|d=>rw[H]at e;cases e;rwa[q]|e=>rw[H]at e;let(m,j,e):=mp e;cases e;let:=NK H;rwa[bK (pH (b'.mpr (by rw[ae];rwa[aj ‹_› ⋯]))) (iR.mk (as:=[.S z,.T _]) (z,_,by rw[aH];rfl,j,Ŗ) q)]
  .cases e;rwa[jd.mk (dW a) E q]
def LL(B:LX ca Jc W)(S:SX ca W)(M:A3 ca Jc W):DX ca Jc W 21 6 (iQ Rx d):=by erw[B.e 3 bb [] [207,208,209] (.set 2 (.me 208 0 (.u (.ix 1 (.i 2))))<|>.iff (.cmp jy (.bi eQ (.u 2)) (.i 0)) (.one (.mS (.g 6))) .nil<|>.ex (.me 209 0 (.u2 (.ix 1 (.i 2)) (.sl 2 .no (.of (.neg (.i 1))))))<|>.one (.ex (.me 207 0 (.u2 (.ix 1 (.i 1)) (.ix 2 (.neg (.i 1))))))) S.U6 rfl Ť (M.a7.di Ŗ,M.a8,M.a9,Ť) λds h Q x c=>?_];induction c with|@mk P w f r o Q x H e q=>
  erw[(Ŗ,?_)];induction r<;>first|cases e|skip
  ext z y;obtain⟨⟨j,l⟩,E,e⟩:=bd e;erw[iR.mk (as:=[.S y]) (y,l,Ŗ,E,Ŗ) ?_];rcases QU l with rfl|⟨l,n,rfl⟩;.cases e;rwa[q]
  .rw[Qw]at e⊢;simp only[List.getLast?_append,List.dropLast_concat]at e;let(m,a,e):=bd e;let(p,b,e):=mp e;cases e;rw[aH];erw[FW (c:=nq (l.map nP++[nP n]).length 0) (bB.mpr λz=>?_) ?_];.let:=qF.mp z;rw[aq]at this;simp only[aR]at this;lia
   rwa[iR.mk (as:=[.S y,.T (eG (l.map nP++[nP n]) _ _)]) (y,l,by rw[qA],a,Ŗ) (bt ui (iR.mk (as:=[.S z,nP n]) (z,n,Ŗ,b,Ŗ) q))]
def LM(B:LX ca Jc W)(S:SX ca W)(M:A3 ca Jc W)(h:4<=k)(D:DX ca Jc W 16 (k+1) (jd d)):DX ca Jc W 22 (k+2) (iQ Ry d):=by erw[B.e 5 bb [(16,jd d),(18,A9),(8,pM)] [208,209] (.set 2 (.x8 16 (.u2 0 (.ix 1 (.i 2))))<|>.set 3 (.x8 16 (.u2 0 (.ix 1 (.i 3))))<|>.set 4 (.me 208 0 (.u (.ix 1 (.i 1))))<|>.ex (.cl 18 [] (.u2 4 2))<|>.one (.ex (.me 209 0 (.u2 (.ix 1 (.i 1)) (.cl 8 [] (.u3 4 2 3)))))) S.U7 rfl (D,M.ch.le (aS ‹_›),M.rep.dt.le (aS ‹_›),Ť) (M.a8.le h,M.a9.le h,Ť) λds h Q x c=>?_];induction c with|@mk P w A r o Q x g e q=>
  erw[(Ŗ,?_)];induction r<;>first|cases e|skip
  ext z u v;let(b,f):=ag g;rcases iS e with ⟨j,i,E,e⟩|⟨j,c,E,e⟩
  .erw[jd.mk (dW b) E ?_];rcases iS e with ⟨m,n,a,e⟩|⟨m,c,a,e⟩;.let(p,s,e):=bd e;erw[jd.mk (dW f) a (iR.mk (as:=[.S z]) (z,p.2,Ŗ,s,Ŗ) ?_)];induction H:Ë _ _ with|d=>rw[H]at e;cases e;rwa[A9.no (aI H) q]|e=>rw[H]at e;let(l,t,e):=bd e;let(C,y,e):=mp e;cases e;rwa[A9.ok (NK H) (pM.mk (wD t) (iR.mk (as:=[.S z,.T _]) (z,l,Ŗ,y,Ŗ) q))]
   .cases e;rwa[jd.mk (dW f) a q]
  .cases e;rwa[jd.mk (dW b) E q]
def LJ(B:LX ca Jc W)(S:SX ca W)(M:A3 ca Jc W):DX ca Jc W 23 6 (iQ Ru d):=by erw[B.e 2 bb [] [207,210] (.one (.ex (.me 207 0 (.u2 (.ix 1 (.i 1)) (.me 210 0 (.u (.ix 1 (.i 2)))))))) S.U4 rfl Ť (M.a7.di Ŗ,M.a10,Ť) λds h Q x c=>?_];induction c with|@mk P w b r o Q x H e q=>
  erw[(Ŗ,?_)];induction r<;>first|cases e|skip
  ext z y;let(p,E,e):=bd e;let(f,a,e):=mp e;cases e;rwa[iR.mk (as:=[.S y]) (y,p.2,Ŗ,E,Ŗ) (iR.mk (as:=[.S z,nP p.2]) (z,p.2,Ŗ,a,Ŗ) q)]
def ID(B:LX ca Jc W)(S:SX ca W)(D:DX ca Jc W 16 (k+1) (jd d)):DX ca Jc W 24 (k+2) (iQ Ge d):=by erw[B.e 2 bb [(16,jd d)] [] (.one (.fS 1 5 (.b2 eT (.fld 1 5 0) (.tup (.u (.x8 16 (.u2 0 (.ix 1 (.i 1))))))) 0)) S.OR rfl (D,Ť) Ť λds h Q x c=>?_];induction c with|@mk P w b r o Q x H e q=>
  erw[(Ŗ,?_)];induction r<;>first|cases e|skip
  rcases iS e with ⟨a,n,E,e⟩|⟨a,c,E,e⟩
  .let(c,e):=bf e;cases e;erw[jd.mk (dW H) E (bK (pH (b'.mpr ?_)) ?_)];.rw[ae];let:=aI c;rwa[b9 ‹_› ⋯]
   .delta yO W7 at q;rw[aH]at q;rwa[q]
  .cases e;rwa[jd.mk (dW H) E q]
def RH(B:LX ca Jc W)(S:SX ca W)(M:A3 ca Jc W)(h:4<=k)(D:DX ca Jc W 16 (k+1) (jd d)):DX ca Jc W 25 (k+2) (iQ kT d):=by erw[B.e 4 bb [(16,jd d)] [201,202] (.set 2 (.fld 2 5 (.fld 1 0 0))<|>.set 3 (.EB 201 0)<|>.one (.ex (.me 202 0 (.u (.Qz (.cmp jy (.x8 16 (.u2 0 (.ix 1 (.i 1)))) (.i 0)) (.sM (.fld 3 4 2) 3) (.sM (.fld 3 3 2) 3)))))) S.aaj rfl (D,Ť) ((M.a1.di Ŗ).le h,(M.a2.di Ŗ).le h,Ť) λds h Q x c=>?_];induction c with|@mk P w l r o Q x H e q=>
  erw[(Ŗ,?_)];induction r<;>first|cases e|skip
  let(p,f,e):=bd e;let(n,rfl,e):=bd e;erw[iR.mk (as:=[]) (Ŗ,Ŗ,_,f,Ŗ) ?_];rcases iS e with ⟨j,m,a,e⟩|⟨j,c,a,e⟩;.erw[jd.mk (dW H) a ?_];show br (nq m.val 0) _ _;rw[ur];let(g,E,e):=bd e;let(s,b,e):=mp e;cases e;revert E;cases Ì _ 0 with|d=>rwa[λE=>bt (j6 E) (iR.mk (as:=[eZ g]) (g,Ŗ,b,Ŗ) q)]|e=>rwa[λE=>bt (j6 E) (iR.mk (as:=[eZ g]) (g,Ŗ,b,Ŗ) q)]
  .cases e;rwa[jd.mk (dW H) a q]
def DC(B:LX ca Jc W)(S:SX ca W)(M:A3 ca Jc W)(h:4<=k)(D:DX ca Jc W 16 (k+1) (jd d)):DX ca Jc W 26 (k+2) (iQ WM d):=by erw[B.e 4 bb [(16,jd d)] [201,202] (.set 2 (.fld 2 5 (.fld 1 0 0))<|>.set 3 (.EB 201 0)<|>.one (.ex (.me 202 0 (.u (.Qz (.cmp jy (.x8 16 (.u2 0 (.ix 1 (.i 1)))) (.i 0)) (.sM (.fld 3 2 2) 3) (.sM (.fld 3 3 2) 3)))))) S.JS rfl (D,Ť) ((M.a1.di Ŗ).le h,(M.a2.di Ŗ).le h,Ť) λds h Q x c=>?_];induction c with|@mk P w l r o Q x H e q=>
  erw[(Ŗ,?_)];induction r<;>first|cases e|skip
  let(p,f,e):=bd e;let(n,rfl,e):=bd e;erw[iR.mk (as:=[]) (Ŗ,Ŗ,_,f,Ŗ) ?_];rcases iS e with ⟨j,m,a,e⟩|⟨j,c,a,e⟩;.erw[jd.mk (dW H) a ?_];show br (nq m.val 0) _ _;rw[ur];let(g,E,e):=bd e;let(s,b,e):=mp e;cases e;revert E;cases Ì _ 0 with|d=>rwa[λE=>bt (j6 E) (iR.mk (as:=[eZ g]) (g,Ŗ,b,Ŗ) q)]|e=>rwa[λE=>bt (j6 E) (iR.mk (as:=[eZ g]) (g,Ŗ,b,Ŗ) q)]
  .cases e;rwa[jd.mk (dW H) a q]
def Y0(B:LX ca Jc W)(S:SX ca W)(M:A3 ca Jc W):DX ca Jc W 31 6 WK:=by erw[B.e 3 bb [] [201,202,203,207] (.ex (.EB 203 0)<|>.set 2 (.EB 201 0)<|>.ex (.me 207 0 (.u2 (.ix (.ix (.fld 3 0 (.fld 2 5 (.fld 1 0 0))) 2) (.i 1)) 1))<|>.one (.ex (.me 202 0 (.u (.sM (.fld 3 2 (.fld 2 5 (.fld 1 0 0))) 2))))) S.EU rfl Ť (M.a1.di Ŗ,M.a2.di Ŗ,M.a3.di Ŗ,M.a7.di Ŗ,Ť) λds h Q x c=>?_];induction c with|@mk P w r n Q x e q=>let(s,E,e):=bd e;let(p,a,b):=bd e;let(c,rfl,j):=bd b;let(z,l,e):=bd j;let(t,m,e):=bd e;let(g,o,e):=bd e;let(f,v,H):=Lm l;exact(Ŗ,iR.mk (as:=[]) (Ŗ,E,Ŗ) (iR.mk (as:=[]) (Ŗ,Ŗ,_,a,Ŗ) (bt (jx H) (iR.mk (as:=[.S z,nP n]) (z,n,Ŗ,m,Ŗ) (bt (j6 o) (iR.mk (as:=[eZ g]) (g,Ŗ,e,Ŗ) q))))))
def LN(B:LX ca Jc W)(S:SX ca W)(h:5<=k)(D:DX ca Jc W 16 (k+1) (jd d))(g:DX ca Jc W 31 6 WK):DX ca Jc W 28 (k+2) (iQ Rz d):=by erw[B.e 2 bb [(16,jd d),(31,WK)] [] (.one (.ex (.x8 31 (.u2 0 (.x8 16 (.u2 0 (.ix 1 (.i 1)))))))) S.ET rfl (D,g.le (cA ‹_›),Ť) Ť λds h Q x c=>?_];induction c with|@mk P w f r o Q x H e q=>
  erw[(Ŗ,?_)];induction r<;>first|cases e|skip
  rcases iS e with ⟨a,n,E,e⟩|⟨a,c,E,e⟩;.let(j,b,e):=mp e;cases e;rwa[jd.mk (dW H) E (WK.mk b q)]
  .cases e;rwa[jd.mk (dW H) E q]
def LK(B:LX ca Jc W)(S:SX ca W)(D:DX ca Jc W 31 6 WK):DX ca Jc W 29 7 (iQ Rv d):=by erw[B.e 2 bb [(31,WK)] [] (.one (.ex (.x8 31 (.u2 0 (.i 0))))) S.U5 rfl (D,Ť) Ť λds h Q x c=>?_];induction c with|@mk P w a r o Q x H e q=>
  erw[(Ŗ,?_)];induction r<;>first|cases e|skip
  let(b,E,e):=mp e;cases e;rwa[WK.mk E q]
def IB(B:LX ca Jc W)(S:SX ca W)(D:DX ca Jc W 16 (k+1) (jd d)):DX ca Jc W 30 (k+2) (iQ Gb d):=by erw[B.e 2 bb [(16,jd d)] [] (.one (.mS (.x8 16 (.u2 0 (.ix 1 (.i 1)))))) S.OP rfl (D,Ť) Ť λds h Q x c=>?_];induction c with|@mk P w b r o Q x H e q=>
  erw[(Ŗ,?_)];induction r<;>first|cases e|skip
  rcases iS e with ⟨a,n,E,e⟩|⟨a,c,E,e⟩;.cases e;rwa[jd.mk (dW H) E q]
  .cases e;rwa[jd.mk (dW H) E q]
def Ŧ(ns:Ł Nm):Ł Nm ⊕ Ń->Ł Nm ⊕ Ń|.inl m=>.inl (ns++m)|.inr c=>.inr c
def rK(P:Pn)(n:Ń)(Q:Dv->Hs->ß)(x:XP)(h:Hs):Ő Ń->ß|ao=>Q (.p (.S (Tl P.rw[n]?))) h|O c=>x (1000+c) h
inductive Ik(d:Ń):Ct|mk{P:Pn}{w w':Wk}{n:Ń}{o:Ő Ń}{Q:Dv->Hs->ß}{xc:XP}(hd:∀r,P.rw[n]?=O r->r.lo d)(e:sR P w n=O (w',o))(q:rK P n Q xc (yO P w') o):Ik d [.r 0,.p (iP n)] (yO P w) Q xc
inductive Ċ(P:Pn)(vs:Ł Vx)(p:Wk×(Ł Nm ⊕ Ń))(i:Ń):ϑ->Hs->ß|mk{w1:Wk}{ns:Ł Nm}{o':Ł Nm ⊕ Ń}{acc:ϑ}(ha:acc=ns.map nP)(e2:Zu P (vs.drop i) w1=O (p.1,o'))(e3:p.2=Ŧ ns o'):Ċ P vs p i acc (yO P w1)
def IA(B:LX ca Jc W)(S:SX ca W)(M:A3 ca Jc W)(h:4<=k)(D:DX ca Jc W 16 (k+1) (jd d)):DX ca Jc W 27 (k+2) (iQ Ga d):=by erw[B.e 3 bb [(16,jd d)] [204] (.Pk 2 1 [0] (.one 0) (.s (.ix 1 (.i 3))) .no (.x8 16 (.u2 1 0))<|>.iff (.cmp rn (.bi eQ (.u (.fld 1 3 0))) (.g 8)) (.one (.mS (.g 7))) .nil<|>.one (.ex (.me 204 0 (.u2 (.ix 1 (.i 2)) 2)))) S.OO rfl (D,Ť) (M.a4.le h,Ť) λds h Q X c=>?_];induction c with|@mk P w w' r o Q X I e q=>
  erw[(Ŗ,?_)];induction r<;>first|cases e;all_goals fail|skip
  ext z f t;let(p,K,e):=bd e;let(h1,N):=ag I;let h1:=aI h1;show nJ (yO P w) _ _ _ _ _;delta nJ;erw[(Ċ P t p,.mk (ns:=[]) Ŗ K (by induction p.2<;>rfl),λi y a R H j=>?_,λa R j=>?_)];.induction j with|@mk T ns U a m b E=>subst m;rw[aM]at H;induction A:t[i]? with|a=>left|c v=>rw[A]at H;cases H;let(C,rfl):=aw.mp A;rw[Wn C]at b;obtain⟨⟨Y,u⟩,l,F⟩:=bd b;let hl:=dW (bJ.mp N _ (fZ C));induction u with|x c=>cases F;let(Z,G):=p;subst E;cases e;rwa[jd.mk hl l (Ŗ,q)]|v n=>obtain⟨⟨w3,o3⟩,e6,e7⟩:=mp F;cases e7;erw[jd.mk hl l (bK Ŗ (.mk (ns:=ns++[n]) (by rw[aH];rfl) e6 ?_))];rw[E];induction o3 with|inl ms=>show Sum.inl _=Sum.inl _;rw[bw];rfl|inr c=>rfl
  .induction j with|@mk T ns U a m b E=>subst m;rw[ae,List.drop_length]at b;let(Z,G):=p;cases b;change G=.inl _ at E;rw[aT]at E;subst E;show br (uC (8:Ń) _) _ _;rw[gK,Nr];revert e;induction Ë 8 _ with|d=>intro e;cases e;rwa[q]|e=>intro e;let(Y,l,e):=mp e;cases e;rwa[iR.mk (as:=[.S f,.L _]) (f,ns,Ŗ,l,Ŗ) q]
inductive Ij:Ct|mk{P:Pn}{w w':Wk}{c:Ń}{k:Ő Ń}{Q:Dv->Hs->ß}{xc:XP}(e:vi P w c=O (w',k))(q:Q (.p (eZ k)) (yO P w')):Ij [.r 0,.p (.I (c:Ń))] (yO P w) Q xc
def PR(e:VW o=O z):∃a b,o=O (.tr a z b):=by
 delta VW at e;split at e;.cases e;exact(_,_,Ŗ)
 .cases e
inductive JC(P:Pn)(w:Wk)(c:Ń)(p:Ł Fr×Ő Ń)(m:Ń):Es->Hs->ß|mk{fr:Ł Fr}(hm:m=fr.length)(e:rW P fr=O p):JC P w c p m [O (.r 0),O (.p (.I (c:Ń))),O (.p P.pa),ao] (yO P {w with fr:=fr})
structure Dd(ca:Ń->À)(Jc:Ń->Ct)(W:Wd)(d k:Ń):ß where a19:DX ca Jc W 19 k (iQ RA d)a20:DX ca Jc W 20 k (iQ Gd d)a21:DX ca Jc W 21 k (iQ Rx d)a22:DX ca Jc W 22 k (iQ Ry d)a23:DX ca Jc W 23 k (iQ Ru d)a24:DX ca Jc W 24 k (iQ Ge d)a25:DX ca Jc W 25 k (iQ kT d)a26:DX ca Jc W 26 k (iQ WM d)a27:DX ca Jc W 27 k (iQ Ga d)a28:DX ca Jc W 28 k (iQ Rz d)a29:DX ca Jc W 29 k (iQ Rv d)a30:DX ca Jc W 30 k (iQ Gb d)
def RG(B:LX ca Jc W)(S:SX ca W)(M:A3 ca Jc W)(d:Ń):Dd ca Jc W d (2*d+7):=let D:=Gg B S M d;let G:=Y0 B S M;(LP B S M (aD _ _) D,IC B S M (aD _ _) D,(LL B S M).le (aD _ _),LM B S M (aD _ _) D,(LJ B S M).le (aD _ _),ID B S D,RH B S M (aD _ _) D,DC B S M (aD _ _) D,IA B S M (aD _ _) D,LN B S (aD _ _) D G,(LK B S G).le (aD _ _),IB B S D)
def LO(B:LX ca Jc W)(S:SX ca W)(M:A3 ca Jc W)(h:4<=k)(D:Dd ca Jc W d (k+1)):DX ca Jc W 32 (k+2) (Ik d):=by erw[B.e 3 bb [(19,iQ RA d),(20,iQ Gd d),(21,iQ Rx d),(22,iQ Ry d),(23,iQ Ru d),(24,iQ Ge d),(25,iQ kT d),(26,iQ WM d),(27,iQ Ga d),(28,iQ Rz d),(29,iQ Rv d),(30,iQ Gb d)] [202] (.set 2 (.ix (.fld 3 0 (.fld 2 5 (.fld 1 0 0))) 1)<|>.iff (.tin 100 (.ix 2 (.i 0))) (.ex (.clf 100 (.ix 2 (.i 0)) (.u2 0 2))<|>.one (.ex (.me 202 0 (.u (.sM (.fld 3 2 (.fld 2 5 (.fld 1 0 0))) 1))))) (.one (.ex (.clf 101 (.ix 2 (.i 0)) (.u2 0 2))))<|>.re (.tgs 50 (.ix 2 (.i 0)) (.s "plain"))) S.U8 rfl (D.a19,D.a20,D.a21,D.a22,D.a23,D.a24,D.a25,D.a26,D.a27,D.a28,D.a29,D.a30,Ť) ((M.a2.di Ŗ).le h,Ť) λds h Q X c=>?_];induction c with|@mk P w y n o Q X C e q=>
  let(r,A,e):=bd e;let hl:=C r A;erw[(Ŗ,bt (jx A) ?_)];delta rK at q;rw[A]at q;let x:∀f:Do,plain r=O f->(∃j c,f P w r=O (j,O c)/\y=j/\o=O c)\/∃j g p,f P w r=O (j,ao)/\gO n P.bh=O g/\move j g=O p/\y=p/\o=none:=λf H=>by rw[H]at e;obtain⟨⟨j,c⟩,E,l⟩:=bd e;induction c with|c c=>cases l;rwa[.inl (_,c,E,Ŗ,Ŗ)]|a=>let(g,m,F):=bd l;let(p,G,I):=mp F;cases I;rwa[.inr (j,g,_,E,m,G,Ŗ,Ŗ)]
  let t:plain r=ao->(G7 r).bind (λf=>f P w r)=O (y,o):=λH=>by rw[H]at e;rwa[e]
  clear e;induction r with
  |tr a z b=>cases t Ŗ|st z v=>
   rcases x _ Ŗ with ⟨j,c,E,rfl,rfl⟩|⟨j,g,p,E,l,m,rfl,rfl⟩;.rwa[iQ.mk hl E q]
   .rwa[iQ.mk hl E (bt (j6 l) (iR.mk (as:=[eZ g]) (g,Ŗ,m,Ŗ) q))]|pu z v=>
   rcases x _ Ŗ with ⟨j,c,E,rfl,rfl⟩|⟨j,g,p,E,l,m,rfl,rfl⟩;.rwa[iQ.mk hl E q]
   .rwa[iQ.mk hl E (bt (j6 l) (iR.mk (as:=[eZ g]) (g,Ŗ,m,Ŗ) q))]|po z v=>
   rcases x _ Ŗ with ⟨j,c,E,rfl,rfl⟩|⟨j,g,p,E,l,m,rfl,rfl⟩;.rwa[iQ.mk hl E q]
   .rwa[iQ.mk hl E (bt (j6 l) (iR.mk (as:=[eZ g]) (g,Ŗ,m,Ŗ) q))]|pt z u v=>
   rcases x _ Ŗ with ⟨j,c,E,rfl,rfl⟩|⟨j,g,p,E,l,m,rfl,rfl⟩;.rwa[iQ.mk hl E q]
   .rwa[iQ.mk hl E (bt (j6 l) (iR.mk (as:=[eZ g]) (g,Ŗ,m,Ŗ) q))]|ak z v=>
   rcases x _ Ŗ with ⟨j,c,E,rfl,rfl⟩|⟨j,g,p,E,l,m,rfl,rfl⟩;.rwa[iQ.mk hl E q]
   .rwa[iQ.mk hl E (bt (j6 l) (iR.mk (as:=[eZ g]) (g,Ŗ,m,Ŗ) q))]|te v=>
   rcases x _ Ŗ with ⟨j,c,E,rfl,rfl⟩|⟨j,g,p,E,l,m,rfl,rfl⟩;.rwa[iQ.mk hl E q]
   .rwa[iQ.mk hl E (bt (j6 l) (iR.mk (as:=[eZ g]) (g,Ŗ,m,Ŗ) q))]|ii v a b=>erw[iQ.mk hl (t Ŗ) ?_];induction o with|a=>rwa[q]|c c=>rwa[q]
  |wh v a=>erw[iQ.mk hl (t Ŗ) ?_];induction o with|a=>rwa[q]|c c=>rwa[q]
  |fa v=>erw[iQ.mk hl (t Ŗ) ?_];induction o with|a=>rwa[q]|c c=>rwa[q]
  |ca z f K=>erw[iQ.mk hl (t Ŗ) ?_];induction o with|a=>exact(_,Ŗ,q)|c c=>rwa[q]
  |rt v=>erw[iQ.mk hl (t Ŗ) ?_];induction o with|a=>exact(_,Ŗ,q)|c c=>rwa[q]
  |df z=>erw[iQ.mk hl (t Ŗ) ?_];induction o with|a=>exact(_,Ŗ,q)|c c=>rwa[q]
def RC(B:LX ca Jc W)(S:SX ca W)(M:A3 ca Jc W):UX ca Jc W 33 6 Ij:=by erw[B.u 4 bb [] [201,202,203,207] (.set 2 (.fld 2 5 (.fld 1 0 0))<|>.wh (.bo (Wm.ac (.cmp jy (.sM (.fld 3 5 2) (.EB 201 0)) (.g 0)) (Wm.a1 (.cmp AN (.bi eQ (.u (.fld 1 3 0))) (.i 1))))) (.one (.ex (.EB 203 0)))<|>.set 3 (.sM (.fld 3 5 2) (.EB 201 0))<|>.iff (.cmp jy 3 (.g 0)) (.one (.fS 1 6 (.c (.B J)) 0)) (.ex (.me 207 0 (.u2 (.ix (.ix (.fld 3 0 2) 3) (.i 2)) 1))<|>.one (.ex (.me 202 0 (.u (.sM (.fld 3 4 2) 3)))))<|>.re 3) S.aah rfl Ť (M.a1,M.a2,M.a3,M.a7,Ť) λds h Q X c=>?_];induction c with|@mk P w w' c k Q X e q=>let(p,D,e):=bd e;erw[(Ŗ,JC P w c p,(_,.mk Ŗ D),λm F h' G=>?_)];induction G with|@mk fr K L=>subst K;cases fr with|f=>done|g x r=>
   let(n,N,R):=bd L;let(g,E,f):=bd R;let H:nZ {w with fr:=x::r}=O (O n):=by show O _=_;rw[N]
   erw[iR.mk (as:=[]) (Ŗ,Ŗ,_,H,Ŗ) (bt (j6 E) ?_)];induction g with|c j=>
    cases f;let(z,T,U):=bd e;let(m,l,o):=bd U;let(w2,s,t):=bd o;let(g,Y,v):=bd t;let(w3,A,C):=mp v;cases C;let(a,b,Z):=PR T;let hc:nP m=.I c:=by
     delta VR at l;split at l;.cases l;rfl
     .done
    rwa[iR.mk (as:=[]) (Ŗ,Ŗ,_,H,Ŗ) (bt (j6 E) (bt (jx Z) (iR.mk (as:=[.S z,.I c]) (z,m,by rw[hc],s,Ŗ) (bt (j6 Y) (iR.mk (as:=[eZ g]) (g,Ŗ,A,Ŗ) q)))))]|a=>induction r with|f=>cases f;cases e;rwa[iR.mk (as:=[]) (Ŗ,Ŗ,_,H,Ŗ) (bt (j6 E) q)]|g y r=>
     let hl:tV 1 (jA (x::y::r)).length=true:=by rw[gK];rfl
     rwa[rV hl (iR.mk (as:=[]) (Ŗ,show ym _=O {w with fr:=y::r}from Ŗ,Ŗ) (_,eB _,.mk Ŗ f))]
end
inductive Dk:Ct|mk{i:Ń}{ks:Ł (Ł cs)}{h:Hs}{Q:Dv->Hs->ß}{xc:XP}(hi:h[i]?=O (.K ks))(ok:G6 ks)(q:Q (.p (zw ks)) h):Dk [.r i] h Q xc
inductive Lf:Ct|mk{w:Wk}{h:Hs}{Q:Dv->Hs->ß}{xc:XP}(q:Q (.p (FY w)) h):Lf [.p w.p] h Q xc
def RK(B:LX ca Jc W)(S:SX ca W):DI ca Jc W 500 2:=by erw[B.NJ 1 bb [] [] (.re (.fld 4 1 0)) S.ajI rfl Ť Ť λds h Q x c=>?_];induction c with|@mk P w h Q x q=>done
def DE(B:LX ca Jc W)(S:SX ca W):DI ca Jc W 502 2:=by erw[B.NJ 5 bb [] [] (.iff (.cmp mf (.ix 1 (.g 10)) (.s "on")) (.re (.g 0)) .nil<|>.Kp [2,3,4] (.ix (.ix 1 (.i 2)) (.neg (.i 1)))<|>.iff (.cmp jy 4 (.g 0)) (.re (.sM (.fld 3 6 (.fld 2 5 (.fld 4 0 0))) 2)) .nil<|>.re 4) S.ajK rfl Ť Ť λds h Q X c=>?_];induction c with|@mk P w0 w n h Q X H e q=>
  erw[(Ŗ,?_)];show br (!cE _ _) _ _;rw[H];delta wg at e;split at e;.cases e
  .ext x r a;erw[bt (C9 a) ?_];let(f,N,pt):=x;induction pt with|a=>rwa[bt (vL e) q]|c p=>cases e;rwa[q]
def RD(B:LX ca Jc W)(S:SX ca W):DX ca Jc W 36 2 Dk:=by erw[B.e 1 bb [] [] (.re (.bi tS (.u (.bi ώ (.u 0))))) S.aai rfl Ť Ť λds h Q x c=>?_];induction c with|@mk i K h Q x H ok q=>exact(Ŗ,bt (by rw[H];rfl) (bK ok q))
def LH(B:LX ca Jc W)(S:SX ca W):DX ca Jc W 37 2 Lf:=by erw[B.e 2 bb [] [] (.set 1 (.ix 0 (.i 2))<|>.re (.Qz (.cmp AN (.bi eQ (.u 1)) (.i 1)) (.ix (.ix 1 (.neg (.i 2))) (.i 2)) (.g 0))) S.U3 rfl Ť Ť λds h Q X c=>?_];induction c with|@mk w h Q X q=>
  erw[(Ŗ,?_)];show br (tV _ _) _ _;simp only[gK];let(b,l,fr,a,t,bk,rd,d):=w;rcases fr with _|⟨x,_|⟨y,r⟩⟩;.rwa[q]
  .rwa[q]
  .erw[rV Ŗ (bt (x:=y.p) ?_ q)];show rq (jA r++[y.p]++[x.p]) (.negSucc 1)=_;rw[qt,aq,aq,b6,b6];simp only[AU (m:=2),bw,aQ (ah _),fM];rfl
def Zf(B:LX ca Jc W)(S:SX ca W)(M:A3 ca Jc W)(h:5<=k)(D:DX ca Jc W 32 (k+1) (Ik 6))(d:UX ca Jc W 33 6 Ij):DI ca Jc W 501 (k+2):=by erw[B.mtC 8 J [(32,Ik 6),(33,Ij),(36,Dk),(37,Lf)] [1,200,502] [33] (.iff (.cmp mf (.ix 1 (.g 10)) (.s "on")) (.one (.raise 0 (.s "the run has ended"))) .nil<|>.set 2 (.me 502 0 (.u 1))<|>.set 3 (.nw 1 (.u2 (.fld 4 0 0) 1))<|>.set 4 (.g 0)<|>.aaV 6 5 3 4 "fault" 32 33 (.u2 3 2)<|>.set 7 (.tup (.cons 2 (.u5 5 (.x8 36 (.u (.fld 1 7 3))) (.x8 36 (.u (.fld 1 8 3))) (.cl 37 [] (.u 1)) 4)))<|>.re (.tup (.u2 (.EB 200 3) 7))) S.ajJ rfl (D,d.dt.le (cA ‹_›),(RD B S).le (),(LH B S).le (),Ť) (M.nw.le (dE ‹_›),M.a0.le (dE ‹_›),(DE B S).le (aj (aD _ _) ‹_›),Ť) (λi l=>by rw[aE.mp l];rwa[d.le (cA ‹_›)]) λds h Q X c=>?_];induction c with|@no P w0 w Q X H q=>erw[(Ŗ,?_)];show br (!cE w.wo "on") _ _;erw[rV (by rw[bB.mpr λz=>H (bN.mp z)];rfl) q]|@ok P w0 w F x Q X m H e q=>erw[(Ŗ,?_)];show br (!cE w.wo "on") _ _;rw[H];let(n,t,e):=bd e;let(p,E,e):=bd e;obtain⟨⟨G,K,ct⟩,a,e⟩:=bd e;let(C,e):=bf e;cases e;let(b,f):=ag C;clear C;let j:∀r,P.rw[n]?=O r->r.lo 6=true:=λr v=>bJ.mp m r (aL v);erw[YH.mk H t (YG.mk ?_)];let(I,o):=p;induction o with|a=>cases a;rwa[Ik.mk j E (Dk.mk Ŗ b (Dk.mk Ŗ f (Lf.mk (iR.mk (as:=[]) (Ŗ,Ŗ,Ŗ) q))))]|c c=>let(L,y,A):=mp a;cases A;erw[Ik.mk j E (bK (by rw[aB (aO 1000 c)];rfl) ?_)];show Ij _ _ _ _;rw[f6];rwa[Ij.mk y (Dk.mk Ŗ b (Dk.mk Ŗ f (Lf.mk (iR.mk (as:=[]) (Ŗ,Ŗ,Ŗ) q))))]
inductive Rf:Ct|mk{x:Pv}{a b:Î}{h:Hs}{Q:Dv->Hs->ß}{xc:XP}(hx:yu x)(q:Q (.p (.B (xy a b x))) h):Rf [.p x,.p (.I a),.p (.I b)] h Q xc
inductive Q3:Ct|ok{x:Pv}{h:Hs}{Q:Dv->Hs->ß}{xc:XP}(hx:yu x)(e:xy 0 2000 x)(q:Q (.p .N) h):Q3 [.p x] h Q xc|no{x:Pv}{h:Hs}{Q:Dv->Hs->ß}{xc:XP}(hx:yu x)(e:xy 0 2000 x=bb)(q:xc 0 h):Q3 [.p x] h Q xc
inductive JT(P:Pn)(w0 w':Wk)(n:Ń)(C:Ń->ß):Es->Hs->ß|mk{w:Wk}{i:Ń}{zs:ϑ}{x y:Ő Dv}(r:Rn P w i w' zs)(hi:C i):JT P w0 w' n C [O (.p (rD P w0)),O (.p (iP n)),O (.p w.p),x,y] []
inductive JU(P:Pn)(w0 w':Wk)(n k:Ń)(xs:ϑ)(C:Ń->ß):Es->Hs->ß|mk{w:Wk}{i:Ń}{ys zs:ϑ}{x y:Ő Dv}(hy:ys.length+k=n)(e:xs=ys++zs)(r:Rn P w i w' zs)(hi:C i):JU P w0 w' n k xs C [O (.p (rD P w0)),O (.p (iP n)),O (.r 0),O (.p w.p),x,y] [.L ys]
inductive JY(P:Pn)(w0 w':Wk)(m n f:Ń):Es->Hs->ß|mk{w:Wk}{i:Ń}{zs:ϑ}{y:Ő Dv}(r:Rn P w f w' zs)(hi:i+f=m):JY P w0 w' m n f [O (.p (rD P w0)),O (.p (iP n)),O (.p w.p),O (.p (iP i)),y] []
inductive vc:Ct|ok{P:Pn}{w0 w':Wk}{n:Ń}{xs:ϑ}{Q:Dv->Hs->ß}{xc:XP}(hl:P.lo)(r:Rn P w0 n w' xs)(hn:n<=2000)(q:Q (.p w'.p) []):vc [.p (rD P w0),.p (iP n)] [] Q xc|no{P:Pn}{w0 w':Wk}{m n:Ń}{xs:ϑ}{Q:Dv->Hs->ß}{xc:XP}(hl:P.lo)(r:Rn P w0 m w' xs)(hw:w'.wo≠"on")(hm:m<n)(hn:n<=2000)(q:xc 0 []):vc [.p (rD P w0),.p (iP n)] [] Q xc|od{P:Pn}{w0:Wk}{x:Pv}{Q:Dv->Hs->ß}{xc:XP}(hx:yu x)(e:xy 0 2000 x=bb)(q:xc 0 []):vc [.p (rD P w0),.p x] [] Q xc
inductive tM:Ct|ok{P:Pn}{w0 w':Wk}{n:Ń}{xs:ϑ}{Q:Dv->Hs->ß}{xc:XP}(hl:P.lo)(r:Rn P w0 n w' xs)(hn:n<=2000)(q:Q (.r 0) [.L xs]):tM [.p (rD P w0),.p (iP n)] [] Q xc|no{P:Pn}{w0 w':Wk}{m n:Ń}{xs:ϑ}{Q:Dv->Hs->ß}{xc:XP}(hl:P.lo)(r:Rn P w0 m w' xs)(hw:w'.wo≠"on")(hm:m<n)(hn:n<=2000)(q:∀ys,xc 0 [.L ys]):tM [.p (rD P w0),.p (iP n)] [] Q xc|od{P:Pn}{w0:Wk}{x:Pv}{Q:Dv->Hs->ß}{xc:XP}(hx:yu x)(e:xy 0 2000 x=bb)(q:xc 0 []):tM [.p (rD P w0),.p x] [] Q xc
def jX:(tX a n).length=n:=by delta tX;rw[ae,eM]
def om{n:Ń}(h:n<=2000):(sA (n:Î).toNat&&Đ ((-4611686018427387904:Î)<=n))=true:=by rw[pH (b'.mpr (aj ‹_› ⋯))];rfl
def wN(h:n<=2000):xy 0 2000 (iP n)=true:=by show(uC 0 n&&uC n 2000)=J;rw[gN.mpr (),gN.mpr ()];rfl
def RX(B:LX ca Jc W)(S:SX ca W):DX ca Jc W 4 2 Rf:=by erw[B.e 3 bb [] [] (.iff (.bo (Wm.oc (.val (.bi Ĩ (.u2 0 (.ty 2)))) (Wm.o1 (.not (.val (.bi Ĩ (.u2 0 (.ty 1)))))))) (.re (.c (.B bb))) .nil<|>.re (.ch Ps Ps 1 0 2)) S.JZ rfl Ť Ť λds h Q X c=>?_];induction c with|@mk x a b h Q X H q=>erw[(Ŗ,?_)];cases x with|I n=>rwa[Yw q λ_ q=>q]|B b=>rwa[q]|N=>rwa[q]|S z=>rwa[q]|T s=>rwa[q]|_=>done
def xr(B:LX ca Jc W)(S:SX ca W)(D:DX ca Jc W 4 2 Rf):DX ca Jc W 41 4 Q3:=by erw[B.e 1 bb [(4,Rf)] [] (.one (.iff (.not (.val (.cl 4 [] (.u3 0 (.i 0) (.g 11))))) (.one (.raise 0 (.s "steps are a whole number from 0 to 2000"))) .nil)) S.Av rfl (D.le (bj _),Ť) Ť λds h Q X c=>?_];induction c with|@ok x h Q X H e q=>erw[(Ŗ,.mk H ?_)];rw[e];rwa[q]|@no x h Q X H e q=>erw[(Ŗ,.mk H ?_)];rw[e];rwa[q]
def DF(B:LX ca Jc W)(S:SX ca W)(h:4<=k)(D:DX ca Jc W 41 4 Q3)(f:DI ca Jc W 501 k)(g:DI ca Jc W 500 2):DX ca Jc W 38 (k+2) vc:=by erw[B.e 5 J [(41,Q3)] [500,501] (.ex (.cl 41 [] (.u 1))<|>.set 2 (.EB 500 0)<|>.fo (.one 3) (.r (.u 1)) (.one (.Kp [2,4] (.mel 501 0 (.u 2))))<|>.re 2) S.J3 rfl (D.le (aS ‹_›),Ť) (g.le (aj (aD _ _) ‹_›),f,Ť) λds h Q X c=>?_];induction c with
 |@od P w0 x Q X i e q=>exact(Ŗ,.no i e q)|@ok P w0 b n o Q X l r hn q=>
  erw[(Ŗ,.ok Ŗ (wN hn) (.mk (bK (om hn) (iT (λ_ post=>JT P w0 b n (·=post.length)) (.mk r jX.symm) (λpre x post a d ex j=>?_) λa d j=>?_))))];.induction j with|mk R H=>cases R with|z=>done|s w e R=>rwa[ve.ok l w e (.mk R (Nat.succ.inj H))]
  .induction j with|mk R H=>cases R with|z=>rwa[q]|s=>done
 |@no P w0 b m n o Q X l r w p hn q=>
  erw[(Ŗ,.ok Ŗ (wN hn) (.mk (bK (om hn) (iT (λ_ post=>JT P w0 b n (·<post.length)) (.mk r (by rw[jX];rwa[p])) (λpre x post a d ex j=>?_) λa d j=>?_))))];.induction j with|mk R H=>cases R with|z=>rwa[ve.no w q]|s w e R=>rwa[ve.ok l w e (.mk R (gG H))]
  .induction j with|mk R H=>done
def RQ(B:LX ca Jc W)(S:SX ca W)(h:4<=k)(D:DX ca Jc W 41 4 Q3)(p:DI ca Jc W 501 k)(t:DI ca Jc W 500 2):DX ca Jc W 39 (k+2) tM:=by erw[B.e 6 bb [(41,Q3)] [500,501] (.ex (.cl 41 [] (.u 1))<|>.set 2 (.QA .nil)<|>.set 3 (.EB 500 0)<|>.fo (.one 4) (.r (.u 1)) (.Kp [3,5] (.mel 501 0 (.u 3))<|>.one (.ex (.mt pX 2 (.u 5))))<|>.re 2) S.aal rfl (D.le (aS ‹_›),Ť) (t.le (aj (aD _ _) ‹_›),p,Ť) λds h Q X c=>?_];induction c with
 |@od P w0 x Q X v e q=>exact(Ŗ,.no v e q)|@ok P w0 f n g Q X l r hn q=>
  erw[(Ŗ,.ok Ŗ (wN hn) (.mk (bK (om hn) (iT (λ_ post=>JU P w0 f n post.length g (·=post.length)) (.mk (ys:=[]) (x:=ao) (y:=ao) (by rw[jX];rwa[cB _]) rfl r jX.symm) (λpre x post a o ex j=>?_) λa o j=>?_))))];.induction j with|@mk w i ys Z _ _ H ex R b=>cases R with|z=>done|s d e R=>rw[aR]at H;rwa[ve.ok l d e (bK (pH (b'.mpr ())) (.mk (by rw[aq,b6];lia) (by rw[bw];rwa[ex]) R (Nat.succ.inj b)))]
  .induction j with|@mk w i ys Z _ _ H ex R b=>cases R with|z=>rw[ex,aT]at q;rwa[q]|s=>done
 |@no P w0 f m n g Q X l r d A hn q=>
  erw[(Ŗ,.ok Ŗ (wN hn) (.mk (bK (om hn) (iT (λ_ post=>JU P w0 f n post.length g (·<post.length)) (.mk (by rw[jX];rwa[cB _]) Ŗ r (by rw[jX];rwa[A])) (λpre x post a o ex j=>?_) λa o j=>?_))))];.induction j with|@mk w i ys Z _ _ H ex R b=>cases R with|z=>rwa[ve.no d (q _)]|s d e R=>rw[aR]at H;rwa[ve.ok l d e (bK (pH (b'.mpr ())) (.mk (by rw[aq,b6];lia) (by rw[bw];rwa[ex]) R (gG b)))]
  .induction j with|mk H ex R b=>done
def zC(B:LX ca Jc W)(S:A2 W.K W.mg "run_length" (top 82) ["machine","most"] [.int 2000 tok])(h:4<=k)(D:DX ca Jc W 41 4 Q3)(d:DI ca Jc W 501 k)(a:DI ca Jc W 500 2):DX ca Jc W 40 (k+2) xo/\DI ca Jc W 90 (k+2):=by erw[B.dd (dd:=[.p (.I _)]) (dvs:=[.I _]) 5 J [(41,Q3)] [500,501] (.ex (.cl 41 [] (.u 1))<|>.set 2 (.EB 500 0)<|>.set 3 (.i 0)<|>.wh (.bo (Wm.ac (.cmp KI 3 1) (Wm.a1 (.cmp jy (.ix 2 (.g 10)) (.s "on"))))) (.Kp [2,4] (.mel 501 0 (.u 2))<|>.one (.aug 3 1))<|>.re 3) S rfl (D.le (aS ‹_›),Ť) (a.le (aj (aD _ _) ‹_›),d,Ť) (λds h Q X c=>?_) rfl (.cons (_,Ŗ) .nil) (λ_ _ _=>(Ŗ,Ť)) λ_ _ _ _ c=>c];induction c with|@od P w0 x Q X b e q=>exact(Ŗ,.no b e q)|@ok P w0 l m n C Q X o r E t hn q=>erw[(Ŗ,.ok Ŗ (wN hn) (.mk (JY P w0 l m n,(m,.mk r (cB _)),λf v G j=>?_)))];induction j with|@mk w i L y R M=>show br _ _ _;rw[wa];cases R with|@s _ _ _ F N Z H e R=>rw[show Ñ i n=J from aB (show i<n by lia)];show br (cE _ _) _ _;rw[H];rwa[ve.ok o H e (F,eB _,.mk (i:=i+1) R ())]|z=>induction A:Ñ i n with|e=>exact(show i=m by lia)▸q|d=>let:=dW A;show br (cE _ _) _ _;rw[bB.mpr λz=>t.resolve_left () (bN.mp z)];exact(show i=m by lia)▸q
inductive Tr where|lf(r:Rw)|ii(v:Vx)(a b:Ł Tr)|wh(v:Vx)(a:Ł Tr)|tr(a:Ł Tr)(z:Å)(b:Ł Tr)
mutual
def Tr.r:Tr->Rw|.lf r=>r|.ii v a b=>.ii v (.T (eI a)) (.T (eI b))|.wh v a=>.wh v (.T (eI a))|.tr a z b=>.tr (.T (eI a)) z (.T (eI b))def eI:Ł Tr->ϑ|[]=>[]|t::r=>t.r.p::eI r
end
mutual
def Tr.sz:Tr->Ń|.lf _=>1|.ii _ a b=>1+de a+de b|.wh _ a=>1+de a|.tr a _ b=>1+de a+de b
def de:Ł Tr->Ń|[]=>0|t::r=>t.sz+de r
end
mutual
def Tr.d:Tr->Ń|.lf _=>0|.ii _ a b=>max (dL a) (dL b)+1|.wh _ a=>dL a+1|.tr a _ b=>max (dL a) (dL b)+1def dL:Ł Tr->Ń|[]=>0|t::r=>max t.d (dL r)end
def Rw.lf:Rw->Þ|.ii _ _ _=>bb|.wh _ _=>bb|.tr _ _ _=>bb|.df _=>bb|_=>J
mutual
def Tr.ok:Tr->Þ|.lf r=>r.lf|.ii _ a b=>nA a&&nA b|.wh _ a=>nA a|.tr a _ b=>nA a&&nA b
def nA:Ł Tr->Þ|[]=>J|t::r=>t.ok&&nA r
end
def Tr.ps:Tr->Ł (Ł Tr)|.lf _=>[]|.ii _ a b=>[a,b]|.wh _ a=>[a]|.tr a _ b=>[a,b]
def tP(t:Ł Tr):Pv:=.T (eI t)
mutual
def pA:Tr->Ń->Ő Ń->Ł (Rw×Ő Ń)|.lf r,_,o=>[(r,o)]|.ii v a b,n,o=>(.ii v (.T (eI a)) (.T (eI b)),o)::(iF a (n+1) (O n)++iF b (n+1+de a) (O n))|.wh v a,n,o=>(.wh v (.T (eI a)),o)::iF a (n+1) (O n)|.tr a z b,n,o=>(.tr (.T (eI a)) z (.T (eI b)),o)::(iF a (n+1) (O n)++iF b (n+1+de a) (O n))def iF:Ł Tr->Ń->Ő Ń->Ł (Rw×Ő Ń)|[],_,_=>[]|t::r,n,o=>pA t n o++iF r (n+t.sz) o
end
def DM:Ł (Ł Tr)->Ń->Ő Ń->Ł (Rw×Ő Ń)|[],_,_=>[]|t::r,n,o=>iF t n o++DM r (n+de t) o
def Cm:Ł (Ł Tr)->Ń|[]=>0|t::r=>de t+Cm r
def fW:Ł (Rw×Ő Ń)->Ń->ϑ|[],_=>[]|x::r,n=>.T [iP n,x.1.p,eZ x.2]::fW r (n+1)
theorem rf:∀{l m:Ł _}{n:Ń},fW (l++m) n=fW l n++fW m (n+l.length)|[],m,n=>Ŗ|x::l,m,n=>by show _::fW (l++m) _=_::(fW l _++fW m (n+(l.length+1)));rw[rf,show n+1+l.length=n+(l.length+1)by lia]
theorem rg:∀{l:Ł _}{n:Ń},(fW l n).length=l.length|[],_=>Ŗ|x::l,n=>bU _ rg
mutual
theorem kY:∀(t:Tr)(n:Ń)(o:Ő Ń),(pA t n o).length=t.sz|.lf _,_,_=>by delta pA Tr.sz;rfl|.ii _ a b,n,o=>by delta pA Tr.sz;rw[aR,aq,cI,cI];lia|.wh _ a,n,o=>by delta pA Tr.sz;rw[aR,cI];rwa[Nat.add_comm _ _]|.tr a _ b,n,o=>by delta pA Tr.sz;rw[aR,aq,cI,cI];lia
theorem cI:∀(T:Ł Tr)(n:Ń)(o:Ő Ń),(iF T n o).length=de T|[],_,_=>by delta iF de;rfl|t::r,n,o=>by delta iF de;rw[aq,kY,cI]end
theorem Mj:pA t n o=(t.r,o)::DM t.ps (n+1) (O n):=by cases t with|lf r=>rfl|ii v a b=>delta pA Tr.r;show _=_::(iF a _ _++(iF b _ _++[]));rw[aT]|wh v a=>delta pA Tr.r;show _=_::(iF a _ _++[]);rw[aT]|tr a z b=>delta pA Tr.r;show _=_::(iF a _ _++(iF b _ _++[]));rw[aT]
theorem wH{t:Tr}:t.sz=1+Cm t.ps:=by cases t with|lf r=>rfl|ii v a b=>rwa[dH _ _ _]|wh v a=>rfl|tr a z b=>rwa[dH _ _ _]
theorem aer{t:Tr}(h:t.ok):∀T∈t.ps,nA T=true:=by cases t with|lf r=>intro T h;cases h|ii v a b=>intro T H;rcases ax.mp H with rfl|H;exact(ag h).1;rw[aE.mp H];exact(ag h).2|wh v a=>intro T H;rw[aE.mp H];rwa[h]|tr a z b=>intro T H;rcases ax.mp H with rfl|H;exact(ag h).1;rw[aE.mp H];exact(ag h).2
theorem ś{t:Tr}:∀T∈t.ps,dL T<t.d:=by cases t with|lf r=>intro T h;cases h|ii v a b=>intro T H;delta Tr.d;rcases ax.mp H with rfl|H;lia;rw[aE.mp H];lia|wh v a=>intro T H;simp only[aE.mp H];rwa[ah _]|tr a z b=>intro T H;delta Tr.d;rcases ax.mp H with rfl|H;lia;rw[aE.mp H];lia
def GR:Pv->Þ|.T [.S k,_]=>cE k "rows"|_=>bb
def Vs:Pv->Pv|.T [_,p]=>p|_=>.N
inductive ÿ:Ct|mk{t:Tr}{Q:Dv->Hs->ß}{xc:XP}(ok:t.ok)(q:Q (.p (.L (t.ps.map tP))) []):ÿ [.p t.r.p] [] Q xc
inductive ð(d:Ń):Ct|mk{ts:Ł Tr}{o:Ő Ń}{xs:ϑ}{Q:Dv->Hs->ß}{xc:XP}(hd:dL ts<d)(ok:nA ts)(hs:xs.length+de ts<=100000)(q:Q (.p .N) [.L (xs++fW (iF ts xs.length o) xs.length)]):ð d [.r 0,.p (tP ts),.p (eZ o)] [.L xs] Q xc
theorem Gf(B:LX ca Jc W)(S:SX ca W):DX ca Jc W 0 2 ÿ:=by erw[B.e 1 J [] [] (.re (.comp 2 [] (.many [0,1]) (.z (.u2 (.ti 0 (.ix 0 (.i 0))) (.sl 0 (.of (.i 1)) .no))) (.one (.cmp jy 0 (.s "rows"))) 1)) S.xJ rfl Ť Ť λds h Q x c=>?_];induction c with|@mk t Q x ok q=>erw[(Ŗ,?_)];let st:∀y:Pv,y ∈[Pv.N]->æ:=λ_ _=>Ť;cases t with|ii v a b=>delta Tr.r;erw[oA GR Vs Ŗ (λy H=>?_) q];rcases ax.mp H with rfl|H;exact(λ_ q=>q,λ_ _ q=>q);rcases ax.mp H with rfl|H;exact(λ_ q=>q,λ_ _ q=>q);rw[aE.mp H];exact(λ_ q=>q,λ_ _ q=>q)|wh v a=>delta Tr.r;erw[oA GR Vs Ŗ (λy H=>?_) q];rcases ax.mp H with rfl|H;exact(λ_ q=>q,λ_ _ q=>q);rw[aE.mp H];exact(λ_ q=>q,λ_ _ q=>q)|tr a z b=>delta Tr.r;erw[oA GR Vs Ŗ (λy H=>?_) q];rcases ax.mp H with rfl|H;exact(λ_ q=>q,λ_ _ q=>q);rcases ax.mp H with rfl|H;exact(λ_ q=>q,λ_ _ q=>q);rw[aE.mp H];exact(λ_ q=>q,λ_ _ q=>q)|lf r=>delta Tr.r;induction r<;>first|rwa[AT ok]|(erw[oA GR Vs Ŗ (λy H=>?_) q];repeat(first|(rw[aE.mp H];exact(λ_ q=>q,λ_ _ q=>q))|(rcases ax.mp H with rfl|H;exact(λ_ q=>q,λ_ _ q=>q))))
structure Fn where
 f:Å
 ps:ϐ
 os:ϐ
 rs:Ł Tr
def Fn.p(x:Fn):Pv:=.T [.S x.f,.T (x.ps.map .S),.T (x.os.map .S),tP x.rs]
structure Pg where
 bs:Ł (Å×Nm)ls:Ł (Å×Ł Nm)fs:Ł Fn
 rs:Ł Tr
def YC(x:Å×Nm):Pv:=.T [.S x.1,nP x.2]
def x_(x:Å×Ł Nm):Pv:=.T [.S x.1,.T (x.2.map nP)]
def Pg.p(g:Pg):Pv:=.T [.T (g.bs.map YC),.T (g.ls.map x_),.T (g.fs.map Fn.p),tP g.rs]
def rC:Ł Fn->Ń->Ł (Rw×Ő Ń)|[],_=>[]|x::r,n=>(.df x.f,ao)::(iF x.rs (n+1) (O n)++rC r (n+1+de x.rs))
def fi:Ł Fn->Ń|[]=>0|x::r=>1+de x.rs+fi r
def Pg.fl(g:Pg):Ł (Rw×Ő Ń):=rC g.fs 0++iF g.rs (fi g.fs) ao
def Pg.ok(g:Pg):Þ:=g.fs.all (λx=>nA x.rs&&Ñ (dL x.rs) 8)&&(nA g.rs&&(Ñ (dL g.rs) 8&&Ë (fi g.fs+de g.rs) 100000))
theorem je:∀{fs:Ł Fn}{n:Ń},(rC fs n).length=fi fs|[],_=>Ŗ|x::r,n=>by show(_::(iF _ _ _++rC r _)).length=1+de _+fi r;rw[aR,aq,cI,je];lia
inductive Lj:Ct|mk{g:Pg}{Q:Dv->Hs->ß}{xc:XP}(ok:g.ok)(q:Q (.p (.L (fW g.fl 0))) []):Lj [.p g.p] [] Q xc
inductive JO(ts:Ł Tr)(o:Ő Ń)(xs:ϑ)(d:Ń)(post:ϑ):Es->Hs->ß|mk{rest:Ł Tr}{ys:ϑ}{v3 v4 v5:Ő Dv}(e1:post=eI rest)(e2:ys++fW (iF rest ys.length o) ys.length=xs++fW (iF ts xs.length o) xs.length)(hs:ys.length+de rest<=100000)(ok:nA rest)(hd:dL rest<d+1):JO ts o xs d post [O (.r 0),O (.p (tP ts)),O (.p (eZ o)),v3,v4,v5] [.L ys]
inductive JI(ts:Ł Tr)(o:Ő Ń)(xs:ϑ)(d:Ń)(t:Tr)(rest:Ł Tr)(n:Ń)(post:ϑ):Es->Hs->ß|mk{ps:Ł (Ł Tr)}{zs:ϑ}{v5:Ő Dv}(e4:post=ps.map tP)(e5:zs++(fW (DM ps zs.length (O n)) zs.length++fW (iF rest (n+t.sz) o) (n+t.sz))=xs++fW (iF ts xs.length o) xs.length)(hz:zs.length+Cm ps=n+t.sz)(hp:∀p∈ps,nA p=J/\dL p<d):JI ts o xs d t rest n post [O (.r 0),O (.p (tP ts)),O (.p (eZ o)),O (.p t.r.p),O (.p (iP n)),v5] [.L zs]
inductive JQ(g:Pg)(post:ϑ):Es->Hs->ß|mk{rest:Ł Fn}{ys:ϑ}{v2 v3:Ő Dv}(e1:post=rest.map Fn.p)(e2:ys++fW (rC rest ys.length) ys.length=fW (rC g.fs 0) 0)(hs:ys.length+fi rest=fi g.fs)(hm:∀x∈rest,x∈g.fs):JQ g post [O (.p g.p),O (.r 0),v2,v3] [.L ys]
def YX(B:LX ca Jc W)(S:SX ca W)(h:1<=k)(D:DX ca Jc W 2 (k+1) (ð d)):DX ca Jc W 2 (k+2) (ð (d+1)):=by erw[B.e 6 bb [(0,ÿ),(2,ð d)] [] (.one (.fo (.one 3) (.s 1) (.set 4 (.bi eQ (.u 0))<|>.ex (.mt pX 0 (.u (.tup (.u3 4 3 2))))<|>.one (.fo (.one 5) (.s (.cl 0 [] (.u 3))) (.one (.ex (.cl 2 [0] (.u3 0 5 4)))))))) S.yz rfl ((Gf B S).le (cA ‹_›),D,Ť) Ť λds h Q A c=>?_];induction c with|@mk l o X Q A b ok H q=>
  erw[(Ŗ,iT (λ_=>JO l o X d) (.mk (v3:=ao) (v4:=ao) (v5:=ao) rfl rfl H ok b) (λpre x post σ h ex j=>?_) λσ h j=>?_)];.induction j with|@mk rest Y v3 v4 v5 E f H ok b=>cases rest with|f=>cases E|g t rest=>
   let E:x::post=t.r.p::eI rest:=E;cases E;let H:Y.length+(t.sz+de rest)<=100000:=H;let ok:(t.ok&&nA rest)=true:=ok;let b:max t.d (dL rest)<d+1:=b;let(g,m):=ag ok;rw[wH]at H;let C:Y++.T [iP Y.length,t.r.p,eZ o]::(fW (DM t.ps (Y.length+1) (O Y.length)) (Y.length+1)++fW (iF rest (Y.length+t.sz) o) (Y.length+t.sz))=X++fW (iF l X.length o) X.length:=by rw[<-f];show _=Y++fW (pA t Y.length o++iF rest (Y.length+t.sz) o) Y.length;rw[rf,kY,Mj];rfl
   erw[bK (pH (n:=Y.length+1) (b'.mpr ())) (.mk g ?_)];erw[iT (λ_=>JI l o X d t rest Y.length) (.mk (v5:=v5) Ŗ ?_ ?_ λp a=>(aer g p a,by let:=ś p a;lia)) (λF y R σ h G j=>?_) λσ h j=>?_];.rw[aq,b6,bw];rwa[C]
   .rw[aq,wH];rwa[dH _ _ _]
   .induction j with|@mk ps z v5 w v i a=>cases ps with|f=>done|g p ps=>
    cases w;let i:z.length+(de p+Cm ps)=Y.length+t.sz:=i;let(I,K):=a p aJ;let L:t.sz=1+Cm _:=wH;erw[.mk (o:=O _) K I () (JI.mk Ŗ ?_ ?_ λp Z=>a p (aG _ Z))];.rw[<-v,aq,rg,cI,bw];show _=z++(fW (iF p _ _++DM ps _ _) _++_);rw[rf,cI,bw]
    .rw[aq,rg,cI];lia
   .induction j with|@mk ps z v5 w v i a=>cases ps with|g p ps=>done|f=>
    erw[JO.mk Ŗ ?_ ?_ m ()];.rw[show z.length=Y.length+t.sz from ‹_›];rwa[v]
    .rw[wH]at i;lia
  .induction j with|@mk rest Y v3 v4 v5 E f H ok b=>cases rest with|g t rest=>done|f=>let f:Y++[]=_:=f;rw[<-f,aT]at q;rwa[q]
theorem LF(B:LX ca Jc W)(S:SX ca W):∀d:Ń,DX ca Jc W 2 (d+2) (ð d)
 |0=>(Dt.no S.yz).imp λds h Q x c=>by induction c with|mk H ok s q=>lia
 |d+1=>YX B S (aD _ _) (LF B S d)
def IH(B:LX ca Jc W)(S:SX ca W):DX ca Jc W 1 12 Lj:=by erw[B.e 4 J [(2,ð 8)] [] (.set 1 (.QA .nil)<|>.fo (.one 2) (.s (.ix 0 (.i 2))) (.set 3 (.bi eQ (.u 1))<|>.ex (.mt pX 1 (.u (.tup (.u3 3 (.tup (.u2 (.s "def") (.ix 2 (.i 0)))) (.g 0)))))<|>.one (.ex (.cl 2 [0] (.u3 1 (.ix 2 (.i 3)) 3))))<|>.ex (.cl 2 [0] (.u3 1 (.ix 0 (.i 3)) (.g 0)))<|>.re 1) S.OS rfl ((LF B S 8).le (bj _),Ť) Ť λds h Q X c=>?_];induction c with|@mk g Q X ok q=>
  let(o1,f,n,a):=uY ok;let a:=aI a;erw[(Ŗ,iT (λ_=>JQ g) (.mk Ŗ Ŗ (cB _) λ_ h=>h) (λpre x post σ h ex j=>?_) λσ h j=>?_)];.induction j with|@mk r Y v p b E H m=>cases r with|f=>done|g x r=>
   cases b;let H:Y.length+(1+de _+fi _)=fi _:=H;let(P,w):=ag (bJ.mp o1 x (m x aJ));erw[bK (pH (b'.mpr ())) (.mk (o:=O _) (dW w) P (by rw[aq,b6];lia) (JQ.mk Ŗ ?_ ?_ λy z=>m y (aG _ z)))];.rw[<-E];simp only[aq,b6,rg,cI,bw];show _=Y++.T _::fW _ _;rw[rf,cI,<-dH];rfl
   .rw[aq,aq,b6,rg,cI];lia
  .induction j with|@mk r Y v p b E H m=>cases r with|g t r=>done|f=>
    let E:Y++[]=_:=E;rw[aT]at E;subst E;let l:(fW (rC g.fs 0) 0).length=fi g.fs:=by done
    erw[.mk (o:=ao) (dW n) f (by rw[l];rwa[a]) ?_];simp only[Pg.fl,rf,je,cB]at q;rw[l];rwa[q]
theorem Bk:∀{K:ϑ},o6 (.S z) (K++[k])=(o6 (.S z) K||lR k (.S z))|[]=>by show(lR k _||bb)=(bb||lR k _);rw[Bool.or_false,Bool.false_or]|x::r=>by show(lR x _||o6 _ (r++[k]))=(lR x _||o6 _ r||lR k _);rw[Bk,Bool.or_assoc]
theorem qB:∀(l:Ł (Å×Pv))(k us:ϑ),(∀p∈l,o6 (.S p.1) k=bb)->(l.map (·.1)).Nodup->tR (l.map λp=>.S p.1) (l.map λp=>p.2) (k,us)=(k++l.map λp=>.S p.1,us++l.map λp=>p.2)|[],k,us,_,_=>by show Ý k us=Ý (k++[]) (us++[]);rw[aT,aT]|p::l,k,us,h,n=>by let(N,a):=dA.mp n;show tR (l.map _) _ _=_;delta pq pz;rw[h p aJ,qB l _ _ (λq H=>?_) a,bw,bw];rfl;rw[Bk,h q (aG _ H)];rwa[bB.mpr λz=>N (cx.mpr (q,H,(bN.mp z).symm))]
theorem uI:∀{l:Ł (Å×Pv)},pE (l.map λp=>.T [.S p.1,p.2])=O (l.map λp=>.S p.1,l.map λp=>p.2)|[]=>Ŗ|p::l=>by rw[cF,pE,uI];rfl
def SJ:Pv->Pv|.T (a::_)=>a|_=>.N
def ń:Pv->Þ|.T (_::_)=>J|_=>bb
def SU:Pv->Pv|.T [a,b]=>.T [b,a]|_=>.N
def Λ(l:ϐ)(n:Ń):Ł (Å×Pv):=match l with|[]=>[]|z::r=>(z,iP n)::Λ r (n+1)
theorem Gv:∀{l:ϐ}{n:Ń},(IL n (l.map .S)).map SU=(Λ l n).map λp=>.T [.S p.1,p.2]|[],_=>Ŗ|z::r,n=>bU _ Gv
theorem Aq:∀{l:ϐ}{n:Ń},(Λ l n).map (·.1)=l|[],_=>Ŗ|z::r,n=>bU (z::·) Aq
def Xy:(Λ l n).map (λp=>Pv.S p.1)=l.map .S:=by
 let:(Λ l n).map (λp=>Pv.S p.1)=((Λ l n).map (·.1)).map .S:=by rw[bI];rfl
 rw[this,Aq]
theorem Hj:∀{l:ϐ}{n:Ń},(Λ l n).map (λp=>p.2)=jU l n|[],_=>Ŗ|z::r,n=>bU _ Hj
inductive YK:Ct|mk{l:ϐ}{Q:Dv->Hs->ß}{xc:XP}(nd:l.Nodup)(hl:l.length<=100)(q:Q (.p (kL l)) []):YK [.p (.L (l.map .S))] [] Q xc
inductive Q7:Ct|mk{xs:ϑ}{Q:Dv->Hs->ß}{xc:XP}(h:∀x∈xs,ń x=J)(q:Q (.p (.L (xs.map SJ))) []):Q7 [.p (.T xs)] [] Q xc
inductive YJ:Ct|mk{x:Fn}{Q:Dv->Hs->ß}{xc:XP}(hl:(x.ps++x.os).length<=100)(q:Q (.p (.L ((x.ps++x.os).map .S))) []):YJ [.p x.p] [] Q xc
def CG:Ł (Rw×Ő Ń)->ϐ|[]=>[]|(.ak _ d,_)::r=>d::CG r|_::r=>CG r
inductive YD:Ct|mk{g:Pg}{Q:Dv->Hs->ß}{xc:XP}(ok:g.ok)(hl:(dR (CG g.fl)).length<=63)(q:∀ss:ϐ,ss.Perm (dR (CG g.fl))->Q (.p (.L (ss.map .S))) []):YD [.p g.p] [] Q xc
def ņ(g:Pg)(P:Pn)(p:Ő Ń):Wk:=(g.bs.map (·.2),g.ls.map (·.2),[("",[],p)],Ò P.ds.length 0,[],bb,[],[])
inductive Q5:Ct|mk{g:Pg}{P:Pn}{p:Ő Ń}{Q:Dv->Hs->ß}{xc:XP}(hl:P.ds.length<=100)(e:kK "" P.st=O p)(q:Q (.p (ņ g P p).p) []):Q5 [.p g.p,.p P.p] [] Q xc
def WP:Pv->Þ|.T [_,.T (.S z::_),_]=>cE z "ask"|_=>bb
def Ca:Pv->Pv|.T [_,.T [_,_,d],_]=>d|_=>.N
theorem zJ:∀{l:Ł _}{n:Ń},((fW l n).filter WP).map Ca=(CG l).map .S|[],_=>Ŗ|(r,o)::l,n=>by show((Pv.T [iP n,r.p,eZ o]::fW l _).filter _).map Ca=_;induction r<;>first|(rwa[zJ])|(rwa[bU _ zJ])
theorem AI:∀{l:Ł _}{n:Ń}{y:Pv},y∈fW l n->∃m r o,y=.T [iP m,Rw.p r,eZ o]
 |x::l,n,y,h=>by
  rcases ax.mp h with h|h;.exact(n,x.1,x.2,h)
  .rwa[AI h]
def LR(B:LX ca Jc W)(S:SX ca W):DX ca Jc W 34 2 YK:=by erw[B.e 1 J [] [] (.re (.bi ail (.u (.comp 2 [] (.many [0,1]) (.e 0) .no (.tup (.u2 1 0)))))) S.Va rfl Ť Ť λds h Q X c=>?_];induction c with|@mk l Q X n H q=>
  erw[(Ŗ,mD SU Ŗ (λy a=>?_) ?_)];.let(i,b):=mm a;let(x,_,rfl):=vA b;rwa[λR q=>q]
  .rw[Gv];erw[bt uI (bK (b'.mpr ?_) ?_)];.rw[Xy,ae];rwa[H]
   .rw[qB _ _ _ (λ_ _=>Ŗ) (by rw[Aq];rwa[n])];simp only[Xy,Hj];rwa[q]
def DD(B:LX ca Jc W)(S:SX ca W):DX ca Jc W 5 2 Q7:=by erw[B.e 1 J [] [] (.re (.comp 1 [] (.one 0) (.s 0) .no (.ix 0 (.i 0)))) S.J1 rfl Ť Ť λds h Q x c=>?_];induction c with|@mk X Q x h q=>
  erw[(Ŗ,mD SJ Ŗ (λy H=>?_) q)];let:=h y H;delta ń at this;split at this;.rwa[λR q=>q]
  .done
def Bg(B:LX ca Jc W)(S:SX ca W):DX ca Jc W 6 2 YJ:=by erw[B.e 1 J [] [] (.re (.b2 eT (.bi R' (.u (.ix 0 (.i 1)))) (.bi R' (.u (.ix 0 (.i 2)))))) S.EW rfl Ť Ť λds h Q X c=>?_];induction c with|@mk x Q X H q=>rw[aH]at q;exact(Ŗ,bK (pH (b'.mpr (by rw[aq]at H;rw[ae,ae];rwa[aj ‹_› ⋯]))) q)
def RI(B:LX ca Jc W)(S:SX ca W)(D:DX ca Jc W 1 12 Lj):DX ca Jc W 3 13 YD:=by erw[B.e 1 J [(1,Lj)] [] (.re (.aaG (.comp 3 [] (.many [0,1,2]) (.s (.cl 1 [] (.u 0))) (.one (.cmp jy (.ix 1 (.i 0)) (.s "ask"))) (.ix 1 (.i 2))))) S.JX rfl (D,Ť) Ť λds h Q x c=>?_];induction c with|@mk g Q x ok l q=>
  erw[(Ŗ,.mk ok (oA WP Ca Ŗ (λy H=>?_) ?_))];.let(m,r,o,rfl):=AI H;induction r<;>first|exact(λR q=>q,λh R q=>q)|exact(λR q=>q,λh R q=>AT h)
  .rw[zJ];rwa[bt eY (bK (b'.mpr (cA ‹_›)) λa p _=>q a p)]
def xt(B:LX ca Jc W)(S:SX ca W)(D:DX ca Jc W 7 2 vg):DX ca Jc W 35 4 Q5:=by erw[B.e 5 J [(7,vg)] [] (.set 2 (.bi tS (.u (.comp 2 [] (.many [0,1]) (.s (.ix 0 (.i 0))) .no 1)))<|>.set 3 (.bi tS (.u (.comp 2 [] (.many [0,1]) (.s (.ix 0 (.i 1))) .no (.bi tS (.u 1)))))<|>.set 4 (.tup (.u (.tup (.u3 (.g 9) (.tup .nil) (.sM (.fld 3 7 (.fld 2 5 1)) (.g 9))))))<|>.re (.tup (.cons 2 (.u5 3 4 (.b2 uZ (.tup (.u (.i 0))) (.bi eQ (.u (.fld 2 3 1)))) (.tup .nil) (.cl 7 [] (.u 4)))))) S.Aw rfl (D.le (bj _),Ť) Ť λds h Q X c=>?_];induction c with|@mk g P p Q X l e q=>
  erw[(Ŗ,mD (λy=>match y with|.T [_,n]=>n|_=>.N) Ŗ (λy H=>?_) ?_)];.let(x,_,rfl):=cx.mp H;rwa[λR q=>q]
  erw[mD (λy=>match y with|.T [_,n]=>n|_=>.N) Ŗ (λy H=>?_) ?_];.let(x,_,rfl):=cx.mp H;rwa[λR q=>q]
  rw[show(g.bs.map YC).map (λy=>match y with|.T [_,n]=>n|_=>.N)=(g.bs.map (·.2)).map nP by rw[bI,bI];rfl,show(g.ls.map x_).map (λy=>match y with|.T [_,n]=>n|_=>.N)=ro (g.ls.map (·.2))by delta ro;rw[bI,bI];rfl];let a:∀m:Ń,(Ò m [Pv.I 0]).flatten=(Ò m 0).map iP:=λm=>by rw[List.map_replicate];induction m with|h=>rfl|j m b=>rw[yS,List.flatten_cons,b];rfl
  erw[bt (vL e) (bK (c:=uC 0 (P.ds.map _).length&&(uC _ _&&J)) ?_ (vg.mk (fr:=[("",[],p)]) ?_))];.rw[ae,gN.mpr (),gN.mpr ()];rfl
  .rw[a,ae];rwa[q]
section
variable{α:Type}
def sd(n:Ń):Ł (Ń×α)->Þ|[]=>bb|p::r=>Ì p.1 n||sd n r
def E7(n:Ń)(v:α):Ł (Ń×α)->Ł (Ń×α)|[]=>[]|p::r=>(match Ì p.1 n with|J=>(p.1,v)|bb=>p)::E7 n v r
def eL(n:Ń)(v:α)(l:Ł (Ń×α)):Ł (Ń×α):=match sd n l with|J=>E7 n v l|bb=>l++[(n,v)]
theorem Cd{v:α}:∀{l:Ł _},(E7 n v l).length=l.length|[]=>Ŗ|_::_=>bU (·+1) Cd
def qQ{v:α}:(eL n v l).length<=l.length+1:=by delta eL;induction sd n l with|d=>simp only[Cd];rwa[bj _]|e=>simp only[aq];rwa[ah _]
theorem G0{v:α}:∀{l:Ł _},sd n l=J->gO n (E7 n v l)=O v|p::r,h=>by show(match Ì _ n with|J=>O _|bb=>gO n _)=_;let h:(Ì p.1 n||sd n r)=true:=h;induction e:Ì p.1 n with|d=>lia|e=>rw[e]at h⊢;rwa[G0 h]
theorem G1{v:α}(h:m≠n):∀{l:Ł _},gO m (E7 n v l)=gO m l|[]=>Ŗ|p::r=>by show(match Ì _ m with|J=>O _|bb=>gO m _)=match Ì p.1 m with|J=>O p.2|bb=>gO m r;rw[G1 h];induction e:Ì p.1 n with|d=>let:=bB.mpr λz=>h ((aV z).symm.trans (aV e));rw[this]|e=>rfl
theorem Xe:∀{l:Ł (Ń×α)},sd n l=bb->gO n l=ao|[],_=>Ŗ|p::r,h=>by let h:(Ì p.1 n||sd n r)=false:=h;rw[ĝ]at h;show(match Ì p.1 n with|J=>O p.2|bb=>gO n r)=_;rw[h.1];rwa[Xe h.2]
theorem Er{m:Ń}{q:Ń×α}:∀{l:Ł _},gO m (l++[q])=match gO m l with|O x=>O x|ao=>gO m [q]
 |[]=>Ŗ|p::r=>by show(match Ì p.1 m with|J=>O p.2|bb=>gO m _)=match match Ì p.1 m with|J=>O p.2|bb=>gO m r with|O x=>O x|ao=>gO m [q];induction Ì p.1 m with|d=>rfl|e=>rwa[Er]
def sf{v:α}:gO n (eL n v l)=O v:=by delta eL;induction h:sd n l with|d=>rwa[G0 h]|e=>simp only[Er,Xe h];show(match Ì n n with|J=>O v|bb=>ao)=_;rw[tF]
def uE{v:α}(H:m≠n):gO m (eL n v l)=gO m l:=by delta eL;induction h:sd n l with|d=>rwa[G1 H]|e=>
  simp only[Er];let:gO m [(n,v)]=none:=by show(match Ì n m with|J=>O v|bb=>ao)=_;rw[bB.mpr λz=>H (aV z).symm]
  rw[this];induction gO m l<;>rfl
end
def wZ{α:Type}(l:Ł (Ń×α)):ϑ:=l.map λp=>iP p.1
def FC(l:Ł (Ń×Ő Ń)):ϑ:=l.map λp=>eZ p.2
def Nl{b:Ń}:lR (iP a) (.I b)=Ì a b:=zN
theorem DH{n:Ń}:∀{l:Ł (Ń×α)},o6 (.I n) (wZ l)=sd n l|[]=>Ŗ|p::r=>by show(lR (iP p.1) _||o6 _ (wZ r))=(Ì p.1 n||sd n r);rw[Nl,DH]
theorem L9{n:Ń}:∀{l:Ł _},DL (.I n) (eZ v) (wZ l) (FC l)=FC (E7 n v l)|[]=>Ŗ|p::r=>by show(match lR (iP p.1) _ with|J=>eZ v|bb=>eZ p.2)::DL _ _ (wZ r) (FC r)=eZ _::FC _;rw[Nl,L9];induction Ì p.1 n<;>rfl
theorem Hv{v:Ő Ń}:∀{l:Ł _},wZ (E7 n v l)=wZ l|[]=>Ŗ|p::r=>by show iP _::wZ _=iP p.1::wZ r;rw[Hv];induction Ì p.1 n<;>rfl
def L6{n:Ń}{v:Ő Ń}:pq (.I n) (wZ l)=wZ (eL n v l):=by delta pq eL;rw[DH];induction sd n l with|d=>rwa[Hv.symm]|e=>delta wZ;rw[aH];rfl
def L7{n:Ń}:pz (.I n) (eZ v) (wZ l) (FC l)=FC (eL n v l):=by delta pz eL;rw[DH];induction sd n l with|d=>rwa[L9]|e=>delta FC;rw[aH];rfl
structure Ly where bh:Ł (Ń×Ő Ń)fs:Ł (Ń×Ő Ń)sc:Ł (Ń×Ő Ń)ct:Ł (Ń×Ő Ń)
mutual
def lS:Tr->Ń->Ő Ń->Ő Ń->Ly->Ly×Ő Ń|.lf _,n,_,_,S=>(S,O n)|.wh _ a,n,_,c,S=>({(d9 a (n+1) (O n) c S).1 with fs:=eL n (d9 a (n+1) (O n) c S).2 (d9 a (n+1) (O n) c S).1.fs},O n)|.ii _ x y,n,b,c,S=>let p:=d9 y (n+1+de x) b c S;let q:=d9 x (n+1) b c {p.1 with sc:=eL n p.2 p.1.sc};({q.1 with fs:=eL n q.2 q.1.fs},O n)|.tr x _ y,n,b,c,S=>let p:=d9 y (n+1+de x) b c S;d9 x (n+1) b (O n) {p.1 with sc:=eL n p.2 p.1.sc}def d9:Ł Tr->Ń->Ő Ń->Ő Ń->Ly->Ly×Ő Ń|[],_,b,_,S=>(S,b)|t::r,n,b,c,S=>let p:=d9 r (n+t.sz) b c S;lS t n p.2 c {p.1 with bh:=eL n p.2 p.1.bh,ct:=eL n c p.1.ct}end
def Ly.le(S:Ly)(m:Ń):ß:=S.bh.length<=m/\S.fs.length<=m/\S.sc.length<=m/\S.ct.length<=m
theorem Ly.le.mono{S:Ly}(h:S.le m)(k:m<=n):S.le n:=(by let:=h.1;rwa[aj ‹_› ‹_›],by let:=h.2.1;rwa[aj ‹_› ‹_›],by let:=h.2.2.1;rwa[aj ‹_› ‹_›],by let:=h.2.2.2;rwa[aj ‹_› ‹_›])
theorem Xd{S:Ly}(h:S.le m):Ly.le {S with fs:=eL n v S.fs} (m+1):=by let:=qQ (n:=n) (v:=v) (l:=S.fs);let(H,a,b,c):=h;exact(by rwa[aS ‹_›],by show(eL n v _).length<=_;lia,by rwa[aS ‹_›],by rwa[aS ‹_›])
theorem BI{S:Ly}(h:S.le m):Ly.le {S with sc:=eL n v S.sc} (m+1):=by let:=qQ (n:=n) (v:=v) (l:=S.sc);let(H,a,b,c):=h;exact(by rwa[aS ‹_›],by rwa[aS ‹_›],by show(eL n v _).length<=_;lia,by rwa[aS ‹_›])
theorem Xc{S:Ly}(h:S.le m):Ly.le {S with bh:=eL n v S.bh,ct:=eL n c S.ct} (m+1):=by let:=qQ (n:=n) (v:=v) (l:=S.bh);let:=qQ (n:=n) (v:=c) (l:=S.ct);let(H,a,b,d):=h;exact(by show(eL n v _).length<=_;lia,by rwa[aS ‹_›],by rwa[aS ‹_›],by show(eL n c _).length<=_;lia)
mutual
theorem TU:∀(t:Tr)(n:Ń)(b c:Ő Ń)(S:Ly)(m:Ń),S.le m->(lS t n b c S).1.le (m+(3*t.sz-1))|.lf _,n,b,c,S,m,h=>by delta lS;rwa[h.mono (aO _ _)]|.wh _ a,n,b,c,S,m,h=>by delta lS Tr.sz;exact(Xd (gM a _ _ _ _ _ h)).mono ()|.ii _ x y,n,b,c,S,m,h=>by delta lS Tr.sz;exact(Xd (gM x _ _ _ _ _ (BI (gM y _ _ _ _ _ h)))).mono ()|.tr x _ y,n,b,c,S,m,h=>by delta lS Tr.sz;exact(gM x _ _ _ _ _ (BI (gM y _ _ _ _ _ h))).mono ()theorem gM:∀(T:Ł Tr)(n:Ń)(b c:Ő Ń)(S:Ly)(m:Ń),S.le m->(d9 T n b c S).1.le (m+3*de T)
 |[],n,b,c,S,m,h=>by delta d9;rwa[h.mono (ah _)]|t::r,n,b,c,S,m,h=>by
  delta d9 de;let:1<=t.sz:=by rw[wH];rwa[aO _ _]
  exact(TU t _ _ _ _ _ (Xc (gM r _ _ _ _ _ h))).mono ()end
def jE:Ł Tr->Ń->Ϙ|[],_=>[]|t::r,n=>n::jE r (n+t.sz)
structure Pb where
 rw:Ł Rw
 kw:ϑ
 dw:Ł Dv
 df:Ob
 st:Ob
 ls:Ł Ob
def hZ(b:Pb)(S:Ly):Hs:=.I 3 [.p (.L (b.rw.map Rw.p)),.r 1,.r 2,.r 3,.r 4,.r 5,.r 6,.r 7]::.E b.kw b.dw::.C (wZ S.bh) (FC S.bh)::.C (wZ S.fs) (FC S.fs)::.C (wZ S.sc) (FC S.sc)::.C (wZ S.ct) (FC S.ct)::b.df::b.st::b.ls
def QS(b:Pb)(wi:Ő Ń->Ϙ):ß:=∀k,match mI (eZ k) b.kw b.dw with|ao=>wi k=[]|O d=>∃j,d=.r (j+8)/\b.ls[j]?=O (.L ((wi k).map iP))
mutual
def xU(R:Ł Rw)(wi:Ő Ń->Ϙ):Tr->Ń->ß|.lf r,n=>R[n]?=O r|.ii v a b,n=>R[n]?=O (.ii v (.T (eI a)) (.T (eI b)))/\wi (O n)=jE a (n+1)++jE b (n+1+de a)/\AX R wi a (n+1)/\AX R wi b (n+1+de a)|.wh v a,n=>R[n]?=O (.wh v (.T (eI a)))/\wi (O n)=jE a (n+1)/\AX R wi a (n+1)|.tr a z b,n=>R[n]?=O (.tr (.T (eI a)) z (.T (eI b)))/\wi (O n)=jE a (n+1)++jE b (n+1+de a)/\AX R wi a (n+1)/\AX R wi b (n+1+de a)def AX(R:Ł Rw)(wi:Ő Ń->Ϙ):Ł Tr->Ń->ß|[],_=>æ|t::r,n=>xU R wi t n/\AX R wi r (n+t.sz)end
def FL(b:Pb)(x:Dv)(l:Ϙ):ß:=x=.p (.L (l.map iP))\/∃j,x=.r (j+8)/\b.ls[j]?=O (.L (l.map iP))
inductive va(d:Ń):Ct|mk{b:Pb}{S:Ly}{wi:Ő Ń->Ϙ}{ts:Ł Tr}{n m:Ń}{o c:Ő Ń}{x:Dv}{Q:Dv->Hs->ß}{xc:XP}(hw:QS b wi)(zR:AX b.rw wi ts n)(ok:nA ts)(hd:dL ts<d)(hx:FL b x (jE ts n))(hs:S.le m)(hz:m+3*de ts<=400000)(q:Q (.p (eZ (d9 ts n o c S).2)) (hZ b (d9 ts n o c S).1)):va d [.r 0,x,.p (eZ o),.p (eZ c)] (hZ b S) Q xc
inductive Lg(d:Ń):Ct|mk{b:Pb}{S:Ly}{wi:Ő Ń->Ϙ}{t:Tr}{n m:Ń}{o c:Ő Ń}{Q:Dv->Hs->ß}{xc:XP}(hw:QS b wi)(zR:xU b.rw wi t n)(ok:t.ok)(hd:t.d<d)(hs:S.le m)(hz:m+3*t.sz<=400001)(q:Q (.p (eZ (lS t n o c S).2)) (hZ b (lS t n o c S).1)):Lg d [.r 0,.p (iP n),.p (eZ o),.p (eZ c)] (hZ b S) Q xc
def Jl(Jc:Ń->Ct)(d e:Ń):Ń->Ct|400=>va d|401=>Lg e|n=>Jc n
theorem qY:∀{us vs:Ł Tr},de (us++vs)=de us+de vs|[],vs=>by show de vs=de []+de vs;delta de;lia|t::us,vs=>by show t.sz+de (us++vs)=t.sz+de us+de vs;rw[qY];exact(dH _ _ _).symm
theorem BO:∀{us vs:Ł Tr}{n:Ń},jE (us++vs) n=jE us n++jE vs (n+de us)|[],vs,n=>by rfl|t::us,vs,n=>by show n::jE (us++vs) _=n::(jE us _++jE vs (n+(t.sz+de us)));rw[BO,dH]
theorem zc:∀{us vs:Ł Tr}{n:Ń},AX R wi (us++vs) n->AX R wi us n/\AX R wi vs (n+de us)|[],vs,n,h=>by done|t::us,vs,n,h=>by let(H,a):=zc h.2;erw[((h.1,H),?_)];show AX R wi vs (n+(t.sz+de us));rw[<-dH];rwa[a]
theorem Ai:∀{us vs:Ł Tr},nA (us++vs)=J->nA us/\nA vs=J|[],vs,h=>(Ŗ,h)|t::us,vs,h=>by let(H,a):=Ai (ag h).2;exact(by show(t.ok&&nA us)=J;rw[(ag h).1,H];rfl,a)
theorem zB:∀{us vs:Ł Tr},dL (us++vs)=max (dL us) (dL vs)|[],vs=>Ŗ|t::us,vs=>by show max t.d (dL (us++vs))=max (max t.d _) _;rw[zB];lia
theorem Gr{h':Hs}{k:Ń}(H:∀Q:KP,Q [.p (eZ v)] h->A N.xc σ h Q)(a:∀Q:KP,Q [.r i] h->B N.xc σ h Q)(b:∀Q:KP,Q [.p (.I k)] h->C N.xc σ h Q)(hi:h[i]?=O (.C (wZ l) (FC l)))(d:l.length<=500000)(c:h.set i (.C (wZ (eL k v l)) (FC (eL k v l)))=h')(q:N.nx σ h'):pF A B C N σ h:=by erw[H _ (a _ (b _ ?_))];simp only[hi];erw[bK (pH (b'.mpr (by delta wZ;rw[ae];rwa[b9 ‹_› ⋯]))) ?_];rw[L6,L7,c];rwa[q]
inductive JL(b:Pb)(S:Ly)(ts:Ł Tr)(n:Ń)(o c:Ő Ń)(x:Dv)(post:ϑ):Es->Hs->ß|mk{us vs:Ł Tr}{v4:Ő Dv}(e1:ts=us++vs)(e2:post=(jE us n).reverse.map iP):JL b S ts n o c x post [O (.r 0),O x,O (.p (eZ (d9 vs (n+de us) o c S).2)),O (.p (eZ c)),v4] (hZ b (d9 vs (n+de us) o c S).1)
section
variable{ca:Ń->À}{Jc:Ń->Ct}{W:Wd}{d k:Ń}
theorem LX.to(B:LX ca Jc W):LX ca j W:=(B.bl,B.gl,B.tab,B.cls,B.exc)
theorem vn(B:LX ca (Jl Jc d d) W)(S:SX ca W)(D:DI ca (Jl Jc d d) W 401 k):DI ca (Jl Jc d d) W 400 (k+2):=by erw[B.NJ 5 bb [] [401] (.foT (.one 4) (.rev 1) (.dput 2 (.fld 3 2 0) 4<|>.dput 3 (.fld 3 5 0) 4<|>.one (.set 2 (.me 401 0 (.u3 4 2 3))))<|>.re 2) S.ajH rfl Ť (D,Ť) λds h Q X c=>?_];induction c with|@mk b S wi T n m o c x Q X F z ok u G I H q=>
  erw[(Ŗ,?_)];let v:((jE T n).reverse.map iP).map Dv.p=((jE T n).map iP).reverse.map Dv.p:=by rw[<-List.map_reverse]
  suffices L:∀P:Pw,(∀s,P (hZ b s) (((jE T n).reverse.map iP).map .p))->Mn (.one 4) P (nu (pF (sV 2) (s1 (Jq 3 2) (sV 0)) (sV 4)) (nu (pF (sV 3) (s1 (Jq 3 5) (sV 0)) (sV 4)) (AA 2 (w4 3 (Lg d) (sV 0) (bg (sV 4) (bg (sV 2) (bg (sV 3) dD))))))) ((hJ bb (Á (hZ b S)) Q X).sq (qS (sV 2))) [O (.r 0),O x,O (.p (eZ o)),O (.p (eZ c)),ao] (hZ b S)by
   rcases G with rfl|⟨j,rfl,K⟩;.rwa[L (λ_ Y=>Y=((jE T n).map iP).reverse.map .p) λ_=>v]
   .let w:∀s,Jj (hZ b s) (.r (j+8))=O (((jE T n).map iP).map .p):=λs=>by delta Jj;rw[A_ (h:=hZ b s) (l:=j+8) (show b.ls[j]?=_ from K)]
    erw[bt (w S) (L _ λs=>(?_,?_))];.rw[w,v,<-List.map_reverse,List.reverse_reverse]
    .rw[ae,ae,jj,ae,ae]
  intro P M;erw[Gy _ (λ_=>JL b S T n o c x) (.mk (us:=T) (vs:=[]) (v4:=ao) (aT _).symm Ŗ) (λpre post a C j=>by induction j with|mk E e=>rwa[M _]) (λpre y post a C ex j=>?_) λa C j=>?_];.induction j with|@mk us vs v4 E e=>
   subst E;rcases QU us with rfl|⟨us,t,rfl⟩;.cases e
   rw[Qw]at e z ok u H⊢;rw[BO,show jE [t] (n+de us)=[n+de us]from Ŗ,List.reverse_append,List.reverse_singleton,List.singleton_append,cF]at e;injection e with e N;subst e N;let Z:de (us++[t])=de us+t.sz:=by rw[qY];delta de;show _+(_+de [])=_;delta de;exact(dH _ _ _).symm
   let(R,A):=zc (zc z).1;let(U,g):=Ai (Ai ok).1;rw[zB,zB]at u;let hd2:max t.d 0=dL [t]:=by delta dL;show _=max t.d (dL []);rfl
   rw[qY]at H;rw[Z]at H⊢;rw[<-dH];let i:=gM vs (n+de us+t.sz) o c S m I;generalize hp:d9 vs _ o c S=p at i;let e5:d9 (t::vs) (n+de us) o c S=lS t (n+de us) p.2 c {p.1 with bh:=eL (n+de us) p.2 p.1.bh,ct:=eL (n+de us) c p.1.ct}:=by rw[<-hp];rfl
   let(l1,l2,l3,l4):=id i;erw[Gr (λ_ q=>q) (λ_ q=>q) (λ_ q=>q) rfl () rfl ?_];dsimp only[En.sq];erw[Gr (l:=p.1.ct) (λ_ q=>q) (λ_ q=>q) (λ_ q=>q) rfl () rfl ?_];erw[.mk F A.1 (ag g).1 () (Xc i) () ?_];let f:JL b S (us++[t]++vs) n o c x _ _ _:=.mk (vs:=t::vs) (v4:=O (.p (iP (n+de us)))) (by rw[bw];rfl) Ŗ;rw[e5]at f;rwa[f]
  .induction j with|@mk us vs v4 E e=>subst E;induction us with|g t us=>let:=bU Á e;rw[ae,jj]at this;cases this|f=>done
theorem zG{h':Hs}(H:∀Q:KP,Q [.p (eZ v)] h->A N.xc σ h0 Q)(a:∀Q:KP,Q [.r i] h->B N.xc σ h Q)(b:∀Q:KP,Q [.p (.I k)] h->C N.xc σ h Q)(hi:h[i]?=O (.C (wZ l) (FC l)))(e:l.length<=500000)(c:h.set i (.C (wZ (eL k v l)) (FC (eL k v l)))=h')(q:N.nx σ h'):pF A B C N σ h0:=by erw[H _ (a _ (b _ ?_))];simp only[hi];erw[bK (pH (b'.mpr (by delta wZ;rw[ae];rwa[b9 ‹_› ⋯]))) ?_];rw[L6,L7,c];rwa[q]
theorem Bj{k:Ő Ń}(w:QS b wi)(c:∀a:KP,a [.r 1] (hZ b S)->A X σ (hZ b S) a)(e:∀a:KP,a [.p (eZ k)] (hZ b S)->B X σ (hZ b S) a)(f:∀a:KP,a [.p (.L [])] (hZ b S)->C X σ (hZ b S) a)(q:∀x,FL b x (wi k)->Q [x] (hZ b S)):O9 A B C X σ (hZ b S) Q:=by
 erw[c _ (bK Ŗ (e _ ?_))];let H:∃κ,kJ (eZ k)=O κ:=by induction k<;>exact(_,Ŗ)
 let(κ,H):=H;erw[bt H (f _ (bt Ŗ ?_))];let h:=w k;revert h;induction mI _ _ _ with|a=>intro h;rwa[q _ (.inl (by rw[h];rfl))]|c d=>intro h;let(j,rfl,g):=h;rwa[q _ (.inr (j,Ŗ,g))]
theorem H_(h:FL b x l):nW (hZ b S) x=O (l.map iP):=by
 rcases h with rfl|⟨j,rfl,H⟩;.rfl
 .rwa[A_ H]
theorem su{lo:Ő Î}(h:FL b x l)(q:Q (.p (.L (eG (l.map iP) lo hi))) (hZ b S)):qL x lo hi (hZ b S) Q:=by
 rcases h with rfl|⟨j,rfl,H⟩;.rwa[q]
 .show(match nW _ _ with|O X=>Q _ _|ao=>ŧ);rw[H_ (.inr (j,Ŗ,H))];rwa[q]
theorem lU:∀{T:Ł Tr}{n:Ń},(jE T n).length=T.length|[],_=>Ŗ|t::r,n=>bU _ lU
theorem jY:∀{T:Ł Tr},(eI T).length=T.length|[]=>Ŗ|t::r=>by rwa[bU _ jY]
theorem zA{b:Ϙ}(h:a.length=k):eG ((a++b).map iP) ao (O k)=a.map iP:=by show(((a++b).map iP).take k).drop 0=_;rw[fz,aH,<-h,<-ae,oU]
theorem F9{b:Ϙ}(h:a.length=k):eG ((a++b).map iP) (O k) ao=b.map iP:=by show((a++b).map iP).drop k=_;rw[aH,<-h,<-ae,List.drop_left]
theorem Ϻ{c:Ń}{st:É}(r:gT W.K (L.ca (c/100-1)) (L.S.rX c) l st ps)(a:Ë 100 c)(no:∀ds h Q x,¬L.lF c ds h Q x):Di L W c k:=by let(f,F,e,m,b):=r.ex;let n:∀v H Q E,¬dG (L.y W) (L.lF c) v H Q E:=λv H Q E z=>(by let(_,_,_,_,_,_,_,_,c,_,_):=z;rwa[no _ _ _ _ c]);exact(ps,by delta jl;rw[a];exact(f,F,(λv H Q E q=>Ă q (n v H Q E),λA o s H args u v Q E _ _ _ _ q=>Ă q (n v H Q E)),m,b))
seal O9 pF qL in
theorem IF(B:LX ca (Jl Jc d (d+1)) W)(S:SX ca W)(h:1<=k)(D:DI ca (Jl Jc d (d+1)) W 400 k):DI ca (Jl Jc d (d+1)) W 401 (k+2):=by erw[B.NJ 9 bb [(0,ÿ)] [400] (.set 4 (.ix (.fld 3 0 0) 1)<|>.set 5 (.cl 0 [] (.u 4))<|>.iff (.cmp jy (.bi eQ (.u 5)) (.i 0)) (.re 1) .nil<|>.set 6 (.dg2 (.fld 3 1 0) 1 (.lst .nil))<|>.set 7 (.sl 6 .no (.of (.bi eQ (.u (.ix 5 (.i 0))))))<|>.set 8 (.sl 6 (.of (.bi eQ (.u (.ix 5 (.i 0))))) .no)<|>.iff (.cmp jy (.ix 4 (.i 0)) (.s "while")) (.dput (.me 400 0 (.u3 7 1 3)) (.fld 3 3 0) 1<|>.re 1) .nil<|>.dput (.me 400 0 (.u3 8 2 3)) (.fld 3 4 0) 1<|>.iff (.cmp jy (.ix 4 (.i 0)) (.s "if")) (.dput (.me 400 0 (.u3 7 2 3)) (.fld 3 3 0) 1<|>.re 1) .nil<|>.re (.me 400 0 (.u3 7 2 1))) S.ad0 rfl ((Gf B S).le (cA ‹_›),Ť) (D,Ť) λds h Q X c=>?_];induction c with|@mk b S wi t n m o c Q X w Z ok A f C q=>
  let G:b.rw[n]?=O t.r:=by cases t with|lf r=>delta xU at Z;delta Tr.r;rwa[Z]|ii v x y=>delta xU at Z;delta Tr.r;rwa[Z.1]|wh v x=>delta xU at Z;delta Tr.r;rwa[Z.1]|tr x z y=>delta xU at Z;delta Tr.r;rwa[Z.1]
  erw[(Ŗ,bt (jx G) (.mk ok ?_))];cases t with|lf r=>delta lS at q;rwa[q]|wh v a=>delta xU at Z;delta Tr.d at A;delta Tr.sz at C;let(_,g,j):=Z;let e:=gM a (n+1) (O n) c S m f;delta lS at q;erw[Bj (k:=O n) w (λ_ q=>q) (λ_ q=>q) (λ_ q=>q) λx H=>?_];rw[g,<-aT (jE a (n+1))]at H;erw[su (S:=S) H ?_];erw[su (S:=S) H ?_];erw[zG (h:=hZ b (d9 a (n+1) (O n) c S).1) (v:=(d9 a (n+1) (O n) c S).2) (k:=n) (i:=3) (l:=(d9 a (n+1) (O n) c S).1.fs) (λQ q=>va.mk (o:=O n) w j ok (eN ‹_›) (.inl (by rw[zA (by rw[lU,jY])])) f () q) (λ_ q=>q) (λ_ q=>q) rfl (by let:=e.2.1;lia) (h':=hZ b {(d9 a (n+1) (O n) c S).1 with fs:=eL n (d9 a (n+1) (O n) c S).2 (d9 a (n+1) (O n) c S).1.fs}) rfl ?_];rwa[q]|ii v x y=>delta xU at Z;delta Tr.d at A;delta Tr.sz at C;delta Tr.ok at ok;let(_,g,j,E):=Z;let e:=gM y (n+1+de x) o c S m f;let L:=gM x (n+1) o c {(d9 y (n+1+de x) o c S).1 with sc:=eL n (d9 y (n+1+de x) o c S).2 (d9 y (n+1+de x) o c S).1.sc} _ (BI e);delta lS at q;dsimp only at q;erw[Bj (k:=O n) w (λ_ q=>q) (λ_ q=>q) (λ_ q=>q) λz H=>?_];rw[g]at H;erw[su (S:=S) H ?_];erw[su (S:=S) H ?_];generalize F:d9 y (n+1+de x) o c S=p at q e L;erw[zG (h:=hZ b p.1) (v:=p.2) (k:=n) (i:=4) (l:=p.1.sc) (λQ q=>va.mk (o:=o) w E (ag ok).2 () (.inl (by rw[F9 (by rw[lU,jY])])) f () (by rw[F];rwa[q])) (λ_ q=>q) (λ_ q=>q) rfl (by let:=e.2.2.1;lia) (h':=hZ b {p.1 with sc:=eL n p.2 p.1.sc}) rfl ?_];generalize I:d9 x (n+1) o c {p.1 with sc:=eL n p.2 p.1.sc}=P at q L;erw[zG (h:=hZ b P.1) (v:=P.2) (k:=n) (i:=3) (l:=P.1.fs) (λQ q=>va.mk (o:=o) w j (ag ok).1 () (.inl (by rw[zA (by rw[lU,jY])])) (BI e) () (by rw[I];rwa[q])) (λ_ q=>q) (λ_ q=>q) rfl (by let:=L.2.1;lia) (h':=hZ b {P.1 with fs:=eL n P.2 P.1.fs}) rfl ?_];rwa[q]|tr x s y=>delta xU at Z;delta Tr.d at A;delta Tr.sz at C;delta Tr.ok at ok;let(_,g,j,E):=Z;let e:=gM y (n+1+de x) o c S m f;delta lS at q;dsimp only at q;erw[Bj (k:=O n) w (λ_ q=>q) (λ_ q=>q) (λ_ q=>q) λz H=>?_];rw[g]at H;erw[su (S:=S) H ?_];erw[su (S:=S) H ?_];generalize F:d9 y (n+1+de x) o c S=p at q e;erw[zG (h:=hZ b p.1) (v:=p.2) (k:=n) (i:=4) (l:=p.1.sc) (λQ q=>va.mk (o:=o) w E (ag ok).2 () (.inl (by rw[F9 (by rw[lU,jY])])) f () (by rw[F];rwa[q])) (λ_ q=>q) (λ_ q=>q) rfl (by let:=e.2.2.1;lia) (h':=hZ b {p.1 with sc:=eL n p.2 p.1.sc}) rfl ?_];rwa[va.mk (o:=o) (c:=O n) w j (ag ok).1 () (.inl (by rw[zA (by rw[lU,jY])])) (BI e) () q]
theorem Y2(B:LX ca Jc W)(S:SX ca W):∀d:Ń,DI ca (Jl Jc d d) W 400 (4*d+4):=λd=>by
 let o:∀d:Ń,DI ca (Jl Jc d d) W 401 (4*d+2)/\DI ca (Jl Jc d d) W 400 (4*d+4):=λd=>by
  induction d with|h=>
   let h:DI ca (Jl Jc 0 0) W 401 2:=Ϻ S.ad0 Ŗ λds h Q x c=>by induction c with|mk _ _ _ H=>left
   exact(h,vn (LX.to B) S h)|j d i=>let h:DI ca (Jl Jc d _) W 401 _:=IF (LX.to B) S (aD _ _) i.2;exact(h,vn (LX.to B) S h)
 exact(o d).2
end
abbrev Ws:=Ł (Ő Ń×Ϙ)
def rS(o:Ő Ń)(n:Ń):Ws->Ws|[]=>[(o,[n])]|p::r=>if p.1=o then(p.1,p.2++[n])::r else p::rS o n r
def KS(o:Ő Ń):Ws->Ő Ϙ|[]=>ao|p::r=>if p.1=o then O p.2 else KS o r
def zX(ws:Ws):ϑ:=ws.map λp=>eZ p.1
def xE(ws:Ws):Ł Ob:=ws.map λp=>.L (p.2.map iP)
def zK:Ń->Ń->Ł Dv|0,_=>[]|k+1,o=>.r o::zK k (o+1)
def Xa:lR (eZ a) (eZ b)=Đ (a=b):=by induction a with
 |a=>cases b with|a=>rfl|c b=>rfl
 |c a=>induction b with|a=>rfl|c b=>show nq a b=_;rw[zN];induction h:Ì a b with|d=>rw[cM (by rw[aV h])]|e=>rw[cw λz=>nofun]
theorem ŗ:∀(ws:Ws)(off:Ń),mI (eZ o) (zX ws) (zK ws.length off)=ao/\rS o n ws=ws++[(o,[n])]\/∃j l,mI (eZ o) (zX ws) (zK ws.length off)=O (.r (j+off))/\ws[j]?=O (o,l)/\rS o n ws=ws.set j (o,l++[n])
 |[],off=>.inl (Ŗ,Ŗ)|p::r,off=>by
  let e:mI (eZ o) (zX (p::r)) (zK (p::r).length off)=match lR (eZ p.1) _ with|J=>O _|bb=>mI _ (zX r) _:=Ŗ;rw[e,Xa];delta rS;by_cases h:p.1=o;.rw[b5 h];rwa[.inr (0,p.2,(),by rw[<-h];rfl,by rw[<-h];rfl)]
  .rw[cw h,bM h];rcases ŗ r _ with ⟨a,H⟩|⟨j,l,a,H,b⟩;.rwa[.inl (a,by rw[H];rfl)]
   .rwa[.inr (j+1,l,(),H,by rw[b];rfl)]
theorem ĥ{o:Ő Ń}:∀(ws:Ws)(off:Ń),match mI (eZ o) (zX ws) (zK ws.length off)with|ao=>(KS o ws).getD []=[]|O d=>∃j,d=.r (j+off)/\(xE ws)[j]?=O (.L (((KS o ws).getD []).map iP))
 |[],off=>Ŗ|p::r,off=>by
  let e:mI (eZ o) (zX (p::r)) (zK (p::r).length off)=match lR (eZ p.1) _ with|J=>O _|bb=>mI _ (zX r) _:=Ŗ;rw[e,Xa];delta KS;by_cases h:p.1=o;.rw[cM h,b5 h];exact(0,(),Ŗ)
  .rw[cw h,bM h];let:=ĥ (o:=o) r (off+1);revert this;induction mI _ _ _ with|a=>lia|c d=>rwa[λz=>by let(j,a,H):=z;exact(j+1,(),H)]
theorem Nv:∀(ws:Ws),(KS k (rS o n ws)).getD []=if o=k then(KS k ws).getD []++[n]else(KS k ws).getD []
 |[]=>by show(if o=k then O [n]else ao).getD []=if o=k then[]++[n]else[];split<;>rfl|p::r=>by
  delta rS;by_cases h:p.1=o
  .rw[b5 h];delta KS;by_cases H:p.1=k;.rw[b5 H,b5 H,b5 (h.symm.trans H)];rfl
   .lia
  .rw[bM h];delta KS;by_cases H:p.1=k;.lia
   .rw[bM H,bM H];rwa[Nv r]
def wn:Ł (Rw×Ő Ń)->Ń->Ws->Ws|[],_,ws=>ws|(.df _,_)::r,n,ws=>wn r (n+1) ws|(_,o)::r,n,ws=>wn r (n+1) (rS o n ws)
def x9:Ł (Rw×Ő Ń)->Ń->Ł (Å×Ń)|[],_=>[]|(.df z,_)::r,n=>(z,n)::x9 r (n+1)|_::r,n=>x9 r (n+1)
def rA(k:Ő Ń):Ł (Rw×Ő Ń)->Ń->Ϙ|[],_=>[]|(.df _,_)::r,n=>rA k r (n+1)|(_,o)::r,n=>if o=k then n::rA k r (n+1)else rA k r (n+1)
def Eg:Rw->Þ|.df _=>J|_=>bb
def tE(h:Eg r=bb):wn ((r,o)::l) n ws=wn l (n+1) (rS o n ws)/\x9 ((r,o)::l) n=x9 l (n+1)/\∀k,rA k ((r,o)::l) n=if o=k then n::rA k l (n+1)else rA k l (n+1):=by induction r<;>first|exact(Ŗ,Ŗ,λ_=>Ŗ)|cases h
theorem FE:∀(l:Ł _)(n:Ń)(ws:Ws),(KS k (wn l n ws)).getD []=(KS k ws).getD []++rA k l n|[],n,ws=>by show _=_++[];rw[aT];rfl|(r,o)::l,n,ws=>by induction h:Eg r with
  |d=>induction r<;>first|rwa[FE l _ ws]|cases h
  |e=>
   let(H,_,a):=tE h;rw[H,a,FE,Nv];split;.simp
   .rfl
def Q1(o:Ő Ń)(n:Ń):ß:=∀m,o=O m->m<n
def out(k:Ő Ń)(n s:Ń):ß:=∀m,k=O m->m<n\/n+s<=m
theorem fP:∀{l m:Ł _}{n:Ń},rA k (l++m) n=rA k l n++rA k m (n+l.length)
 |[],m,n=>Ŗ|(r,o)::l,m,n=>by
  let e:n+1+l.length=n+(l.length+1):=()
  induction h:Eg r with
  |d=>induction r<;>first|(show rA k (l++m) _=rA k l _++rA k m (n+(l.length+1));rw[fP,e])|cases h
  |e=>
   rw[rH,(tE (ws:=[]) h).2.2,(tE (ws:=[]) h).2.2,fP,e];split;.rfl
   .rfl
def ie(H:o≠k):rA k ((r,o)::l) n=rA k l (n+1):=by induction h:Eg r with
 |d=>induction r<;>first|rfl|cases h
 |e=>rw[(tE (ws:=[]) h).2.2,bM H]
mutual
theorem F2:∀(t:Tr)(n:Ń)(o k:Ő Ń),o≠k->out k n t.sz->rA k (pA t n o) n=[]
 |.lf r,n,o,k,h,u=>by delta pA;rw[ie h];rfl|.ii v a b,n,o,k,h,u=>by
  delta pA;delta Tr.sz at u;let hn:O n≠k:=λz=>by let:=u n z.symm;lia
  rw[ie h,fP,fE a _ _ _ hn λm e=>by let:=u m e;lia,cI,fE b _ _ _ hn λm e=>by let:=u m e;lia];rfl|.wh v a,n,o,k,h,u=>by
  delta pA;delta Tr.sz at u;let hn:O n≠k:=λz=>by let:=u n z.symm;lia
  rw[ie h,fE a _ _ _ hn λm e=>by let:=u m e;lia]|.tr a z b,n,o,k,h,u=>by
  delta pA;delta Tr.sz at u;let hn:O n≠k:=λz=>by let:=u n z.symm;lia
  rw[ie h,fP,fE a _ _ _ hn λm e=>by let:=u m e;lia,cI,fE b _ _ _ hn λm e=>by let:=u m e;lia];rfl
theorem fE:∀(T:Ł Tr)(n:Ń)(o k:Ő Ń),o≠k->out k n (de T)->rA k (iF T n o) n=[]|[],n,o,k,h,u=>by delta iF;rfl|t::r,n,o,k,h,u=>by delta iF;delta de at u;rw[fP,F2 t _ _ _ h λm e=>by let:=u m e;lia,kY,fE r _ _ _ h λm e=>by let:=u m e;lia];rfl
end
def ae5{t:Tr}(h:t.ok):Eg t.r=false:=by cases t with
 |lf r=>induction r<;>first|rfl|cases h
 |ii v a b=>rfl|wh v a=>rfl|tr a z b=>rfl
theorem F1(h:o≠k):∀(ps:Ł _)(n:Ń),out k n (Cm ps)->rA k (DM ps n o) n=[]|[],n,u=>Ŗ|t::r,n,u=>by let u:out k n (de t+Cm r):=u;show rA k (iF t n o++DM r _ o) n=[];rw[fP,fE t _ _ _ h λm e=>by let:=u m e;lia,cI,F1 h r _ λm e=>by let:=u m e;lia];rfl
def Rk(h:t.ok)(b:Q1 o n):rA o (pA t n o) n=[n]:=by rw[Mj,(tE (ws:=[]) (ae5 h)).2.2,b5 Ŗ,F1 (λz=>by let:=b n z.symm;rwa[Ă ‹_› (cR _)]) _ _ λm e=>by let:=b m e;lia]
theorem kQ:∀(T:Ł Tr)(n:Ń)(o:Ő Ń),nA T=J->Q1 o n->rA o (iF T n o) n=jE T n|[],n,o,h,b=>by rfl|t::r,n,o,h,b=>by rw[iF,fP,Rk (ag h).1 b,kY,kQ r _ _ (ag h).2 λm e=>by let:=b m e;rwa[aj ‹_› (aO _ _)]];rfl
structure FH(R:Ł Rw)(wi:Ő Ń->Ϙ)(l:Ł (Rw×Ő Ń))(n:Ń):ß where at':∀i p,l[i]?=O p->R[n+i]?=O p.1wi':∀m,n<=m->m<n+l.length->wi (O m)=rA (O m) l n
section
variable{R:Ł Rw}{wi:Ő Ń->Ϙ}
def FH.left(a:FH R wi (l++m) n)(h:∀j,n<=j->j<n+l.length->rA (O j) m (n+l.length)=[]):FH R wi l n:=(λi p e=>a.at' i p (by rw[aX (aw.mp e).1];rwa[e]),λj H b=>by rw[a.wi' j H (by rw[aq];lia),fP,h j H b,aT])
def FH.right(a:FH R wi (l++m) n)(h:∀j,n+l.length<=j->rA (O j) l n=[]):FH R wi m (n+l.length):=(λi p e=>by let:=a.at' _ p (by rw[aQ (aO _ _),f6];rwa[e]);rw[dH];rwa[this],λj H b=>by rw[a.wi' j (aj (aO _ _) ‹_›) (by rw[aq];lia),fP,h j H];rfl)
def FH.tail(a:FH R wi ((r,o)::l) n)(b:Q1 o n):FH R wi l (n+1):=(λi p e=>by rw[dH,Nat.add_comm 1 i];rwa[a.at' _ p e],λj h H=>by rw[a.wi' j (dE ‹_›) (by rw[aR];lia),ie λz=>by let:=b j z;lia])
mutual
theorem Yp:∀(t:Tr)(n:Ń)(o:Ő Ń),t.ok=J->Q1 o n->FH R wi (pA t n o) n->xU R wi t n
 |.lf r,n,o,h,b,a=>by delta pA at a;delta xU;rwa[a.at' 0 _ Ŗ]|.ii v x y,n,o,h,b,a=>by
  delta Tr.ok at h;delta pA at a;let H:Q1 (O n) (n+1):=λm e=>by cases e;rwa[ah _]
  let w:=a.wi' n (ah _) (by rw[aR];lia);rw[ie λz=>by let:=b n z;rwa[Ă ‹_› (cR _)],fP,kQ x _ _ (ag h).1 H,cI,kQ y _ _ (ag h).2 λm e=>by cases e;rwa[aO _ _]]at w;let a1:=a.tail b;let l1:=a1.left λj c f=>by rw[cI]at f⊢;rwa[fE y _ _ _ (λz=>by cases z;rwa[Ă ‹_› (cR _)]) λm e=>by cases e;lia]
  let d:=a1.right λj c=>fE x _ _ _ λz=>by cases z;lia (λm e=>by cases e;rw[cI]at c;lia);rw[cI]at d;delta xU;exact(a.at' 0 _ Ŗ,w,nH x _ _ (ag h).1 H l1,nH y _ (O n) (ag h).2 (λm e=>by cases e;rwa[aO _ _]) d)|.wh v x,n,o,h,b,a=>by
  delta Tr.ok at h;delta pA at a;let H:Q1 (O n) (n+1):=λm e=>by cases e;rwa[ah _]
  let w:=a.wi' n (ah _) (by rw[aR];lia);rw[ie λz=>by let:=b n z;rwa[Ă ‹_› (cR _)],kQ x _ _ h H]at w;delta xU;exact(a.at' 0 _ Ŗ,w,nH x _ _ h H (a.tail b))|.tr x z y,n,o,h,b,a=>by
  delta Tr.ok at h;delta pA at a;let H:Q1 (O n) (n+1):=λm e=>by cases e;rwa[ah _]
  let w:=a.wi' n (ah _) (by rw[aR];lia);rw[ie λz=>by let:=b n z;rwa[Ă ‹_› (cR _)],fP,kQ x _ _ (ag h).1 H,cI,kQ y _ _ (ag h).2 λm e=>by cases e;rwa[aO _ _]]at w;let a1:=a.tail b;let l1:=a1.left λj c f=>by rw[cI]at f⊢;rwa[fE y _ _ _ (λz=>by cases z;rwa[Ă ‹_› (cR _)]) λm e=>by cases e;lia]
  let d:=a1.right λj c=>fE x _ _ _ λz=>by cases z;lia (λm e=>by cases e;rw[cI]at c;lia);rw[cI]at d;delta xU;exact(a.at' 0 _ Ŗ,w,nH x _ _ (ag h).1 H l1,nH y _ (O n) (ag h).2 (λm e=>by cases e;rwa[aO _ _]) d)theorem nH:∀(T:Ł Tr)(n:Ń)(o:Ő Ń),nA T=J->Q1 o n->FH R wi (iF T n o) n->AX R wi T n
 |[],n,o,h,b,a=>Ť|t::r,n,o,h,b,a=>by
  let h:(t.ok&&nA r)=true:=h;delta iF at a;let l1:=a.left λj c f=>by rw[kY]at f⊢;rwa[fE r _ _ _ (λz=>by let:=b j z;rwa[Ă ‹_› (Nat.not_lt_of_le ‹_›)]) λm e=>by cases e;lia]
  let d:=a.right λj c=>F2 t _ _ _ λz=>by let:=b j z;lia (λm e=>by cases e;rw[kY]at c;lia);rw[kY]at d;delta AX;exact(Yp t n o (ag h).1 b l1,nH r _ o (ag h).2 (λm e=>by let:=b m e;rwa[aj ‹_› (aO _ _)]) d)end
def Wt(R:Ł Rw)(wi:Ő Ń->Ϙ):Ł Fn->Ń->ß|[],_=>æ|x::r,n=>(R[n]?=O (.df x.f)/\wi (O n)=jE x.rs (n+1)/\AX R wi x.rs (n+1))/\Wt R wi r (n+1+de x.rs)
theorem qw:∀(fs:Ł Fn)(n:Ń),out k n (fi fs)->rA k (rC fs n) n=[]|[],n,u=>Ŗ|x::r,n,u=>by let u:out k n (1+de _+fi r):=u;show rA k (iF _ _ _++rC r _) _=[];rw[fP,fE _ _ _ _ λz=>by let:=u n z.symm;lia λm e=>by let:=u m e;lia,cI,qw r _ λm e=>by let:=u m e;lia];rfl
theorem La:∀(fs:Ł Fn)(n:Ń),(∀x∈fs,nA x.rs=J)->FH R wi (rC fs n) n->Wt R wi fs n
 |[],n,h,a=>Ť|x::r,n,h,a=>by
  let a:FH R wi ((.df x.f,ao)::(iF _ _ _++rC r _)) n:=a;let hx:=h x aJ;let H:Q1 (O n) (n+1):=λm e=>()
  let w:=a.wi' n (ah _) (by rw[aR];lia);rw[ie λz=>(),fP,kQ _ _ _ hx H,cI,qw r _ λm e=>(),aT]at w;let a1:=a.tail λm e=>()
  let b:=a1.right λj c=>fE _ _ _ _ λz=>by lia (λm e=>by rw[cI]at c;lia);rw[cI]at b;exact((a.at' 0 _ Ŗ,w,nH _ _ _ hx H (a1.left λj c d=>by rw[cI]at d⊢;rwa[qw r _ λm e=>()])),La r _ (λy g=>h y (aG _ g)) b)
end
def Pg.wi(g:Pg)(k:Ő Ń):Ϙ:=rA k g.fl 0
def Pg.at'{g:Pg}(h:∀x∈g.fs,nA x.rs=J)(H:nA g.rs):Wt (g.fl.map (·.1)) g.wi g.fs 0/\AX (g.fl.map (·.1)) g.wi g.rs (fi g.fs)/\g.wi ao=jE g.rs (fi g.fs):=by let a:FH (g.fl.map (·.1)) g.wi _ 0:=(λi p e=>nofun,λm _ _=>Ŗ);let r:=a.right λj b=>qw _ _ (λm e=>by cases e;rw[je]at b;lia);rw[je,cB]at r;erw[(La _ _ h (a.left λj b H=>by rw[je,cB]at H⊢;rwa[fE _ _ _ _ (λz=>by cases z) λm e=>()]),nH _ _ _ H (λm e=>by cases e) r,?_)];show rA _ (rC _ 0++iF _ _ _) 0=_;rw[fP,qw _ 0 (λm e=>by cases e),je,cB,kQ _ _ _ H λm e=>by cases e];rfl
def Sn{i:Ń}{o:Ù}{k us:ϑ}{a:Pv->Es->Ő Es}{b:Ss}{N:En}{σ:Es}{h:Hs}(Jc:ϑ->ϑ->Es->Hs->ß)(g:Jc [] k σ h)(d:∀pre post σ' h',Jc pre post σ' h'->h'[i]?=O (.F o k us))(step:∀pre x post σ' h',k=pre++x::post->Jc pre (x::post) σ' h'->match a x σ' with|O c=>b ((vu (oo i o k us N)).lp (mE (Á h) (Jc (pre++[x]) post)) (mE (Á h) (oo i o k us N).nx)) c h'|ao=>ŧ)(f:∀σ' h',Jc k [] σ' h'->N.nx σ' (h'.set i (.C k us))):Sl i o k us a b N σ h:=by
 delta Sl;erw[(λj σ' h'=>Jc (k.take j) (k.drop j) σ' h',by done,λj σ' h' w=>d _ _ _ _ w,λj x σ' h' H w=>?_,λσ' h' w=>f σ' h' nofun)];let(l,e):=aw.mp H;let E:k.drop j=x::k.drop (j+1):=by rw[<-e,kq]
 let z:=step _ x _ σ' h' (r8 H) (E▸w);rw[<-xT H]at z;rwa[z]
def uL{h':Hs}(H:∀Q:KP,Q [.p v] h->A N.xc σ h0 Q)(a:∀Q:KP,Q [.r i] h->B N.xc σ h Q)(b:∀Q:KP,Q [.p (.S z)] h->C N.xc σ h Q)(hi:h[i]?=O (.C k us))(f:o6 (.S z) k=bb)(l:k.length<=500000)(c:h.set i (.C (k++[.S z]) (us++[v]))=h')(q:N.nx σ h'):pF A B C N σ h0:=by erw[H _ (a _ (b _ ?_))];simp only[hi];erw[bK (pH (b'.mpr (b9 ‹_› ⋯))) ?_];delta pq pz;rw[f];simp only[c];rwa[q]
def cS{α:Type}(f:α->Pv)(l:Ł (Å×α)):Ob:=.C (l.map λp=>.S p.1) (l.map λp=>f p.2)
theorem vo{α:Type}:∀{l:Ł (Å×α)},z∉l.map (·.1)->o6 (.S z) (l.map λp=>Pv.S p.1)=bb|[],_=>Ŗ|p::r,h=>by rw[cF,ax,not_or]at h;show(cE p.1 z||o6 _ _)=bb;rw[vo h.2,bB.mpr λe=>h.1 (bN.mp e).symm];rfl
theorem vZ:∀{l:Ł _}{p:Å×α},(l.map (·.1)).Nodup->p∈l->kK p.1 l=O p.2
 |q::r,p,n,h=>by
  let(N,a):=dA.mp n;show(match cE q.1 p.1 with|J=>O q.2|bb=>kK p.1 r)=_;rcases ax.mp h with rfl|h;.rw[bN.mpr Ŗ]
  .rw[bB.mpr λe=>N (cx.mpr (p,h,(bN.mp e).symm))];rwa[vZ a h]
def nL:Ł Fn->Ń->Ł (Å×Ń)|[],_=>[]|x::r,n=>(x.f,n)::nL r (n+1+de x.rs)
theorem qC:∀{fs:Ł Fn}{n:Ń},(nL fs n).map (·.1)=fs.map Fn.f|[],_=>Ŗ|x::r,n=>bU (x.f::·) qC
theorem mH:∀{l m:Ł _}{n:Ń},x9 (l++m) n=x9 l n++x9 m (n+l.length)
 |[],m,n=>Ŗ|(r,o)::l,m,n=>by
  let e:n+1+l.length=n+(l.length+1):=()
  induction h:Eg r with
  |d=>induction r<;>first|(show _::x9 (l++m) _=_::(x9 l _++x9 m (n+(l.length+1)));rw[mH,e])|cases h
  |e=>rw[rH,(tE (ws:=[]) h).2.1,(tE (ws:=[]) h).2.1,mH,e];rfl
mutual
theorem Zj:∀(t:Tr)(n:Ń)(o:Ő Ń),t.ok=J->x9 (pA t n o) n=[]
 |.lf r,n,o,h=>by delta Tr.ok at h;delta pA;cases r<;>first|rfl|cases h
 |.ii v a b,n,o,h=>by delta Tr.ok at h;delta pA;show x9 (_++_) (n+1)=[];rw[mH,nN a _ _ (ag h).1,cI,nN b _ _ (ag h).2];rfl|.wh v a,n,o,h=>by delta Tr.ok at h;delta pA;rwa[nN a _ _ h]|.tr a z b,n,o,h=>by delta Tr.ok at h;delta pA;show x9 (_++_) (n+1)=[];rw[mH,nN a _ _ (ag h).1,cI,nN b _ _ (ag h).2];rfl
theorem nN:∀(T:Ł Tr)(n:Ń)(o:Ő Ń),nA T=J->x9 (iF T n o) n=[]|[],n,o,h=>by delta iF;rfl|t::r,n,o,h=>by let h:(t.ok&&nA r)=true:=h;delta iF;rw[mH,Zj t _ _ (ag h).1,kY,nN r _ _ (ag h).2];rfl
end
theorem WN:∀(fs:Ł Fn)(n:Ń),(∀x∈fs,nA x.rs=J)->x9 (rC fs n) n=nL fs n|[],n,h=>Ŗ|x::r,n,h=>by show(x.f,n)::x9 _ _=(x.f,n)::nL r _;rw[mH,nN _ _ _ (h x aJ),cI,WN r _ λy H=>h y (aG _ H)];rfl
def Pg.acH{g:Pg}(h:∀x∈g.fs,nA x.rs=J)(H:nA g.rs):x9 g.fl 0=nL g.fs 0:=by show x9 (rC _ 0++iF _ _ _) 0=_;rw[mH,WN _ _ h,je,cB,nN _ _ _ H,aT]
def jC:Ł Fn->Ń->Ly->Ł (Å×Ő Ń)->Ly×Ł (Å×Ő Ń)|[],_,S,st=>(S,st)|x::r,n,S,st=>jC r (n+1+de x.rs) (d9 x.rs (n+1) ao ao S).1 (st++[(x.f,(d9 x.rs (n+1) ao ao S).2)])
def tW:Ly:=([],[],[],[])
def Pg.lf(g:Pg):Ly×Ł (Å×Ő Ń):=jC g.fs 0 tW []
def Pg.lr(g:Pg):Ly×Ő Ń:=d9 g.rs (fi g.fs) ao ao g.lf.1
def Pg.st(g:Pg):Ł (Å×Ő Ń):=g.lf.2++[(("":Å),g.lr.2)]
def Pg.ws(g:Pg):Ws:=wn g.fl 0 []
def pb(g:Pg)(ws:Ws)(d st:Ob):Pb:=(g.fl.map (·.1),zX ws,zK ws.length 8,d,st,xE ws)
def Pg.Wf{st:Ob}:QS (pb g g.ws d st) g.wi:=λk=>by
 let h:=ĥ (o:=k) g.ws 8;let e:(KS k g.ws).getD []=g.wi k:=by let:=FE (k:=k) g.fl 0 [];rwa[this]
 rw[e]at h;rwa[h]
theorem Ni:∀{ws:Ws}{j:Ń},ws[j]?=O (o,l)->zX (ws.set j (o,L))=zX ws|p::r,0,h=>by cases h;rfl|p::r,j+1,h=>bU (_::·) (Ni h)
def B_:xE (ws.set j (o,l))=(xE ws).set j (.L (l.map iP)):=by delta xE;rw[List.map_set]
theorem Gu:∀{k off:Ń},zK (k+1) off=zK k off++[.r (k+off)]|0,off=>by show[Dv.r off]=[.r _];rw[cB]|k+1,off=>by show Dv.r off::zK _ _=Dv.r off::(zK k _++[.r _]);rw[Gu,show k+(off+1)=k+1+off by lia]
def K9{N:En}(hi:h[i]?=O (.L xs))(l:xs.length<=500000)(H:∀Q:KP,Q [.p (iP n)] h->C N.xc σ h Q)(q:N.nx σ (h.set i (.L (xs++[iP n])))):gd (TM pX.c h (.r i)) (bg C dD N.xc σ h λds a=>pX.o (.r i) ds a λd b=>N.nx σ b):=by
 erw[bK ?_ (H _ ?_)];.show((nW h _).isSome||(zZ h _).isSome)=J;rw[A_ hi];rfl
 .show(match h[i]? with|O (.L xs)=>gd _ (N.nx σ _)|O (.D xs)=>gd _ (N.nx σ _)|_=>ŧ);rw[hi];rwa[bK (pH (b'.mpr (b9 ‹_› ⋯))) q]
def aaz{Ç:Ob}(f:∀Q:KP,Q [.r 1] (hZ (pb g ws D Ç) tW)->A N.xc σ (hZ (pb g ws D Ç) tW) Q)(i:∀Q:KP,Q [.p (eZ o)] (hZ (pb g ws D Ç) tW)->B N.xc σ (hZ (pb g ws D Ç) tW) Q)(H:∀(h':Hs)(Q:KP),Q [.p (iP n)] h'->C N.xc σ h' Q)(v:ws.length<=100000)(k:∀p∈ws,p.2.length<=100000)(q:N.nx σ (hZ (pb g (rS o n ws) D Ç) tW)):wE (i' pX.c pX.o (T1 A B) (bg C dD)) N σ (hZ (pb g ws D Ç) tW):=by
 erw[f _ (bK (by rfl) (i _ ?_))];let h:∃κ,kJ (eZ o)=O κ:=by induction o<;>exact(_,Ŗ)
 let(κ,h):=h;erw[bt h (bt (x:=(zX ws,zK _ 8)) Ŗ ?_)];rcases ŗ ws 8 with ⟨a,e⟩|⟨j,l,a,e,m⟩
 .rw[e]at q;rw[a];erw[bK (pH (b'.mpr (by delta zX;rw[ae];rwa[b9 ‹_› ⋯]))) ?_];let d:(xE ws).length=ws.length:=ae _;let lh:(hZ (pb g ws D Ç) tW).length=ws.length+8:=by show(xE ws).length+8=_;rw[d]
  let s:∀x,(List.set (hZ (pb g ws D Ç) tW++[Ob.L []]) 1 (Ob.E (zX ws++[eZ o]) (zK ws.length 8++[Dv.r (ws.length+8)]))).set (ws.length+8) x=hZ (_,_,_,D,Ç,(xE ws++[Ob.L []]).set _ x) tW:=λx=>Ŗ;rw[lh];erw[K9 (xs:=[]) ?_ (by rwa[aN _]) (H _) ?_];.show(xE ws++[Ob.L []])[ws.length]?=_;rw[<-d,aQ (ah _),fM];rfl
  .rw[s];let b:(xE ws++[Ob.L []]).set ws.length (Ob.L ([]++[iP n]))=xE (ws++[(o,[n])]):=by delta xE;rw[<-ae,List.set_append,bM (cR _),fM,aH];rfl
   let t:zX ws++[eZ o]=zX (ws++[(o,[n])]):=by delta zX;rw[aH];rfl
   rw[b,t,<-Gu];let u:ws.length+1=(ws++[Ý o [n]]).length:=by rw[aq];rfl
   rw[u];rwa[q]
 .rw[m]at q;simp only[a];erw[K9 (xs:=l.map iP) ?_ ?_ (H _) ?_];.show(xE ws)[j]?=_;delta xE;rw[aM,e];rfl
  .rw[ae];let:=k _ (aL e);rwa[aj ‹_› ⋯]
  .let b:(hZ (pb g ws D Ç) tW).set (j+8) (Ob.L (l.map iP++[iP n]))=hZ (pb g (ws.set j (o,l++[n])) D Ç) tW:=by show hZ (g.fl.map _,zX ws,zK _ 8,D,Ç,(xE ws).set j _) tW=hZ (_,_,_,D,Ç,_) tW;rw[Ni e,B_,cH,aH];rfl
   rw[b];rwa[q]
def XG:Pv->Pv|.T [_,r,_]=>r|_=>.N
theorem HI:∀{l:Ł _}{n:Ń},(fW l n).map XG=(l.map (·.1)).map Rw.p|[],_=>Ŗ|x::l,n=>bU _ HI
theorem FO:∀{ws:Ws},(rS o n ws).length<=ws.length+1/\∀m,(∀p∈ws,p.2.length<=m)->∀p∈rS o n ws,p.2.length<=m+1
 |[]=>(ah _,λm h p H=>by rw[aE.mp H];rwa[aD _ _])|q::r=>by
  delta rS;split
  .erw[(⋯,λm h p H=>?_)];rcases ax.mp H with rfl|H;.simp only[aq];let:=h q aJ;rwa[cA ‹_›]
   .let:=h p (aG _ H);rwa[aS ‹_›]
  .let(c,a):=FO (o:=o) (n:=n) (ws:=r);erw[(nofun,λm h p H=>?_)];rcases ax.mp H with rfl|H;.let:=h p aJ;rwa[aS ‹_›]
   .rwa[a m (λy b=>h y (aG _ b)) p H]
theorem zY:∀(fs:Ł Fn)(n:Ń)(S:Ly)(st:Ł _),(jC fs n S st).2.map (·.1)=st.map (·.1)++fs.map Fn.f|[],n,S,st=>(aT _).symm|x::r,n,S,st=>by show(jC r _ _ _).2.map _=_;rw[zY,aH,bw];rfl
theorem WE:∀{k off m:Ń},k+off<=m->Q0 m (zK k off)=J|0,_,_,_=>Ŗ|k+1,off,m,h=>by show(Đ _&&Q0 m _)=J;rw[cM (),WE ()];rfl
theorem WG:∀{ws:Ws},bH m (xE ws)=J|[]=>Ŗ|p::r=>by show(J&&bH m (xE r))=J;rw[WG];rfl
def N0{st:Ob}:(hZ (pb g ws d st) S).length=ws.length+8:=by show(xE ws).length+8=_;delta xE;rw[ae]
def aez{st:Ob}(h:bO (ws.length+8) d)(H:bO (ws.length+8) st):bH (ws.length+8) (hZ (pb g ws d st) S)=true:=by show(J&&(Đ (1<ws.length+8)&&(Đ (2<ws.length+8)&&(Đ (3<ws.length+8)&&(Đ (4<ws.length+8)&&(Đ (5<ws.length+8)&&(Đ (6<ws.length+8)&&(Đ (7<ws.length+8)&&J)))))))&&(Q0 _ (zK _ 8)&&(J&&(J&&(J&&(J&&(bO _ d&&(bO _ st&&bH _ (xE ws)))))))))=J;rw[WE (ah _),h,H,WG];rfl
inductive JA(g:Pg)(post:ϑ):Es->Hs->ß|mk{l:Ł (Rw×Ő Ń)}{n:Ń}{ws:Ws}{D:Ł (Å×Ń)}{v2 v3 v4:Ő Dv}(e1:post=fW l n)(e2:wn l n ws=g.ws)(e3:D++x9 l n=nL g.fs 0)(h1:ws.length<=n)(h2:∀p∈ws,p.2.length<=n)(h3:n+l.length<=100000):JA g post [O (.r 0),O (.p (.L (fW g.fl 0))),v2,v3,v4,ao] (hZ (pb g ws (cS iP D) (cS eZ [])) tW)
theorem Ab:∀fs:Ł Fn,fs.length<=fi fs|[]=>ah _|x::r=>by let:=Ab r;show r.length+1<=1+de _+fi r;lia
def ad5(N:(fs.map Fn.f).Nodup)(e:D++(z,n)::r=nL fs 0)(c:fi fs<=100000):z∉D.map (·.1)/\D.length<=100000:=by
 let:=qC (fs:=fs) (n:=0);rw[<-e,aH,cF]at this;erw[(λH=>?_,?_)];.rw[<-this]at N;exact(dg.mp N).2.2 z H z aJ Ŗ
 .let h:=bU Á this;rw[aq,ae,ae]at h;rwa[aj (aj (aO _ _) (iK h)) (aj (Ab fs) c)]
def Pr{α:Type}{st:Ł (Å×α)}(hn:st.map (·.1)++r=fs.map Fn.f)(c:fi fs<=100000):st.length<=100000:=by let h:=bU Á hn;rw[aq,ae,ae]at h;rwa[aj (aj (aO _ _) (iK h)) (aj (Ab fs) c)]
def Gn:(nL fs n).map (λp=>Pv.S p.1)=fs.map λx=>Pv.S x.f:=by
 let:(nL fs n).map (λp=>Pv.S p.1)=((nL fs n).map (·.1)).map Pv.S:=by rw[bI];rfl
 rw[this,qC,bI];rfl
def R3:gq ((nL fs 0).map λp=>Pv.S p.1)=O (fs.map Fn.f):=by
 let:(fs.map λx=>Pv.S x.f)=(fs.map Fn.f).map Pv.S:=by rw[bI];rfl
 rw[Gn,this];rwa[eY]
def R1{st:Ob}:(hZ (pb g ws (cS iP D) st) S).set 6 (.C ((D.map λp=>Pv.S p.1)++[.S z]) ((D.map λp=>iP p.2)++[iP n]))=hZ (pb g ws (cS iP (D++[(z,n)])) st) S:=by delta cS;rw[aH,aH];rfl
def HB:(hZ (pb g ws d (cS eZ D)) S).set 7 (.C ((D.map λp=>Pv.S p.1)++[.S z]) ((D.map λp=>eZ p.2)++[eZ n]))=hZ (pb g ws d (cS eZ (D++[(z,n)]))) S:=by delta cS;rw[aH,aH];rfl
inductive JB(g:Pg)(ob:Ù)(post:ϑ):Es->Hs->ß|mk{rest:Ł Fn}{n:Ń}{S:Ly}{st:Ł (Å×Ő Ń)}{v2 v3 v4 v5:Ő Dv}{m:Ń}{pr:Ł (Å×Ń)}(e1:post=rest.map λx=>Pv.S x.f)(e2:jC rest n S st=g.lf)(ha:Wt (g.fl.map (·.1)) g.wi rest n)(hs:S.le m)(hz:m+3*fi rest<=3*fi g.fs)(hm:∀x∈rest,x∈g.fs)(hn:st.map (·.1)++rest.map Fn.f=g.fs.map Fn.f)(SS:nL g.fs 0=pr++nL rest n):JB g ob post [O (.r 0),O (.p (.L (fW g.fl 0))),v2,v3,v4,v5] (hZ (pb g g.ws (.F ob ((nL g.fs 0).map λp=>Pv.S p.1) ((nL g.fs 0).map λp=>iP p.2)) (cS eZ st)) S)
def YV{st:Ob}(h:L=ws.length+8)(H:bO (ws.length+8) d)(a:bO (ws.length+8) st)(q:R (Rm L σ) (hZ (pb g ws d st) S)):mE L R σ (hZ (pb g ws d st) S):=by delta mE;rw[gF (by rw[N0,h];rwa[ah _])];erw[bK ?_ q];rw[h];rwa[aez H a]
inductive Lh:Ct|mk{g:Pg}{Q:Dv->Hs->ß}{xc:XP}(ok:g.ok)(nd:(g.fs.map Fn.f).Nodup)(ne:∀x∈g.fs,x.f≠"")(q:Q (.p .N) (hZ (pb g g.ws (cS iP (nL g.fs 0)) (cS eZ g.st)) g.lr.1)):Lh [.r 0,.p (.L (fW g.fl 0))] [.I 3 []] Q xc
def Ja(Jc:Ń->Ct):Ń->Ct|3=>Lh|400=>va 8|401=>Lg 8|n=>Jc n
section
variable{ca:Ń->À}{Jc:Ń->Ct}{W:Wd}{k:Ń}
seal pF wE O9 i' in
def Y5(B:LX ca (Ja Jc) W)(S:SX ca W)(Sr:qp W.K (ca 3) "Paths.__init__" (c8 (top 70) 0) ["self","triples"])(w:W.mg "Paths"=O (.ref (ca 3)))(D:DI ca (Ja Jc) W 400 k):DI ca (Ja Jc) W 3 (k+2):=by erw[Lk.lF ["self","triples","number","row","around","name"] ["self","triples"] bb [] [400] B (.fS 3 0 (.F7 3 [] (.many [0,1,2]) (.s 1) .no 1) 0<|>.fS 3 1 .Zr 0<|>.fS 3 2 .Bn 0<|>.fS 3 3 .Bn 0<|>.fS 3 4 .Bn 0<|>.fS 3 5 .Bn 0<|>.fS 3 6 .Bn 0<|>.fS 3 7 .Bn 0<|>.foT (.many [2,3,4]) (.p (.s 1)) (.one (.iff (.cmp jy (.ix 3 (.i 0)) (.s "def")) (.one (.dput 2 (.fld 3 6 0) (.ix 3 (.i 1)))) (.one (.ex (.mt pX (.sdf (.fld 3 1 0) 4) (.u 2))))))<|>.foH (.one 5) (.fld 3 6 0) (.one (.dput (.me 400 0 (.u3 (.dg2 (.fld 3 1 0) (.sM (.fld 3 6 0) 5) (.lst .nil)) (.g 0) (.g 0))) (.fld 3 7 0) 5))<|>.one (.dput (.me 400 0 (.u3 (.dg2 (.fld 3 1 0) (.g 0) (.lst .nil)) (.g 0) (.g 0))) (.fld 3 7 0) (.g 9))) Sr w rfl Ť (D,Ť) λds h Q xc c=>?_];cases c with|@mk g Q xc ok N ne q=>
  let(o1,U,X,C):=uY ok;let X:=dW X;let C:=aI C;let Ub:∀x∈g.fs,nA x.rs=true:=λx w=>(ag (bJ.mp o1 x w)).1;let(Y,Z,at3):=Pg.at' Ub U;let edf:=Pg.acH Ub U;let ln:g.fl.length=fi g.fs+de g.rs:=by delta Pg.fl;rw[aq,je,cI]
  let cz:fi g.fs<=100000:=aj (aO _ _) C;erw[(Ŗ,mD XG Ŗ (λy H=>?_) ?_)];.let(m,r,o,rfl):=AI H;rwa[λR q=>q]
  rw[HI];erw[Gy (fW g.fl 0) (λ_=>JA g) (.mk (ws:=[]) (D:=[]) (v2:=ao) (v3:=ao) (v4:=ao) rfl rfl edf (ah 0) (λp A=>nomatch A) (by rw[ln,cB];rwa[C])) (λ_ _ _ _ _=>Ŗ) (λpre x post a G ex j=>?_) λa G j=>?_]
  .induction j with|@mk l n ws D v2 v3 v4 b e E h1 I M=>cases l with|f=>cases b|g y l=>let(r,o):=y;cases b;rw[aR]at M;cases hd:Eg r with|d=>
    cases r<;>first|cases hd;all_goals fail|skip
    ext z;let E:D++(z,n)::x9 l (n+1)=nL g.fs 0:=E;let(hD,hL):=ad5 N E cz;erw[uL (z:=z) (v:=iP n) (h:=hZ (pb g ws (cS iP D) (cS eZ [])) tW) (i:=6) (λ_ q=>q) (λ_ q=>q) (λ_ q=>q) rfl (vo hD) (by rw[ae];rwa[aj ‹_› ∅]) R1 ?_];rwa[.mk rfl e (by rw[bw];rwa[E]) (aS ‹_›) (λp A=>aS (I p A)) (by rw[AS];rwa[M])]|e=>let(w1,w2,_):=tE (o:=o) (l:=l) (n:=n) (ws:=ws) hd;rw[w1]at e;rw[w2]at E;let(a1,a2):=FO (o:=o) (n:=n) (ws:=ws);let fin:JA g (fW l (n+1)) [O (.r 0),O (.p (.L (fW g.fl 0))),O (.p (iP n)),O (.p r.p),O (.p (eZ o)),ao] (hZ (pb g (rS o n ws) (cS iP D) (cS eZ [])) tW):=.mk rfl e E () (a2 n I) (by rw[AS];rwa[M]);induction r<;>first|rwa[ê hd]|rwa[aaz (ws:=ws) (o:=o) (n:=n) (λ_ q=>q) (λ_ q=>q) (λ_ _ q=>q) () λp A=>by let:=I p A;lia fin]
  .induction j with|@mk l n ws D v2 v3 v4 b e E h1 I M=>induction l with|g y l=>cases b|f=>
   let e:ws=g.ws:=e;subst e;let E:D++[]=nL g.fs 0:=E;rw[aT]at E;subst E;let ndf:((nL g.fs 0).map (·.1)).Nodup:=by rw[qC];rwa[N]
   erw[bt R3 λob=>Sn (λ_=>JB g ob) (.mk (pr:=[]) (m:=0) Gn rfl Y (ah _,ah _,ah _,ah _) (iK (cB _)) (λ_ h=>h) rfl rfl) (λpre post a G j=>?_) (λpre x post a G ex j=>?_) λa G j=>?_];.induction j with|mk=>rfl
   .induction j with|@mk t n S st v2 v3 v4 v5 m pr b e P T d hm hn SS=>cases t with|f=>cases b|g x t=>
    cases b;let P:(_/\_/\_)/\_:=P;obtain⟨⟨_,Qq,ha2⟩,SG⟩:=P;let d:m+3*(1+de x.rs+fi t)<=3*fi g.fs:=d;let(p1,p2):=ag (bJ.mp o1 x (hm x aJ));let p2:=dW p2;let BH:=gM x.rs (n+1) ao ao S m T;let w:kK x.f (nL g.fs 0)=O n:=vZ (p:=(x.f,n)) ndf (by rw[SS];rwa[aW _ aJ]);let Bw:x.f∉st.map (·.1):=λd=>by rw[<-hn,cF]at N;exact(dg.mp N).2.2 _ d _ aJ Ŗ
    let hsl:=Pr hn cz;let e:jC t (n+1+de x.rs) (d9 x.rs (n+1) ao ao S).1 (st++[(x.f,(d9 x.rs (n+1) ao ao S).2)])=g.lf:=e;generalize A:d9 x.rs (n+1) ao ao S=p at BH e;erw[uL (z:=x.f) (v:=eZ p.2) (h:=hZ (pb g g.ws (.F ob ((nL g.fs 0).map λp=>Pv.S p.1) ((nL g.fs 0).map λp=>iP p.2)) (cS eZ st)) p.1) (i:=7) (λQ q=>?_) (λ_ q=>q) (λ_ q=>q) rfl (vo Bw) (by rw[ae];rwa[aj ‹_› ∅]) HB ?_];.erw[bK (by rfl) ?_];erw[Bj (k:=O n) Pg.Wf (λ_ q=>q) (λ_ q=>bt (vL w) q) (λ_ q=>q) λy H=>?_];rw[Qq]at H;rwa[va.mk (o:=ao) (c:=ao) Pg.Wf ha2 p1 p2 H T () (by rw[A];rwa[q])]
    .erw[YV ?_ Ŗ Ŗ (.mk (pr:=pr++[(x.f,n)]) rfl e SG BH () (λy H=>hm y (aG _ H)) ?_ ?_)];.rwa[N0]
     .rw[aH,bw];rwa[hn]
     .rw[bw];rwa[SS]
   .induction j with|@mk t n S st v2 v3 v4 v5 m pr b e P T d hm hn SS=>induction t with|g x t=>cases b|f=>
    let e:(S,st)=g.lf:=e;let Bw:("":Å)∉st.map (·.1):=λd=>by rw[List.map_nil,aT]at hn;rw[hn]at d;let(x,w,he):=cx.mp d;rwa[ne x w he]
    let hsl:=Pr hn cz;delta Pg.st Pg.lr at q;rw[<-e]at q;show pF _ _ _ _ _ (hZ (pb g g.ws (cS iP (nL g.fs 0)) (cS eZ st)) S);erw[uL (z:="") (v:=eZ (d9 g.rs (fi g.fs) ao ao S).2) (h:=hZ (pb g g.ws (cS iP (nL g.fs 0)) (cS eZ st)) (d9 g.rs (fi g.fs) ao ao S).1) (i:=7) (λQ q=>?_) (λ_ q=>q) (λ_ q=>q) rfl (vo Bw) (by rw[ae];rwa[aj ‹_› ∅]) HB q];erw[bK (by rfl) ?_];erw[Bj (k:=ao) Pg.Wf (λ_ q=>q) (λ_ q=>q) (λ_ q=>q) λy H=>?_];rw[at3]at H;rwa[va.mk (o:=ao) (c:=ao) Pg.Wf Z U X H T () q]
def YO:ϑ->Ń->ϑ|[],_=>[]|_::r,n=>iP n::YO r (n+1)
def OE(xs:ϑ):Pv:=.dct xs (YO xs 0)
theorem Ls:∀{l:ϐ}{n:Ń},YO (l.map .S) n=jU l n|[],_=>Ŗ|_::_,_=>bU _ Ls
def OF:OE (l.map .S)=kL l:=by delta OE kL;rw[Ls]
def Zy:Pv->Pv|.T [a,.T ps,.T os,_]=>.T [a,OE (ps++os)]|_=>.N
def G_(ns:Ł Nm):Pv:=.T (ns.map nP)
def oa:Ő (Ł (Å×Ł Nm))->Pv|ao=>.N|O w=>.wld (w.map λp=>.T [.S p.1,G_ p.2])
def Pg.ow(g:Pg):Ł (Å×ϐ):=(g.fs.map λx=>(x.f,x.ps++x.os))++[(("":Å),[])]
def Pg.pn(g:Pg)(ss:ϐ)(wd:Ł (Å×Ł Nm)):Pn where bs:=g.bs.map (·.1);ls:=g.ls.map (·.1);ds:=ss;ow:=g.ow;wd:=wd;rw:=g.fl.map (·.1);wi:=.dct (zX g.ws) (g.ws.map λp=>.L (p.2.map iP));bh:=g.lr.1.bh;fs:=g.lr.1.fs;sc:=g.lr.1.sc;ct:=g.lr.1.ct;df:=nL g.fs 0;st:=g.st
theorem Mp:∀{ws:Ws}{off:Ń},(∀i,h[i+off]?=(xE ws)[i]?)->o9 (pR h 0 (n+1)) (zK ws.length off)=O (ws.map λp=>.L (p.2.map iP))
 |[],off,_=>Ŗ|p::r,off,H=>by
  let a:=H 0;rw[cB]at a;let e:pR h 0 (n+1) (.r off)=O (.L (p.2.map iP)):=by rw[pR,a];rfl
  show o9 _ (.r off::zK _ _)=_;rw[o9,e,Mp λi=>by let:=H (i+1);rw[show i+(off+1)=i+1+off by lia];rwa[this]];rfl
def mc(h:f d=O x)(H:o9 f r=O xs):o9 f (d::r)=O (x::xs):=by rw[o9,h,H]
def ZF:pR (hZ (pb g g.ws (cS iP (nL g.fs 0)) (cS eZ g.st)) g.lr.1) 0 6 (.r 0)=O (g.pn ss wd).pa:=by rwa[bU (è _) (mc (f:=pR _ 0 5) (d:=.p _) Ŗ (mc (by show è (Pv.dct (zX _)) (o9 _ (zK _ 8))=_;rw[Mp (h:=hZ (pb g g.ws (cS iP (nL g.fs 0)) (cS eZ g.st)) g.lr.1) (n:=3) (off:=8) λi=>Ŗ];rfl) (mc (d:=.r 2) Ŗ (mc (d:=.r 3) Ŗ (mc (d:=.r 4) Ŗ (mc (d:=.r 5) Ŗ (mc (d:=.r 6) Ŗ (mc (d:=.r 7) (r:=[]) Ŗ Ŗ))))))))]
structure GdM(g:Pg):ß where
 ok:g.ok=J
 nd:(g.fs.map Fn.f).Nodup
 ne:∀x∈g.fs,x.f≠""nb:(g.bs.map (·.1)).Nodup
 nl:(g.ls.map (·.1)).Nodup
 lb:g.bs.length<=100ll:g.ls.length<=100lf:g.fs.length<=90no:∀x∈g.fs,(x.ps++x.os).Nodup/\(x.ps++x.os).length<=50dr:(dR (CG g.fl)).length<=63
def CM(w:Ő (Ł (Å×Ł Nm))):Ł (Å×Ł Nm):=w.getD []
def X9(w:Ő (Ł (Å×Ł Nm))):ß:=((CM w).map (·.1)).Nodup/\(CM w).length<=100
def wP(g:Pg):Ob:=.C (g.ow.map λp=>.S p.1) (g.ow.map λp=>kL p.2)
def Pg.ol(g:Pg):Ł (Å×Pv):=g.fs.map λx=>(x.f,kL (x.ps++x.os))
def olO(g:Pg):Ob:=.C (g.ol.map λp=>.S p.1) (g.ol.map λp=>p.2)
def zr(g:Pg)(o:Ob):Hs:=[.I 2 [.p (kL (g.bs.map (·.1))),.p (kL (g.ls.map (·.1))),.r 1],o]
inductive Ra:Ct|mk{g:Pg}{w:Ő (Ł (Å×Ł Nm))}{Q:Dv->Hs->ß}{xc:XP}(G:GdM g)(hw:X9 w)(q:∀ss:ϐ,ss.Perm (dR (CG g.fl))->Q (.p .N) [.I 2 [.p (kL (g.bs.map (·.1))),.p (kL (g.ls.map (·.1))),.r 1,.p (kL ss),.p (Zh G_ (CM w)),.p (g.pn ss (CM w)).pa],wP g]):Ra [.r 0,.p g.p,.p (oa w)] [.I 2 []] Q xc
def Jp(Jc:Ń->Ct):Ń->Ct|2=>Ra|3=>Lh|n=>Jc n
def Ľ(g:Pg)(ss:ϐ):Hs:=[.I 2 [.p (kL (g.bs.map (·.1))),.p (kL (g.ls.map (·.1))),.r 1,.p (kL ss)],wP g]
def Z3{g:Pg}{ss:ϐ}{w:Ő _}{Q':KP}{x:XP}(h:X9 w)(q:Q' [.p (Zh G_ (CM w))] (Ľ g ss)):Vj (s1 (NU bb) (sV 2)) Pa (sN WU.o (bg (sV 2) dD)) x [O (.r 0),O (.p g.p),O (.p (oa w))] (Ľ g ss) Q':=by induction w with|a=>rwa[q]|c d=>
  let e:(d.map λp=>Pv.T [.S p.1,G_ p.2])=(d.map λp=>Ý p.1 (G_ p.2)).map λp=>.T [.S p.1,p.2]:=by rw[bI];rfl
  let E:(d.map λp=>Ý p.1 (G_ p.2)).map (·.1)=d.map (·.1):=by rw[bI];rfl
  show gC _ _ _;rw[e];erw[bt uI (bK (b'.mpr (by rw[ae,ae];rwa[h.2])) ?_)];rw[qB _ _ _ (λ_ _=>Ŗ) (by rw[E];rwa[h.1])];simp only[bI,bI];rwa[q]
seal pF Vj in
def Y7(B:LX ca (Jp Jc) W)(S:SX ca W)(r:qp W.K (ca 2) "Plan.__init__" (c8 (top 69) 0) ["self","program","world"])(H:W.mg "Plan"=O (.ref (ca 2)))(h:13<=k)(D:DI ca (Jp Jc) W 3 k):DI ca (Jp Jc) W 2 (k+2):=by let R:=IH B S;erw[Lk.lF ["self","program","world"] ["self","program","world"] bb [(34,YK),(5,Q7),(6,YJ),(3,YD),(1,Lj)] [3] B (.fS 2 0 (.cl 34 [] (.u (.cl 5 [] (.u (.ix 1 (.i 0)))))) 0<|>.fS 2 1 (.cl 34 [] (.u (.cl 5 [] (.u (.ix 1 (.i 1)))))) 0<|>.fS 2 2 (.bi ũ (.u (.F7 1 [] (.one 0) (.s (.ix 1 (.i 2))) .no (.tup (.u2 (.ix 0 (.i 0)) (.cl 34 [] (.u (.cl 6 [] (.u 0))))))))) 0<|>.dput .Gq (.fld 2 2 0) (.g 9)<|>.fS 2 3 (.cl 34 [] (.u (.cl 3 [] (.u 1)))) 0<|>.fS 2 4 (.Qz (.isN bb 2) .Gq (.bi WU (.u 2))) 0<|>.one (.fS 2 5 (.lM (.nwl 3 (.u (.cl 1 [] (.u 1))))) 0)) r H rfl ((LR B S).le (),(DD B S).le (),(Bg B S).le (),(RI B S R).le (aS ‹_›),R.le (),Ť) (D,Ť) λds h Q X c=>?_];induction c with|@mk g w Q X G m q=>
  let n:(g.bs.map YC).map SJ=(g.bs.map (·.1)).map .S:=by rw[bI,bI];rfl
  let o:(g.ls.map x_).map SJ=(g.ls.map (·.1)).map .S:=by rw[bI,bI];rfl
  let t:(g.fs.map Fn.p).map Zy=g.ol.map λp=>.T [.S p.1,p.2]:=by delta Pg.ol;rw[bI,bI];erw[yR λx _=>?_];show Pv.T [.S x.f,OE (x.ps.map .S++x.os.map .S)]=Pv.T [.S x.f,kL (x.ps++x.os)];rw[<-aH,OF]
  let b:g.ol.map (·.1)=g.fs.map Fn.f:=by delta Pg.ol;rw[bI];rfl
  let d:g.ol.length=g.fs.length:=by delta Pg.ol;rw[ae]
  erw[(Ŗ,.mk λx H=>by let(y,_,rfl):=cx.mp H;rfl ?_)];rw[n];erw[.mk G.nb (by rw[ae];rwa[G.lb]) ?_];erw[Q7.mk λx H=>by let(y,_,rfl):=cx.mp H;rfl ?_];rw[o];erw[.mk G.nl (by rw[ae];rwa[G.ll]) ?_];erw[mD Zy Ŗ (λy A=>?_) ?_]
  .let(x,H,rfl):=cx.mp A;intro R q;erw[.mk (aj (G.no x H).2 ∅) (.mk (G.no x H).1 (aj (G.no x H).2 ∅) ?_)];let e:Zy x.p=.T [.S x.f,kL (x.ps++x.os)]:=by show Pv.T [.S x.f,OE (x.ps.map .S++x.os.map .S)]=_;rw[<-aH,OF]
   rw[e]at q;rwa[q]
  rw[t];erw[bt uI (bK (b'.mpr (by rw[ae,d];let:=G.lf;rwa[aj ‹_› ∅])) ?_)];rw[qB _ _ _ (λ_ _=>Ŗ) (by rw[b];rwa[G.nd])];erw[uL (z:="") (v:=kL []) (i:=1) (h:=zr g (olO g)) (h':=zr g (wP g)) (λ_ q=>q) (λ_ q=>q) (λ_ q=>q) rfl ?_ ?_ ?_ ?_];.erw[vo λj=>?_];rw[b]at j;let(x,H,C):=cx.mp j;rwa[G.ne x H C]
  .rw[ae,d];let:=G.lf;rwa[aj ‹_› ∅]
  .delta wP Pg.ow;delta zr Pg.ol;rw[aH,aH,bI,bI,bI,bI];rfl
  rwa[.mk G.ok G.dr λl a=>.mk (a.symm.nodup (jn _).1) (by rw[a.length_eq];let:=G.dr;rwa[aj ‹_› ⋯]) (Z3 m (.mk G.ok (Lh.mk G.ok G.nd G.ne (bt (x:=.p (g.pn l (CM w)).pa) ((Sv).trans (bU _ ZF)) (bK Ŗ (q l a))))))]
end
theorem Et{v:α}:∀{l:Ł _},z∉l.map (·.1)->kK z (l++[(z,v)])=O v|[],_=>by show(match cE z z with|J=>O v|bb=>ao)=_;rw[bN.mpr Ŗ]|p::r,h=>by rw[cF,ax,not_or]at h;show(match cE p.1 z with|J=>O p.2|bb=>kK z _)=_;rw[bB.mpr λe=>h.1 (bN.mp e).symm];rwa[Et h.2]
def Pt(G:GdM g):kK "" g.st=O g.lr.2:=by erw[Et λh=>?_];simp only[Pg.lf,zY]at h;let(x,H,e):=cx.mp h;rwa[G.ne x H e]
def Pg.w0(g:Pg)(ss:ϐ)(w:Ő (Ł (Å×Ł Nm))):Wk:=ņ g (g.pn ss (CM w)) g.lr.2
inductive Li:Ct|mk{g:Pg}{w:Ő (Ł (Å×Ł Nm))}{Q:Dv->Hs->ß}{xc:XP}(G:GdM g)(hw:X9 w)(q:∀ss:ϐ,ss.Perm (dR (CG g.fl))->Q (.p .N) [.I 4 [.p (g.pn ss (CM w)).p,.p (g.w0 ss w).p]]):Li [.r 0,.p g.p,.p (oa w)] [.I 4 []] Q xc
def Jm:Ń->Ct|2=>Ra|3=>Lh|4=>Li|84=>λds h Q x=>Li (ds++[.p .N]) h Q x|400=>va 8|_=>Lg 8
def Y6(B:LX ca Jm W)(S:SX ca W)(r:CZ W.K (ca 4) "Machine.__init__" (c8 (top 74) 0) ["self","program","world"] [.none])(x:W.mg "Machine"=O (.ref (ca 4)))(h:4<=k)(D:DI ca Jm W 2 k):DI ca Jm W 4 (k+2)/\DI ca Jm W 84 (k+2):=by erw[Lk.aif (dd:=[.p .N]) (dvs:=[.iq]) (fn:=yd [(35,Q5)]) (fok:=[35]) (iok:=[2]) ["self","program","world"] _ bb B (.fS 4 0 (.lM (.nwl 2 (.u2 1 2))) 0<|>.one (.fS 4 1 (.cl 35 [] (.u2 1 (.fld 4 0 0))) 0)) r x (jB Ŗ) rfl ((xt B S (LU B S)).le (aS ‹_›),Ť) (D,Ť) (λds h Q X c=>?_) rfl rfl rfl rfl rfl (.cons Ŗ .nil) (λ_ _ _=>(Ŗ,Ť)) λ_ _ _ _ c=>c];induction c with|@mk g w Q X G a q=>
  erw[(Ŗ,Ra.mk G a λs H=>?_)];let l:s.length<=100:=by rw[H.length_eq];let:=G.dr;rwa[aj ‹_› ⋯]
  rwa[Q5.mk (P:=g.pn s (CM w)) l (Pt G) (q s H)]
def GO:Rw->Þ|.tr _ _ _=>J|_=>bb
def nh(R:Ł Rw)(lo hi:Ń)(q:Ő Ń):ß:=∀m,q=O m->lo<=m/\m<hi/\∃r,R[m]?=O r/\GO r=bb
def K2(R:Ł Rw)(lo hi:Ń)(c:Ő Ń):ß:=∀m,c=O m->lo<=m/\m<hi/\∃r,R[m]?=O r/\GO r=J
def aiB:Rw->Þ|.ii _ _ _=>J|.wh _ _=>J|_=>bb
def adj:Rw->Þ|.ii _ _ _=>J|.tr _ _ _=>J|_=>bb
structure Laid(R:Ł Rw)(lo hi:Ń)(S:Ly)(m:Ń):ß where
 bh:∃q,gO m S.bh=O q/\nh R lo hi q
 ct:∃c,gO m S.ct=O c/\K2 R lo hi c
 fs:∀r,R[m]?=O r->aiB r->∃q,gO m S.fs=O q/\nh R lo hi q
 sc:∀r,R[m]?=O r->adj r->∃q,gO m S.sc=O q/\nh R lo hi q
structure iD(S S':Ly)(m:Ń):ß where
 bh:gO m S'.bh=gO m S.bh
 fs:gO m S'.fs=gO m S.fs
 sc:gO m S'.sc=gO m S.sc
 ct:gO m S'.ct=gO m S.ct
def iD.refl:iD S S m:=(Ŗ,Ŗ,Ŗ,Ŗ)
theorem iD.trans(a:iD S T m)(b:iD T U m):iD S U m:=(b.bh.trans a.bh,b.fs.trans a.fs,b.sc.trans a.sc,b.ct.trans a.ct)
def Laid.same{lo:Ń}(l:Laid R lo hi S m)(s:iD S T m):Laid R lo hi T m:=(by rw[s.bh];rwa[l.bh],by rw[s.ct];rwa[l.ct],by rw[s.fs];rwa[l.fs],by rw[s.sc];rwa[l.sc])
def qT(h:m≠n):iD S {S with fs:=eL n v S.fs} m:=(Ŗ,uE h,Ŗ,Ŗ)
def uJ(h:m≠n):iD S {S with sc:=eL n v S.sc} m:=(Ŗ,Ŗ,uE h,Ŗ)
def Hu(h:m≠n):iD S {S with bh:=eL n v S.bh,ct:=eL n c S.ct} m:=(uE h,Ŗ,Ŗ,uE h)
def nh.at{lo:Ń}(h:lo<=n)(H:n<hi)(a:R[n]?=O r)(t:GO r=bb):nh R lo hi (O n):=λm e=>by cases e;exact(h,H,r,a,t)
section
variable{R:Ł Rw}{wi:Ő Ń->Ϙ}{lo hi:Ń}
mutual
theorem TV:∀(t:Tr)(n:Ń)(b c:Ő Ń)(S:Ly),t.ok=J->xU R wi t n->nh R lo hi b->K2 R lo hi c->lo<=n->n+t.sz<=hi->(∃q,gO n S.bh=O q/\nh R lo hi q)->(∃c,gO n S.ct=O c/\K2 R lo hi c)->nh R lo hi (lS t n b c S).2/\(∀m,n<=m->m<n+t.sz->Laid R lo hi (lS t n b c S).1 m)/\∀m,m<n\/n+t.sz<=m->iD S (lS t n b c S).1 m
 |.lf r,n,b,c,S,h,H,g,d,j,l,u,w=>by
  delta Tr.sz at l⊢;delta xU at H;delta lS;let K:GO r=false:=by delta Tr.ok at h;cases r<;>first|rfl|rwa[ê h]
  erw[(.at j (dh ‹_›) H K,λm m1 M=>?_,λm _=>.refl)];obtain rfl:m=n:=()
  erw[(u,w,λA e f=>?_,λA e f=>?_)];.delta Tr.ok at h;rw[H]at e;cases e;cases r<;>first|rwa[ê f]|rwa[ê h]
  .delta Tr.ok at h;rw[H]at e;cases e;cases r<;>first|rwa[ê f]|rwa[ê h]
 |.wh v a,n,b,c,S,h,H,g,d,j,l,u,w=>by
  delta Tr.sz at l⊢;delta xU at H;delta Tr.ok at h;delta lS;let(Q,E,G):=H;let(I,o,i):=jf a (n+1) (O n) c S h G (.at j () Q Ŗ) d (aS ‹_›) ();erw[(.at j () Q Ŗ,λm m1 M=>?_,λm F=>(i m ()).trans (qT ()))];by_cases e:m=n;.subst e;let s:=i m ();erw[(by rw[show gO m _=_ from s.bh];rwa[u],by rw[show gO m _=_ from s.ct];rwa[w],λA _ _=>(_,sf,I),λA e f=>?_)];rw[Q]at e;cases e;cases f
  .exact(o m () ()).same (qT e)|.ii v x y,n,b,c,S,h,H,g,d,j,l,u,w=>by
  delta Tr.sz at l⊢;delta xU at H;delta Tr.ok at h;delta lS;let(Q,E,G,B):=H;let(I,o,i):=jf y (n+1+de x) b c S (ag h).2 B g d () ();dsimp only;generalize d9 y (n+1+de x) b c S=p at I o i;let(C,D,k):=jf x (n+1) b c {p.1 with sc:=eL n p.2 p.1.sc} (ag h).1 G g d (aS ‹_›) ();generalize d9 x (n+1) b c {p.1 with sc:=eL n p.2 p.1.sc}=q at C D k;erw[(.at j () Q Ŗ,λm m1 M=>?_,λm F=>(i m ()).trans ((uJ ()).trans ((k m ()).trans (qT ()))))];by_cases e:m=n;.subst e;let s:=i m ();let s2:=k m ();erw[(by rw[show gO m _=_ from s2.bh.trans s.bh];rwa[u],by rw[show gO m _=_ from s2.ct.trans s.ct];rwa[w],λA _ _=>(_,sf,C),λA _ _=>(p.2,s2.sc.trans sf,I))]
  .by_cases L:m<n+1+de x;.exact(D m () ‹_›).same (qT e)
   .exact(((o m (c6.mp ‹_›) ()).same (uJ e)).same (k m ())).same (qT e)|.tr x z y,n,b,c,S,h,H,g,d,j,l,u,w=>by
  delta Tr.sz at l⊢;delta xU at H;delta Tr.ok at h;delta lS;let(Q,E,G,B):=H;let(I,o,i):=jf y (n+1+de x) b c S (ag h).2 B g d () ();dsimp only;generalize d9 y (n+1+de x) b c S=p at I o i;let(C,D,k):=jf x (n+1) b (O n) {p.1 with sc:=eL n p.2 p.1.sc} (ag h).1 G g (λm e=>by cases e;exact(j,(),_,Q,Ŗ)) (aS ‹_›) ();erw[(C,λm m1 M=>?_,λm F=>(i m ()).trans ((uJ ()).trans (k m ())))];by_cases e:m=n;.subst e;let s:=i m ();let s2:=k m ();erw[(by rw[show gO m _=_ from s2.bh.trans s.bh];rwa[u],by rw[show gO m _=_ from s2.ct.trans s.ct];rwa[w],λA e f=>?_,λA _ _=>(p.2,s2.sc.trans sf,I))];rw[Q]at e;cases e;cases f
  .by_cases L:m<n+1+de x;.rwa[D m () ‹_›]
   .exact((o m (c6.mp ‹_›) ()).same (uJ e)).same (k m ())theorem jf:∀(T:Ł Tr)(n:Ń)(b c:Ő Ń)(S:Ly),nA T=J->AX R wi T n->nh R lo hi b->K2 R lo hi c->lo<=n->n+de T<=hi->nh R lo hi (d9 T n b c S).2/\(∀m,n<=m->m<n+de T->Laid R lo hi (d9 T n b c S).1 m)/\∀m,m<n\/n+de T<=m->iD S (d9 T n b c S).1 m
 |[],n,b,c,S,h,H,g,d,j,l=>by delta d9;exact(g,λm m1 M=>by delta de at M;rwa[Ă ‹_› (Nat.not_lt_of_le ‹_›)],λm _=>.refl)|t::r,n,b,c,S,h,H,g,d,j,l=>by
  delta de at l⊢;let H:xU R wi t n/\AX R wi r (n+t.sz):=H;let h:(t.ok&&nA r)=true:=h;let(I,o,i):=jf r (n+t.sz) b c S (ag h).2 H.2 g d (aj ‹_› (aO _ _)) ();delta d9;dsimp only;generalize d9 r (n+t.sz) b c S=p at I o i;let hz:1<=t.sz:=by rw[wH];rwa[aO _ _]
  let(C,D,k):=TV t n p.2 c {p.1 with bh:=eL n p.2 p.1.bh,ct:=eL n c p.1.ct} (ag h).1 H.1 I d j () (_,sf,I) (_,sf,d);erw[(C,λm m1 M=>?_,λm F=>(i m ()).trans ((Hu ()).trans (k m ())))];by_cases e:m<n+t.sz;.rwa[D m m1 e]
  .exact((o m (c6.mp ‹_›) ()).same (Hu ())).same (k m ())end
end
def tL(bs ls:ϐ):Vx->ß|.n _=>æ|.b z=>z∈bs|.s z=>z∈ls|.i z v=>z∈ls/\tL bs ls v|.t v=>tL bs ls v|.o _ x y=>tL bs ls x/\tL bs ls y
def Vx.rc:Vx->Ń|.n _=>0|.b _=>1|.s _=>1|.i _ v=>v.rc+1|.t v=>v.rc|.o _ x y=>x.rc+y.rc
def O3:Ł Vx->Ń|[]=>0|v::r=>v.rc+O3 r
def Rw.rc:Rw->Ń|.st _ v=>v.rc|.pu _ v=>v.rc+1|.po _ _=>1|.pt _ u v=>u.rc+v.rc+1|.te v=>v.rc|.ii v _ _=>v.rc|.wh v _=>v.rc|.fa v=>v.rc|.ca _ _ s=>O3 s|.rt v=>v.rc|_=>0
def Zn:ϐ:=["door","a","zz"]
structure Sc where
 bs:ϐ
 ls:ϐ
 fs:Ł (Å×Ń)inF:Þ
def Ϲ(c:Sc):Rw->ß|.st z v=>z∈c.bs/\tL c.bs c.ls v|.pu z v=>z∈c.ls/\tL c.bs c.ls v|.po z y=>z∈c.bs/\y∈c.ls|.pt z u v=>z∈c.ls/\tL c.bs c.ls u/\tL c.bs c.ls v|.ak z d=>z∈c.bs/\d∈Zn|.te v=>tL c.bs c.ls v|.ii v _ _=>tL c.bs c.ls v|.wh v _=>tL c.bs c.ls v|.tr _ z _=>z∈c.bs|.fa v=>tL c.bs c.ls v|.ca z f s=>z∈c.bs/\(f,s.length)∈c.fs/\∀v∈s,tL c.bs c.ls v|.rt v=>c.inF=J/\tL c.bs c.ls v|.df _=>ŧ
def A0(c:Sc)(r:Rw):ß:=Ϲ c r/\r.lo 6=J/\r.rc<=40
mutual
def uX(c:Sc):Tr->ß|.lf r=>r.lf=J/\A0 c r|.ii v a b=>tL c.bs c.ls v/\v.dp<6/\v.rc<=40/\gY c a/\gY c b|.wh v a=>tL c.bs c.ls v/\v.dp<6/\v.rc<=40/\gY c a|.tr a z b=>z∈c.bs/\gY c a/\gY c b
def gY(c:Sc):Ł Tr->ß|[]=>æ|t::r=>uX c t/\gY c r
end
mutual
theorem Zz{c:Sc}:∀(t:Tr)(n:Ń)(o:Ő Ń),uX c t->∀p∈pA t n o,A0 c p.1
 |.lf r,n,o,h,p,H=>by delta uX at h;delta pA at H;rw[aE.mp H];rwa[h.2]|.ii v a b,n,o,h,p,H=>by
  delta uX at h;delta pA at H;let(d,f,g,e,i):=h;rcases ax.mp H with rfl|H;.exact(d,aB f,g)
  .rcases bE.mp H with H|H;.rwa[jz a _ _ e p H]
   .rwa[jz b _ _ i p H]|.wh v a,n,o,h,p,H=>by
  delta uX at h;delta pA at H;let(d,f,g,e):=h;rcases ax.mp H with rfl|H;.exact(d,aB f,g)
  .rwa[jz a _ _ e p H]|.tr a z b,n,o,h,p,H=>by
  delta uX at h;delta pA at H;let(d,e,i):=h;rcases ax.mp H with rfl|H;.exact(d,Ŗ,aN _)
  .rcases bE.mp H with H|H;.rwa[jz a _ _ e p H]
   .rwa[jz b _ _ i p H]
theorem jz{c:Sc}:∀(T:Ł Tr)(n:Ń)(o:Ő Ń),gY c T->∀p∈iF T n o,A0 c p.1
 |[],n,o,h,p,H=>by delta iF at H;cases H|t::r,n,o,h,p,H=>by
  delta gY at h;delta iF at H;rcases bE.mp H with H|H;.rwa[Zz t _ _ h.1 p H]
  .rwa[jz r _ _ h.2 p H]
end
mutual
theorem VU{c:Sc}:∀(t:Tr),uX c t->t.ok=J|.lf r,h=>by delta uX at h;delta Tr.ok;rwa[h.1]|.ii v a b,h=>by delta uX at h;delta Tr.ok;rw[fj a h.2.2.2.1,fj b h.2.2.2.2];rfl|.wh v a,h=>by delta uX at h;delta Tr.ok;rwa[fj a h.2.2.2]|.tr a z b,h=>by delta uX at h;delta Tr.ok;rw[fj a h.2.1,fj b h.2.2];rfl
theorem fj{c:Sc}:∀(T:Ł Tr),gY c T->nA T=J|[],h=>Ŗ|t::r,h=>by delta gY at h;show(t.ok&&nA r)=J;rw[VU t h.1,fj r h.2];rfl
end
def Pg.fns(g:Pg):Ł (Å×Ń):=g.fs.map λx=>(x.f,x.ps.length)
def Pg.sc(g:Pg)(o:ϐ)(i:Þ):Sc:=(o++g.bs.map (·.1),g.ls.map (·.1),g.fns,i)
structure K6(g:Pg):ß extends GdM g where
 fok:∀x∈g.fs,gY (g.sc (x.ps++x.os) J) x.rs
 QD:gY (g.sc [] bb) g.rs
 BD:∀p∈g.ls,p.2.length<=12
structure X7(g:Pg)(P:Pn)(f:Å)(lo hi:Ń)(o:ϐ):ß where
 ow:kK f P.ow=O o
 ol:o.length<=50st:∃p,kK f P.st=O p/\nh P.rw lo hi p
 df:f≠""->∃n,kK f P.df=O n/\P.rw[n]?=O (.df f)row:∀m,lo<=m->m<hi->∃r,P.rw[m]?=O r/\A0 (g.sc o !cE f "") r/\(∀z d,r=.ak z d->d∈P.ds)/\Laid P.rw lo hi (P.bh,P.fs,P.sc,P.ct) m
def Pj{α:Type}{A B C:Ł α}(h:i<B.length):(A++(B++C))[A.length+i]?=B[i]?:=by rw[aQ (aO _ _),f6,aX h]
theorem zI:∀{l:Ł _}{z d:Å}{o:Ő Ń},(Rw.ak z d,o)∈l->d∈CG l
 |(r,a)::l,z,d,o,h=>by
  rcases ax.mp h with h|h;.cases h;rwa[aJ]
  .let:=zI h;induction r<;>first|done|rwa[aG _ this]
theorem Gx:∀{fs g:Ł Fn}{n:Ń},rC (fs++g) n=rC fs n++rC g (n+fi fs)|[],g,n=>Ŗ|x::r,g,n=>by show _::(iF _ _ _++rC (r++g) _)=_::(iF _ _ _++rC r _)++rC g (n+(1+de _+fi r));rw[Gx,rH,bw,show n+1+de _+fi r=n+(1+de x.rs+fi r)by lia]
theorem HD:∀{fs g:Ł Fn},fi (fs++g)=fi fs+fi g|[],g=>(cB _).symm|x::r,g=>by show 1+de _+fi (r++g)=1+de _+fi r+fi g;rw[HD];exact(dH _ _ _).symm
theorem Gj:∀{fs g:Ł Fn}{n:Ń},nL (fs++g) n=nL fs n++nL g (n+fi fs)|[],g,n=>Ŗ|x::r,g,n=>by show _::nL (r++g) _=_::(nL r _++nL g (n+(1+de _+fi r)));rw[Gj,show n+1+de _+fi r=n+(1+de x.rs+fi r)by lia]
theorem BE:∀{fs g:Ł Fn}{n:Ń}{S:Ly}{st:Ł _},jC (fs++g) n S st=jC g (n+fi fs) (jC fs n S st).1 (jC fs n S st).2|[],g,n,S,st=>Ŗ|x::r,g,n,S,st=>by show jC (r++g) _ _ _=jC g (n+(1+de _+fi r)) (jC r _ _ _).1 (jC r _ _ _).2;rw[BE,show n+1+de _+fi r=n+(1+de x.rs+fi r)by lia]
theorem BF:∀{fs:Ł Fn}{n:Ń}{S:Ly}{st:Ł _}{p:Å×Ő Ń},p∈st->p∈(jC fs n S st).2|[],n,S,st,p,h=>h|x::r,n,S,st,p,h=>BF (fs:=r) (cX _ h)
theorem FT:∀{fs g:Ł Fn}{n:Ń},Wt R wi (fs++g) n->Wt R wi g (n+fi fs)|[],g,n,h=>h|x::r,g,n,h=>by let:=FT h.2;show Wt R wi g (n+(1+de _+fi r));rw[show n+(1+de _+fi r)=n+1+de x.rs+fi r by lia];rwa[this]
theorem yk:∀{fs:Ł Fn}{n:Ń}{S:Ly}{st:Ł _},(∀x∈fs,nA x.rs=J)->Wt R wi fs n->m<n->iD S (jC fs n S st).1 m|[],n,S,st,h,H,a=>.refl|x::r,n,S,st,h,H,a=>by let(_,_,b):=jf _ _ ao ao S (h x aJ) H.1.2.2 λm e=>by lia λm e=>by lia (ah _) (ah _);exact(b m ()).trans (yk (λy c=>h y (aG _ c)) H.2 ())
def K6.Ub(G:K6 g):∀x∈g.fs,nA x.rs=true:=λx h=>fj _ (G.fok x h)
def Bp(G:K6 g)(s:ss.Perm (dR (CG g.fl))):X7 g (g.pn ss wd) "" (fi g.fs) (fi g.fs+de g.rs) []:=by
 let(c,a,f):=Pg.at' G.Ub (fj _ G.QD);let(l1,l2,l):=jf _ _ ao ao _ (fj _ G.QD) a (λm e=>by cases e) (λm e=>by cases e) (ah _) (ah _);erw[(Et λh=>?_,aN _,(_,Pt G.toGdM,l1),λz=>Ă Ŗ z,λm m1 M=>?_)];.rw[bI]at h;let(x,j,k):=cx.mp h;rwa[G.ne x j k]
 .let(i,rfl):=Nat.le.dest m1;let H:i<(iF g.rs (fi g.fs) ao).length:=by rw[cI];lia
  let e:=Pj (A:=rC g.fs 0) (C:=[]) H;rw[aT,je]at e;obtain⟨p,b⟩:∃p,(iF _ _ _)[i]?=O p:=(_,ar H);rw[b]at e;let e:g.fl[fi _+i]?=O p:=e;erw[(p.1,by show(g.fl.map _)[fi _+i]?=_;rw[aM,e];rfl,jz _ _ _ G.QD p (aL b),λz d r=>?_,l2 _ m1 M)];erw[s.mem_iff.mpr ((jn _).2 d|>.mpr (zI (z:=z) (o:=p.2) ?_))];rw[<-r];rwa[aL e]
def Sh(G:K6 g)(s:ss.Perm (dR (CG g.fl)))(h:x∈g.fs):∃lo hi,X7 g (g.pn ss wd) x.f lo hi (x.ps++x.os):=by
 let(j,k,t):=Pg.at' G.Ub (fj _ G.QD);let(pre,post,e):=List.append_of_mem h;let Ub:=G.Ub;let a1:=j;rw[e]at a1;let a2:=FT a1;rw[cB]at a2;let a2:(_/\_/\_)/\_:=a2;obtain⟨⟨u,D,v⟩,w⟩:=a2;let yu:=Ub x h;let(l1,l2,F):=jf (lo:=fi pre+1) (hi:=fi pre+1+de x.rs) x.rs (fi pre+1) ao ao (jC pre 0 tW []).1 yu v (λm e=>by cases e) (λm e=>by cases e) (ah _) (ah _);let H:g.lf=jC post (fi pre+1+de x.rs) (d9 x.rs (fi pre+1) ao ao (jC pre 0 tW []).1).1 ((jC pre 0 tW []).2++[(x.f,(d9 x.rs (fi pre+1) ao ao (jC pre 0 tW []).1).2)]):=by delta Pg.lf;rw[e,BE,cB];rfl
 let I:fi g.fs=fi pre+(1+de x.rs+fi post):=by rw[e,HD];rfl
 let Q:(g.st.map (·.1)).Nodup:=by delta Pg.st Pg.lf;rw[aH,zY];erw[dg.mpr (G.nd,⋯,λa l b n z=>?_)];rw[aE.mp n]at z;let(y,c,q):=cx.mp (show a∈g.fs.map Fn.f from l);rwa[G.ne y c (q.trans z)]
 erw[(fi pre+1,fi pre+1+de x.rs,?_,(G.no x h).2,(_,vZ (p:=(x.f,(d9 x.rs (fi pre+1) ao ao (jC pre 0 tW []).1).2)) Q ?_,l1),λ_=>(fi pre,vZ (p:=(x.f,fi pre)) ?_ ?_,u),λm m1 M=>?_)];.erw[vZ (p:=(x.f,x.ps++x.os)) ?_ (cX _ (cx.mpr (x,h,Ŗ)))];show(((g.fs.map λx=>Ý x.f (x.ps++x.os))++[Ý ("":Å) ([]:ϐ)]).map (·.1)).Nodup;rw[aH,bI];erw[dg.mpr (G.nd,⋯,λa l b n z=>?_)];rw[aE.mp n]at z;let(y,c,q):=cx.mp l;rwa[G.ne y c (q.trans z)]
 .erw[cX _ ?_];rw[H];rwa[BF (aW _ aJ)]
 .show((nL g.fs 0).map (·.1)).Nodup;rw[qC];rwa[G.nd]
 .show _∈nL g.fs 0;rw[e,Gj,cB];rwa[aW _ aJ]
 .let(i,rfl):=Nat.le.dest m1;let hi:i<(iF x.rs (fi pre+1) (O (fi pre))).length:=by rw[cI];lia
  let E:g.fl=rC pre 0++[(.df x.f,ao)]++(iF x.rs (fi pre+1) (O (fi pre))++(rC post (fi pre+1+de x.rs)++iF g.rs (fi g.fs) ao)):=by delta Pg.fl;rw[e,Gx,cB,<-e,bw,bw];show _++(_::(iF _ _ _++rC _ _)++_)=_;rw[rH,bw];rfl
  let e2:=Pj (A:=rC pre 0++[(Rw.df x.f,ao)]) (C:=rC post (fi pre+1+de x.rs)++iF g.rs (fi g.fs) ao) hi;rw[<-E,aq,je]at e2;obtain⟨p,r⟩:∃p,(iF _ _ _)[i]?=O p:=(_,ar hi);rw[r]at e2;let e2:g.fl[fi pre+1+i]?=O p:=e2;let L:(!cE x.f "")=true:=by rw[bB.mpr λz=>G.ne x h (bN.mp z)];rfl
  erw[(p.1,by show(g.fl.map _)[fi pre+1+i]?=_;rw[aM,e2];rfl,?_,λz d B=>?_,?_)];.rw[L];rwa[jz _ _ _ (G.fok x h) p (aL r)]
  .erw[s.mem_iff.mpr ((jn _).2 d|>.mpr (zI (z:=z) (o:=p.2) ?_))];rw[<-B];rwa[aL e2]
  .let s1:=yk (S:=(d9 x.rs (fi pre+1) ao ao (jC pre 0 tW []).1).1) (st:=(jC pre 0 tW []).2++[(x.f,(d9 x.rs (fi pre+1) ao ao (jC pre 0 tW []).1).2)]) (λy c=>Ub y (by rw[e];rwa[aW _ (aG _ c)])) w M;rw[<-H]at s1;let(_,_,s2):=jf _ _ ao ao _ (fj _ G.QD) k (λm e=>by cases e) (λm e=>by cases e) (ah _) (ah _);exact((l2 _ m1 M).same s1).same (s2 _ ())
def Yd(k:Ł cs):ß:=(∃d z,k=xC d z)\/(∃z,k=Ei z)\/∃z,k=p_ z
def Ks(K:Ł (Ł cs))(n:Ń):ß:=(∀k∈K,Yd k)/\K.length<=n
def Ks.mono{K:Ł _}(h:Ks K m)(k:m<=n):Ks K n:=(h.1,aj h.2 k)
def TL{K:Ł _}(h:Ks K n)(H:Yd κ):Ks (Ej κ K) (n+1):=by delta Ej;induction K.any _ with|d=>rwa[h.mono (bj n)]|e=>
  erw[(λk S=>?_,by show(K++[κ]).length<=_;rw[aq];rwa[Nat.succ_le_succ h.2])];rcases bE.mp S with z|z;.rwa[h.1 k z]
  .rw[aE.mp z];rwa[H]
def vV(h:Ks k n)(H:Yd κ)(hn:n<=900):∃u,kA κ k=O u/\Ks u (n+1):=by erw[(_,?_,TL h H)];delta kA;rw[show Ñ _ _=J from aB (show k.length<1000 by let:=h.2;lia)];rfl
def NV{K:Ł _}(h:Ks K n)(hn:n<=63):G6 K=true:=by
 delta G6 nM;rw[show Ñ _ 64=J from aB (show K.length<64 by let:=h.2;lia)];erw[bJ.mpr λk H=>?_];let s1:wv k=true:=by rcases h.1 k H with ⟨d,z,rfl⟩|⟨z,rfl⟩|⟨z,rfl⟩<;>rfl
 rw[s1];erw[bJ.mpr λb S=>?_];let own:∀(d D:Ń)(z Z:Å),YN (xC d z) (xC D Z)=true:=λd D z Z=>by show(nV _ _&&(! Đ _||nV _ _&&(! Đ _||nV _ _&&(! Đ (Ü z=.inr Z)||J))))=J;rw[nC,show nV _ _=J from Ŗ,show nV _ _=J from Ŗ,show nV _ _=J from Ŗ];simp
 let two:∀(a:Å)(z Z:Å),YN [.inr a,.inr z] [.inr a,.inr Z]=true:=λa z Z=>by show(nV _ _&&(! Đ _||nV _ _&&(! Đ (Ü z=.inr Z)||J)))=J;rw[nC,show nV _ _=J from Ŗ,show nV _ _=J from Ŗ];simp
 rcases h.1 k H with ⟨d,z,rfl⟩|⟨z,rfl⟩|⟨z,rfl⟩<;>rcases h.1 b S with ⟨D,Z,rfl⟩|⟨Z,rfl⟩|⟨Z,rfl⟩;.rwa[own d D z Z]
 .rfl
 .rfl
 .rfl
 .rwa[two _ z Z]
 .rfl
 .rfl
 .rfl
 .rwa[two _ z Z]
theorem og:∀{l:ϐ}{n i:Ń},pos z l n=O i->n<=i/\i<n+l.length|y::r,n,i,h=>by let h:(match cE y z with|J=>O n|bb=>pos z r _)=O i:=h;rw[aR];induction e:cE y z with|d=>lia|e=>rw[e]at h;let:=og h;lia
structure mU(g:Pg)(P:Pn)(f:Å)(pt:Ő Ń)(r:Ł Fr)(lo hi:Ń)(o:ϐ)(w:Wk)(a b t:Ń):ß where
 fr:∃ns,w.fr=(f,ns,pt)::r/\ns.length=o.length
 fn:X7 g P f lo hi o
 bs:P.bs=g.bs.map (·.1)Ew:P.ls=g.ls.map (·.1)bx:w.bx.length=P.bs.length
 ls:w.ls.length=P.ls.length
 BD:∀l∈w.ls,l.length<=12ak:w.ak.length=P.ds.length
 lim:P.bs.length<=100/\P.ls.length<=100/\P.ds.length<=100/\r.length<=7bk:w.bk=bb
 rd:Ks w.rd a
 wr:Ks w.wr b
 td:w.td.length<=t
section
variable{g:Pg}{P:Pn}{f:Å}{pt:Ő Ń}{r:Ł Fr}{lo hi:Ń}{o:ϐ}{w:Wk}{a b t:Ń}
def mU.read(m:mU g P f pt r lo hi o w a b t)(h:Ks k n):mU g P f pt r lo hi o {w with rd:=k} n b t:=(m.fr,m.fn,m.bs,m.Ew,m.bx,m.ls,m.BD,m.ak,m.lim,m.bk,h,m.wr,m.td)
def mU.up(m:mU g P f pt r lo hi o w a b t)(h:a<=A)(H:b<=B)(c:t<=t'):mU g P f pt r lo hi o w A B t':=(m.fr,m.fn,m.bs,m.Ew,m.bx,m.ls,m.BD,m.ak,m.lim,m.bk,m.rd.mono h,m.wr.mono H,aj m.td c)
theorem mU.own(m:mU g P f pt r lo hi o w a b t):∃ns,w.fr=(f,ns,pt)::r/\ns.length=o.length/\own P w=O ((f,ns,pt),r,o):=by let(ns,h,H):=m.fr;erw[(ns,h,H,?_)];delta W2.own;rw[h];simp only[m.fn.ow];rfl
def O4(m:mU g P f pt r lo hi o w a b t)(hz:z∈(g.sc o !cE f "").bs)(H:a<=900):∃k n,B6 P w z=O ({w with rd:=k},n)/\Ks k (a+1):=by
 let(N,s,u,d):=m.own;delta B6;rw[d];show ∃k n,(match pos z o 0 with|O i=>(kA (xC r.length z) w.rd).bind λk=>N[i]?.map λn=>Ý {w with rd:=k} n|ao=>(kA (Ei z) w.rd).bind λk=>(pos z P.bs 0).bind λi=>w.bx[i]?.map λn=>Ý {w with rd:=k} n)=_/\_
 cases p:pos z o 0 with|c i=>
  let(k,e,E):=vV m.rd (.inl (r.length,z,Ŗ)) H;let hi:i<N.length:=by let:=og p;lia
  erw[(k,N[i],?_,E)];simp only[e,ar hi];rfl|a=>
  let(k,e,E):=vV m.rd (.inr (.inl (z,Ŗ))) H;let l:z∈P.bs:=by
   rcases bE.mp hz with h|h;.let(i,hi):=mQ h;rw[p]at hi;cases hi
   .rw[m.bs];rwa[h]
  let(j,c):=mQ (n:=0) l;let q:j<w.bx.length:=by let:=og c;rw[m.bx];lia
  erw[(k,w.bx[j],?_,E)];show(kA _ _).bind _=_;rw[e,c];show(w.bx[j]?).map _=_;rw[ar q];rfl
def oj(m:mU g P f pt r lo hi o w a b t)(hz:z∈(g.sc o !cE f "").ls)(c:a<=900):∃k l,oh P w z=O ({w with rd:=k},l)/\Ks k (a+1)/\l.length<=12:=by
 let(k,e,E):=vV m.rd (.inr (.inr (z,Ŗ))) c;let(j,h):=mQ (n:=0) (show z∈P.ls by rw[m.Ew];rwa[hz]);let H:j<w.ls.length:=by let:=og h;rw[m.ls];lia
 erw[(k,_,?_,E,m.BD _ (fZ H))];delta oh;rw[e,h];show(w.ls[j]?).map _=_;rw[ar H];rfl
def D'{k:Op}(h:k.f x y=.x c):c<1000000:=by induction k with|ov=>let h:(bif Ì _ 0 then Ou.x 1 else .v _)=.x c:=h;cases e:Ì _ 0<;>rw[e]at h<;>cases h;decide|re=>let h:(bif Ì _ 0 then Ou.x 1 else .v _)=.x c:=h;cases e:Ì _ 0<;>rw[e]at h<;>cases h;decide|_=>cases h
unseal vG in def gZ{x:Ń->α}(e:q=O (W,.v n)):vG q k x=k W n:=by rw[e];rfl
unseal vG in def lL{x:Ń->α}(e:q=O (W,.x c)):vG q k x=O (W,x c):=by rw[e];rfl
theorem kX:∀(v:Vx)(w:Wk)(a:Ń),mU g P f pt r lo hi o w a b t->tL (g.sc o !cE f "").bs (g.sc o !cE f "").ls v->a+v.rc<=900->∃k u,ev P v w=O ({w with rd:=k},u)/\Ks k (a+v.rc)/\∀c,u=.x c->c<1000000
 |.n i,w,a,m,H,ha=>(_,_,Ŗ,m.rd,λc e=>())|.b z,w,a,m,H,ha=>by let(k,n,e,h):=O4 m H (dE ‹_›);exact(k,.v n,by show(B6 P w z).map _=_;rw[e];rfl,h,λc e=>())|.s z,w,a,m,H,ha=>by let(k,l,e,h,D):=oj m H (dE ‹_›);erw[(k,.v (_,b9 ‹_› ()),?_,h,λc e=>())];show(oh P w z).bind _=_;rw[e];show(Vp l).map _=_;delta Vp;rw[dif_pos _];rfl|.i z v,w,a,m,H,ha=>by let ha:=ha;let(k,u,e,h,d):=kX v w a m H.2 (dE ‹_›);cases u with|x c=>exact(k,_,lL e,h.mono (bj _),d)|v n=>let(k2,l,E,j,D):=oj (m.read h) H.1 (dE ‹_›);erw[(k2,xx l n,(gZ e).trans nofun,j,λc e=>?_)];delta xx at e;split at e<;>cases e;decide
 |.t v,w,a,m,H,ha=>by let(k,u,e,h,d):=kX v w a m H ha;induction u with|x c=>exact(k,_,lL e,h,d)|v n=>exact(k,_,gZ e,h,λc e=>by cases e)
 |.o q x y,w,a,m,H,ha=>by let ha:a+(x.rc+y.rc)<=900:=ha;let(k,u,e,h,d):=kX x w a m H.1 ();cases u with|x c=>exact(k,_,lL e,h.mono (by show _<=a+(x.rc+y.rc);lia),d)|v n=>
   let(k2,u2,E,j,S):=kX y _ _ (m.read h) H.2 ();let j:Ks k2 (a+(x.rc+y.rc)):=()
   induction u2 with|x c=>exact(k2,_,(gZ e).trans (lL E),j,S)|v N=>exact(k2,_,(gZ e).trans (gZ E),j,λc e=>D' e)
def B8{x:α}(h:i<l.length)(H:l.length<=100000):rp l i x=O (l.set i x):=by delta rp;rw[show Ñ i _=J from aB h,aB H];rfl
def oz(m:mU g P f pt r lo hi o w a b t)(hz:z∈(g.sc o !cE f "").bs)(H:b<=900):∃w',pI P w z n=O w'/\mU g P f pt r lo hi o w' a (b+1) t:=by let(s,q,d,l):=m.own;delta pI;rw[l];show ∃w',(match pos z o 0 with|O i=>(kA (xC r.length z) w.wr).bind λk=>(rp s i n).bind λN=>bif Ñ r.length 1000 then O {w with wr:=k,fr:=(f,N,pt)::r}else ao|ao=>(kA (Ei z) w.wr).bind λk=>(pos z P.bs 0).bind λi=>(rp w.bx i n).map λb=>{w with wr:=k,bx:=b})=_/\_;let ol:=m.fn.ol;let(l1,l2,L,u):=m.lim;cases p:pos z o 0 with|c i=>let(k,e,E):=vV m.wr (.inl (_,z,Ŗ)) H;erw[({w with wr:=k,fr:=(f,s.set i n,pt)::r},?_,((_,Ŗ,by rw[cH];rwa[d]),m.fn,m.bs,m.Ew,m.bx,m.ls,m.BD,m.ak,m.lim,m.bk,m.rd,E,m.td))];show(kA _ _).bind _=_;rw[e,B8 (by let:=og p;lia) (),show Ñ _ _=J from aB (b9 ‹_› ⋯)];rfl|a=>
  let(k,e,E):=vV m.wr (.inr (.inl (z,Ŗ))) H;let H:z∈P.bs:=by
   rcases bE.mp hz with h|h;.let(i,hi):=mQ h;rw[p]at hi;cases hi
   .rw[m.bs];rwa[h]
  let(j,c):=mQ H;erw[({w with wr:=k,bx:=w.bx.set j n},?_,(m.fr,m.fn,m.bs,m.Ew,by simp only[cH];rwa[m.bx],m.ls,m.BD,m.ak,m.lim,m.bk,m.rd,E,m.td))];show(kA _ _).bind _=_;rw[e,c];show(rp _ j n).map _=_;rw[B8 (by let:=og c;rw[m.bx];lia) (by rw[m.bx];rwa[aj ‹_› ⋯])];rfl
def wQ(m:mU g P f pt r lo hi o w a b t)(hz:z∈(g.sc o !cE f "").ls)(c:b<=900)(D:l.length<=12):∃w',wO P w z l=O w'/\mU g P f pt r lo hi o w' a (b+1) t:=by
 let(k,e,E):=vV m.wr (.inr (.inr (z,Ŗ))) c;let(j,H):=mQ (show z∈P.ls by rw[m.Ew];rwa[hz]);let(l1,l2,L,i):=m.lim;erw[({w with wr:=k,ls:=w.ls.set j l},?_,(m.fr,m.fn,m.bs,m.Ew,m.bx,by simp only[cH];rwa[m.ls],λx d=>?_,m.ak,m.lim,m.bk,m.rd,E,m.td))];.delta wO;rw[e,H];show(rp _ j l).map _=_;rw[B8 (by let:=og H;rw[m.ls];lia) (by rw[m.ls];rwa[aj ‹_› ⋯])];rfl
 .rcases List.mem_or_eq_of_mem_set d with h|h;.rwa[m.BD x h]
  .rw[h];rwa[D]
def mK(m:mU g P f pt r lo hi o w a b t)(q:Ő Ń):∃w',move w q=O w'/\mU g P f q r lo hi o w' a b t:=by let(n,h,H):=m.fr;let(l1,l2,l,L):=m.lim;erw[({w with fr:=(f,n,q)::r},?_,((n,Ŗ,H),m.fn,m.bs,m.Ew,m.bx,m.ls,m.BD,m.ak,m.lim,m.bk,m.rd,m.wr,m.td))];delta move;rw[h];show(bif Ñ _ _ then _ else ao)=_;rw[show Ñ _ _=J from aB (b9 ‹_› ⋯)];rfl
def Yo(m:mU g P f pt r lo hi o w a b t)(c:d∈P.ds):∃w' n,ask P w d=O (w',n)/\mU g P f pt r lo hi o w' a b t:=by
 let(j,h):=mQ (n:=0) c;let H:j<w.ak.length:=by let:=og h;rw[m.ak];lia
 let(l1,l2,l,L):=m.lim;erw[({w with ak:=w.ak.set j (w.ak[j]+1)},sK P d w.ak[j],?_,(m.fr,m.fn,m.bs,m.Ew,m.bx,m.ls,m.BD,by simp only[cH];rwa[m.ak],m.lim,m.bk,m.rd,m.wr,m.td))];delta ask;rw[h];show(w.ak[j]?).bind _=_;rw[ar H];show(rp _ j _).map _=_;rw[B8 H (by rw[m.ak];rwa[aj ‹_› ⋯])];rfl
def After(g:Pg)(P:Pn)(f:Å)(pt:Ő Ń)(r:Ł Fr)(lo hi:Ń)(o:ϐ)(a b t:Ń)(q:Ő (Wk×Ő Ń)):ß:=∃W c,q=O (W,c)/\mU g P f pt r lo hi o W a b t/\∀x,c=O x->x<1000000
def After.ok{q:Ő _}(e:q=O (w',ao))(m:mU g P f pt r lo hi o w' a b t):After g P f pt r lo hi o a b t q:=(w',_,e,m,λx e=>by cases e)
def After.no{q:Ő _}(e:q=O (w',O c))(m:mU g P f pt r lo hi o w' a b t)(h:c<1000000):After g P f pt r lo hi o a b t q:=(w',_,e,m,λx e=>nofun)
def iW(e:q=O w'):EG q=O (w',ao):=by rw[e];rfl
def OD(m:mU g P f pt r lo hi o w 0 b t)(L:A0 (g.sc o !cE f "") x)(N:∀z d,x=.ak z d->d∈P.ds)(A:plain x=O d)(S:b<=800)(T:t<=90000):After g P f pt r lo hi o 41 (b+2) (t+1) (d P w x):=by let(hn,_,H):=L;induction x with
 |st z v=>cases A;let H:v.rc<=40:=H;let(k,u,e,h,p):=kX v w 0 m hn.2 ();cases u with|x c=>rwa[.no (lL e) ((m.read h).up () (aO _ _) (bj _)) (p c Ŗ)]|v n=>let(w',E,D):=oz (m.read h) hn.1 (n:=n) (aj ‹_› ∅);rwa[.ok ((gZ e).trans (iW E)) (D.up () (bj _) (bj _))]
 |pu z v=>cases A;let H:v.rc+1<=40:=H;let(k,u,e,h,p):=kX v w 0 m hn.2 ();cases u with|x c=>rwa[.no (lL e) ((m.read h).up () (aO _ _) (bj _)) (p c Ŗ)]|v n=>let(k2,l,E,j,U):=oj (m.read h) hn.1 ();induction s:Ë 12 l.length with|d=>rwa[.no ((gZ e).trans (by rw[E];show(bif Ë 12 l.length then _ else _)=_;rw[s];rfl)) (((m.read h).read j).up () (aO _ _) (bj _)) ∅]|e=>let(w',B,M):=wQ ((m.read h).read j) hn.1 (l:=l++[n]) (aj ‹_› ∅) (by rw[aq,b6];let:=NK s;rwa[‹_›]);rwa[.ok ((gZ e).trans (by rw[E];show(bif Ë 12 l.length then _ else _)=_;rw[s];rwa[iW B])) (M.up () (bj _) (bj _))]
 |po z y=>cases A;let(k2,l,E,j,U):=oj m hn.2 (aN _);cases K:l.getLast? with|a=>rwa[.no (show(oh P w y).bind _=_ by rw[E];show(match l.getLast? with|ao=>_|O n=>_)=_;rw[K]) ((m.read j).up (aD _ _) (aO _ _) (bj _)) ∅]|c n=>let(w',B,M):=wQ (m.read j) hn.2 (l:=l.dropLast) (aj ‹_› ∅) (by rw[List.length_dropLast];lia);let(W,F,G):=oz M hn.1 (n:=n) (b9 ‹_› ∅);rwa[.ok (show(oh P w y).bind _=_ by rw[E];show(match l.getLast? with|ao=>_|O n=>_)=_;rw[K];show(wO P _ y l.dropLast).bind _=_;rw[B];rwa[iW F]) (G.up (aD _ _) (ah _) (bj _))]
 |pt z u v=>cases A;let H:u.rc+v.rc+1<=40:=H;let(k,q,e,h,p):=kX u w 0 m hn.2.1 ();induction q with|x c=>rwa[.no (lL e) ((m.read h).up () (aO _ _) (bj _)) (p c Ŗ)]|v i=>let(k1,q,I,C,Q):=kX v _ _ (m.read h) hn.2.2 ();induction q with|x c=>rwa[.no ((gZ e).trans (lL I)) (((m.read h).read C).up () (aO _ _) (bj _)) (Q c Ŗ)]|v n=>let(k2,l,E,j,U):=oj ((m.read h).read C) hn.1 ();induction s:Ë l.length i.val with|d=>rwa[.no ((gZ e).trans ((gZ I).trans (by rw[E];show(bif Ë l.length i.val then _ else _)=_;rw[s];rfl))) ((((m.read h).read C).read j).up () (aO _ _) (bj _)) ∅]|e=>let hi:=NK s;let(w',B,M):=wQ (((m.read h).read C).read j) hn.1 (l:=l.set i.val n) (aj ‹_› ∅) (by rw[cH];rwa[U]);rwa[.ok ((gZ e).trans ((gZ I).trans (by rw[E];show(bif Ë l.length _ then _ else(rp l _ n).bind _)=_;rw[s,B8 hi (aj ‹_› ⋯)];rwa[iW B]))) (M.up () (bj _) (bj _))]
 |ak z d=>cases A;let(w',n,E,D):=Yo m (N z d Ŗ);let(X,F,G):=oz D hn.1 (n:=n) (aj ‹_› ∅);rwa[.ok (show(ask P w d).bind _=_ by rw[E];rwa[iW F]) (G.up (aN _) (bj _) (bj _))]|te v=>cases A;let H:v.rc<=40:=H;let(k,u,e,h,p):=kX v w 0 m hn ();cases u with|x c=>rwa[.no (lL e) ((m.read h).up () (aO _ _) (bj _)) (p c Ŗ)]|v n=>
   let R:=m.td;erw[.ok (w':={w with rd:=k,td:=w.td++[n]}) ((gZ e).trans ?_) (m.fr,m.fn,m.bs,m.Ew,m.bx,m.ls,m.BD,m.ak,m.lim,m.bk,h.mono (),m.wr.mono (aO _ _),?_)];.simp only[aB (show w.td.length<=100000 by lia)];rfl
   .simp only[aq];rwa[cA ‹_›]
 |_=>done
theorem Mf:∀(vs:Ł Vx)(w:Wk)(a:Ń),mU g P f pt r lo hi o w a b t->(∀v∈vs,tL (g.sc o !cE f "").bs (g.sc o !cE f "").ls v)->a+O3 vs<=900->∃k u,Zu P vs w=O ({w with rd:=k},u)/\Ks k (a+O3 vs)/\(∀ns,u=.inl ns->ns.length=vs.length)/\∀c,u=.inr c->c<1000000|[],w,a,m,H,d=>(_,_,Ŗ,m.rd,λns e=>nofun,λc e=>())|v::vs,w,a,m,H,d=>by let d:a+(v.rc+O3 vs)<=900:=d;let(k,u,e,h,p):=kX v w a m (H v aJ) ();induction u with|x c=>exact(k,_,by show(ev P v w).bind _=_;rw[e];rfl,h.mono (by show _<=a+(v.rc+O3 vs);lia),λns e=>(),λC e=>())|v n=>
   let(k2,u2,E,i,j,q):=Mf vs _ _ (m.read h) (λy l=>H y (aG _ l)) ();let i:Ks k2 (a+(v.rc+O3 vs)):=()
   induction u2 with|inl ns=>exact(k2,.inl _,by show(ev P v w).bind _=_;rw[e];show(Zu P vs _).map _=_;rw[E];rfl,i,λN e=>by cases e;rwa[bU _ (j ns Ŗ)],λc e=>())|inr c=>exact(k2,.inr c,by show(ev P v w).bind _=_;rw[e];show(Zu P vs _).map _=_;rw[E];rfl,i,λN e=>(),λC e=>())
theorem Nd:∀(l:ϐ)(K:Ł _)(n:Ń),Ks K n->n+l.length<=900->∃u,xQ d l K=O u/\Ks u (n+l.length)|[],K,n,h,hn=>(K,Ŗ,h)|z::l,K,n,h,hn=>by rw[aR]at hn⊢;let(k,e,H):=vV h (.inl (d,z,Ŗ)) (aj (aO _ _) ‹_›);let(k2,E,c):=Nd l k _ H ();erw[(k2,?_,())];show(kA _ K).bind _=_;rw[e];rwa[E]
structure Yg(g:Pg)(P:Pn):ß where main:∃lo hi,X7 g P "" lo hi []fn:∀x∈g.fs,∃lo hi,X7 g P x.f lo hi (x.ps++x.os)ne:∀x∈g.fs,x.f≠""bs:P.bs=g.bs.map (·.1)Ew:P.ls=g.ls.map (·.1)lim:P.bs.length<=100/\P.ls.length<=100/\P.ds.length<=100
def Ę(g:Pg)(P:Pn)(x:Fr):ß:=∃lo hi o,X7 g P x.f lo hi o/\x.ns.length=o.length/\nh P.rw lo hi x.pt
def MS(P:Pn)(q:Ő Ń):ß:=∃m z f v,q=O m/\P.rw[m]?=O (.ca z f v)
def nv(g:Pg)(P:Pn):Ł Fr->ß|[]=>ŧ|x::r=>Ę g P x/\match r with|[]=>x.f=""|y::_=>x.f≠""/\MS P y.pt/\nv g P r
def sF(g:Pg)(P:Pn)(f:Å)(r:Ł Fr):ß:=match r with|[]=>f=""|y::_=>f≠""/\MS P y.pt/\nv g P r
def lX:nv g P (x::r)↔Ę g P x/\sF g P x.f r:=by rfl
structure Inv(g:Pg)(P:Pn)(k:Ń)(w:Wk):ß where
 KU:nv g P w.fr
 f8:w.fr.length<=8bx:w.bx.length=P.bs.length
 ls:w.ls.length=P.ls.length
 BD:∀l∈w.ls,l.length<=12ak:w.ak.length=P.ds.length
 td:w.td.length<=k
def mU.inv(m:mU g P f pt r lo hi o w a b t)(H:nh P.rw lo hi pt)(c:sF g P f r):Inv g P t w:=by let(n,h,d):=m.fr;let(_,_,_,l):=m.lim;exact(by rw[h];rwa[lX.mpr ((lo,hi,o,m.fn,d,H),c)],by rw[h];rwa[cA ‹_›],m.bx,m.ls,m.BD,m.ak,m.td)
def Step(g:Pg)(P:Pn)(f:Å)(pt:Ő Ń)(r:Ł Fr)(lo hi:Ń)(o:ϐ)(t:Ń)(q:Ő (Wk×Ő Ń)):ß:=(∃W,q=O (W,ao)/\Inv g P t W/\Ks W.rd 60/\Ks W.wr 60)\/∃W c,q=O (W,O c)/\c<1000000/\mU g P f pt r lo hi o W 60 59 t
def Step.ok{F:Å}{p:Ő Ń}{R:Ł Fr}{A u:Ń}{c:ϐ}{q:Ő _}(e:q=O (w',ao))(m:mU g P F p R A u c w' a b t)(H:a<=60)(d:b<=60)(i:nh P.rw A u p)(h:sF g P F R):Step g P f pt r lo hi o t q:=.inl (w',e,m.inv i h,m.rd.mono H,m.wr.mono d)
def Step.no{c:Ń}{q:Ő _}(e:q=O (w',O c))(h:c<1000000)(m:mU g P f pt r lo hi o w' a b t)(H:a<=60)(d:b<=59):Step g P f pt r lo hi o t q:=.inr (w',c,e,h,m.up H d (ah _))
def GA(K:Yg g P)(m:mU g P f pt r lo hi o w a b t)(N:f≠"")(j:sF g P f r)(k:b<=800)(n:Nm):∃w' e q r' A u d,SD P w n=O w'/\mU g P e q r' A u d w' a (b+1) t/\nh P.rw A u q/\sF g P e r':=by let(Q,l,R):=m.fr;induction r with|f=>done|g y r=>
  obtain⟨_,⟨c,z,e,S,p,H⟩,s⟩:=j;obtain⟨⟨A,u,d,F,hn,v⟩,U⟩:=lX.mp s;let(Y,i,T):=y;subst p;let(x,B,_):=v c Ŗ;let(X,h,ok,_,ld):=F.row c x B;rw[H]at h;cases h;let(q,C,Z):=ld.bh;let(l1,l2,L,l4):=m.lim;let m1:mU g P Y (O c) r A u d {w with fr:=(Y,i,_)::r} a b t:=((i,Ŗ,hn),F,m.bs,m.Ew,m.bx,m.ls,m.BD,m.ak,(l1,l2,L,dE ‹_›),m.bk,m.rd,m.wr,m.td);let(w2,E,M):=oz m1 ok.1.1 (aj ‹_› ⋯);let(W,D,G):=mK M q;erw[(W,Y,q,r,A,u,d,?_,G,Z,U)];let I:ym w=O {w with fr:=(Y,i,O c)::r}:=by delta ym;rw[l]
  show(ym w).bind _=_;rw[I];show(Rh _).bind _=_;rw[H];show(pI P _ z n).bind _=_;rw[E,C];rwa[D]
def Mb(K:Yg g P)(m:mU g P f pt r lo hi o w a b t)(h:x∈g.fs)(v:vs.length=x.ps.length)(i:r.length<=6)(j:b<=800):∃w' A u q,gn P w x.f vs=O w'/\(∀ns,w.fr=(f,ns,pt)::r->mU g P x.f q ((f,ns,pt)::r) A u (x.ps++x.os) w' a (b+50) t)/\nh P.rw A u q:=by
 let(A,u,F):=K.fn x h;let(q,H,Z):=F.st;let ol:=F.ol;let(k,e,c):=Nd (x.ps++x.os) _ b m.wr ();let p:x.ps.length<=(x.ps++x.os).length:=⋯
 let(ns,Q,s):=m.fr;let(l1,l2,l,L):=m.lim;erw[({w with wr:=k,fr:=(x.f,vs++Ò ((x.ps++x.os).length-vs.length) 0,q)::w.fr},A,u,q,?_,λn d=>((_,by show _::w.fr=_;rw[d],nofun),F,m.bs,m.Ew,m.bx,m.ls,m.BD,m.ak,(l1,l2,l,by rwa[cA ‹_›]),m.bk,m.rd,c.mono (Nat.add_le_add_left ‹_› _),m.td),Z)];.delta gn;rw[F.ow];show(kK x.f _).bind _=_;rw[H,aB (show vs.length<=(x.ps++x.os).length by lia),aB (aj ‹_› ⋯),show Ñ _ _=J from aB (show w.fr.length<1000 by rw[Q,aR];lia),e];rfl
def Ϸ(K:Yg g P)(m:mU g P f (O n) r lo hi o w 0 0 t)(hn:nh P.rw lo hi (O n))(A:P.rw[n]?=O x)(hr:A0 (g.sc o !cE f "") x)(hd:∀z d,x=.ak z d->d∈P.ds)(ld:Laid P.rw lo hi (P.bh,P.fs,P.sc,P.ct) n)(j:sF g P f r)(R:t<=90000):Step g P f (O n) r lo hi o (t+1) (sR P w n):=by
 let e0:sR P w n=match plain x with
   |O d=>(d P w x).bind λp=>match p.2 with|O c=>O (p.1,O c)|ao=>(gO n P.bh).bind λq=>EG (move p.1 q)
   |ao=>(G7 x).bind λd=>d P w x:=by delta sR;rw[A];rfl
 rw[e0];induction hp:plain x with
 |c d=>let(w',c,e,B,H):=OD m hr hd hp (aN _) R;show Step g P f (O n) r lo hi o (t+1) ((d P w x).bind _);rw[e];induction c with|c c=>rwa[.no Ŗ (H c Ŗ) B (aD _ _) (aD _ _)]|a=>let(q,F,Z0):=ld.bh;let(W,E,M):=mK B q;erw[.ok (w':=W) ?_ M (aD _ _) (aD _ _) Z0 j];show(gO n P.bh).bind _=_;rw[F];rwa[iW E]
 |a=>
  show Step g P f (O n) r lo hi o (t+1) ((G7 x).bind λd=>d P w x);let(Q,_,H):=hr;let G:nZ w=O (O n):=by let(ns,N,_):=m.fr;delta nZ;rw[N]
  induction x with
  |ii v X S=>
   let H:v.rc<=40:=H;let(k,u,e,h,D):=kX v w 0 m Q ();let m1:=(m.read h).up (ah _) (ah _) (bj t);let T:kT P w (.ii v X S)=vG (ev P v w) (λw m=>(bif Ì m.val 0 then gO n P.sc else gO n P.fs).bind λq=>EG (move w q)) some:=by show(nZ w).bind _=_;rw[G];rfl
   show Step g P f (O n) r lo hi o (t+1) (kT P w (.ii v X S));rw[T];induction u with|x c=>rwa[.no (lL e) (D c Ŗ) m1 () (aN _)]|v i=>let(U,l,Y):=ld.sc _ A Ŗ;let(Z,s,MH):=ld.fs _ A Ŗ;induction C:Ì i.val 0 with|d=>let(W,E,M):=mK m1 U;rwa[.ok ((gZ e).trans (by rw[C];show(gO n P.sc).bind _=_;rw[l];rwa[iW E])) M () (aN _) Y j]|e=>let(W,E,M):=mK m1 Z;rwa[.ok ((gZ e).trans (by rw[C];show(gO n P.fs).bind _=_;rw[s];rwa[iW E])) M () (aN _) MH j]
  |wh v X=>
   let H:v.rc<=40:=H;let(k,u,e,h,D):=kX v w 0 m Q ();let m1:=(m.read h).up (ah _) (ah _) (bj t);let T:WM P w (.wh v X)=vG (ev P v w) (λw m=>(bif Ì m.val 0 then gO n P.bh else gO n P.fs).bind λq=>EG (move w q)) some:=by show(nZ w).bind _=_;rw[G];rfl
   show Step g P f (O n) r lo hi o (t+1) (WM P w (.wh v X));rw[T];induction u with|x c=>rwa[.no (lL e) (D c Ŗ) m1 () (aN _)]|v i=>let(U,l,Y):=ld.bh;let(Z,s,MH):=ld.fs _ A Ŗ;cases C:Ì i.val 0 with|d=>let(W,E,M):=mK m1 U;rwa[.ok ((gZ e).trans (by rw[C];show(gO n P.bh).bind _=_;rw[l];rwa[iW E])) M () (aN _) Y j]|e=>let(W,E,M):=mK m1 Z;rwa[.ok ((gZ e).trans (by rw[C];show(gO n P.fs).bind _=_;rw[s];rwa[iW E])) M () (aN _) MH j]
  |fa v=>let H:v.rc<=40:=H;let(k,u,e,h,D):=kX v w 0 m Q ();let m1:=(m.read h).up (ah _) (ah _) (bj t);induction u with|x c=>rwa[.no (lL e) (D c Ŗ) m1 () (aN _)]|v i=>rwa[.no (gZ e) i.isLt m1 () (aN _)]
  |rt v=>
   let H:v.rc<=40:=H;let(k,u,e,h,D):=kX v w 0 m Q.2 ();let m1:=(m.read h).up (ah _) (ah _) (bj t);let hf:f≠"":=λz=>by let N:(!cE f "")=true:=Q.1;rw[bN.mpr z]at N;cases N
   cases u with|x c=>rwa[.no (lL e) (D c Ŗ) m1 () (aN _)]|v i=>let(w',f',q,r',AQ,uv,o',e2,B,F,Qr):=GA K m1 hf j (aN _) i;rwa[.ok ((gZ e).trans (iW e2)) B () (aD _ _) F Qr]
  |ca z f' I=>let H:O3 I<=40:=H;let(C,hm,hv):=Q;let(fx,L,he):=cx.mp hm;let he1:fx.f=f':=bU Prod.fst he;let he2:fx.ps.length=I.length:=bU Prod.snd he;subst he1;let(k,u,e,h,h3,D):=Mf I w 0 m hv ();let m1:=(m.read h).up (ah _) (ah _) (bj t);let(ns,nz,_):=m1.fr;show Step g P f _ r lo hi o _ ((Zu P I w).bind _);rw[e];induction u with|inr c=>rwa[.no Ŗ (D c Ŗ) m1 () (aN _)]|inl ns'=>show Step g P f _ r lo hi o _ (bif Ë 8 w.fr.length then _ else _);rw[show w.fr.length=r.length+1 by rw[nz];rfl];induction h8:Ë 8 _ with|d=>rwa[.no Ŗ ⋯ m1 () (aN _)]|e=>let:=NK h8;let(w',AQ,uv,q,e2,B,F):=Mb K m1 L ((h3 ns' Ŗ).trans he2.symm) () (aN _);rwa[.ok (iW e2) (B ns nz) () (aD _ _) F (K.ne fx L,(n,z,_,I,Ŗ,A),by let(ns2,g1,g2):=m1.fr;rw[nz]at g1;cases g1;rwa[lX.mpr ((lo,hi,o,m.fn,g2,hn),j)])]
  |tr X z S=>let(_,_,y,hy,R):=hn n Ŗ;rw[A]at hy;cases hy;cases R|df z=>rwa[Q.elim]|_=>done
theorem x6:∀(fr:Ł Fr),nv g P fr->(∃x r m,fr=x::r/\x.pt=O m)->∃x r lo hi o k,rW P fr=O (x::r,k)/\X7 g P x.f lo hi o/\x.ns.length=o.length/\sF g P x.f r/\K2 P.rw lo hi k/\r.length+1<=fr.length
 |[],h,_=>h.elim|x::r,h,(M,N,m,e,n)=>by
  cases e;obtain⟨⟨lo,hi,o,F,hn,p⟩,d⟩:=lX.mp h;let(q,s,_):=p m n;let(_,_,_,_,ld):=F.row m q s;let(c,u,H):=ld.ct;let E:∀C,gO m P.ct=O C->rW P (x::r)=match C with|O k=>O _|ao=>match r.isEmpty with|J=>O _|bb=>rW P r:=λC i=>by show x.pt.bind _=_;rw[n];show(gO m _).bind _=_;rw[i];rfl
  rw[E c u];induction c with|c k=>exact(x,r,lo,hi,o,_,Ŗ,F,hn,d,H,⋯)|a=>cases r with|f=>exact(x,[],lo,hi,o,_,Ŗ,F,hn,d,H,ah _)|g y r=>obtain⟨_,⟨c,z,Q,S,v,_⟩,A⟩:=d;let(X,R,l,j,B,k,G,D,I,K,L,T):=x6 _ A (y,r,c,Ŗ,v);exact(X,R,l,j,B,k,G,D,I,K,L,by rwa[aS ‹_›])
def Lp(K:Yg g P)(m:mU g P f (O n) r lo hi o w 60 59 t)(j:nh P.rw lo hi (O n))(l:sF g P f r)(s:c<1000000):∃w' k,vi P w c=O (w',k)/\Ks w'.rd 60/\Ks w'.wr 60/\(w'.bk=bb->Inv g P t w'):=by let(Y,H,u):=m.fr;let(x,R,A,U,v,k,e,F,hn,B,C,D):=x6 _ (by rw[H];rwa[lX.mpr ((lo,hi,o,m.fn,u,j),l)]) (_,_,n,H,Ŗ);let(l1,l2,L,l4):=m.lim;rw[H,aR]at D;delta vi;rw[e];induction k with|a=>exact(_,_,Ŗ,m.rd,m.wr.mono (bj _),λz=>by cases z)|c k=>let(E,G,y,d,ht):=C k Ŗ;let(y2,h,ok,_,ld):=F.row k E G;rw[d]at h;cases h;induction y with|tr xa z xb=>let(X,i,p):=x;let m1:mU g P X p R A U v {w with fr:=(X,i,p)::R} 60 59 t:=((i,Ŗ,hn),F,m.bs,m.Ew,m.bx,m.ls,m.BD,m.ak,(l1,l2,L,()),m.bk,m.rd,m.wr,m.td);let(W,I,N):=oz m1 ok.1 (aD _ _);let(q,Q,Z):=ld.sc _ d Ŗ;let(S,T,M):=mK N q;erw[(S,O k,?_,M.rd,M.wr,λ_=>M.inv Z B)];show(VW _).bind _=_;rw[d,show VR c=O _ by delta VR;rw[dif_pos s]];show(pI P _ z _).bind _=_;rw[I,Q];show(move W q).map _=_;rw[T];rfl|_=>done
def Vz(K:Yg g P)(I:Inv g P k w)(A:w.wo="on")(i:k<=90000):∃w' x,tu P w=O (w',x)/\(w'.wo="on"->Inv g P (k+1) w'):=by
 let s:w.bk=false:=by induction e:w.bk with|e=>rfl|d=>let h:(bif w.bk then("broken":Å)else Qf _)="on":=A;rw[e]at h;rwa[Ă (bN.mpr (show("broken":Å)="on"from h)) ∅]
 let d:∀(n:Ń)(p:Wk×Ő Ń),wg P w=O n->sR P _ n=O p->∀q:Wk×Å×Ő Ń,Zq P n p=O q->Ks _ 60->Ks _ 60->(q.1.bk=bb->Inv g P (k+1) q.1)->∃w' x,tu P w=O (w',x)/\(w'.wo="on"->Inv g P _ w'):=λn p B E q C D G N=>by
  erw[(q.1,G4 w n q.2.1 q.1 q.2.2,?_,λQ=>N ?_)];.delta tu;rw[B];show(sR P _ n).bind _=_;rw[E];show(Zq P n p).bind _=_;rw[C];show(bif G6 _&&G6 _ then _ else ao)=_;rw[NV D (aD _ _),NV G (aD _ _)];rfl
  .induction e:q.1.bk with|e=>rfl|d=>let h:(bif q.1.bk then("broken":Å)else Qf _)="on":=Q;rw[e]at h;rwa[Ă (bN.mpr (show("broken":Å)="on"from h)) ∅]
 let hs:=I.KU;cases H:w.fr with|f=>rw[H]at hs;rwa[hs.elim]|g x r=>let(R,S,X):=x;rw[H]at hs;obtain⟨⟨lo,hi,o,F,hn,u⟩,l⟩:=lX.mp hs;let f8:=I.f8;rw[H]at f8;let(l1,l2,T):=K.lim;let m:mU g P R X r lo hi o w.cl 0 0 k:=((S,H,hn),F,K.bs,K.Ew,I.bx,I.ls,I.BD,I.ak,(l1,l2,T,eN ‹_›),Ŗ,((λk i=>nomatch i),ah _),((λk i=>nomatch i),ah _),I.td);induction X with
  |a=>induction r with|f=>let h:(bif w.bk then("broken":Å)else Qf _)="on":=A;rw[s,H]at h;rwa[Ă (bN.mpr (show("done":Å)="on"from h)) ∅]|g y r=>
    let L:=l.1;let(n,v,z):=F.df L;let(w',f',q,r',AQ,uv,o',E,M,U,W):=GA K m L l (aN _) 0;erw[d n (w',ao) ?_ ?_ _ rfl (M.rd.mono (aN _)) (M.wr.mono (aD _ _)) λ_=>(M.up (ah _) (ah _) (bj k)).inv U W];.delta wg;rw[H];rwa[v]
    .delta sR;rw[z];rwa[iW E]
  |c n=>
   let(Y,Z,_):=u n Ŗ;let(y,hy,ok,v,ld):=F.row n Y Z;let j:wg P w=O n:=by delta wg;rw[H]
   rcases Ϸ K m u hy ok v ld l i with ⟨w',e,iv,k1,k2⟩|⟨w',c,e,hc,M⟩;.rwa[d n _ j e _ rfl k1 k2 λ_=>iv]
   .let(w2,k3,E,j1,j2,j3):=Lp K M u l hc;rwa[d n _ j e _ (by show(vi P w' c).map _=_;rw[E];rfl) j1 j2 j3]
end
def Θ(G:K6 g)(h:ss.Perm (dR (CG g.fl))):Yg g (g.pn ss wd):=((_,_,Bp G h),λx H=>Sh G h H,G.ne,Ŗ,Ŗ,by show(g.bs.map _).length<=100;rw[ae];rwa[G.lb],by show(g.ls.map _).length<=100;rw[ae];rwa[G.ll],by show ss.length<=100;rw[h.length_eq];let:=G.dr;rwa[aj ‹_› ⋯])
def ajh(G:K6 g)(H:ss.Perm (dR (CG g.fl))):Inv g (g.pn ss (CM w)) 0 (g.w0 ss w):=by let F:=Bp (wd:=CM w) G H;let(p,h,a):=F.st;let h:kK "" g.st=O p:=h;rw[Pt G.toGdM]at h;cases h;erw[(((_,_,[],F,Ŗ,a),Ŗ),by show 1<=8;decide,by show(g.bs.map _).length=(g.bs.map _).length;rw[ae,ae],by show(g.ls.map _).length=(g.ls.map _).length;rw[ae,ae],λl b=>?_,cC,ah _)];let(p,c,rfl):=cx.mp b;rwa[G.BD p c]
theorem O7(K:Yg g P):∀(n:Ń)(k:Ń)(w:Wk),(w.wo="on"->Inv g P k w)->k+n<=90000->∃m w' xs,Rn P w m w' xs/\m<=n/\(m=n\/w'.wo≠"on")
 |0,k,w,I,h=>(0,w,[],.z,ah _,.inl Ŗ)|n+1,k,w,I,h=>by
  by_cases H:w.wo="on";.let(W,x,e,i):=Vz K (I H) H (aj (aO _ _) ‹_›);let(m,w',xs,r,b,a):=O7 K n _ W i ();exact(_,w',_,.s H e r,cA ‹_›,a.imp (bU _) id)
  .exact(0,w,[],.z,aN _,.inr H)
def g7(n:Î):Þ:=uC 0 n&&tV n 2147483629
def Fe:g7 n=J↔0<=n/\n<2147483629:=by delta g7;rw[aK,gN,f9]
inductive qv:Ct|mk{xs:ϑ}{k:Ń}{Q:Dv->Hs->ß}{xc:XP}(h:xs.all isInt)(q:∀i:Î,Q (.p (.I i)) []):qv [.p (.scr xs),.p (iP k)] [] Q xc
inductive vd:Ct|mk{a b:Î}{Q:Dv->Hs->ß}{xc:XP}(q:∀n:Î,g7 n=J->Q (.r 0) [.L [.I n]]):vd [.p (.I a),.p (.I b)] [] Q xc
inductive kj:Ct|mx{n x:Î}{m:Ń}{Q:Dv->Hs->ß}{xc:XP}(hx:x=(m:Ń))(h:g7 n)(h1:1<=m)(h2:m<=1000000)(q:∀(n':Î)(k:Ń),g7 n'=J->k<m->Q (.p (.I (k:Ń))) [.L [.I n']]):kj [.r 0,.p (.I x)] [.L [.I n]] Q xc
def kj.mk(h:g7 n)(H:1<=m)(a:m<=1000000)(q:∀(N:Î)(k:Ń),g7 N=J->k<m->Q (.p (.I k)) [.L [.I N]]):kj [.r 0,.p (.I m)] [.L [.I n]] Q xc:=.mx Ŗ h H a q
def E_(h:j' i):zk i j=true:=by delta zk;rw[h,nC]
def Rs(h:0<=j)(H:j<2147483647):zk i j=true:=by delta zk j';rw[aB ()];rfl
def NA(c:Ń):Å:=⟨#[97+c]⟩
def NB(h:NA a=NA b):a=b:=by injection h with h;let:=bU (λx:Array Ń=>x.toList) h;let h:=this;injection h with h;lia
def lm:Å:="abcdefghijklmnopqrstuvwxyz"
def Yk{c:Ń}(h:c<26):rq lm.cps.toList c=O (97+c):=by
 let:∀c:Fin 26,lm.cps.toList[c.val]?=O (97+c.val):=∅
 rwa[this (c,h)]
theorem GH:∀{ws:ϐ},k8 (.S x) (ws.map .S)=J↔x∈ws|[]=>Iff.intro (λh=>AT h) λh=>nomatch h|w::ws=>by show(cE w x||k8 _ _)=J↔_;rw[jG,GH,bN,ax];exact(λh=>h.imp Eq.symm id,λh=>h.imp Eq.symm id)
theorem yc:∀{ws:ϐ},yb (ws.map .S)=J|[]=>Ŗ|w::ws=>by show(J&&yb _)=J;rw[yc];rfl
def Kz:ϐ:=["box","list","def","end","else","catch","own","set","push","try","size","item"]
structure Ww(s:Ń)(i:Ń)(l:ϐ):ß where
 nd:l.Nodup
 ln:l.length=i
 lt:∀c,NA c∈l->∃j,j<i/\c=(s+j)%26ne:∀z∈l,z≠""
def Ww.snoc(h:Ww s i l)(hz:z∉l)(f:∀c,NA c=z->c=(s+i)%26)(hn:z≠""):Ww s (i+1) (l++[z]):=by
 erw[(dg.mpr (h.nd,⋯,λa g b k e=>?_),by rw[aq,h.ln];rfl,λc H=>?_,λy d=>?_)];.rw[aE.mp k]at e;rwa[hz (e▸g)]
 .rcases bE.mp H with H|H;.let(j,n,m):=h.lt c H;exact(j,aS ‹_›,m)
  .exact(i,eB i,f c (aE.mp H))
 .rcases bE.mp d with d|d;.rwa[h.ne y d]
  .rw[aE.mp d];rwa[hn]
def Ww.fresh(h:Ww s i l)(hi:i<26):NA ((s+i)%26)∉l:=λz=>by let(j,H,a):=h.lt _ z;lia
def ND:NA c≠"":=λh=>by let:=bU Str.length h;cases this
def O5(e:tX 0 m=pre++x::post):x=.I pre.length/\pre.length<m:=by
 let h:(tX 0 m)[pre.length]?=O x:=by rw[e,aQ (ah _),fM];rfl
 delta tX at h;rw[aM]at h;let(i,a,c):=mp h;let(H,b):=aw.mp a;rw[List.getElem_range]at b;rw[eM]at H;exact(nofun,H)
def NC{s i:Ń}:rq lm.cps.toList ((s+i)%26)=O (97+(s+i)%26):=by rwa[Yk ()]
def Ah{N:En}{s i m:Ń}{l:ϐ}{z:Å}{n:Î}{k:Pv}(h:Ww s i l)(hi:i<26)(hz:∀c,NA c=z->c=(s+i)%26)(g:z≠"")(q:∀Z,Ww s (i+1) (l++[Z])->N.nx [O (.r 0),O (.p (.I m)),O (.p (.S lm)),O (.p (.L (Kz.map .S))),O (.p (.I s)),O (.r 1),O (.p (.I i)),O (.p (.S Z)),O (.p k)] [.L [.I n],.L ((l++[Z]).map .S)]):nu (Vi (s2 WF.o (sV 7) (sV 5)) (AA 7 (s2 CK (sV 2) (s2 o5.o (s2 eT.o (sV 4) (sV 6)) (sC (.I 26))))) QE) (wE (i' pX.c pX.o (sV 5) (bg (sV 7) dD))) N [O (.r 0),O (.p (.I m)),O (.p (.S lm)),O (.p (.L (Kz.map .S))),O (.p (.I s)),O (.r 1),O (.p (.I i)),O (.p (.S z)),O (.p k)] [.L [.I n],.L (l.map .S)]:=by let hl:=h.ln;let H:sA ((l.map Pv.S).length+1)=true:=pH (b'.mpr (by rw[ae];lia));erw[bK (by rw[yc];rfl) ?_];induction b:k8 _ _ with|d=>erw[bt NC (bK H ?_)];let:=q _ (h.snoc (h.fresh hi) (λc e=>NB e) ND);rw[aH]at this;rwa[this]|e=>erw[bK H ?_];let:=q z (h.snoc (λa=>by rw[GH.mpr a]at b;cases b) hz g);rw[aH]at this;rwa[this]
def ϵ:∀j,j<12->∃z:Å,(Kz.map Pv.S)[j]?=O (.S z)/\z.length≠1/\z≠"":=λj h=>by
 let:∀j:Fin 12,(Kz[j.val]?.map λz=>Đ (z.length≠1/\z.length≠0))=O true:=∅
 let(z,H,h2):=mp (this (j,h));let h2:=bL h2.symm;exact(z,by rw[aM,H];rfl,h2.1,λe=>h2.2 (by rw[e];rfl))
inductive Q9:Ct|mk{n:Î}{m:Ń}{Q:Dv->Hs->ß}{xc:XP}(h:g7 n)(hm:m<=20)(q:∀(n':Î)(l:ϐ),g7 n'=J->l.length=m->l.Nodup->(∀z∈l,z≠"")->Q (.p (.L (l.map .S))) [.L [.I n']]):Q9 [.r 0,.p (.I (m:Ń))] [.L [.I n]] Q xc
inductive JN(m s k:Ń):Es->Hs->ß|mk{l:ϐ}{n2:Î}{v6 v7 v8:Ő Dv}(hN:Ww s k l)(h:g7 n2):JN m s k [O (.r 0),O (.p (.I (m:Ń))),O (.p (.S lm)),O (.p (.L (Kz.map .S))),O (.p (.I (s:Ń))),O (.r 1),v6,v7,v8] [.L [.I n2],.L (l.map .S)]
def Iy(B:LX ca Jc W)(S:SX ca W):DX ca Jc W 42 2 qv:=by erw[B.e 2 J [] [] (.iff (.cmp KI 1 (.bi eQ (.u 0))) (.re (.ix 0 1)) .nil<|>.re (.i 0)) S.xG rfl Ť Ť λds h Q a c=>?_];induction c with|@mk X k Q a h q=>
  erw[(Ŗ,dX (λc=>?_) λ_=>q 0)];let c:k<X.length:=by let:=f9.mp c;lia
  let e:=ar c;let hi:=bJ.mp h _ (fZ c);generalize X[k]=x at e hi;cases x<;>first|rwa[ê hi]|rwa[bt e (q _)]
def LQ(B:LX ca Jc W)(S:SX ca W):DX ca Jc W 43 2 vd:=by erw[B.e 3 bb [] [] (.set 2 (.b2 o5 (.b2 A6 (.b2 eT (.b2 eT 0 (.b2 A6 (.i 7919) 1)) (.i 1)) (.i 48271)) (.i 2147483647))<|>.re (.QA (.u (.b2 o5 (.b2 eT (.b2 eT (.b2 A6 2 2) (.b2 A6 (.i 7) 2)) 1) (.i 2147483629))))) S.B4 rfl Ť Ť λds h Q x c=>?_];induction c with|@mk a b Q x q=>exact(Ŗ,bK (E_ Ŗ) (bK (Rs (mY _ ∅) (jK _ ⋯)) (bK (E_ Ŗ) (q _ (Fe.mpr (mY _ ∅,jK _ ⋯))))))
def Y9(B:LX ca Jc W)(S:SX ca W):DX ca Jc W 44 2 kj:=by erw[B.e 3 J [] [] (.put (.b2 o5 (.b2 eT (.b2 A6 (.ix 0 (.i 0)) (.i 69621)) (.i 11)) (.i 2147483629)) 0 (.i 0)<|>.set 2 (.b2 o5 (.b2 A6 (.ix 0 (.i 0)) (.ix 0 (.i 0))) (.i 2147483587))<|>.re (.b2 o5 (.b2 zd 2 (.i 7)) 1)) S.ES rfl Ť Ť λds h Q X c=>?_];induction c with|@mx v x m Q X a b d f q=>subst a;let H:g7 ((v*69621+11)%2147483629)=true:=Fe.mpr (mY _ ∅,jK _ ⋯);let(g,G):=Fe.mp H;erw[(Ŗ,bK (Rs g ()) (bK (cM (show(0:Î)<m by lia)) ?_))];let k1:(v*69621+11)%2147483629*((v*69621+11)%2147483629)%2147483587/7%m<m:=jK _ ();let q:=q _ ((v*69621+11)%2147483629*((v*69621+11)%2147483629)%2147483587/7%m).toNat H ();rw[ĩ (mY _ ())]at q;rwa[q]
def RO(B:LX ca Jc W)(S:SX ca W)(D:DX ca Jc W 44 2 kj):DX ca Jc W 45 4 Q9:=by erw[B.e 9 J [(44,kj)] [] (.set 2 (.s "abcdefghijklmnopqrstuvwxyz")<|>.set 3 (.lst (.cons (.s "box") (.cons (.s "list") (.cons (.s "def") (.cons (.s "end") (.cons (.s "else") (.cons (.s "catch") (.cons (.s "own") (.u5 (.s "set") (.s "push") (.s "try") (.s "size") (.s "item"))))))))))<|>.set 4 (.cl 44 [0] (.u2 0 (.i 26)))<|>.set 5 (.QA .nil)<|>.fo (.one 6) (.r (.u 1)) (.set 7 (.ix 2 (.b2 o5 (.b2 eT 4 6) (.i 26)))<|>.set 8 (.cl 44 [0] (.u2 0 (.i 6)))<|>.iff (.cmp KI 8 (.i 2)) (.one (.set 7 (.ix (.lst (.u2 (.ix 3 (.cl 44 [0] (.u2 0 (.i 12)))) (.b2 eT (.s "aaaaa") 7))) 8))) .nil<|>.iff (.cmp WF 7 5) (.one (.set 7 (.ix 2 (.b2 o5 (.b2 eT 4 6) (.i 26))))) .nil<|>.one (.ex (.mt pX 5 (.u 7))))<|>.re 5) S.B1 rfl (D.le (bj _),Ť) Ť λds h Q X c=>?_];induction c with|@mk n m Q X h L q=>
  erw[(Ŗ,.mk (m:=26) h ∅ ∅ λM s v P=>?_)];erw[bK (om (aj ‹_› ∅)) (iT (λpre _=>JN m s pre.length) (.mk (l:=[]) (v6:=ao) (v7:=ao) (v8:=ao) (iA,Ŗ,λc y=>(nomatch y),λz A=>nomatch A) v) (λpre x post a C ex j=>?_) λa C j=>?_)];.induction j with|@mk l o v6 v7 v8 N b=>
   let(rfl,R):=O5 ex;erw[bt NC (.mk (m:=6) b ∅ ∅ λT K p U=>?_)];erw[dX (λc=>?_) λc=>?_]
   .let c:K<2:=by let:=f9.mp c;lia
    erw[.mk (m:=12) p ∅ ∅ λY j t E=>?_];let(w,F,G,I):=ϵ j E;erw[bt (show rq (Kz.map Pv.S) ((j:Ń):Î)=_ from F) ?_];let d:∀c,NA c=w->c=(s+pre.length)%26:=λc e=>Ă (by rw[<-e];rfl) G;let f:∀c,NA c=("aaaaa":Å)++NA ((s+pre.length)%26)->c=(s+pre.length)%26:=λc e=>by let:=bU Str.length e;let:(1:Ń)=6:=this;cases this
    let g:("aaaaa":Å)++NA ((s+pre.length)%26)≠"":=λe=>by let:=bU Str.length e;let:(6:Ń)=0:=this;cases this
    obtain rfl|rfl:K=0\/K=1:=()
    .rwa[Ah N () d I λZ H=>.mk (by rw[aq];rwa[H]) t]
    .rwa[Ah N () f g λZ H=>.mk (by rw[aq];rwa[H]) t]
   .rwa[Ah N () (λc e=>NB e) ND λZ H=>.mk (by rw[aq];rwa[H]) p]
  .induction j with|@mk l o v6 v7 v8 N b=>let hl:=N.ln;rw[jX]at hl;rwa[q o l b hl N.nd N.ne]
def Vd(bs ls:ϐ)(d:Ń)(v:Vx):ß:=tL bs ls v/\v.dp<d/\v.rc<=2^d
inductive vf(D:Ń):Ct|mk{n:Î}{x:Î}{d:Ń}{bs ls:ϐ}{Q:Dv->Hs->ß}{xc:XP}(hx:x=(d:Ń))(h:g7 n)(h1:1<=d)(h2:d<=D)(lb:bs.length<=1000)(ll:ls.length<=1000)(q:∀(n':Î)(v:Vx),g7 n'=J->Vd bs ls d v->Q (.p v.p) [.L [.I n']]):vf D [.r 0,.p (.I x),.p (.L (bs.map .S)),.p (.L (ls.map .S))] [.L [.I n]] Q xc
def yt{l:ϐ}(h:k<l.length):∃z,z∈l/\rq (l.map Pv.S) k=O (.S z):=(_,fZ h,jx (ar h))
def Cw{N:En}{d:Ń}{K:Pv}{bs ls:ϐ}{u:Î}(h:g7 u)(E:bs.length<=1000)(F:ls.length<=1000)(q:∀(x:Î)(v:Vx),g7 x=J->tL bs ls v->v.dp=0->v.rc<=1->N.rt (.p v.p) [.L [.I x]]):nu (Vi (Ka (s2 AN.o (sN eQ.o (bg (sV 2) dD)) (sC (Pv.I 0))) (s2 AN.o (eV [0] kj (bg (sV 0) (bg (sC (Pv.I 3)) dD))) (sC (Pv.I 0)))) (qS (sN nY (bg (sC (Pv.S "box")) (bg (s2 CK (sV 2) (eV [0] kj (bg (sV 0) (bg (sN eQ.o (bg (sV 2) dD)) dD)))) dD)))) QE) (nu (Vi (Ka (s2 AN.o (sN eQ.o (bg (sV 3) dD)) (sC (Pv.I 0))) (s2 jy.o (eV [0] kj (bg (sV 0) (bg (sC (Pv.I 6)) dD))) (sC (Pv.I 0)))) (qS (sN nY (bg (sC (Pv.S "size")) (bg (s2 CK (sV 3) (eV [0] kj (bg (sV 0) (bg (sN eQ.o (bg (sV 3) dD)) dD)))) dD)))) QE) (qS (sN nY (bg (sC (Pv.S "number")) (bg (s2 CK (sN xF (bg (eV [0] kj (bg (sV 0) (bg (sC (Pv.I 4)) dD))) (bg (eV [0] kj (bg (sV 0) (bg (sC (Pv.I 1000000)) dD))) dD))) (s2 zd.o (eV [0] kj (bg (sV 0) (bg (sC (Pv.I 6)) dD))) (sC (Pv.I 5)))) dD))))) N [O (.r 0),O (.p (.I (d:Ń))),O (.p (.L (bs.map .S))),O (.p (.L (ls.map .S))),O (.p K),ao,ao,ao] [.L [.I u]]:=by
 let num:∀f,g7 f=J->qS (sN nY (bg (sC (Pv.S "number")) (bg (s2 CK (sN xF (bg (eV [0] kj (bg (sV 0) (bg (sC (Pv.I 4)) dD))) (bg (eV [0] kj (bg (sV 0) (bg (sC (Pv.I 1000000)) dD))) dD))) (s2 zd.o (eV [0] kj (bg (sV 0) (bg (sC (Pv.I 6)) dD))) (sC (Pv.I 5)))) dD))) N [O (.r 0),O (.p (.I (d:Ń))),O (.p (.L (bs.map .S))),O (.p (.L (ls.map .S))),O (.p K),ao,ao,ao] [.L [.I f]]:=λf k=>by
  erw[.mk (m:=4) k ∅ ∅ λl a H y=>.mk (m:=1000000) H ∅ ∅ λt b i g=>.mk (m:=6) i ∅ ∅ λA c B G=>?_];let C:((c:Ń):Î)/5=((c/5:Ń):Î):=Ŗ;let D:c/5=0\/c/5=1:=()
  show gC (rq [Pv.I (a:Ń),Pv.I (b:Ń)] (((c:Ń):Î)/5)) _ _;rw[C];rcases D with e|e<;>rw[e];.rwa[q A (.n (a,aj ‹_› ∅)) B Ť rfl (aN _)]
  .rwa[q A (.n (b,g)) B Ť rfl (aN _)]
 let j:∀f,g7 f=J->nu (Vi (Ka (s2 AN.o (sN eQ.o (bg (sV 3) dD)) (sC (Pv.I 0))) (s2 jy.o (eV [0] kj (bg (sV 0) (bg (sC (Pv.I 6)) dD))) (sC (Pv.I 0)))) (qS (sN nY (bg (sC (Pv.S "size")) (bg (s2 CK (sV 3) (eV [0] kj (bg (sV 0) (bg (sN eQ.o (bg (sV 3) dD)) dD)))) dD)))) QE) (qS (sN nY (bg (sC (Pv.S "number")) (bg (s2 CK (sN xF (bg (eV [0] kj (bg (sV 0) (bg (sC (Pv.I 4)) dD))) (bg (eV [0] kj (bg (sV 0) (bg (sC (Pv.I 1000000)) dD))) dD))) (s2 zd.o (eV [0] kj (bg (sV 0) (bg (sC (Pv.I 6)) dD))) (sC (Pv.I 5)))) dD)))) N [O (.r 0),O (.p (.I (d:Ń))),O (.p (.L (bs.map .S))),O (.p (.L (ls.map .S))),O (.p K),ao,ao,ao] [.L _]:=λf k=>by
  erw[dX (c:=tV 0 _) (λc=>?_) λc=>num f k];let c:0<ls.length:=by let:=f9.mp c;rw[ae]at this;lia
  erw[.mk (m:=6) k ∅ ∅ λl a H y=>dX (λ_=>?_) λ_=>num l H];erw[.mk H (by rw[ae];rwa[c]) (by rw[ae];rwa[aj ‹_› ∅]) λt b i g=>?_];rw[ae]at g;let(z,w,e):=yt g;rwa[bt e (q t (.s z) i w rfl (ah _))]
 erw[dX (c:=tV 0 _) (λc=>?_) λc=>j u h];let c:0<bs.length:=by let:=f9.mp c;rw[ae]at this;lia
 erw[.mk h ⋯ ⋯ λl a H y=>dX (c:=tV 0 _) (λ_=>?_) λ_=>j l H];erw[.mk H (by rw[ae];rwa[c]) (by rw[ae];rwa[aj ‹_› ∅]) λt b i g=>?_];rw[ae]at g;let(z,w,e):=yt g;rwa[bt e (q t (.b z) i w rfl (ah _))]
def akg:Ń->Op|0=>.pl|1=>.mi|2=>.le|3=>.sa|4=>.ti|5=>.ov|_=>.re
def aeu{k:Ń}(h:k<7):rq [Pv.S "plus",Pv.S "minus",Pv.S "less",Pv.S "same",Pv.S "times",Pv.S "over",Pv.S "rest"] k=O (.S (akg k).w):=by match k,h with|0,_=>rfl|1,_=>rfl|2,_=>rfl|3,_=>rfl|4,_=>rfl|5,_=>rfl|6,_=>rfl
def ŷ{k b:Ń}(h:k<5)(H:b<7):∃c,c<7/\rq [Pv.I 0,Pv.I 1,Pv.I 2,Pv.I 3,Pv.I b] k=O (.I (c:Ń)):=by match k,h with|0,_=>exact(0,⋯,Ŗ)|1,_=>exact(1,⋯,Ŗ)|2,_=>exact(2,⋯,Ŗ)|3,_=>exact(3,⋯,Ŗ)|4,_=>exact(b,H,Ŗ)
def Cv{N:En}{D e:Ń}{K:Pv}{v:Vx}{bs ls:ϐ}{n:Î}(h:g7 n)(H:e+1<=D)(l:bs.length<=1000)(d:ls.length<=1000)(q:∀(a:Î)(o:Op)(u:Vx),g7 a=J->Vd bs ls (e+1) u->N.rt (.p (Vx.o o v u).p) [.L [.I a]]):nu (AA 6 (s2 CK (sN xF (bg (sC (Pv.I 0)) (bg (sC (Pv.I 1)) (bg (sC (Pv.I 2)) (bg (sC (Pv.I 3)) (bg (eV [0] kj (bg (sV 0) (bg (sC (Pv.I 7)) dD))) dD)))))) (eV [0] kj (bg (sV 0) (bg (sC (Pv.I 5)) dD))))) (nu (AA 7 (s2 CK (sN xF (bg (sC (Pv.S "plus")) (bg (sC (Pv.S "minus")) (bg (sC (Pv.S "less")) (bg (sC (Pv.S "same")) (bg (sC (Pv.S "times")) (bg (sC (Pv.S "over")) (bg (sC (Pv.S "rest")) dD)))))))) (sV 6))) (qS (sN nY (bg (sV 7) (bg (sV 5) (bg (eV [0] (vf D) (bg (sV 0) (bg (s2 A7.o (sV 1) (sC (Pv.I 1))) (bg (sV 2) (bg (sV 3) dD))))) dD)))))) N [O (.r 0),O (.p (.I (e+2:Ń))),O (.p (.L (bs.map .S))),O (.p (.L (ls.map .S))),O (.p K),O (.p v.p),ao,ao] [.L [.I n]]:=by erw[kj.mk h ⋯ ⋯ λw b f g=>kj.mk f ⋯ ⋯ λx k i j=>?_];let(c,m,E):=ŷ j g;rwa[bt E (bt (aeu m) (vf.mk () i (aD _ _) H l d λs u t hu=>q s _ u t hu))]
def LS(B:LX ca Jc W)(S:SX ca W)(h:1<=k)(C:DX ca Jc W 44 2 kj)(E:DX ca Jc W 46 (k+1) (vf D)):DX ca Jc W 46 (k+2) (vf (D+1)):=by erw[B.e 8 J [(44,kj),(46,vf D)] [] (.set 4 (.cl 44 [0] (.u2 0 (.i 10)))<|>.iff (.bo (Wm.oc (.cmp KI 1 (.i 2)) (Wm.o1 (.cmp KI 4 (.i 4))))) (.iff (.bo (Wm.ac (.cmp AN (.bi eQ (.u 2)) (.i 0)) (Wm.a1 (.cmp AN (.cl 44 [0] (.u2 0 (.i 3))) (.i 0))))) (.re (.tup (.u2 (.s "box") (.ix 2 (.cl 44 [0] (.u2 0 (.bi eQ (.u 2)))))))) .nil<|>.iff (.bo (Wm.ac (.cmp AN (.bi eQ (.u 3)) (.i 0)) (Wm.a1 (.cmp jy (.cl 44 [0] (.u2 0 (.i 6))) (.i 0))))) (.re (.tup (.u2 (.s "size") (.ix 3 (.cl 44 [0] (.u2 0 (.bi eQ (.u 3)))))))) .nil<|>.re (.tup (.u2 (.s "number") (.ix (.lst (.u2 (.cl 44 [0] (.u2 0 (.i 4))) (.cl 44 [0] (.u2 0 (.i 1000000))))) (.b2 zd (.cl 44 [0] (.u2 0 (.i 6))) (.i 5)))))) .nil<|>.set 5 (.cl 46 [0] (.u4 0 (.b2 A7 1 (.i 1)) 2 3))<|>.iff (.cmp jy 4 (.i 4)) (.re (.tup (.u2 (.s "not") 5))) .nil<|>.iff (.bo (Wm.ac (.cmp jy 4 (.i 5)) (Wm.a1 (.cmp AN (.bi eQ (.u 3)) (.i 0))))) (.re (.tup (.u3 (.s "item") (.ix 3 (.cl 44 [0] (.u2 0 (.bi eQ (.u 3))))) 5))) .nil<|>.set 6 (.ix (.lst (.u5 (.i 0) (.i 1) (.i 2) (.i 3) (.cl 44 [0] (.u2 0 (.i 7))))) (.cl 44 [0] (.u2 0 (.i 5))))<|>.set 7 (.ix (.lst (.cons (.s "plus") (.cons (.s "minus") (.u5 (.s "less") (.s "same") (.s "times") (.s "over") (.s "rest"))))) 6)<|>.re (.tup (.u3 7 5 (.cl 46 [0] (.u4 0 (.b2 A7 1 (.i 1)) 2 3))))) S.tm rfl (C.le (cA ‹_›),E,Ť) Ť λds h Q X c=>?_];induction c with|@mk n x d bs a Q X F h h1 h2 f g q=>
  subst F;erw[(Ŗ,.mk (m:=10) h ∅ ∅ λn1 K G hk=>?_)];let lf:∀(N:Î)(v:Vx),g7 N=J->tL bs a v->v.dp=0->v.rc<=1->Q (.p v.p) [.L [.I N]]:=λN v M G j y=>q N v M (G,(),by let:1<=2^d:=Nat.one_le_two_pow;rwa[aj ‹_› ‹_›]);erw[dX (c:=tV ((d:Ń):Î) 2) (λ_=>Cw G f g lf) λc=>dX (c:=tV ((K:Ń):Î) 4) (λ_=>Cw G f g lf) λ_=>?_];obtain⟨e,rfl⟩:∃e,d=e+2:=(d-2,by let:=bB.mp c;rw[ne_eq,f9]at this;lia);erw[vf.mk (d:=e+1) () G (aD _ _) (eN ‹_›) f g λP v j R=>?_];let p2:2^(e+2)=2^(e+1)+2^(e+1):=by rw[Nat.pow_succ];lia
  let p1:1<=2^(e+1):=Nat.one_le_two_pow;let(w,v2,v3):=R;erw[dX (c:=nq ((K:Ń):Î) 4) (λ_=>q P (.t v) j (w,by show v.dp+1<_;rwa[cA ‹_›],by show v.rc<=_;rwa[aj ‹_› (aD _ _)])) λ_=>?_];let l:∀(r:Î)(o:Op)(u:Vx),g7 r=J->Vd bs a (e+1) u->Q (.p (Vx.o o v u).p) [.L [.I r]]:=λr o u y hu=>q r _ y ((w,hu.1),by let:=hu.2.1;show max v.dp u.dp+1<_;lia,by let:=hu.2.2;show v.rc+u.rc<=_;lia);let H:e+1<=D:=eN ‹_›;erw[dX (c:=nq ((K:Ń):Î) 5) (λ_=>dX (c:=tV 0 ((a.map Pv.S).length:Ń)) (λc=>?_) λ_=>Cv j H f g l) λ_=>Cv j H f g l];let c:0<a.length:=by let:=f9.mp c;rw[ae]at this;lia
  erw[kj.mk (m:=(a.map Pv.S).length) j (by rw[ae];rwa[c]) (by rw[ae];rwa[aj ‹_› ⋯]) λT b U A=>?_];rw[ae]at A;let(z,Y,Z):=yt A;rwa[bt Z (q T (.i z v) U ((Y,w),by rwa[cA ‹_›],by show v.rc+1<=_;lia))]
theorem Bh(B:LX ca Jc W)(S:SX ca W)(d:DX ca Jc W 44 2 kj):∀D:Ń,DX ca Jc W 46 (D+3) (vf D)
 |0=>(Dt.no S.tm).imp λds h Q x c=>by induction c with|mk _ _ H a=>lia
 |D+1=>LS B S (aD _ _) d (Bh B S d D)
def zO(p:Å×Ń):Pv:=.T [.S p.1,.I p.2]
def NL(c:Sc):Pv:=.T [.L (c.bs.map .S),.L (c.ls.map .S),.L (c.fs.map zO),.B c.inF]
def QQ(c:Sc)(r:Rw):ß:=r.lf=J/\A0 c r
structure CY(c:Sc):ß where b:c.bs.length<=900l:c.ls.length<=900f:c.fs.length<=900n:∀p∈c.fs,p.2<=3
inductive ò:Ct|mk{n:Î}{c:Sc}{Q:Dv->Hs->ß}{xc:XP}(h:g7 n)(g:CY c)(q:∀(n':Î)(r:Rw),g7 n'=J->QQ c r->Q (.p r.p) [.L [.I n']]):ò [.r 0,.p (NL c)] [.L [.I n]] Q xc
abbrev mF:Ss:=nu (Vi (s2 jy.o (sV 6) (sC (.I 9))) (qS (sN nY (bg (sC (.S "fail")) (bg (s2 CK (sN xF (bg (sN nY (bg (sC (.S "number")) (bg (eV [0] kj (bg (sV 0) (bg (sC (.I 9)) dD))) dD))) (bg (sV 7) dD))) (eV [0] kj (bg (sV 0) (bg (sC (.I 2)) dD)))) dD)))) QE) (qS (sN nY (bg (sC (.S "set")) (bg (sV 8) (bg (sV 7) dD)))))
abbrev mR:Ss:=nu (Vi (s2 jy.o (sV 6) (sC (.I 6))) (qS (sN nY (bg (sC (.S "ask")) (bg (sV 8) (bg (s2 CK (sN xF (bg (sC (.S "door")) (bg (sC (.S "a")) (bg (sC (.S "zz")) dD)))) (eV [0] kj (bg (sV 0) (bg (sC (.I 3)) dD)))) dD))))) QE) (nu (Vi (Ka (s2 jy.o (sV 6) (sC (.I 8))) (sV 5)) (qS (sN nY (bg (sC (.S "return")) (bg (sV 7) dD)))) QE) mF)
abbrev mC:Ss:=nu (Vi (Ka (s2 KI.o (sV 6) (sC (.I 6))) (s2 AN.o (sN eQ.o (bg (sV 4) dD)) (sC (.I 0)))) (nu (Qa [9,11] (s2 CK (sV 4) (eV [0] kj (bg (sV 0) (bg (sN eQ.o (bg (sV 4) dD)) dD))))) (qS (sN nY (bg (sC (.S "call")) (bg (sV 8) (bg (sV 9) (bg (sN tS.o (bg (yC 1 [0,2,3] (Tg.one 0) (Je (sN I_ (bg (sV 11) dD))) (sC (.B J)) (eV [0] (vf 3) (bg (sV 1) (bg (sC (.I 2)) (bg (sV 2) (bg (sV 3) dD))))) bb) dD)) dD))))))) QE) mR
def yn(c:Sc)(k:Ń)(v:Vx)(z:Å):Es:=[O (.r 0),O (.p (NL c)),O (.p (.L (c.bs.map .S))),O (.p (.L (c.ls.map .S))),O (.p (.L (c.fs.map zO))),O (.p (.B c.inF)),O (.p (.I k)),O (.p v.p),O (.p (.S z)),ao,ao,ao]
def wL{c:Sc}(h:Vd c.bs c.ls d v)(H:d<=3):v.dp<6/\v.rc<=8:=by let(_,a,b):=h;let:2^d<=2^3:=Nat.pow_le_pow_right ∅ H;exact((),())
def Hi(h:g7 n1)(j:d<=3)(H:Vd c.bs c.ls d v)(hz:z∈c.bs)(q:∀(e:Î)(r:Rw),g7 e=J->QQ c r->N.rt (.p r.p) [.L [.I e]]):mF N (yn c kd v z) [.L [.I n1]]:=by
 let(f,l):=wL H j;erw[dX (λ_=>?_) λ_=>q n1 (.st z v) h (Ŗ,((hz,H.1),aB f,by show v.rc<=40;lia))];erw[.mk h ⋯ ⋯ λm a k o=>.mk k ⋯ ⋯ λg b i s=>?_];obtain rfl|rfl:b=0\/b=1:=()
 .rwa[q g (.fa (.n (a,()))) i (Ŗ,(Ť,Ŗ,aN _))]
 .rwa[q g (.fa v) i (Ŗ,(H.1,aB f,by show v.rc<=40;lia))]
def OC(h:g7 n1)(b:d<=3)(H:Vd c.bs c.ls d v)(hz:z∈c.bs)(q:∀(f:Î)(r:Rw),g7 f=J->QQ c r->N.rt (.p r.p) [.L [.I f]]):mR N (yn c kd v z) [.L [.I n1]]:=by
 let(g,j):=wL H b;erw[dX (λ_=>?_) λ_=>?_]
 .erw[.mk h ⋯ ⋯ λn a e l=>?_];let k:∀dd,dd∈Zn->QQ c (.ak z dd):=λdd Z=>(Ŗ,((hz,Z),Ŗ,aN _));obtain rfl|rfl|rfl:a=0\/a=1\/a=2:=()
  .rwa[q n _ e (k _ aJ)]
  .rwa[q n _ e (k _ (aG _ aJ))]
  .rwa[q n _ e (k _ (aG _ (aG _ aJ)))]
 .erw[dX (λ_=>?_) λ_=>Hi h b H hz q];show br _ _ _;induction i:c.inF with|d=>rwa[q n1 (.rt v) h (Ŗ,((i,H.1),aB g,by show v.rc<=40;lia))]|e=>rwa[Hi h b H hz q]
def Hh(g:CY c)(h:g7 n1)(B:d<=3)(D:Vd c.bs c.ls d v)(hz:z∈c.bs)(q:∀(F:Î)(r:Rw),g7 F=J->QQ c r->N.rt (.p r.p) [.L [.I F]]):mC N (yn c kd v z) [.L [.I n1]]:=by
 let gb:=g.b;let gl:=g.l;let gf:=g.f;erw[dX (c:=tV ((kd:Ń):Î) 6) (λ_=>dX (c:=tV 0 ((c.fs.map zO).length:Ń)) (λC=>?_) λ_=>OC h B D hz q) λ_=>OC h B D hz q];let C:0<c.fs.length:=by let:=f9.mp C;rw[ae]at this;lia
 erw[.mk h (by rw[ae];rwa[C]) (by rw[ae];lia) λP a Q G=>?_];rw[ae]at G;obtain⟨p,K⟩:∃p,c.fs[a]?=O p:=(_,ar G);let m:=aL K;let R:=g.n p m;erw[bt (jx K) (bK (om ()) ?_)];delta nJ;erw[(λi A k=>∃s j,A=s.map Vx.p/\s.length=i/\(∀u∈s,Vd c.bs c.ls 2 u)/\g7 j=J/\k=[.L [.I j]],([],P,Ŗ,Ŗ,λu hu=>(nomatch hu),Q,Ŗ),λi y A k hy (s,j,o,e,E,t,x)=>?_,λA k (s,j,o,e,E,t,x)=>?_)]
 .subst o x;erw[vf.mk (d:=2) rfl t ⋯ ∅ () () λS u T hu=>(s++[u],S,by rw[aH];rfl,by rw[aq,e];rfl,λw H=>?_,T,Ŗ)];rcases bE.mp H with H|H;.rwa[E w H]
  .rw[aE.mp H];rwa[hu]
 .subst o x;rw[jX]at e;let e:s.length=p.2:=e;let U:∀l:Ł Vx,(∀u∈l,Vd c.bs _ 2 u)->O3 l<=8*l.length/\wf 6 l=true:=λl=>by induction l with|f=>rwa[λ_=>(ah _,Ŗ)]|g u l W=>intro M;let(i1,X):=W λw H=>M w (aG _ H);let(Y,u2):=wL (M u aJ) ∅;exact(by show u.rc+O3 l<=8*(l.length+1);lia,by show(Ñ _ 6&&wf 6 l)=J;rw[X,show Ñ _ 6=J from aB Y];rfl)
  let(r1,Z):=U s E;erw[q j (.ca z p.1 s) t (Ŗ,((hz,by rw[e];rwa[m],λu hu=>(E u hu).1),?_,by show O3 s<=40;lia))];show(Ë _ 100&&wf 6 s)=J;rw[Z,aB (show s.length<=100 by lia)];rfl
def RR(B:LX ca Jc W)(S:SX ca W)(Dn:DX ca Jc W 44 2 kj)(Dw:DX ca Jc W 46 6 (vf 3)):DX ca Jc W 47 7 ò:=by erw[B.e (k:=5) 12 J [(44,kj),(46,vf 3)] [] (.Kp [2,3,4,5] 1<|>.set 6 (.cl 44 [0] (.u2 0 (.i 16)))<|>.set 7 (.cl 46 [0] (.u4 0 (.b2 eT (.i 1) (.cl 44 [0] (.u2 0 (.i 3)))) 2 3))<|>.set 8 (.ix (.b2 eT 2 (.lst (.u (.s "-")))) (.cl 44 [0] (.u2 0 (.bi ϔ (.u2 (.i 1) (.bi eQ (.u 2)))))))<|>.iff (.bo (Wm.oc (.cmp jy 8 (.s "-")) (Wm.o1 (.cmp jy 6 (.i 7))))) (.re (.tup (.u2 (.s "tell") 7))) .nil<|>.iff (.bo (Wm.ac (.cmp KI 6 (.i 3)) (Wm.a1 (.cmp AN (.bi eQ (.u 3)) (.i 0))))) (.set 9 (.ix 3 (.cl 44 [0] (.u2 0 (.bi eQ (.u 3)))))<|>.set 10 (.ix (.lst (.u2 (.tup (.u2 (.s "number") (.cl 44 [0] (.u2 0 (.i 4))))) (.cl 46 [0] (.u4 0 (.i 2) 2 3)))) (.cl 44 [0] (.u2 0 (.i 2))))<|>.set 6 (.ix (.lst (.u4 (.i 0) (.i 0) (.i 1) (.i 2))) (.cl 44 [0] (.u2 0 (.i 4))))<|>.re (.ix (.lst (.u3 (.tup (.u3 (.s "push") 9 7)) (.tup (.u3 (.s "pop") 8 9)) (.tup (.u4 (.s "put") 9 10 7)))) 6)) .nil<|>.iff (.bo (Wm.ac (.cmp KI 6 (.i 6)) (Wm.a1 (.cmp AN (.bi eQ (.u 4)) (.i 0))))) (.Kp [9,11] (.ix 4 (.cl 44 [0] (.u2 0 (.bi eQ (.u 4)))))<|>.re (.tup (.u4 (.s "call") 8 9 (.bi tS (.u (.comp 1 [0,2,3] (.one 0) (.r (.u 11)) .no (.cl 46 [0] (.u4 1 (.i 2) 2 3)))))))) .nil<|>.iff (.cmp jy 6 (.i 6)) (.re (.tup (.u3 (.s "ask") 8 (.ix (.lst (.u3 (.s "door") (.s "a") (.s "zz"))) (.cl 44 [0] (.u2 0 (.i 3))))))) .nil<|>.iff (.bo (Wm.ac (.cmp jy 6 (.i 8)) (Wm.a1 (.val 5)))) (.re (.tup (.u2 (.s "return") 7))) .nil<|>.iff (.cmp jy 6 (.i 9)) (.re (.tup (.u2 (.s "fail") (.ix (.lst (.u2 (.tup (.u2 (.s "number") (.cl 44 [0] (.u2 0 (.i 9))))) 7)) (.cl 44 [0] (.u2 0 (.i 2))))))) .nil<|>.re (.tup (.u3 (.s "set") 8 7))) S.B2 rfl (Dn.le (),Dw,Ť) Ť λds h Q xc c=>?_];cases c with|@mk n c Q xc h g q=>
  let gb:=g.b;let gl:=g.l;erw[(Ŗ,.mk (m:=16) h ∅ ∅ λn1 K h1 hk=>.mk (m:=3) h1 ∅ ∅ λn2 e h2 he=>.mk (d:=1+e) () h2 () () () () λn3 v h3 f=>?_)];let Z:1+e<=3:=()
  let(A,v2):=wL f Z;erw[bK (pH (n:=(c.bs.map Pv.S).length+1) (b'.mpr (by rw[ae];lia))) ?_];erw[kj.mx (m:=max 1 c.bs.length) (by rw[ae];split<;>lia) h3 () () λM b w P=>?_];let H:∃z:Å,rq (c.bs.map Pv.S++[.S "-"]) ((b:Ń):Î)=O (.S z)/\(z∈c.bs\/z="-"):=by
   by_cases C:b<c.bs.length;.erw[(c.bs[b],?_,.inl (fZ C))];show(c.bs.map Pv.S++[.S "-"])[b]?=_;rw[aX (by rw[ae];rwa[C]),aM,ar C];rfl
   .let R:c.bs=[]:=mj ();obtain rfl:b=0:=by rw[R]at P;let:b<max 1 0:=P;lia
    exact("-",by rw[R];rfl,.inr Ŗ)
  let(z,ez,H):=H;erw[bt ez ?_];let T:∀N,g7 N=J->Q (.p (Rw.te v).p) [.L [.I N]]:=λN h'=>q N (.te v) h' (Ŗ,(f.1,aB A,by show v.rc<=40;lia));erw[dX (c:=cE z "-") (λ_=>T M w) λU=>dX (c:=nq ((K:Ń):Î) 7) (λ_=>T M w) λ_=>?_];let H:z∈c.bs:=H.resolve_right λe=>by rw[bN.mpr e]at U;cases U
  erw[dX (c:=tV ((K:Ń):Î) 3) (λ_=>dX (c:=tV 0 ((c.ls.map Pv.S).length:Ń)) (λE=>?_) λ_=>Hh g w Z f H q) λ_=>Hh g w Z f H q];let E:0<c.ls.length:=by let:=f9.mp E;rw[ae]at this;lia
  erw[.mk (m:=(c.ls.map Pv.S).length) w (by rw[ae];rwa[E]) (by rw[ae];lia) λn5 a h5 X=>?_];rw[ae]at X;let(y,F,ey):=yt X;erw[bt ey (.mk (m:=4) h5 ∅ ∅ λn6 i h6 hi=>vf.mk (d:=2) rfl h6 ∅ ∅ () () λn7 u h7 hu=>.mk (m:=2) h7 ∅ ∅ λn8 j h8 hj=>?_)];let hp:∃t:Vx,rq [(Vx.n (i,())).p,u.p] ((j:Ń):Î)=O t.p/\Vd c.bs c.ls 2 t:=by
   obtain rfl|rfl:j=0\/j=1:=()
   .exact(.n (i,()),Ŗ,Ť,by show 0<2;decide,aN _)
   .exact(u,Ŗ,hu)
  let(t,et,Y):=hp;let(t1,t2):=wL Y ∅;erw[bt et (.mk (m:=4) h8 ∅ ∅ λx o G ho=>?_)];let push:Q (.p (Rw.pu y v).p) [.L [.I x]]:=q x (.pu y v) G (Ŗ,((F,f.1),aB A,by show v.rc+1<=40;lia));obtain rfl|rfl|rfl|rfl:o=0\/o=1\/o=2\/o=3:=()
  .rwa[push]
  .rwa[push]
  .rwa[q x (.po z y) G (Ŗ,((H,F),Ŗ,by show 1<=40;decide))]
  .rwa[q x (.pt y t v) G (Ŗ,((F,Y.1,f.1),by show(Ñ t.dp 6&&Ñ v.dp 6)=J;rw[show Ñ t.dp 6=J from aB t1,show Ñ v.dp 6=J from aB A];rfl,by show t.rc+v.rc+1<=40;lia))]
def bR:Ń->Ń|0=>1|e+1=>4+5*bR e
structure kP(c:Sc)(e b:Ń)(ts:Ł Tr):ß where
 ok:gY c ts
 d:dL ts<=e
 z:de ts<=b
theorem yK:∀{a b:Ł Tr},gY c a->gY c b->gY c (a++b)|[],b,_,h=>h|t::a,b,H,d=>by delta gY at H;show gY c (t::(a++b));delta gY;exact(H.1,yK H.2 d)
theorem wJ:∀{a b:Ł Tr},eI (a++b)=eI a++eI b|[],b=>by show eI b=eI []++eI b;delta eI;rfl|t::a,b=>by show eI (t::(a++b))=eI (t::a)++eI b;rw[show eI (t::(a++b))=t.r.p::eI (a++b)by rw[eI],show eI (t::a)=t.r.p::eI a by rw[eI],wJ];rfl
def kP.app(h:kP c e a x)(H:kP c e b y):kP c e (a+b) (x++y):=(yK h.ok H.ok,by rw[zB];let:=h.d;let:=H.d;lia,by rw[qY];let:=h.z;let:=H.z;lia)
def kP.up(h:kP c e a x)(H:e<=E)(b:a<=A):kP c E A x:=(h.ok,aj h.d H,aj h.z b)
def kP.nil:kP c e a []:=(Ť,aN _,by delta de;rwa[aN _])
theorem kP.lf(h:QQ c r):kP c e 1 [.lf r]:=((h,Ť),aN _,ah _)
inductive KJ(e:Ń):Ct|mk{n l x:Î}{c:Sc}{D m:Ń}{Q:Dv->Hs->ß}{xc:XP}(hx:x=(D:Ń))(hD:D+e=4)(he:e<=3)(h:g7 n)(g:CY c)(hm:m<=5)(q:∀(n' l':Î)(ts:Ł Tr),g7 n'=J->kP c e (m*bR e) ts->Q (.p (tP ts)) [.L [.I n'],.L [.I l']]):KJ e [.r 0,.p (NL c),.p (.I x),.p (.I (m:Ń)),.r 1] [.L [.I n],.L [.I l]] Q xc
theorem uD:∀(T:Ł Tr),T.length<=de T|[]=>aN _|t::r=>by let:=uD r;let h:t.sz=1+Cm t.ps:=wH;show r.length+1<=t.sz+de r;lia
def qq(H:de a<=50000)(c:de b<=50000)(q:Q (.p (tP (a++b))) h):BP (.p (tP a)) (.p (tP b)) h Q:=by
 erw[bK (pH (n:=(eI a).length+(eI b).length) (b'.mpr ?_)) ?_];.rw[jY,jY];let:=uD a;let:=uD b;lia
 .delta tP at q;rw[wJ]at q;rwa[q]
def rx:tP [t]=.T [t.r.p]:=by delta tP eI;rw[eI]
def oi(c:Sc)(D m:Ń)(t:Ł Tr)(v6:Ő Dv)(k:Ń)(v8 v9 v10 v11 v12 v13 K a u:Ő Dv):Es:=[O (.r 0),O (.p (NL c)),O (.p (.I (D:Ń))),O (.p (.I (m:Ń))),O (.r 1),O (.p (tP t)),v6,O (.p (.I (k:Ń))),v8,v9,v10,v11,v12,v13,K,a,u]
abbrev mP:Ss:=nu (AA 5 (s2 eT.o (sV 5) (s2 uZ.o (sN nY (bg (eV [0] ò (bg (sV 0) (bg (sV 1) dD))) dD)) (sN Zx.o (bg (s2 rn.o (s2 CK (sV 4) (sC (.I 0))) (sC (.I 0))) dD))))) zn
def el(g:CY c)(h:g7 n)(hz:de ts<=40000)(q:∀(i:Î)(us:Ł Tr),g7 i=J->kP c 0 1 us->N.ct (oi c D m (ts++us) v6 kd v8 v9 v10 v11 v12 v13 Kr Kt Ku) [.L [.I i],.L [.I l]]):mP N (oi c D m ts v6 kd v8 v9 v10 v11 v12 v13 Kr Kt Ku) [.L [.I n],.L [.I l]]:=by
 erw[.mk h g λe r j k=>?_];let t:de [Tr.lf r]=1:=by delta de Tr.sz;rfl
 let key:∀B:Þ,G5 (.p (.T [r.p])) (.p (.I (b2 B))) [Ob.L [.I e],Ob.L [.I l]] λd H=>BP (.p (tP ts)) d H λd H=>N.ct ((oi c D m ts v6 kd v8 v9 v10 v11 v12 v13 Kr Kt Ku).set 5 (O d)) H:=λB=>by induction B with|d=>let:=qq (h:=[Ob.L [.I e],Ob.L [.I l]]) (Q:=λd f=>N.ct ((oi c D m ts v6 kd v8 v9 v10 v11 v12 v13 Kr Kt Ku).set 5 (O d)) f) (a:=ts) (b:=[.lf r]) () () (q e [.lf r] j (.lf k));rw[rx]at this;delta Tr.r at this;rwa[this]|e=>let:=qq (h:=[Ob.L [.I e],Ob.L [.I l]]) (Q:=λd f=>N.ct ((oi c D m ts v6 kd v8 v9 v10 v11 v12 v13 Kr Kt Ku).set 5 (O d)) f) (a:=ts) (b:=[]) () (by delta de;lia) (q e [] j .nil);delta tP at this;rw[show eI []=[]by delta eI;rfl]at this;rwa[this]
 rwa[key (uC 0 l)]
def afD:Pv.T [.T [.S "if",v.p,tP a,tP b]]=tP [.ii v a b]:=by rw[rx];delta Tr.r Rw.p;delta tP;rfl
def ş:Pv.T [.T [.S "while",v.p,tP a]]=tP [.wh v a]:=by rw[rx];delta Tr.r Rw.p;delta tP;rfl
def Ŷ:Pv.T [.T [.S "try",tP a,.S z,tP b]]=tP [.tr a z b]:=by rw[rx];delta Tr.r Rw.p;delta tP;rfl
def HF:Pv.T [r.p]=tP [.lf r]:=by rw[rx];delta Tr.r;rfl
def rT(ex:x=tP a)(e:y=tP b)(H:de a<=50000)(c:de b<=50000)(q:Q (.p (tP (a++b))) h):BP (.p x) (.p y) h Q:=by subst ex e;rwa[qq H c q]
def QT(e:y=tP b)(H:de a+de u<=50000)(c:de b<=50000)(q:Q (.p (tP (a++(u++b)))) h):BP (.p (tP (a++u))) (.p y) h Q:=rT Ŗ e (by rw[qY];rwa[H]) c (by rw[bw];rwa[q])
def Mg(H:k<2)(q:∀us,kP c 0 1 us->Q (.p (tP us)) h):G5 (.p (.T [(Rw.fa (.n a)).p])) (.p (.I (k:Ń))) h Q:=by
 obtain rfl|rfl:k=0\/k=1:=()
 .let:=q [] .nil;delta tP at this;rw[show eI []=[]by delta eI;rfl]at this;rwa[this]
 .let:=q [.lf (.fa (.n a))] (.lf (Ŗ,Ť,Ŗ,aN _));rw[<-HF]at this;rwa[this]
def ot(q:Q (.p (.I (i+j))) h):BP (.p (.I i)) (.p (.I j)) h Q:=q
def i9:de [t]=t.sz:=by delta de;rw[show de []=0 by delta de;rfl];lia
theorem kP.ii(f:Vd c.bs c.ls 2 v)(h:kP c e p a)(H:kP c e q b):kP c (e+1) (1+p+q) [.ii v a b]:=by
 let(g,i):=wL f ∅;let:=h.d;let:=H.d;let:=h.z;let:=H.z;erw[(((f.1,g,(),h.ok,H.ok),Ť),?_,?_)];.show max (max (dL a) (dL b)+1) 0<=e+1;lia
 .rw[i9];delta Tr.sz;lia
theorem kP.wh(h:tL c.bs c.ls v/\v.dp<6/\v.rc<=40)(H:kP c e p a):kP c (e+1) (1+p) [.wh v a]:=by
 let:=H.d;let:=H.z;erw[(((h.1,h.2.1,h.2.2,H.ok),Ť),?_,?_)];.show max (dL a+1) 0<=e+1;lia
 .rw[i9];delta Tr.sz;lia
theorem kP.tr{z:Å}(hz:z∈c.bs)(h:kP c e p a)(H:kP c e q b):kP c (e+1) (1+p+q) [.tr a z b]:=by
 let:=h.d;let:=H.d;let:=h.z;let:=H.z;erw[(((hz,h.ok,H.ok),Ť),?_,?_)];.show max (max (dL a) (dL b)+1) 0<=e+1;lia
 .rw[i9];delta Tr.sz;lia
inductive JR(c:Sc)(D m e:Ń)(pre:ϑ)(post:ϑ):Es->Hs->ß|mk{ts:Ł Tr}{n2 l2:Î}{v6 v7 v8 v9 v10 v11 v12 v13 Kr Kt Ku:Ő Dv}(ht:kP c e (pre.length*bR e) ts)(h:g7 n2):JR c D m e pre post [O (.r 0),O (.p (NL c)),O (.p (.I (D:Ń))),O (.p (.I (m:Ń))),O (.r 1),O (.p (tP ts)),v6,v7,v8,v9,v10,v11,v12,v13,Kr,Kt,Ku] [.L [.I n2],.L [.I l2]]
def JR.st{l2:Î}(z:t=tP [])(h:g7 n):JR c D m e [] post [O (.r 0),O (.p (NL c)),O (.p (.I (D:Ń))),O (.p (.I (m:Ń))),O (.r 1),O (.p t),ao,ao,ao,ao,ao,ao,ao,ao,ao,ao,ao] [.L [.I n],.L [.I l2]]:=by subst z;rwa[.mk .nil h]
def JR.nx{K:Ő Dv}(H:kP c e (pre.length*bR e) t)(hu:kP c e (bR e) us)(h:g7 n):mE 2 (JR c D m e (pre++[x]) post) [O (.r 0),O (.p (NL c)),O (.p (.I (D:Ń))),O (.p (.I (m:Ń))),O (.r 1),O (.p (tP (t++us))),v6,v7,v8,v9,v10,v11,v12,v13,K,k,u] [.L [.I n],.L [.I l]]:=by erw[bK (by rfl) (.mk ?_ h)];erw[(H.app hu).up (ah _) ?_];rw[aq,b6,Nat.add_mul,Nat.one_mul];rwa[ah _]
def WH(h:e<=3):bR e<=249:=by
 obtain rfl|rfl|rfl|rfl:e=0\/e=1\/e=2\/e=3:=()
 all_goals decide
def Ys:∀e:Ń,1<=bR e|0=>ah _|e+1=>by show 1<=4+5*bR e;lia
def NT{K:KP}(h:g7 n)(H:1<=m)(a:m<=1000000)(q:∀(N:Î)(k:Ń),g7 N=J->k<m->K [.p (.I (k:Ń))] [.L [.I N],.L [.I l]]):wp [0] kj x K [.r 0,.p (.I (m:Ń))] [.L [.I n],.L [.I l]]:=kj.mk h H a q
def ĸ{x:Î}{K:KP}(H:x=(D:Ń))(a:D+e=4)(b:e<=3)(h:g7 n)(g:CY c)(d:m<=5)(q:∀(N f:Î)(t:Ł Tr),g7 N=J->kP c e (m*bR e) t->K [.p (tP t)] [.L [.I N],.L [.I f]]):wp [0,1] (KJ e) X K [.r 0,.p (NL c),.p (.I x),.p (.I (m:Ń)),.r 1] [.L [.I n],.L [.I l]]:=KJ.mk H a b h g d q
def ϸ{x:Î}{K:KP}(H:x=(d:Ń))(h:g7 n)(a:1<=d)(b:d<=D)(c:bs.length<=1000)(e:ls.length<=1000)(q:∀(N:Î)(v:Vx),g7 N=J->Vd bs ls d v->K [.p v.p] [.L [.I N],.L [.I l]]):wp [0] (vf D) X K [.r 0,.p (.I x),.p (.L (bs.map .S)),.p (.L (ls.map .S))] [.L [.I n],.L [.I l]]:=vf.mk H h a b c e q
section
variable{ca:Ń->À}{Jc:Ń->Ct}{W:Wd}{k e:Ń}{CR:Ct}
seal BP G5
def Gh(B:LX ca Jc W)(S:SX ca W)(h:6<=k)(Dn:DX ca Jc W 44 2 kj)(Dw:DX ca Jc W 46 6 (vf 3))(Dp:DX ca Jc W 47 7 ò)(Dr:DX ca Jc W 48 (k+1) CR)(hR:∀e',e=e'+1->CR=KJ e'):DX ca Jc W 48 (k+2) (KJ e):=by erw[B.e 17 J [(44,kj),(46,vf 3),(47,ò),(48,CR)] [] (.set 5 (.tup .nil)<|>.fo (.one 6) (.r (.u (.cl 44 [0] (.u2 0 (.b2 eT 3 (.i 1)))))) (.set 7 (.cl 44 [0] (.u2 0 (.i 9)))<|>.put (.b2 A7 (.ix 4 (.i 0)) (.i 1)) 4 (.i 0)<|>.iff (.bo (Wm.oc (.cmp AN 2 (.i 3)) (Wm.oc (.cmp AN 7 (.i 2)) (Wm.oc (.cmp jy (.ix 1 (.i 0)) (.lst .nil)) (Wm.o1 (.cmp KI (.ix 4 (.i 0)) (.i 4))))))) (.set 5 (.b2 eT 5 (.b2 uZ (.tup (.u (.cl 47 [0] (.u2 0 1)))) (.bi Zx (.u (.cmp rn (.ix 4 (.i 0)) (.i 0))))))<|>.one .ct) .nil<|>.put (.b2 A7 (.ix 4 (.i 0)) (.b2 A6 (.i 2) (.bi Zx (.u (.cmp AN 7 (.i 0)))))) 4 (.i 0)<|>.set 8 (.tup (.u (.tup (.u2 (.s "fail") (.tup (.u2 (.s "number") (.cl 44 [0] (.u2 0 (.i 9)))))))))<|>.set 9 (.ix (.ix 1 (.i 0)) (.cl 44 [0] (.u2 0 (.bi eQ (.u (.ix 1 (.i 0)))))))<|>.set 10 (.cl 48 [0,1] (.u5 0 1 (.b2 eT 2 (.i 1)) (.i 3) 4))<|>.set 11 (.cl 48 [0,1] (.u5 0 1 (.b2 eT 2 (.i 1)) (.i 2) 4))<|>.one (.iff (.cmp jy 7 (.i 0)) (.set 12 (.cl 46 [0] (.u4 0 (.i 2) (.ix 1 (.i 0)) (.ix 1 (.i 1))))<|>.one (.set 5 (.b2 eT 5 (.tup (.u (.tup (.u4 (.s "if") 12 10 11))))))) (.one (.iff (.cmp jy 7 (.i 1)) (.set 13 (.tup (.u (.tup (.u3 (.s "set") 9 (.tup (.u3 (.s "minus") (.tup (.u2 (.s "box") 9)) (.tup (.u2 (.s "number") (.i 1)))))))))<|>.set 5 (.b2 eT 5 (.tup (.u (.tup (.u3 (.s "set") 9 (.tup (.u2 (.s "number") (.cl 44 [0] (.u2 0 (.i 5))))))))))<|>.set 14 (.ix (.lst (.u2 (.b2 eT 10 13) (.b2 eT 13 10))) (.cl 44 [0] (.u2 0 (.i 2))))<|>.set 15 (.tup (.u2 (.s "box") 9))<|>.set 16 (.cl 44 [0] (.u2 0 (.i 8)))<|>.iff (.cmp jy 16 (.i 0)) (.one (.set 15 (.tup (.u3 (.s "over") (.tup (.u2 (.s "number") (.i 3))) 15)))) (.one (.iff (.bo (Wm.ac (.cmp jy 16 (.i 1)) (Wm.a1 (.cmp mf (.ix 1 (.i 1)) (.lst .nil))))) (.one (.set 15 (.tup (.u3 (.s "item") (.ix (.ix 1 (.i 1)) (.i 0)) 15)))) .nil))<|>.one (.set 5 (.b2 eT 5 (.tup (.u (.tup (.u3 (.s "while") 15 14))))))) (.set 10 (.b2 eT 10 (.b2 uZ 8 (.cl 44 [0] (.u2 0 (.i 2)))))<|>.one (.set 5 (.b2 eT 5 (.tup (.u (.tup (.u4 (.s "try") 10 9 (.b2 eT 11 (.b2 uZ 8 (.cl 44 [0] (.u2 0 (.i 2))))))))))))))))<|>.re 5) S.wC rfl (Dn.le (),Dw.le (),Dp.le (),Dr,Ť) Ť λds h Q xc c=>?_];cases c with|@mk n l x c D m Q xc hx hD he h g hm q=>
  subst hx;erw[(Ŗ,ot (.mx (m:=m+1) () h () () λn1 a h1 E=>?_))];erw[bK (om (n:=a) ()) (iT (JR c D m e) (.st (by delta tP eI;rfl) h1) (λpre x post σ' h' ex j=>?_) λσ' h' j=>?_)];.induction j with|@mk ts n2 l2 v6 v7 v8 v9 v10 v11 v12 v13 Kr Kt Ku H h2=>
   let(rfl,hi):=O5 ex;let hi:pre.length<a:=hi;let hb5:=WH he;let f:de ts<=40000:=by let:=H.z;let:pre.length*bR e<=5*249:=QJ () hb5;lia
   erw[NT (m:=9) h2 ∅ ∅ λn3 kd F hk=>?_];let Z:∀us,kP c 0 1 us->kP c e (bR e) us:=λus hu=>hu.up (aN _) (Ys e);erw[dX (c:=tV 3 ((D:Ń):Î)) (λ_=>el g F f λn4 us t hu=>JR.nx (post:=post) H (Z us hu) t) λcD=>?_];erw[dX (c:=tV 2 ((kd:Ń):Î)) (λ_=>el g F f λn4 us t hu=>JR.nx (post:=post) H (Z us hu) t) λck=>?_];erw[bK (c:=lq (.L (c.bs.map .S)) (.L [])) (by rfl) ?_];erw[dX (c:=KN (.L (c.bs.map .S)) (.L [])) (λ_=>el g F f λn4 us t hu=>JR.nx (post:=post) H (Z us hu) t) λcb=>?_];erw[dX (c:=tV (l2-1) 4) (λ_=>el g F f λn4 us t hu=>JR.nx (post:=post) H (Z us hu) t) λcl=>?_];obtain⟨e',rfl⟩:∃e',e=e'+1:=(e-1,by
    let:¬ 3<((D:Ń):Î):=λz=>by rw[f9.mpr z]at cD;cases cD
    lia);obtain rfl:=hR e' Ŗ;let cb':0<c.bs.length:=by cases C:c.bs with|f=>rw[C]at cb;cases cb|g a l=>rwa[FV _]
   let gb:=g.b;let gl:=g.l;let hb3:bR e'<=249:=WH ();let hbe:bR (e'+1)=4+5*bR e':=Ŗ;erw[bK (E_ (i:=2) (by rfl)) ?_];erw[NT (m:=9) F ∅ ∅ λn4 fl t hfl=>?_];erw[NT (m:=(c.bs.map Pv.S).length) t (by rw[ae];rwa[cb']) (by rw[ae];lia) λn5 i h5 G=>?_];rw[ae]at G;let(z,f,ez):=yt G;erw[bt ez ?_];erw[ot ?_];erw[ĸ (D:=D+1) (m:=3) () () () h5 g ∅ λn6 l6 R h6 E=>?_];erw[ot ?_];erw[ĸ (D:=D+1) (m:=2) () () () h6 g ∅ λn7 l7 rb h7 C=>?_];let za:=E.z;let zb:=C.z;erw[dX (c:=nq ((kd:Ń):Î) 0) (λ_=>?_) λ_=>dX (c:=nq ((kd:Ń):Î) 1) (λ_=>?_) λ_=>?_];.erw[ϸ (d:=2) rfl h7 ∅ ∅ () () λn8 v I K=>?_];let U:=kP.ii K E C;erw[rT (a:=ts) (b:=[.ii v R rb]) rfl afD () (by let:=U.z;lia) ?_];rwa[JR.nx (post:=post) H (U.up (ah _) ()) I]
   .let P:QQ c (.st z (.o .mi (.b z) (.n (1,∅)))):=(Ŗ,(f,f,Ť),Ŗ,by show 1<=40;decide);let zle:de [Tr.lf (.st z (.o .mi (.b z) (.n (1,∅))))]=1:=by rw[i9];delta Tr.sz;rfl
    erw[NT (m:=5) h7 ∅ ∅ λn8 w I hw=>?_];let pst:QQ c (.st z (.n (w,()))):=(Ŗ,(f,Ť),Ŗ,aN _);let zst:de [Tr.lf (.st z (.n (w,())))]=1:=by rw[i9];delta Tr.sz;rfl
    erw[rT (a:=ts) (b:=[.lf (.st z (.n (w,())))]) rfl (HF (r:=.st z (.n (w,())))) () () ?_];erw[rT (a:=R) (b:=[.lf (.st z (.o .mi (.b z) (.n (1,∅))))]) rfl (HF (r:=.st z (.o .mi (.b z) (.n (1,∅))))) () () ?_];erw[rT (a:=[.lf (.st z (.o .mi (.b z) (.n (1,∅))))]) (b:=R) (HF (r:=.st z (.o .mi (.b z) (.n (1,∅))))) rfl () () ?_];erw[NT (m:=2) I ∅ ∅ λn9 k2 h9 M=>?_];let A:∃ri,rq [tP (R++[.lf (.st z (.o .mi (.b z) (.n (1,∅))))]),tP ([.lf (.st z (.o .mi (.b z) (.n (1,∅))))]++R)] ((k2:Ń):Î)=O (tP ri)/\kP c e' (3*bR e'+1) ri:=by
     obtain rfl|rfl:k2=0\/k2=1:=()
     .exact(_,Ŗ,E.app (.lf P))
     .exact(_,Ŗ,(kP.app (.lf P) E).up (ah _) ())
    let(ri,eri,A):=A;let zri:=A.z;erw[bt eri ?_];erw[NT (m:=8) h9 ∅ ∅ λn10 wy IV hwy=>?_];let fin:∀v,tL c.bs c.ls v/\v.dp<6/\v.rc<=40->kP c (e'+1) (bR (e'+1)) ([.lf (.st z (.n (w,())))]++[.wh v ri]):=λv K=>(kP.app (.lf pst) (kP.wh K A)).up (ah _) ();let zwh:∀v,de [Tr.wh v ri]<=50000:=λv=>by rw[i9];delta Tr.sz;lia
    let vb:tL c.bs c.ls (.b z)/\(Vx.b z).dp<6/\(Vx.b z).rc<=40:=(f,by show 0<6;decide,by show 1<=40;decide);let plain:∀(Q:Dv->Hs->ß)(h:Hs)v,tL c.bs c.ls v/\v.dp<6/\v.rc<=40->(∀us,kP c (e'+1) (bR (e'+1)) us->Q (.p (tP (ts++us))) h)->BP (.p (tP (ts++[.lf (.st z (.n (w,())))]))) (.p (.T [.T [.S "while",v.p,tP ri]])) h Q:=λQ h v K q=>QT ş () (zwh v) (q _ (fin v K));erw[dX (c:=nq ((wy:Ń):Î) 0) (λ_=>plain _ _ (.o .ov (.n (3,∅)) (.b z)) ((Ť,f),by show max 0 0+1<6;decide,by show 0+1<=40;decide) λus hu=>JR.nx (post:=post) H hu IV) λ_=>?_];erw[dX (c:=nq ((wy:Ń):Î) 1) (λ_=>?_) λ_=>plain _ _ (.b z) vb λus hu=>JR.nx (post:=post) H hu IV];erw[bK (c:=lq (.L (c.ls.map .S)) (.L [])) (by rfl) ?_];erw[dX (c:=!KN (.L (c.ls.map .S)) (.L [])) (λN=>?_) λ_=>plain _ _ (.b z) vb λus hu=>JR.nx (post:=post) H hu IV];let cl3:0<c.ls.length:=by cases C:c.ls with|f=>rw[C]at N;cases N|g a l=>rwa[FV _]
    let(y,hy,ey):=yt cl3;erw[bt ey ?_];rwa[plain _ _ (.i y (.b z)) ((hy,f),by show 0+1<6;decide,by show 1+1<=40;decide) λus hu=>JR.nx (post:=post) H hu IV]
   .erw[NT (m:=2) h7 ∅ ∅ λn8 k1 I hk1=>Mg (c:=c) (a:=(fl,())) hk1 λua X=>?_];let zua:=X.z;erw[qq () () ?_];erw[NT (m:=2) I ∅ ∅ λn9 k2 h9 M=>Mg (c:=c) (a:=(fl,())) M λub Y=>?_];let zub:=Y.z;erw[qq () () ?_];let U:=kP.tr f (E.app (X.up (aN _) (ah _))) (C.app (Y.up (aN _) (ah _)));erw[rT (a:=ts) (b:=[.tr (R++ua) z (rb++ub)]) rfl Ŷ () (by let:=U.z;lia) ?_];rwa[JR.nx (post:=post) H (U.up (ah _) ()) h9]
  .induction j with|@mk ts n2 l2 v6 v7 v8 v9 v10 v11 v12 v13 Kr Kt Ku H h2=>rw[jX]at H;let H:kP c e (a*bR e) ts:=H;rwa[q n2 l2 ts h2 (H.up (ah _) (Nat.mul_le_mul_right _ ()))]
theorem Gi(B:LX ca Jc W)(S:SX ca W)(D:DX ca Jc W 44 2 kj)(d:DX ca Jc W 46 6 (vf 3))(p:DX ca Jc W 47 7 ò):∀e:Ń,DX ca Jc W 48 (e+8) (KJ e)|0=>Gh (k:=6) B S (ah _) D d p (CR:=tz) (Dt.no S.wC) λ_ h=>nomatch h|e+1=>Gh (k:=e+7) B S () D d p (Gi B S D d p e) λE h=>by cases h;rfl
end
inductive Rg:Ct|mk{n:Î}{Q:Dv->Hs->ß}{xc:XP}(h:g7 n)(q:∀(n':Î)(wd:Ł (Å×Ł Nm)),g7 n'=J->X9 (O wd)->Q (.p (oa (O wd))) [.L [.I n']]):Rg [.r 0] [.L [.I n]] Q xc
def C0(p:Å×Ł Nm):Pv:=.T [.S p.1,G_ p.2]
inductive JW(pre:ϑ)(post:ϑ):Es->Hs->ß|mk{wd:Ł (Å×Ł Nm)}{n2:Î}{v2:Ő Dv}{raw:ϑ}(er:raw=wd.map C0)(hp:pre=wd.map λp=>.S p.1)(h:g7 n2):JW pre post [O (.r 0),O (.r 1),v2] [.L [.I n2],.L raw]
inductive JV(r:ϑ)(i:Ń):ϑ->Hs->ß|mk{vs:Ł Nm}{n:Î}{acc:ϑ}(ea:acc=vs.map nP)(h:g7 n):JV r i acc [.L [.I n],.L r]
section
variable{ca:Ń->À}{Jc:Ń->Ct}{W:Wd}
def RY(B:LX ca Jc W)(S:SX ca W)(D:DX ca Jc W 44 2 kj):DX ca Jc W 50 4 Rg:=by erw[B.e (k:=2) 3 J [(44,kj)] [] (.set 1 (.QA .nil)<|>.fo (.one 2) (.s (.lst (.u3 (.s "a") (.s "door") (.s "zz")))) (.one (.ex (.mt pX 1 (.u (.tup (.u2 2 (.bi tS (.u (.comp 1 [0] (.one 0) (.r (.u (.cl 44 [0] (.u2 0 (.i 6))))) .no (.cl 44 [0] (.u2 1 (.i 6))))))))))))<|>.re (.bi acX (.u (.sl 1 (.of (.b2 zd (.cl 44 [0] (.u2 0 (.i 4))) (.i 3))) .no)))) S.B5 rfl (D.le (),Ť) Ť λds h Q X c=>?_];induction c with|@mk n Q X h q=>
  erw[(Ŗ,iT JW (.mk (wd:=[]) (v2:=ao) Ŗ Ŗ h) (λpre x post g l ex j=>?_) λg l j=>?_)];.induction j with|@mk wd w v2 R o H p=>
   subst o;let C:∃z,x=.S z:=by
    let:x ∈[Pv.S "a",Pv.S "door",Pv.S "zz"]:=by rw[ex];rwa[aW _ aJ]
    rcases ax.mp this with rfl|this;.exact(_,Ŗ)
    rcases ax.mp this with rfl|this;.exact(_,Ŗ)
    rw[aE.mp this];exact(_,Ŗ)
   let(z,rfl):=C;let T:wd.length<=3:=by let:=bU Á ex;rw[H,aq,ae]at this;let:3=wd.length+(post.length+1):=this;lia
   erw[.mk (m:=6) p ∅ ∅ λN a f v=>bK (om (n:=a) ()) ?_];delta nJ;erw[(JV (wd.map C0),.mk (vs:=[]) Ŗ f,λi y A l U j=>?_,λA l j=>?_)];.induction j with|@mk vs F A E d=>rwa[kj.mk (m:=6) d ∅ ∅ λY b I hb=>.mk (vs:=vs++[(b,())]) (by rw[E,aH];rfl) I]
   .induction j with|@mk vs F A E d=>subst E;erw[bK (pH (n:=(wd.map C0).length+1) (b'.mpr (by rw[ae];lia))) (.mk (wd:=wd++[(z,vs)]) (by rw[aH];rfl) (by rw[H,aH];rfl) d)]
  .induction j with|@mk wd w v2 R o H p=>subst o;erw[.mk (m:=4) p ∅ ⋯ λN a f v=>?_];match wd,H with
   |[(Z,l1),(K,l2),(M,L)],H=>
    obtain⟨rfl,rfl,rfl⟩:Z="a"/\K="door"/\M="zz":=by injection H with E H;injection H with d H;injection H with t H;injection E with E;injection d with d;injection t with t;exact(E.symm,d.symm,t.symm)
    let G:X9 (O [("a",l1),("door",l2),("zz",L)]):=(by show(["a","door","zz"]:ϐ).Nodup;decide,by show 3<=100;decide);let P:X9 (O [("door",l2),("zz",L)]):=(by show(["door","zz"]:ϐ).Nodup;decide,by show 2<=100;decide);match a,v with|0,_=>rwa[bK (by rfl) (q N _ f G)]|1,_=>rwa[bK (by rfl) (q N _ f G)]|2,_=>rwa[bK (by rfl) (q N _ f G)]|3,_=>rwa[bK (by rfl) (q N _ f P)]
def XM(bs ls:ϐ)(am:Ł (Å×Ń))(o:ϐ)(i:Þ):Sc:=(o++bs,ls,am,i)
structure ý(bs ls:ϐ)(am:Ł (Å×Ń))(x:Fn):ß where
 rs:kP (XM bs ls am (x.ps++x.os) J) 3 1000 x.rs
 nd:(x.ps++x.os).Nodup
 ln:(x.ps++x.os).length<=4
theorem L8:∀{l:Ł _},(∀p∈l,∀z d,p.1=.ak z d->d∈Zn)->∀d∈CG l,d∈Zn|[],_,d,hd=>by cases hd|(r,o)::l,h,d,hd=>by let i:=L8 λp H=>h p (aG _ H);induction r with
  |ak z D=>
   rcases ax.mp hd with rfl|hd;.rwa[h _ aJ z d Ŗ]
   .rwa[i d hd]|_=>rwa[i d hd]
theorem Py:∀{fs:Ł Fn},(∀x∈fs,de x.rs<=1000)->fi fs<=1001*fs.length|[],_=>aN _|x::fs,h=>by let h1:=h x aJ;let h2:=Py λy H=>h y (aG _ H);show 1+de _+fi fs<=1001*(fs.length+1);lia
theorem Mi{P:Rw->ß}:∀{fs:Ł Fn}{n:Ń},(∀z,P (.df z))->(∀x∈fs,∀n o,∀p∈iF x.rs n o,P p.1)->∀p∈rC fs n,P p.1
 |[],n,a,h,p,H=>by done|x::fs,n,a,h,p,H=>by
  rcases ax.mp H with rfl|H;.rwa[a _]
  .rcases bE.mp H with H|H;.rwa[h x aJ _ _ p H]
   .rwa[Mi a (λy b=>h y (aG _ b)) p H]
def ZI{g:Pg}(E:g.bs.map (·.1)=bs)(l:g.ls.map (·.1)=ls)(k:g.fns=am)(N:bs.Nodup)(m:ls.Nodup)(q:(am.map (·.1)).Nodup)(s:∀p∈am,p.1≠"")(L:bs.length<=9)(t:ls.length<=9)(y:am.length<=4)(b:∀x∈g.fs,ý bs ls am x)(i:kP (XM bs ls am [] bb) 3 2000 g.rs)(D:∀p∈g.ls,p.2.length<=12):K6 g:=by
 subst E l k;let u:g.fs.map Fn.f=g.fns.map (·.1):=by delta Pg.fns;rw[bI];rfl
 let l1:g.fns.length=g.fs.length:=ae ..;let fok:=λx H=>(b x H).rs.ok;let QD:=i.ok;let A:∀{c:Sc}{r:Rw},A0 c r->∀z d,r=.ak z d->d∈Zn:=λh z d e=>by subst e;rwa[h.1.2]
 let j:∀d∈CG g.fl,d∈Zn:=L8 λp a=>by
  rcases bE.mp a with a|a;.rwa[Mi (P:=λr=>∀z d,r=.ak z d->d∈Zn) (λz Z d e=>by cases e) (λx H n o p a=>A (jz _ n o (fok x H) p a)) p a]
  .rwa[A (jz _ _ _ QD p a)]
 let v:(dR _).length<=3:=List.Nodup.length_le_of_subset (jn _).1 λd w=>j d (((jn _).2 d).mp w);let hz:=Py λx H=>(b x H).rs.z;let B:=i.z;let dr:=i.d;erw[((?_,u▸q,λx H=>?_,N,m,by rw[ae]at L;rwa[aj ‹_› ∅],by rw[ae]at t;rwa[aj ‹_› ∅],(),λx H=>((b x H).nd,by let:=(b x H).ln;rwa[aj ‹_› ⋯]),aj ‹_› ⋯),fok,QD,D)];.delta Pg.ok;rw[bJ.mpr λx H=>by rw[fj _ (fok x H),show Ñ _ 8=J from aB (by let:=(b x H).rs.d;rwa[b9 ‹_› ∅])];rfl,fj _ QD,show Ñ _ 8=J from aB (b9 ‹_› ∅),aB (show fi _+de _<=100000 by lia)];rfl
 .let:=s _ (cx.mpr (x,H,Ŗ));rwa[this]
def vm{l:ϐ}{k:Ń}:eG (l.map Pv.S) ao (O k)=(l.take k).map .S:=by show((l.map _).take k).drop 0=_;rw[fz,qi]
def gJ{l:ϐ}(h:l.Nodup)(H:a<=2)(c:b<=2):((l.take (5+a)).drop 5++(l.take (7+b)).drop 7).Nodup/\((l.take (5+a)).drop 5++(l.take (7+b)).drop 7).length<=4:=by
 let s1:((l.take _).drop 5).Sublist _:=(List.drop_sublist ..).trans (by rw[show l.take _=(l.take 7).take (5+a)by rw[List.take_take,Nat.min_eq_left ()]];rwa[fK ..]);let s2:((l.take (7+b)).drop 7).Sublist (l.drop 7):=by rw[List.drop_take];rwa[fK ..]
 let s:=s1.append s2;rw[uR]at s;erw[(h.sublist s,?_)];rw[aq,eA,eA,bX,bX];lia
inductive Rb:Ct|mk{n:Î}{m:Ń}{Q:Dv->Hs->ß}{xc:XP}(h:g7 n)(hm:m<=5)(q:∀(n':Î)(g:Pg),g7 n'=J->K6 g->Q (.p g.p) [.L [.I n']]):Rb [.r 0,.p (.I (m:Ń))] [.L [.I n]] Q xc
def KJ.mx{P:Pv}{n l x:Î}{c:Sc}{D m:Ń}{Q:Dv->Hs->ß}{xc:XP}(H:P=NL c)(a:x=(D:Ń))(b:D+e=4)(d:e<=3)(h:g7 n)(g:CY c)(f:m<=5)(q:∀(N i:Î)(t:Ł Tr),g7 N=J->kP c e (m*bR e) t->Q (.p (tP t)) [.L [.I N],.L [.I i]]):KJ e [.r 0,.p P,.p (.I x),.p (.I (m:Ń)),.r 1] [.L [.I n],.L [.I l]] Q xc:=by subst H;rwa[.mk a b d h g f q]
def vf.mx{n:Î}{x:Î}{d:Ń}{pb P:ϑ}{bs ls:ϐ}{Q:Dv->Hs->ß}{xc:XP}(e:pb=bs.map .S)(E:P=ls.map .S)(H:x=(d:Ń))(h:g7 n)(a:1<=d)(b:d<=D)(l:bs.length<=1000)(c:ls.length<=1000)(q:∀(N:Î)(v:Vx),g7 N=J->Vd bs ls d v->Q (.p v.p) [.L [.I N]]):vf D [.r 0,.p (.I x),.p (.L pb),.p (.L P)] [.L [.I n]] Q xc:=by subst e E;rwa[.mk H h a b l c q]
def YS{l:ϐ}:eG (l.map Pv.S) (O 5) (O (5+((a:Ń):Î)))=((l.take (5+a)).drop 5).map .S:=by show((l.map Pv.S).take (5+a)).drop 5=_;rw[X2,qi]
def YT{l:ϐ}:eG (l.map Pv.S) (O 7) (O (7+((a:Ń):Î)))=((l.take (7+a)).drop 7).map .S:=by show((l.map Pv.S).take (7+a)).drop 7=_;rw[X2,qi]
def Lv{l:ϐ}:eG (l.map Pv.S) (O 3) (O (3+((a:Ń):Î)))=((l.take (3+a)).drop 3).map .S:=by show((l.map Pv.S).take (3+a)).drop 3=_;rw[X2,qi]
inductive JF(l:ϐ)(pb pl:ϑ)(bs ls:ϐ)(am:Ł (Å×Ń))(m:Ń)(pre:ϑ)(post:ϑ):Es->Hs->ß|mk{fs:Ł Fn}{n2 l2:Î}{v5 v9 v10 v11 v12 v13:Ő Dv}(hp:pre=fs.map λx=>zO (x.f,x.ps.length))(hf:∀x∈fs,ý bs ls am x)(h:g7 n2):JF l pb pl bs ls am m pre post [O (.r 0),O (.p (.I (m:Ń))),O (.p (.L (l.map .S))),O (.p (.L pb)),O (.p (.L pl)),v5,O (.p (.L (am.map zO))),O (.r 1),O (.p (.T (fs.map Fn.p))),v9,v10,v11,v12,v13,ao,ao,ao] [.L [.I n2],.L [.I l2]]
def JF.of{pb:ϑ}{fs:Ł Fn}{l2:Î}(F:R=fs.map Fn.p)(a:pre=fs.map λx=>zO (x.f,x.ps.length))(b:∀x∈fs,ý bs ls am x)(h:g7 n):JF l pb P bs ls am m pre post [O (.r 0),O (.p (.I (m:Ń))),O (.p (.L (l.map .S))),O (.p (.L pb)),O (.p (.L P)),v5,O (.p (.L (am.map zO))),O (.r 1),O (.p (.T R)),v9,v10,v11,v12,v13,ao,ao,ao] [.L [.I n],.L [.I l2]]:=by subst F;rwa[.mk a b h]
theorem Mh:∀{a b:Ł (Å×Ń)},a.map zO=b.map zO->a=b
 |[],[],_=>Ŗ|[],_::_,h=>nomatch h|_::_,[],h=>nomatch h|(p,P)::a,(q1,q2)::b,h=>by
  injection h with e c;injection e with e;injection e with e E;injection e with e;injection E with E;injection E with E;let E:P=q2:=by rwa[Int.ofNat.inj E]
  let e:p=q1:=e;rw[e,E,Mh c]
inductive WA(z:ϐ)(k i:Ń):ϑ->Hs->ß|mk{am:Ł (Å×Ń)}{n:Î}(e2:am.map (·.1)=z.take i)(e3:∀p∈am,p.2<=k)(h:g7 n):WA z k i (am.map zO) [.L [.I n]]
def WA.nx{am:Ł (Å×Ń)}(e:am.map (·.1)=z.take i)(E:∀p∈am,p.2<=k)(a:z[i]?=O w)(c:b<=k)(h:g7 n):WA z k (i+1) (am.map zO++[.T [.S w,.I (b:Ń)]]) [.L [.I n]]:=by
 rw[show am.map zO++[_]=(am++[Ý w b]).map zO by rw[aH];rfl];erw[.mk ?_ (λp H=>?_) h];.rw[aH,e,qc,a];rfl
 .rcases bE.mp H with H|H;.rwa[E p H]
  .rw[aE.mp H];rwa[c]
inductive WB(z:ϐ)(l:Î)(i:Ń):ϑ->Hs->ß|mk{bx:Ł (Å×Nm)}{n:Î}(e2:bx.map (·.1)=z.take i)(h:g7 n):WB z l i (bx.map YC) [.L [.I n],.L [.I l]]
def WB.nx{bx:Ł (Å×Nm)}(e:bx.map (·.1)=z.take i)(H:z[i]?=O w)(a:b<1000000)(h:g7 n):WB z l (i+1) (bx.map YC++[.T [.S w,.I (b:Ń)]]) [.L [.I n],.L [.I l]]:=by rw[show bx.map YC++[_]=(bx++[Ý w ((b,a):Nm)]).map YC by rw[aH];rfl];erw[.mk ?_ h];rw[aH,e,qc,H];rfl
inductive WC(l:Î)(i:Ń):ϑ->Hs->ß|mk{sz:Ϙ}{n:Î}(e2:sz.length=i)(e3:∀s∈sz,s<=12)(h:g7 n):WC l i (sz.map λs=>.I (s:Ń)) [.L [.I n],.L [.I l]]
def WC.nx{sz:Ϙ}(e:sz.length=i)(E:∀s∈sz,s<=12)(a:b<=12)(h:g7 n):WC l (i+1) (sz.map (λs=>Pv.I (s:Ń))++[.I (b:Ń)]) [.L [.I n],.L [.I l]]:=by
 rw[show sz.map (λs=>Pv.I (s:Ń))++[_]=(sz++[b]).map λs=>.I (s:Ń)by rw[aH];rfl];erw[.mk (by rw[aq,e];rfl) (λp H=>?_) h];rcases bE.mp H with H|H;.rwa[E p H]
 .rw[aE.mp H];rwa[a]
def NM:Ł Nm:=[7,0,3,7,0,3,7,0,3,7,0,3]
inductive WD(z:ϐ)(n l:Î)(i:Ń):ϑ->Hs->ß|mk{lx:Ł (Å×Ł Nm)}(e2:lx.map (·.1)=z.take i)(e3:∀p∈lx,p.2.length<=12):WD z n l i (lx.map x_) [.L [.I n],.L [.I l]]
def WD.nx{lx:Ł (Å×Ł Nm)}(e:r=(NM.take s).map nP)(E:lx.map (·.1)=z.take i)(a:∀p∈lx,p.2.length<=12)(H:z[i]?=O w):WD z n l (i+1) (lx.map x_++[.T [.S w,.T r]]) [.L [.I n],.L [.I l]]:=by
 subst e;rw[show lx.map x_++[_]=(lx++[Ý w (NM.take s)]).map x_ by rw[aH];rfl];erw[.mk ?_ λp h=>?_];.rw[aH,E,qc,H];rfl
 .rcases bE.mp h with h|h;.rwa[a p h]
  .rw[aE.mp h];show(NM.take s).length<=12;rw[bX];rwa[HP ..]
def Ϡ:eG (Ò 4 [Pv.I 7,Pv.I 0,Pv.I 3]).flatten ao (O ((s:Ń):Î))=(NM.take s).map nP:=by show((NM.map nP).take s).drop 0=_;rw[fz,qi]
def IG(B:LX ca Jc W)(S:SX ca W)(Dn:DX ca Jc W 44 2 kj)(Ds:DX ca Jc W 45 4 Q9)(Dw:DX ca Jc W 46 6 (vf 3))(Dr:DX ca Jc W 48 11 (KJ 3)):DX ca Jc W 49 12 Rb:=by erw[B.e (k:=10) 17 J [(44,kj),(45,Q9),(46,vf 3),(48,KJ 3)] [] (.set 2 (.cl 45 [0] (.u2 0 (.i 9)))<|>.set 3 (.sl 2 .no (.of (.ix (.lst (.u4 (.i 1) (.i 2) (.i 3) (.i 3))) (.cl 44 [0] (.u2 0 (.i 4))))))<|>.set 4 (.sl 2 (.of (.i 3)) (.of (.b2 eT (.i 3) (.cl 44 [0] (.u2 0 (.i 3))))))<|>.setC 6 1 [0] (.one 0) (.s (.sl (.cl 45 [0] (.u2 0 (.i 4))) .no (.of (.cl 44 [0] (.u2 0 (.i 3)))))) .no (.tup (.u2 0 (.cl 44 [0] (.u2 1 (.i 3)))))<|>.set 7 (.QA (.u (.i 52)))<|>.set 8 (.tup .nil)<|>.fo (.many [5,9]) (.s 6) (.set 10 (.sl 2 (.of (.i 5)) (.of (.b2 eT (.i 5) 9)))<|>.set 11 (.sl 2 (.of (.i 7)) (.of (.b2 eT (.i 7) (.cl 44 [0] (.u2 0 (.i 3))))))<|>.set 12 (.b2 eT (.b2 eT 10 11) 3)<|>.set 13 (.cl 48 [0,1] (.u5 0 (.tup (.u4 12 4 6 (.c (.B J)))) (.i 1) (.i 4) 7))<|>.iff (.cmp AN (.cl 44 [0] (.u2 0 (.i 3))) (.i 0)) (.one (.set 13 (.b2 eT 13 (.tup (.u (.tup (.u2 (.s "return") (.cl 46 [0] (.u4 0 (.i 2) 12 4))))))))) .nil<|>.one (.set 8 (.b2 eT 8 (.tup (.u (.tup (.u4 5 (.bi tS (.u 10)) (.bi tS (.u 11)) 13)))))))<|>.set 13 (.cl 48 [0,1] (.u5 0 (.tup (.u4 3 4 6 (.c (.B bb)))) (.i 1) 1 7))<|>.set 14 (.bi tS (.u (.comp 1 [0] (.one 0) (.s 3) .no (.tup (.u2 0 (.cl 44 [0] (.u2 1 (.i 6))))))))<|>.setC 15 1 [0] (.one 0) (.s 4) .no (.cl 44 [0] (.u2 1 (.ix (.lst (.u2 (.i 3) (.i 13))) (.cl 44 [0] (.u2 1 (.i 2))))))<|>.setC 16 2 [] (.many [0,1]) (.zl (.u2 4 15)) .no (.tup (.u2 0 (.sl (.b2 uZ (.tup (.u3 (.i 7) (.i 0) (.i 3))) (.i 4)) .no (.of 1))))<|>.re (.tup (.u4 14 (.bi tS (.u 16)) 8 13))) S.xH rfl (Dn.le (aD _ _),Ds.le (aD _ _),Dw.le (aD _ _),Dr,Ť) Ť λds h Q xc c=>?_];induction c with|@mk n m Q xc h hm q=>
  erw[(Ŗ,.mk (m:=9) h ∅ λn1 l h1 ll nd ne=>?_)];erw[.mk (m:=4) h1 ∅ ∅ λn2 a h2 ha=>?_];let F:∃b:Ń,rq [Pv.I 1,Pv.I 2,Pv.I 3,Pv.I 3] ((a:Ń):Î)=O (.I (b:Ń))/\b<=3:=by match a,ha with|0,_=>exact(1,Ŗ,∅)|1,_=>exact(2,Ŗ,∅)|2,_=>exact(3,Ŗ,∅)|3,_=>exact(3,Ŗ,∅)
  let(b,eb,F):=F;erw[bt eb ?_];erw[.mk (m:=3) h2 ∅ ∅ λn3 c h3 hc=>?_];erw[.mk (m:=4) h3 ∅ λn4 l4 h4 ll4 nd4 ne4=>?_];erw[.mk (m:=3) h4 ∅ ∅ λn5 e h5 he=>?_];show nJ _ (eG (l4.map Pv.S) ao (O ((e:Ń):Î))) _ _ _ _;rw[vm];delta nJ;erw[(WA (l4.take e) 2,.mk (am:=[]) Ŗ (λp H=>nomatch H) h5,λi y A g C j=>?_,λA g j=>?_)];.induction j with|@mk am n6 G X e4=>rw[aM]at C;let(w,M,rfl):=mp C;erw[.mk (m:=3) e4 ∅ ∅ λn7 b P F=>?_];erw[bK (by rfl) ?_];rwa[WA.nx (b:=b) G X M (eN ‹_›) P]
  induction j with|@mk am n6 G X e4=>
  rw[ae,fe]at G;let lam:am.length<=4:=by let:=bU Á G;rw[ae,bX]at this;lia
  let lb:(l.take b).length<=3:=by rw[bX];lia
  let lls:((l.take (3+c)).drop 3).length<=2:=by rw[eA,bX];lia
  let so:∀o i,o.length<=4->CY (XM (l.take b) ((l.take (3+c)).drop 3) am o i):=λo i ho=>(by show(o++_).length<=900;rw[aq];lia,by show((l.take (3+c)).drop 3).length<=900;rwa[aj ‹_› ∅],by show am.length<=900;rwa[aj ‹_› ∅],λp H=>by let:=X p H;rwa[aS ‹_›]);erw[iT (JF l (eG (l.map Pv.S) ao (O ((b:Ń):Î))) (eG (l.map Pv.S) (O 3) (O (3+((c:Ń):Î)))) (l.take b) ((l.take (3+c)).drop 3) am m) (.mk (fs:=[]) (v5:=ao) (v9:=ao) (v10:=ao) (v11:=ao) (v12:=ao) (v13:=ao) rfl (λx t=>nomatch t) e4) (λpre x post σ' g ex j=>?_) λσ' g j=>?_];.induction j with|@mk fs n7 l7 v5 v9 v10 v11 v12 v13 H hf P=>
   let t:∃p,p∈am/\zO p=x:=cx.mp (by rw[ex];rwa[aW _ aJ]);let(p,hpm,rfl):=t;let Qx:=X p hpm;erw[.mk (m:=3) P ∅ ∅ λn8 o h8 ho=>?_];let Y:=gJ (l:=l) (a:=p.2) (b:=o) nd Qx (eN ‹_›);let l5:(eG (l.map Pv.S) (O 5) (O (5+((p.2:Ń):Î)))).length<=9:=by rw[YS,ae,eA,bX];lia
   let l7':(eG (l.map Pv.S) (O 7) (O (7+((o:Ń):Î)))).length<=9:=by rw[YT,ae,eA,bX];lia
   let lb':(eG (l.map Pv.S) ao (O ((b:Ń):Î))).length<=9:=by rw[vm,ae];rwa[aj ‹_› ∅]
   let hB:eG (l.map Pv.S) (O 5) (O (5+((p.2:Ń):Î)))++eG (l.map Pv.S) (O 7) (O (7+((o:Ń):Î)))++eG (l.map Pv.S) ao (O ((b:Ń):Î))=((l.take (5+p.2)).drop 5++(l.take (7+o)).drop 7++l.take b).map .S:=by rw[YS,YT,vm,<-aH,<-aH]
   erw[bK (pH (n:=(eG (l.map Pv.S) (O 5) (O (5+((p.2:Ń):Î)))).length+(eG (l.map Pv.S) (O 7) (O (7+((o:Ń):Î)))).length) (b'.mpr ())) ?_];erw[bK (pH (n:=(eG (l.map Pv.S) (O 5) (O (5+((p.2:Ń):Î)))++eG (l.map Pv.S) (O 7) (O (7+((o:Ń):Î)))).length+(eG (l.map Pv.S) ao (O ((b:Ń):Î))).length) (b'.mpr (by rw[aq];lia))) ?_];let hP:Pv.T [.L (eG (l.map Pv.S) (O 5) (O (5+((p.2:Ń):Î)))++eG (l.map Pv.S) (O 7) (O (7+((o:Ń):Î)))++eG (l.map Pv.S) ao (O ((b:Ń):Î))),.L (eG (l.map Pv.S) (O 3) (O (3+((c:Ń):Î)))),.L (am.map zO),.B J]=NL (XM (l.take b) ((l.take (3+c)).drop 3) am ((l.take (5+p.2)).drop 5++(l.take (7+o)).drop 7) J):=by rw[hB,Lv];rfl
   erw[KJ.mx (D:=1) (m:=4) hP rfl ∅ ∅ h8 (so _ _ Y.2) ∅ λn9 l9 E h9 K=>?_];let zt:=K.z;let b3:bR 3=249:=Ŗ;let lfs:fs.length<=4:=by let:=bU Á ex;rw[H,aq,ae,ae]at this;lia
   let lps:((l.take (5+p.2)).drop 5).length=p.2:=by rw[eA,bX];lia
   let fx:∀(R:Ł Tr),kP (XM (l.take b) ((l.take (3+c)).drop 3) am ((l.take (5+p.2)).drop 5++(l.take (7+o)).drop 7) J) 3 1000 R->∃U:Ł Fn,fs.map Fn.p++[.T [.S p.1,.T (eG (l.map Pv.S) (O 5) (O (5+((p.2:Ń):Î)))),.T (eG (l.map Pv.S) (O 7) (O (7+((o:Ń):Î)))),tP R]]=U.map Fn.p/\pre++[zO p]=U.map (λx=>zO (x.f,x.ps.length))/\∀x∈U,ý (l.take b) ((l.take (3+c)).drop 3) am x:=λR hr=>by
    erw[(fs++[(p.1,(l.take (5+p.2)).drop 5,(l.take (7+o)).drop 7,R)],by rw[aH,YS,YT];rfl,?_,λx t=>?_)];.rw[aH,H];show _=_++[zO (p.1,((l.take (5+p.2)).drop 5).length)];rw[lps]
    .rcases bE.mp t with t|t;.rwa[hf x t]
     .rw[aE.mp t];exact(hr,Y.1,Y.2)
   let kf:sA ((fs.map Fn.p).length+1)=true:=pH (b'.mpr (by rw[ae];rwa[b9 ‹_› ∅]));erw[.mk (m:=3) h9 ∅ ∅ λN r Z hr=>dX (c:=tV 0 ((r:Ń):Î)) (λ_=>?_) λ_=>?_]
   .erw[vf.mx (d:=2) hB Lv rfl Z ∅ ∅ (by rw[aq];let:=Y.2;lia) (aj ‹_› ∅) λn11 v WY hv=>?_];let(v1,v2):=wL (c:=XM (l.take b) ((l.take (3+c)).drop 3) am ((l.take (5+p.2)).drop 5++(l.take (7+o)).drop 7) J) hv ∅;let pr:QQ (XM (l.take b) ((l.take (3+c)).drop 3) am ((l.take (5+p.2)).drop 5++(l.take (7+o)).drop 7) J) (.rt v):=(Ŗ,((Ŗ,hv.1),aB v1,by show v.rc<=40;rwa[aj ‹_› ∅]));let(U,f1,f2,f3):=fx (E++[.lf (.rt v)]) ((K.app (.lf pr)).up (ah _) (aD _ _));let er:tP (E++[.lf (.rt v)])=.T (eI E++[.T [.S "return",v.p]]):=by delta tP;rw[wJ];rfl
    rw[er]at f1;erw[bK (pH (n:=(eI E).length+1) (b'.mpr (by rw[jY];let:=uD E;lia))) ?_];erw[bK kf ?_];erw[bK (by rfl) ?_];rwa[JF.of (post:=post) f1 f2 f3 WY]
   .let(U,f1,f2,f3):=fx E (K.up (ah _) (aD _ _));erw[bK kf ?_];erw[bK (by rfl) ?_];rwa[JF.of (post:=post) f1 f2 f3 Z]
  .induction j with|@mk fs n7 l7 v5 v9 v10 v11 v12 v13 H hf P=>
   let hP:Pv.T [.L (eG (l.map Pv.S) ao (O ((b:Ń):Î))),.L (eG (l.map Pv.S) (O 3) (O (3+((c:Ń):Î)))),.L (am.map zO),.B bb]=NL (XM (l.take b) ((l.take (3+c)).drop 3) am [] bb):=by rw[vm,Lv];rfl
   erw[KJ.mx (D:=1) (m:=m) hP rfl ∅ ∅ P (so _ _ (aN _)) hm λn8 l8 E h8 K=>?_];show nJ _ (eG (l.map Pv.S) ao (O ((b:Ń):Î))) _ _ _ _;rw[vm];delta nJ;erw[(WB (l.take b) l8,.mk (bx:=[]) Ŗ h8,λi y A g C j=>?_,λA g j=>?_)];.induction j with|@mk bx n9 k2 k4=>rw[aM]at C;let(w,M,rfl):=mp C;erw[.mk (m:=6) k4 ∅ ∅ λN b Z F=>?_];erw[bK (by rfl) ?_];rwa[WB.nx (b:=b) k2 M (aj ‹_› ∅) Z]
   induction j with|@mk bx n9 k2 k4=>
   rw[ae,fe]at k2;show nJ _ (eG (l.map Pv.S) (O 3) (O (3+((c:Ń):Î)))) _ _ _ _;delta nJ;erw[(WC l8,.mk (sz:=[]) Ŗ (λp H=>nomatch H) k4,λi y A g C j=>?_,λA g j=>?_)];.induction j with|@mk sz N m2 m3 m4=>
    erw[.mk (m:=2) m4 ∅ ∅ λn11 r WY hr=>?_];obtain rfl|rfl:r=0\/r=1:=()
    .erw[.mk (m:=3) WY ∅ ∅ λn12 b DU F=>?_];erw[bK (by rfl) ?_];rwa[WC.nx (b:=b) m2 m3 () DU]
    .erw[.mk (m:=13) WY ∅ ∅ λn12 b DU F=>?_];erw[bK (by rfl) ?_];rwa[WC.nx (b:=b) m2 m3 (eN ‹_›) DU]
   induction j with|@mk sz N m2 m3 m4=>
   let l3:(eG (l.map Pv.S) (O 3) (O (3+((c:Ń):Î)))).length=((l.take (3+c)).drop 3).length:=by rw[Lv,ae]
   show nJ _ (FF (eG (l.map Pv.S) (O 3) (O (3+((c:Ń):Î)))) (sz.map λs=>Pv.I (s:Ń))) _ _ _ _;delta nJ;erw[(WD ((l.take (3+c)).drop 3) N l8,.mk (lx:=[]) Ŗ (λp H=>nomatch H),λi y A g C j=>?_,λA g j=>?_)];.induction j with|@mk lx j2 j3=>let(x1,x2,D9,W6,rfl):=wR C;rw[Lv,aM]at D9;rw[aM]at W6;let(w,M,rfl):=mp D9;let(s,hs,rfl):=mp W6;erw[bK (by rfl) ?_];erw[bK (by rfl) ?_];rwa[WD.nx (s:=s) Ϡ j2 j3 M]
   induction j with|@mk lx j2 j3=>
   rw[rm,l3,ae,m2,l3,Nat.min_self,fe]at j2;let na:(am.map (·.1)).Nodup:=by rw[G];rwa[nd4.sublist (fK ..)]
   let hfn:fs.map (λx=>(x.f,x.ps.length))=am:=(Mh (by rw[bI];rwa[H])).symm;let zt:=K.z;let b3:bR 3=249:=Ŗ;let mb:m*bR 3<=5*249:=QJ hm ∅;erw[q N (bx,lx,fs,E) m4 (ZI (bs:=l.take b) (ls:=(l.take (3+c)).drop 3) (am:=am) k2 j2 hfn (nd.sublist (fK ..)) (nd.sublist ((List.drop_sublist ..).trans (fK ..))) na (λp H=>?_) (aj ‹_› ∅) (aj ‹_› ∅) lam hf (K.up (ah _) (aj ‹_› ∅)) j3)];let:p.1∈am.map (·.1):=cx.mpr (p,H,Ŗ);rw[G]at this;rwa[ne4 _ (fJ this)]
end
end W2
namespace L2
open PySem.SeqAt
def Vg{D:Ł À}(r:Vals (D.map V.A) us):us=D.map Ð:=by induction D generalizing us with|f=>cases r;rfl|g b t i=>cases r with|g R a=>rw[i a,show _=Ð b from R];rfl
def Dq(f:Hd X a C ao)(F:AZ X.K C)(g:(clsIn X.K C).isSome):eE X (.builtin "isinstance") λxs H Q=>∃(p:À)(D:Ł À)(b:Þ),xs=[.A a,.A p]/\H p=O (.T (D.map V.A))/\kitAny X.K (.ref C) (D.map Ð)=O b/\Q (.B b) H:=by intro P s σ H xs U Q I r h;let(p,D,b,rfl,i,k,q):=h;let(u,v,rfl,R,j):=r.two;cases R;obtain rfl:v=Ð p:=j;obtain⟨_,m,c,⟨⟨oc,x,o,y⟩,l,w,n,e⟩⟩:=I.cY p _ i;obtain rfl:=Vg c;simp only at w e;subst w;subst e;let(E,G,d):=f.pn;let(Z,_):=I.pin _ (cX _ d);rwa[PySem.W.kia_tup (BC F g) I.kZ (Z,Ŗ,Ŗ,Ť) l k (λz=>nomatch z) λt=>(.B b,H,I.tok t,Ŗ,q)]
end L2
namespace W2c
open L2
seal L2.PE L2.PS L2.jt L2.PT L2.PW L2.PA L2.PG L2.Wx L2.PI L2.PO L2.nG L2.PC L2.kH L2.eE L2.FJ L2.KH L2.K7 L2.Yj
def xm:em "ValueError"=O (.type "ValueError"):=rfl
def Ϗ:8<=Ã:=∅
structure Ec(K:Ä)(mg:db)(C D1 D2 D3 D4 D5 D6 D7 D8:À):ß where
 zi:mg "isinstance"=ao
 zv:mg "ValueError"=ao
 ms:mg "NoStep"=O (.ref C)m1:mg "NoCell"=O (.ref D1)m2:mg "NoDoor"=O (.ref D2)m3:mg "NoProgram"=O (.ref D3)m4:mg "NoRow"=O (.ref D4)m5:mg "NoText"=O (.ref D5)m6:mg "NoWord"=O (.ref D6)m7:mg "NoWorld"=O (.ref D7)m8:mg "TooLong"=O (.ref D8)at_:AZ K C
 cl:(clsIn K C).isSome=J
 ks:kitOne K (.ref C) (.ref C)=O J
 kv:kitOne K (.ref C) (.type "ValueError")=O J
 ko:kitAny K (.ref C) ([D1,D2,D3,D4,D5,D6,D7,D8].map Ð)=O bb
def Cb:cP ["_law_e","_law_others"] ["_law_e"] (av (W2.top 95)):=(Ŗ,Ŗ,Ŗ,∅,Ŗ,∅,∅)
def Hy(C:À):À->À->Ő À->Sp:=λa c d v H Q _=>v=[.A a]/\c=C/\d=ao/\∀h,iD H h->Q (.B J) h
def RF{K:Ä}(Z:Ec K mg C D1 D2 D3 D4 D5 D6 D7 D8)(S:Src K mg "_law_class" (W2.top 95) ["_law_e"]):CV P w K mg base 1 "_law_class" ["_law_e"] (Hy C):=by
 erw[S.okH Cb (λa C d e H Q E h=>?_) λg D A o s H e Q a c i d T r h b=>?_];.let(rfl,_):=h;rfl
 let(rfl,rfl,rfl,q):=h;let F:=Z.at_;let hc:=Z.cl;exact(_,kb (UY 1 Cb.nd (BQ (Dq b F hc) Ŗ Z.zi jc (uH (pv 0) (uH (An (uH (gh (v:=.A D1) Ŗ Z.m1 Ŗ) (uH (gh (v:=.A D2) Ŗ Z.m2 Ŗ) (uH (gh (v:=.A D3) Ŗ Z.m3 Ŗ) (uH (gh (v:=.A D4) Ŗ Z.m4 Ŗ) (uH (gh (v:=.A D5) Ŗ Z.m5 Ŗ) (uH (gh (v:=.A D6) Ŗ Z.m6 Ŗ) (uH (gh (v:=.A D7) Ŗ Z.m7 Ŗ) (uH (gh (v:=.A D8) Ŗ Z.m8 Ŗ) iX))))))))) iX)))) (oJ (Ar (N2 (BQ (x4 b F hc) Ŗ Z.zi jc (uH (pv 0) (uH (gh (v:=.A c) Ŗ Z.ms Ŗ) iX))) (N2 (BQ (x4 b F hc) Ŗ Z.zi jc (uH (pv 0) (uH (Xv Z.zv xm Ŗ) iX))) (W' (U' (pv 1))))))),(_,Ŗ,Ϗ,λt f=>(t,_,_,Ŗ,bC,Z.ko,(_,Ŗ,_,_,_,Ŗ,.inl (c,Ŗ,Ŗ),Z.ks,_,Ŗ,(_,Ŗ,_,_,_,Ŗ,.inr (_,Ŗ,Ŗ),Z.kv,_,Ŗ,(_,Ŗ,_,Ŗ,q _ (jq f _)))))))
end W2c
namespace F
open L2 PySem.SeqAt
def Bu:Pv->Ő ϑ|.T x=>O x|.L x=>O x|_=>ao
def rZ:Ń->Pv->Þ|0,x=>qG x|n+1,x=>match Bu x with|O X=>X.all (rZ n)|ao=>qG x
def TY{σ:Ç}{Y:T0}(m:Y.K=X.K)(I:Inv X be σ H s)(e:Bu p=O xs)(i:eg (Y.z G) M H p v)(j:eg (Y.z G) M H p u)(r:RelV v c)(R:RelV u U)(hu:A.units<Ï)(n:∀{p:Pv}{v u:V}{c U:Â},p∈xs->eg (Y.z G) M H p v->eg (Y.z G) M H p u->RelV v c->RelV u U->EqAt A.in1 s c U J):EqAt A s c U J/\RcNeAt A s c U bb/\RcAt A s c U true:=by
 cases p with|T y=>
  cases e;let(a,o,rfl,S,f):=i;let(b,ws,rfl,k,g):=j;cases r;cases R;let(i1,j1,e,t,d,h,C):=PU I (show g9 X.K H a o from m▸S) (show g9 X.K H b ws from m▸k) f g n;let q:=RcAt.tuples t d hu h;let Q:=RcNeAt.tuples t d hu h;rw[C]at q Q;erw[(?_,Q,q)];by_cases l:a=b;.subst l;rwa[EqAt.same _]
  .rwa[EqAt.of_refs l q]|L y=>
  cases e;let(a,o,rfl,_,S,f):=i;let(b,ws,rfl,_,k,g):=j;cases r;cases R;obtain⟨B,Z,⟨o1,N,D,E,_,d1⟩,_⟩:=I.list (gA.of S);obtain⟨F,w,⟨P,W,g2,c2,_,d2⟩,_⟩:=I.list (gA.of k);let t:s.heap.IsList a _:=(o1,D,E,N,d1);let d:s.heap.IsList b _:=(P,g2,c2,W,d2);let h:=vT Z w f g n;let x:B.toArray.size=F.toArray.size:=by rw[aZ,aZ,<-Z.length,<-w.length,<-f.len,<-g.len]
  let al:(ä B.toArray.size).all _=true:=bJ.mpr λ_ _=>Ŗ;let q:=RcAt.lists t d x hu h;let Q:=RcNeAt.lists t d x hu h;rw[al]at q Q;erw[(?_,Q,q)];by_cases l:a=b;.subst l;rwa[EqAt.same _]
  .rwa[EqAt.of_refs l q]|_=>cases e
def Gw{σ:Ç}{s:bn}{Y:T0}{G M:Ł À}{H:Hp}(h:Y.K=X.K)(I:Inv X be σ H s):∀{n:Ń}{p:Pv}{v u:V}{a U:Â}{A:cr},rZ n p=J->eg (Y.z G) M H p v->eg (Y.z G) M H p u->RelV v a->RelV u U->A.units+n<Ï->EqAt A s a U J/\RcNeAt A s a U bb/\RcAt A s a U true:=by
 let fl:∀{p:Pv}{v u:V}{a U:Â}{A:cr},qG p=J->eg (Y.z G) M H p v->eg (Y.z G) M H p u->RelV v a->RelV u U->EqAt A s a U J/\RcNeAt A s a U bb/\RcAt A s a U true:=by intro p v u a U A k i j r R;let:=XE (s:=s) (A:=A) (GS k i r) (GS k j R);rw[Mc k]at this;exact(this.2,this.1.2,this.1.1)
 intro n;induction n with|h=>intro p v u a U A k i j r R hu;rwa[fl k i j r R]|j n b=>intro p v u a U A k i j r R hu;delta rZ at k;induction e:Bu p with|a=>rw[e]at k;rwa[fl k i j r R]|c x=>rw[e]at k;rwa[TY h I e i j r R (b9 (aO _ _) ‹_›) λc i j r R=>(b (bJ.mp k _ c) i j r R (by show A.units+1+n<Ï;lia)).1]
def SH(Y:T0):R2:=λv u H Q=>∃G M p,eg (Y.z G) M H p v/\eg (Y.z G) M H p u/\rZ 60 p=J/\Q (.B bb) H
def W_(hu:X.A.units+64<Ï):kH X (compareOp .NotEq) (SH 'X'):=by intro P s σ H x y v u Q I r R (G,M,p,a,b,k1,h);exact(Gw rfl I k1 a b r R ()).2.1 _ X.w _ _ (.B _,H,I,Ŗ,h)
def pO:Dv->Ő Pv|.p x=>O x|_=>ao
def aj5:O2:=λx y h Q=>gC (pO x) (λa=>gC (pO y) (λb=>(a=b/\rZ 60 a=J)/\Q (.p (.B bb)) h) ŧ) ŧ
def Ts:ic Y (SH Y) aj5:=λG M h H x y v u Q d r i j q out=>by induction x with|r _=>rwa[q.elim]|p a=>induction y with|r _=>rwa[q.elim]|p b=>obtain⟨⟨rfl,c⟩,q⟩:=q;exact(G,M,a,i,j,c,out _ h M H _ Ext.refl r (by rfl) q)
def Q8:Co:=(_,_,λ_ _ hu=>(_,W_ hu,Ts))
def Ň(Y:T0):R2:=λv u H Q=>∃G M p,eg (Y.z G) M H p v/\eg (Y.z G) M H p u/\rZ 60 p=J/\Q (.B J) H
def Q_(hu:X.A.units+64<Ï):kH X (compareOp .Eq) (Ň 'X'):=by intro P s σ H x y v u Q I r R (G,M,p,a,b,k1,h);exact(Gw rfl I k1 a b r R ()).2.2 _ X.w _ _ (.B _,H,I,Ŗ,h)
def ajX:O2:=λx y h Q=>gC (pO x) (λa=>gC (pO y) (λb=>(a=b/\rZ 60 a=J)/\Q (.p (.B J)) h) ŧ) ŧ
def Te:ic Y (Ň Y) ajX:=λG M h H x y v u Q d r i j q out=>by induction x with|r _=>rwa[q.elim]|p a=>induction y with|r _=>rwa[q.elim]|p b=>obtain⟨⟨rfl,c⟩,q⟩:=q;exact(G,M,a,i,j,c,out _ h M H _ Ext.refl r (by rfl) q)
def ah1:Co:=(_,_,λ_ _ hu=>(_,Q_ hu,Te))
def bV:Dv->Ő Þ|.p (.B b)=>O b|_=>ao
def ċ:R2:=λv u H Q=>∃a b,v=.B a/\u=.B b/\Q (.B (a !=b)) H
def T_:kH X (compareOp .IsNot) ċ:=by intro p s σ H x y v u Q I r R (a,b,e,E,q);subst e E;cases r;cases R;rwa[ai (_,H,I,by induction a<;>induction b<;>rfl,q)]
def ajY:O2:=λx y h Q=>gC (bV x) (λa=>gC (bV y) (λb=>Q (.p (.B (a !=b))) h) ŧ) ŧ
def WI(e:bV d=O b)(i:eK Z M H d v):v=.B b:=by induction d with|r _=>cases e|p x=>cases x<;>first|(cases e;rwa[i])|cases e
def Ti:ic Y ċ ajY:=λG M h H x y v u Q c r i j q out=>by let(a,e,q):=cK q;let(b,E,q):=cK q;exact(a,b,WI e i,WI E j,out _ h M H _ Ext.refl r (by rfl) q)
def Ė:Co:=(_,_,λ_ _ _=>(_,T_,Ti))
structure Mr(Γ:Gm)(t:Tb)where
 m:Ss
 ck:Sx->Ł É->Þ
 ps:∀{k S X E st},mV Γ t k S X E->ck S st->jt X st (eJ 'X' E m)
def Mr.re{Γ:Gm}{t:Tb}(A:Em Γ t):Mr Γ t:=(_,λS l=>km (l1 l) (El λe _=>km e _),λ{k S X E st}o h=>by let(st,a,h):=cG h;rw[fD a];erw[HL h λe p h=>?_];let(c,b,h):=cG h;rw[b];rwa[He (Hf (A.pe o h))])
def Mr.ifr{Γ:Gm}{t:Tb}(T:Tm Γ t)(A B:Mr Γ t):Mr Γ t:=(_,λS l=>km (lc l) λp=>EQ (λc a b _=>wY b&&(T.ck S c&&A.ck S a)) p.1&&B.ck S p.2,λ{k S X E st}o h=>by let(p,e,h):=cG h;let(H,d):=ag h;rw[BG e];erw[HK H λc a b q h=>?_];let(G,g):=ag h;rw[fU G];rwa[BV (Oq (T.pt o (ag g).1) (A.ps o (ag g).2) Hc) (B.ps o d)])
def Dc(F:Es->Hs->ß):En:=(F,λ_ _=>ŧ,λ_ _=>ŧ,λ_ _=>ŧ,λ_ _=>ŧ)
def E5(r:bq (Y.z G) M H h)(v:dB (Y.z G) M H σ τ)(q:m (Dc F) σ h)(l:∀σ' h' b H' a,Ext M H b H'->bq (Y.z G) b H' h'->dB (Y.z G) b H' σ' a->F σ' h'->u D a H'):VJ (eJ Y E m) u D τ H:=(G,M,σ,h,Dc F,(r,v,l,λ_ _ _ _ _ _ _ _ q=>q.elim,λ_ _ _ _ _ _ _ _ q=>q.elim,λ_ _ _ _ _ _ _ _ q=>q.elim,λ_ _ _ _ _ _ q=>q.elim),q)
end F
namespace W2
open L2 F
inductive qu:Ct|s0{P:Pn}{w0 w':Wk}{n:Ń}{xs:ϑ}{Q:Dv->Hs->ß}{xc:XP}(hl:P.lo)(r:Rn P w0 n w' xs)(hn:n<=2000)(q:Q (.p (.L [w'.p])) []):qu [.p (.I 0),.p (rD P w0),.p (iP n)] [] Q xc|s1{P:Pn}{w0 w':Wk}{n:Ń}{xs:ϑ}{Q:Dv->Hs->ß}{xc:XP}(hl:P.lo)(r:Rn P w0 n w' xs)(hn:n<=2000)(q:Q (.p (.L [.L xs])) []):qu [.p (.I 1),.p (rD P w0),.p (iP n)] [] Q xc|s2{P:Pn}{w0 w':Wk}{m n:Ń}{xs:ϑ}{Q:Dv->Hs->ß}{xc:XP}(hl:P.lo)(r:Rn P w0 m w' xs)(hm:m<=n)(he:m=n\/w'.wo≠"on")(hn:n<=2000)(q:Q (.p (.L [iP m])) []):qu [.p (.I 2),.p (rD P w0),.p (iP n)] [] Q xc|no{P:Pn}{w0 w':Wk}{m n a:Ń}{xs:ϑ}{Q:Dv->Hs->ß}{xc:XP}(ha:a<2)(hl:P.lo)(r:Rn P w0 m w' xs)(hw:w'.wo≠"on")(hm:m<n)(hn:n<=2000)(q:Q (.p (.B J)) []):qu [.p (iP a),.p (rD P w0),.p (iP n)] [] Q xc|od{P:Pn}{w0:Wk}{x:Pv}{a:Ń}{Q:Dv->Hs->ß}{xc:XP}(ha:a<3)(hx:yu x)(e:xy 0 2000 x=bb)(q:Q (.p (.B J)) []):qu [.p (iP a),.p (rD P w0),.p x] [] Q xc
structure Ţ(ca:Ń->À)(W:Wd)(R:À):ß where
 m0:W.mg "RunError"=O (.ref R)hit:HZ W.K R
 sub:subIn W.K (.ref (ca 0)) (.ref R)=O J
def Pf:cP ["_law_way","_law_machine","_law_steps","_law_e"] ["_law_way","_law_machine","_law_steps"] (av (top 96)):=jB Ŗ
section
variable{ca:Ń->À}{Jc:Ń->Ct}{W:Wd}{R:À}{k:Ń}
def acj:Mr ((Lx ca Jc).G [(38,vc),(39,tM),(40,xo)] []) (Lx ca Jc).t:=.ifr (.cmp jy 0 (.i 0)) (.re (.lst (.u (.cl 38 [] (.u2 1 2))))) (.ifr (.cmp jy 0 (.i 1)) (.re (.lst (.u (.lM (.cl 39 [] (.u2 1 2)))))) (.re (.lst (.u (.cl 40 [] (.u2 1 2))))))
def ő(Q:Dv->Hs->ß):En:={hJ J 0 Q λ_ _=>ŧ with xc:=λc h=>c=0/\jp J 0 Q (.p (.B J)) h}
def aci(c:qu ds [] Q X):(@acj ca Jc).m (ő Q) (pG 4 ds) []:=by
 erw[nfG (.iff (.cmp jy 0 _) (.re (.lst (.u (.cl 38 [] (.u2 1 2))))) .nil<|>.iff (.cmp jy 0 _) (.re (.lst (.u (.lM (.cl 39 [] (.u2 1 2)))))) .nil<|>.re (.lst (.u (.cl 40 [] (.u2 1 2))))) ?_]
 cases c with|s0 h r hn q=>rwa[vc.ok h r hn q]|s1 h r hn q=>rwa[tM.ok h r hn q]|s2 h r H d hn q=>rwa[xo.ok h r H d hn q]|@no P w0 g m n a s Q X f h r w H hn q=>
  obtain rfl|rfl:a=0\/a=1:=()
  .rwa[vc.no h r w H hn (Ŗ,q)]
  .rwa[tM.no h r w H hn λ_=>(Ŗ,q)]|@od P w0 x a Q X f b e q=>
  obtain rfl|rfl|rfl:a=0\/a=1\/a=2:=()
  .rwa[vc.od b e (Ŗ,q)]
  .rwa[tM.od b e (Ŗ,q)]
  .rwa[xo.od b e (Ŗ,q)]
seal L2.PE L2.PS L2.jt L2.PT L2.PW L2.PA L2.PG L2.Wx L2.PI L2.PO L2.nG L2.PC L2.kH L2.eE L2.FJ L2.KH L2.K7 L2.Yj in
def RB(B:LX ca Jc W)(S:SX ca W)(Z:Ţ ca W R)(I:DX ca Jc W 38 (k+1) vc)(L:DX ca Jc W 39 (k+1) tM)(N:DX ca Jc W 40 (k+1) xo)(T:CV W.P W.w W.K W.mg W.base (k+1) "_law_class" ["_law_e"] (W2c.Hy (ca 0))):DX ca Jc W 52 (k+2) qu:=by
 erw[(_,S.BZ.N_ Pf (λU H Q E t=>t.ln λ_ _ _ _ c=>?_) λf dY A o s H U Q E x X=>?_)];.cases c<;>rfl
 let(G,M,h,ds,D,xc,r,i,c,out,Y):=X;let l:h=[]:=by cases c<;>rfl
 subst l;erw[(_,oJ (Ψ (i:=3) (tb:=λE1=>eJ (W.K,W.mg,_) E1 _) j4 Pf.nd rfl rfl rfl rfl Z.m0 Z.hit (λpn E1=>acj.ps (S:=(Lx ca Jc).S.at _ _ bb) (Gk.yu (B.gk (xi.of (All.at (I,L,N,Ť))) Ť) rfl rfl rfl VV x λh=>by cases h) Ŗ) λpn a C d l=>oJ (Ar (Ur T l (x.hand a) Ŗ (uH (pv 3) iX)))),?_)];erw[(λcls F j=>∃b m,cls=.ref (ca 0)/\F=ao/\Ext M H m j/\bq (((Lx ca Jc).y W).z G) m j b/\jp J 0 D (.p (.B J)) b,?_,?_)];.erw[(G,M,_,[],ő D,(r,lz _ i,λu b m j τ' e g v' q=>B9 (z:=J) r out e g uz q,λd b m j v e g i q=>B9 (z:=J) r out e g i q,λ_ _ _ _ _ _ _ _ q=>q.elim,λ_ _ _ _ _ _ _ _ q=>q.elim,λC b m j e g q=>?_),aci c)];let(rfl,q):=q;exact(b,m,Ŗ,Ŗ,e,g,q)
 .rintro C F j a u ⟨b,m,e,rfl,ex,g,hv⟩ n;injection e with e;subst e;exact(Z.sub,_,by rw[c5 (by rw[n];rwa[eB 3])],Ŗ,Ŗ,Ŗ,λH2 s2=>B9 r out (ex.trans (jm s2)) (qR g s2) lj hv)
end
def Rn.snoc(r:Rn P w n w' xs)(h:w'.wo="on")(e:tu P w'=O (W,x)):Rn P w (n+1) W (xs++[x]):=by induction r with|z=>rwa[.s h e .z]|s H a _ i=>rwa[.s H a (i h e)]
def Rn.len(r:Rn P w n w' xs):xs.length=n:=by induction r with|z=>rfl|s _ _ _ i=>left
structure RL(P:Pn)(w0:Wk)(ss:Ł Wk)(xs:ϑ)(w:Wk):ß where
 ln:ss.length=xs.length+1ls:ss[xs.length]?=O w
 at':∀c,c<=xs.length->∃w',ss[c]?=O w'/\Rn P w0 c w' (xs.take c)
theorem RL.z:RL P w [w] [] w:=(Ŗ,Ŗ,λc h=>by obtain rfl:c=0:=Nat.le_zero.mp h;exact(w,Ŗ,.z))
def RL.s{ss:Ł Wk}{xs:ϑ}{x:Pv}(r:RL P w0 ss xs w)(b:w.wo="on")(e:tu P w=O (w1,x)):RL P w0 (ss++[w1]) (xs++[x]) w1:=by
 let l:(xs++[x]).length=xs.length+1:=by rw[aq];rfl
 let l1:(ss++[w1])[xs.length+1]?=O w1:=by rw[aQ (by rw[r.ln];rwa[ah _]),r.ln,fM];rfl
 erw[(by rw[aq,r.ln,l];rfl,by rw[l];rwa[l1],λc d=>?_)];rw[l]at d;let(i,H,a):=r.at' _ (ah _);rw[r.ls]at H;cases H;rcases Nat.lt_or_ge xs.length c with h|h
 .obtain rfl:c=xs.length+1:=()
  erw[(w1,l1,?_)];rw[fe]at a;let:=a.snoc b e;rw[gF (by rw[l];rwa[ah _])];rwa[this]
 .let(W,f,g):=r.at' c h;erw[(W,?_,?_)];.rw[aX (by rw[r.ln];rwa[cA ‹_›])];rwa[f]
  .rw[List.take_append_of_le_length h];rwa[g]
inductive Rc:Ct|mk{P:Pn}{w0 w':Wk}{m n:Ń}{xs:ϑ}{Q:Dv->Hs->ß}{xc:XP}(hl:P.lo)(r:Rn P w0 m w' xs)(hm:m<=n)(he:m=n\/w'.wo≠"on")(hn:n<=2000)(q:∀ss,RL P w0 ss xs w'->Q (.p (.T [.L (ss.map Wk.p),.L xs])) []):Rc [.p (rD P w0),.p (iP n)] [] Q xc
def GY{ss:Ł Wk}(h:ss[n]?=O w)(l:ss.length=n+1):rq (ss.map Wk.p) (.negSucc 0)=O w.p:=by rw[qt,ae,l];simp only[AU,aM,h];rfl
inductive FS(P:Pn)(w0:Wk)(n:Ń)(xs:ϑ)(w':Wk):Es->Hs->ß|mk{ss:Ł Wk}{v4 v5:Ő Dv}(rl:RL P w0 ss xs w'):FS P w0 n xs w' [O (.p (rD P w0)),O (.p (iP n)),O (.r 0),O (.r 1),v4,v5] [.L (ss.map Wk.p),.L xs]
inductive FI(P:Pn)(w0 w':Wk)(m n:Ń)(xs:ϑ)(f:Ń):Es->Hs->ß|mk{ss:Ł Wk}{ys zs raw:ϑ}{w:Wk}{v4 v5:Ő Dv}(er:raw=ss.map Wk.p)(rl:RL P w0 ss ys w)(r:Rn P w f w' zs)(ex:xs=ys++zs)(hy:ys.length+f=m):FI P w0 w' m n xs f [O (.p (rD P w0)),O (.p (iP n)),O (.r 0),O (.r 1),v4,v5] [.L raw,.L ys]
section
variable{ca:Ń->À}{Jc:Ń->Ct}{W:Wd}{k:Ń}
abbrev gS(ca:Ń->À)(Jc:Ń->Ct):Gm:=(Lx ca Jc).G [] [500,501]
def s1:Mm (gS ca Jc) (Lx ca Jc).t:=.set 2 (.QA (.u (.EB 500 0)))
def s2:Mm (gS ca Jc) (Lx ca Jc).t:=.set 3 (.QA .nil)
def s3:Mm (gS ca Jc) (Lx ca Jc).t:=.wh (.bo (Wm.ac (.cmp jy (.ix (.ix 2 (.neg (.i 1))) (.i 5)) (.s "on")) (Wm.a1 (.cmp KI (.bi eQ (.u 3)) 1)))) (.Kp [4,5] (.mel 501 0 (.u (.ix 2 (.neg (.i 1)))))<|>.ex (.mt pX 2 (.u 4))<|>.one (.ex (.mt pX 3 (.u 5))))
def ϯ(H:P.lo)(r:Rn P w0 m w' xs)(i:m<=n)(b:m=n\/w'.wo≠"on")(hn:n<=2000):(nu (@s1 ca Jc).m (nu (@s2 ca Jc).m (@s3 ca Jc).m)) (Dc (FS P w0 n xs w')) (pG 6 [.p (rD P w0),.p (iP n)]) []:=by erw[(FI P w0 w' m n xs,(m,.mk (ss:=[w0]) (ys:=[]) (v4:=ao) (v5:=ao) rfl .z r rfl (cB _)),λf c o j=>?_)];induction j with|@mk ss ys q d w v4 v5 E R a ex y=>subst E ex;let l:=GY R.ls R.ln;erw[bt l ?_];show br (cE _ _) _ _;cases a with|@s _ t _ F x Z h e a=>rw[h];erw[rV (by rfl) ?_];show br _ _ _;rw[wa,show Ñ _ n=J from aB (show ys.length<n by lia)];erw[bt l ?_];erw[ve.ok H h e ?_];let l1:=R.ln;rwa[bK (pH (b'.mpr (by rw[ae];lia))) (bK (pH (b'.mpr ())) (F,eB _,.mk (by rw[aH];rfl) (R.s h e) a ⋯ (by rw[aq,b6];lia)))]|z=>rw[aT];cases h:cE _ _ with|e=>rwa[.mk R]|d=>erw[rV (by rfl) ?_];show br _ _ _;rw[wa,show Ñ _ n=bb from bB.mpr λz=>by let:=dW z;let:=b.resolve_right λg=>g (bN.mp h);lia];rwa[.mk R]
def E4:cP ["_law_machine","_law_most","_law_states","_law_dues","_law_state_here","_law_note"] ["_law_machine","_law_most"] (av (top 97)):=jB Ŗ
def hO:2<=Ã:=∅
seal L2.PE L2.PS L2.jt L2.PT L2.PW L2.PA L2.PG L2.Wx L2.PI L2.PO L2.nG L2.PC L2.kH L2.eE L2.FJ L2.KH L2.K7 L2.Yj in
def IJ(B:LX ca Jc W)(S:SX ca W)(h:2<=k)(D:DI ca Jc W 500 2)(u:DI ca Jc W 501 k):DX ca Jc W 53 (k+2) Rc:=by
 erw[(_,S.xI.N_ E4 (λx H Q E t=>t.ln λ_ _ _ _ c=>?_) λf Y A o s H x Q E z C=>?_)];.cases c;rfl
 let(G,M,h0,ds,Q',xc,r,i,c,out,F):=C;cases c with|@mk P w0 w' m n X _ _ I N U Z hn q=>let g:Gk _ (gS ca Jc) _ k _ W.P W.w W.K _ _:=B.gk Ť (D.le h,u,Ť);let ok:û _ _ k ((Lx ca Jc).S.at _ _ J) (mG _ W.P W.w W.K W.mg W.base _ _ (av _) f Y A o s H E) E:=(Gk.yu g rfl rfl rfl (gi.pass j4 lu) z λ_=>(j4,lu),E4.nd,λy _=>.inl Ŗ,ku,E4.kind,g.exc);erw[(_,kb (s1.ps ok Ŗ) (kb (s2.ps ok Ŗ) (kb (s3.ps ok Ŗ) (oJ (Ar (An (uH (pv 2) (uH (pv 3) iX))))))),?_)];let hM:=rJ.mp r.ln;subst hM;erw[E5 r (lz _ i) (ϯ I N U Z hn) λσ1 h1 M1 H1 τ1 e1 r1 v1 q1=>?_];erw[E5 r1 v1 q1 λσ2 h2 M2 H2 τ2 e2 r2 v2 q2=>?_];erw[E5 r2 v2 q2 λσ3 h3 M3 b τ3 e3 R v q3=>?_];induction q3 with|@mk ss v4 v5 rl=>let(u2,t2,d,m2,rfl):=v.at' 2 _ Ŗ;let(u3,t3,j,m3,rfl):=v.at' 3 _ Ŗ;erw[(_,t2,_,t3,hO,λp l=>?_)];let a:=R.cut 0 Ŗ;let e:Ext (M3.take 0) b _ (dq b p (.T [.A d,.A j])):=Ext.add l;rwa[out (.p (.T [.L _,.L X])) [] [] _ _ (((e1.trans (e2.trans e3)).cut (ah _)).trans e) (a.add l) (p,_,Ŗ,g9.of bC,eg.ext a e (oF R 6 (.r 0) _ _ (d,m2,Ŗ) rfl),eg.ext a e (oF R 6 (.r 1) _ _ (j,m3,Ŗ) rfl),Ť) (q ss rl)]
end
def Xf(G:K6 g):(g.pn ss wd).lo=true:=by show(g.fl.map _).all _=J;rw[List.all_map,bJ];exact(λp h=>by
  rcases bE.mp h with h|h
  .let key:∀(fs:Ł Fn)(n:Ń),(∀x∈fs,gY (g.sc (x.ps++x.os) J) x.rs)->∀p∈rC fs n,p.1.lo 6=true:=λfs=>by induction fs with|f=>intro n _ p h;cases h|g x r i=>
     intro n H p h;rcases ax.mp h with rfl|h;.rfl
     .rcases bE.mp h with h|h;.exact(jz _ _ _ (H x aJ) p h).2.1
      .rwa[i _ (λy a=>H y (aG _ a)) p h]
   rwa[key _ _ G.fok p h]
  .exact(jz _ _ _ G.QD p h).2.1)
def Ϩ(G:K6 g)(h:ss.Perm (dR (CG g.fl))):∃m w' xs,Rn (g.pn ss (CM w)) (g.w0 ss w) m w' xs/\m<=60/\(m=60\/w'.wo≠"on"):=O7 (Θ G h) 60 0 _ (λ_=>ajh G h) ∅
def gE:Pg:=([],[],[],[.wh (.n 1) []])
def gdE:K6 gE:=((by rfl,.nil,(λx h=>nomatch h),.nil,.nil,∅,∅,∅,(λx h=>nomatch h),∅),(λx h=>nomatch h),((Ť,∅,∅,Ť),Ť),λx h=>nomatch h)
def Ś:WM (gE.pn [] []) (gE.w0 [] ao) (.wh (.n 1) (.T []))=O (gE.w0 [] ao,ao):=by show vG _ _ _=_;delta vG;rfl
def ř:∃x,tu (gE.pn [] []) (gE.w0 [] ao)=O (gE.w0 [] ao,x):=by erw[(G4 (gE.w0 [] ao) 0 "plain" (gE.w0 [] ao) ao,?_)];show(WM _ (gE.w0 [] ao) (.wh (.n 1) (.T []))).bind _=_;rw[Ś];rfl
theorem SK:∀n,∃xs,Rn (gE.pn [] []) (gE.w0 [] ao) n (gE.w0 [] ao) xs|0=>(_,.z)|n+1=>by let(x,e):=ř;let(xs,r):=SK n;exact(_,.s Ŗ e r)
def mW(h:qG x):rZ n x=true:=by cases n with|h=>rwa[h]|j n=>cases x<;>first|rwa[h]|cases h
def Zl(h:∀x∈xs,rZ n x=J):rZ (n+1) (.T xs)=true:=bJ.mpr h
def nO{α:Type}{l:Ł α}{f:α->Pv}(h:∀x,rZ n (f x)=J):rZ (n+1) (.T (l.map f))=true:=Zl λx H=>by let(y,_,rfl):=cx.mp H;rwa[h y]
def L4:rZ n (eZ o)=true:=by induction o<;>rwa[mW Ŗ]
def pP(h:rZ n x)(q:rZ (n+1) (.T xs)):rZ (n+1) (.T (x::xs))=true:=Zl λy H=>(ax.mp H).elim (λe=>e▸h) λH=>bJ.mp q y H
def Zm:rZ (n+1) (.T [])=true:=rfl
theorem WR:∀{fr:Ł Fr}{x:Pv},x∈jA fr->rZ (n+2) x=J
 |[],x,h=>by cases h|y::r,x,h=>by
  rcases bE.mp h with h|h;.rwa[WR h]
  .rw[aE.mp h];rwa[pP (mW Ŗ) (pP (nO λ_=>mW Ŗ) (pP L4 Zm))]
def WS{w:Wk}:rZ (n+4) w.p=true:=pP (nO λ_=>mW Ŗ) (pP (nO λ_=>nO λ_=>mW Ŗ) (pP (Zl λ_ h=>WR h) (pP (nO λ_=>mW Ŗ) (pP (nO λ_=>mW Ŗ) (pP (mW Ŗ) Zm)))))
def acL:rZ n (rr κ)=true:=by induction κ<;>rwa[mW Ŗ]
def WQ:rZ (n+2) (zw k)=true:=nO λ_=>nO λ_=>acL
def ϭ:rZ n (FY w)=true:=by delta FY;split<;>first|rwa[L4]|rwa[mW Ŗ]
def acM:rZ (n+4) (G4 w0 i z w c)=true:=pP (mW Ŗ) (pP (mW Ŗ) (pP WQ (pP WQ (pP ϭ (pP L4 Zm)))))
def Rn.dp(r:Rn P w n w' xs):∀x∈xs,rZ (j+4) x=true:=by induction r with|z=>simp|s H e _ i=>
  intro x h;rcases ax.mp h with rfl|h;.let(n,E,e):=bd e;let(p,a,e):=bd e;let(q,b,e):=bd e;let(c,e):=bf e;cases e;rwa[acM]
  .rwa[i x h]
end W2
namespace F
open L2
def Ms.ain{K:Ä}{a:Å->Ő _}{st:É}{ps:ϐ}(B:Ms Γ t)(z:Þ)(n:CB K x l st f d)(F:cP N ps (av st))(g:Gk J Γ t k S P w K a base)(U:B.ck (S.at N (av st) J) (bQ st)=J)(e:∀ds h Q X,C ds h Q X->ds.length=ps.length/\B.m (hJ z h.length Q λ_ _=>ŧ) (pG N.length ds) h)(p:∀ds h Q X,C ds h Q X->C ds h Q λ_ _=>ŧ):iN P w K a base yW (k+2) f d ps (dG (K,a,t) C):=by
 let(oc,W,kV,doc,Y,an,dY,ct,qP,rfl,lk,u):=n.ex;let ln:∀v H Q E,dG (K,a,t) C v H Q E->Á v=Á ps:=λv H Q E t=>t.ln λ_ _ _ _ c=>(e _ _ _ _ c).1;let z:iN P w K a _ _ (k+2) f _ ps λv H Q E=>dG _ C v H Q λ_ _ _=>ŧ:=ye lk u F (λv H Q E t=>ln v H Q _ t) λA o s H v Q E b Z=>by let(G,M,h,ds,j,X,r,i,c,out,D):=Z;exact(_,B.ps (Gk.yu g rfl rfl rfl (gi.pass j4 lu) b λ_=>(j4,lu),F.nd,λy _=>.inl Ŗ,ku,F.kind,g.exc) U,(G,M,_,h,_,nQ r (lz N i) out λ_ _ _ _ _ _ q=>q.elim,(e _ _ _ _ c).2))
 erw[(ln,λA o s H args I v Q E b L R T q=>?_)];let(G,M,h,ds,j,X,r,i,c,out,_):=q;erw[dO (z.run A _ s H _ I v Q (λ_ _ _=>ŧ) b L R T (G,M,h,ds,j,_,r,i,p _ _ _ _ c,out,λ_ _ _ _ _ _ q=>q.elim)) λr s' q=>?_];delta CR at q⊢;split at q;.rwa[q]
 .left
 .let(_,_,_,_,_,_,q):=q;rwa[q.elim]
end F
namespace W2
open L2 F
inductive YF:Ct|mk{xs:ϑ}{Q:Dv->Hs->ß}{xc:XP}(h:xs.all isInt)(q:Q (.p (.B J)) []):YF [.p (.scr xs)] [] Q xc
def ϊ:ϐ:=["_law_script","_law_program_here","_law_world_here","_law_endless","_law_machine","_law_states","_law_dues","_law_steps","_law_odd","_law_count","_law_told"]
inductive LA(xs:ϑ)(g:Pg)(wd:Ł (Å×Ł Nm)):Es->Hs->ß|mk(v:Ő Dv):LA xs g wd [O (.p (.scr xs)),O (.p g.p),O (.p (oa (O wd))),v,ao,ao,ao,ao,ao,ao,ao] []
inductive LB(xs:ϑ)(P:Pn)(w0:Wk)(xR:Ł Wk)(ys:ϑ):Es->Hs->ß|mk(a b v:Ő Dv):LB xs P w0 xR ys [O (.p (.scr xs)),a,b,v,O (.p (rD P w0)),O (.p (.L (xR.map Wk.p))),O (.p (.L ys)),ao,ao,ao,ao] []
inductive LC(xs:ϑ)(P:Pn)(w0:Wk)(xR:Ł Wk)(ys:ϑ):Es->Hs->ß|mk(a b v:Ő Dv)(s:Ń)(h:s<=50):LC xs P w0 xR ys [O (.p (.scr xs)),a,b,v,O (.p (rD P w0)),O (.p (.L (xR.map Wk.p))),O (.p (.L ys)),O (.p (iP s)),ao,ao,ao] []
inductive LD(xs:ϑ)(P:Pn)(w0:Wk)(xR:Ł Wk)(ys:ϑ)(s:Ń)(x:Pv):Es->Hs->ß|mk(a b v c d:Ő Dv):LD xs P w0 xR ys s x [O (.p (.scr xs)),a,b,v,O (.p (rD P w0)),O (.p (.L (xR.map Wk.p))),O (.p (.L ys)),O (.p (iP s)),O (.p x),c,d] []
def aj9:ϑ:=[.I (-1),.I 2001,.B J,.N,.S "1",.I (10^20),.T [.I 1]]
def M_{k:Ń}(h:k<7):∃x,rq aj9 k=O x/\yu x/\xy 0 2000 x=false:=by match k,h with|0,_=>done|1,_=>done|2,_=>done|3,_=>done|4,_=>done|5,_=>done|6,_=>done
def Vh(h:y∈tX 0 n):∃a,a<n/\y=iP a:=by let(a,H,rfl):=cx.mp h;exact(a,QI.mp H,by rw[Int.zero_add];rfl)
def G2(i:Î){n:Ń}(h:0<n):∃s:Ń,i%n=s/\s<n:=((i%n).toNat,by let:=mY i (show(n:Î)≠0 by lia);lia,by let:=jK i (show(0:Î)<n by lia);lia)
section
variable{ca:Ń->À}{W:Wd}{k:Ń}
def ť{f:À}{F:ed}{st:É}{l:Ł _}{iok:Ϙ}{Jc:Ń->Ct}{M:Ss}{C:Ct}(B:LX ca Jc W)(N:ϐ)(a:CB W.K "law" "law" st f F)(b:Ms ((Lx ca Jc).G l iok) (Lx ca Jc).t)(H:(IU N ["_law_script"] (av st)&&b.ck ((Lx ca Jc).S.at N (av st) J) (bQ st))=J)(c:All (Lx ca Jc) W (k+1) l)(hi:wU (Lx ca Jc) W k iok)(d:∀ds h Q x,C ds h Q x->ds.length=1/\M (hJ J h.length Q λ_ _=>ŧ) (pG N.length ds) h)(X:∀ds h Q x,C ds h Q x->C ds h Q λ_ _=>ŧ)(e:autoParam (b.m=M) ë):iN W.P W.w W.K W.mg W.base yW (k+2) f F ["_law_script"] (dG ((Lx ca Jc).y W) C):=by subst e;rwa[b.ain _ a (jB (ag H).1) (B.gk (xi.of c.at) hi) (ag H).2 d X]
abbrev KL:Ł (Ń×Ct):=[(38,vc),(39,tM),(42,qv),(43,vd),(49,Rb),(50,Rg),(52,qu),(53,Rc)]
def acB(B:LX ca Jm W)(F0:CB W.K "law" "law" (top 98) f fd)(hf:All (Lx ca Jm) W (k+1) KL)(hi:wU (Lx ca Jm) W k [4,84,90,500]):iN W.P W.w W.K W.mg W.base yW (k+2) f fd ["_law_script"] (dG ((Lx ca Jm).y W) YF):=by
 erw[ť B ϊ F0 (l:=KL) (iok:=[4,84,90,500]) (k:=k) (.set 1 (.lM (.cl 49 [0] (.u2 (.cl 43 [] (.u2 (.cl 42 [] (.u2 0 (.i 0))) (.i 1))) (.i 5))))<|>.cut (.set 2 (.lM (.cl 50 [0] (.u (.cl 43 [] (.u2 (.cl 42 [] (.u2 0 (.i 1))) (.i 2))))))) (.cut (.iff (.cmp jy (.b2 o5 (.cl 42 [] (.u2 0 (.i 2))) (.i 64)) (.i 2)) (.set 3 (.lM (.nwd 84 (.u (.tup (.u4 (.tup .nil) (.tup .nil) (.tup .nil) (.tup (.u (.tup (.u3 (.s "while") (.tup (.u2 (.s "number") (.i 1))) (.tup .nil))))))))))<|>.one (.iff (.bo (Wm.oc (.cmp mf (.cld [] 90 (.u 3)) (.i 2000)) (Wm.o1 (.cmp Q8 (.cl 38 [] (.u2 3 (.i 2000))) (.EB 500 3))))) (.re (.c (.B bb))) .nil)) .nil) (.set 4 (.lM (.nwl 4 (.u2 1 2)))<|>.cut (.Kp [5,6] (.cl 53 [] (.u2 4 (.i 60)))) (.cut (.set 7 (.b2 o5 (.b2 zd (.cl 42 [] (.u2 0 (.i 2))) (.i 8)) (.i 51))) (.cut (.set 8 (.ix (.lst (.cons (.neg (.i 1)) (.cons (.i 2001) (.u5 (.c (.B J)) (.c .N) (.s "1") (.b2 ahZ (.i 10) (.i 20)) (.tup (.u (.i 1))))))) (.b2 o5 (.b2 zd (.cl 42 [] (.u2 0 (.i 2))) (.i 8)) (.i 7)))) (.iff (.cmp jy (.b2 o5 (.cl 42 [] (.u2 0 (.i 2))) (.i 8)) (.i 1)) (.re (.cmp ah1 (.comp 1 [4,8] (.one 0) (.r (.u (.i 3))) .no (.cl 52 [] (.u3 0 1 2))) (.lst (.u3 (.c (.B J)) (.c (.B J)) (.c (.B J)))))) .nil<|>.cut (.iff (.bo (Wm.ac (.cmp mf (.ix (.ix 5 (.neg (.i 1))) (.i 5)) (.s "on")) (Wm.a1 (.cmp mf (.cld [] 90 (.u 4)) (.bi eQ (.u 6)))))) (.re (.c (.B bb))) .nil) (.iff (.cmp Q8 (.cl 52 [] (.u3 (.i 2) 4 7)) (.lst (.u (.bi ď (.u2 7 (.bi eQ (.u 6))))))) (.re (.c (.B bb))) .nil<|>.fo (.one 9) (.s (.tup (.u3 7 (.i 0) (.bi ď (.u2 7 (.bi eQ (.u 6))))))) (.one (.iff (.cmp AN 9 (.bi eQ (.u 6))) (.one (.iff (.bo (Wm.oc (.cmp Ė (.cl 52 [] (.u3 (.i 0) 4 9)) (.c (.B J))) (Wm.o1 (.cmp Ė (.cl 52 [] (.u3 (.i 1) 4 9)) (.c (.B J)))))) (.re (.c (.B bb))) .nil)) (.one (.iff (.bo (Wm.oc (.cmp Q8 (.cl 52 [] (.u3 (.i 0) 4 9)) (.lst (.u (.ix 5 9)))) (Wm.o1 (.cmp Q8 (.cl 52 [] (.u3 (.i 1) 4 9)) (.lst (.u (.sl 6 .no (.of 9)))))))) (.re (.c (.B bb))) .nil))))<|>.set 10 (.cl 39 [] (.u2 4 (.i 0)))<|>.ex (.mt pX 10 (.u (.c .N)))<|>.re (.cmp jy (.lM (.cl 39 [] (.u2 4 (.i 0)))) (.lst .nil))))))))) rfl hf hi (λds h Q xc c=>?_) λ_ _ _ _ c=>by induction c with|mk h q=>rwa[.mk h q]]
 induction c with|@mk o Q xc E q=>erw[(Ŗ,?_)];erw[qv.mk E λi0=>vd.mk λn hn=>Rb.mk (m:=5) hn ∅ λn1 g Qu G=>?_];erw[ö (λσ h=>∃wd,X9 (O wd)/\LA o g wd σ h) (ó (qv.mk E λi1=>vd.mk λn2 U=>Rg.mk U λn3 wd hn3 hw=>(wd,hw,.mk ao)) λσ h c=>?_)];let(wd,hw,c):=c;induction c with|mk v=>
 erw[ö (LA o g wd) (ó ?_ λσ h c=>?_)];.erw[qv.mk E λZ=>dX (λ_=>?_) λ_=>.mk v];erw[Li.mk (g:=gE) (w:=ao) gdE.toGdM (.nil,∅) λss F=>?_];obtain rfl:=List.Perm.eq_nil (show ss.Perm []from F);let(Y,rE):=SK 2000;let lE:(gE.pn [] []).lo=true:=Xf gdE;rwa[xo.ok lE rE (ah _) (.inl Ŗ) (ah _) (vc.ok lE rE (ah _) (YE.mk ((Ŗ,WS (n:=56)),.mk _)))]
 .induction c with|mk v=>erw[Li.mk (w:=O wd) G.toGdM hw λss F=>?_];let(m,S,Y,t,H,he):=Ϩ (w:=O wd) G F;let lo:=Xf (ss:=ss) (wd:=CM (O wd)) G;erw[ö (λσ h=>∃X,RL (g.pn ss (CM (O wd))) (g.w0 ss (O wd)) X Y S/\LB o (g.pn ss (CM (O wd))) (g.w0 ss (O wd)) X Y σ h) (ó (Rc.mk (n:=60) lo t H he ∅ λX A=>(X,A,.mk _ _ _)) λσ h c=>?_)];let(X,A,c):=c;generalize g.pn ss (CM (O wd))=P at lo t A c⊢;generalize g.w0 ss (O wd)=w0 at t A c⊢;clear F G hw v;induction c with|mk a b v=>
  erw[ö (LC o P w0 X Y) (ó (qv.mk E λZ=>?_) λσ h c=>?_)];.let(s,e,h):=G2 (Z/8) (n:=51) ∅;show LC o P w0 X Y [O (.p (.scr o)),a,b,v,O (.p (rD P w0)),O (.p (.L (X.map Wk.p))),O (.p (.L Y)),O (.p (.I (Z/8%((51:Ń):Î)))),ao,ao,ao] [];rw[e];rwa[.mk a b v s (eN ‹_›)]
  induction c with|mk a b v s F=>
  erw[ö (λσ h=>∃x,yu x=J/\xy 0 2000 x=bb/\LD o P w0 X Y s x σ h) (ó (qv.mk E λi3=>?_) λσ h c=>?_)];.let(j,e,h):=G2 (i3/8) (n:=7) ∅;let(x,e1,o1,o2):=M_ h;rw[<-e]at e1;rwa[bt e1 (x,o1,o2,.mk _ _ _ _ _)]
  let(x,ox,wx,c):=c;induction c with|mk a b v c d=>
  erw[qv.mk E λi4=>dX (λ_=>?_) λ_=>?_];.erw[mD (λ_=>.B J) Ŗ (λy hy=>?_) ((Ŗ,Ŗ),q)];let(a,ha,rfl):=Vh hy;rwa[λR q=>qu.od ha ox wx q]
  erw[ö (LD o P w0 X Y s x) (ó ?_ λσ h c=>?_)]
  .erw[bt (GY A.ls A.ln) ?_];erw[dX (c:=!cE S.wo "on") (λT=>?_) λ_=>.mk a b v c d];let hw:S.wo≠"on":=λz=>by rw[bN.mpr z]at T;cases T
   erw[xo.ok (n:=2000) lo t (aj ‹_› ∅) (.inr hw) (ah _) ?_];rwa[FW (by show(!nq (m:Ń) (Y.length:Ń))=bb;rw[t.len,qF.mpr Ŗ];rfl) (.mk a b v c d)]
  induction c with|mk a b v c d=>
  let ly:=t.len;obtain⟨M,C,zs,D,T,h2,h3⟩:∃M C zs,Rn P w0 M C zs/\M<=s/\(M=s\/C.wo≠"on")/\(if((Y.length:Ń):Î)<(s:Ń)then((Y.length:Ń):Î)else(s:Ń))=(M:Ń):=by
   rcases Nat.lt_or_ge m s with hl|hl;.exact(m,S,Y,t,dE ‹_›,.inr (he.resolve_left ()),by rw[b5 ()];lia)
   .let(C,_,D):=A.at' s ();exact(s,C,_,D,ah _,.inl Ŗ,by rw[bM ()])
  erw[qu.s2 lo D T h2 (aj ‹_› ∅) ((?_,Ŗ),?_)];.show Pv.L [.I (M:Ń)]=.L [.I (if((Y.length:Ń):Î)<(s:Ń)then((Y.length:Ń):Î)else(s:Ń))];rw[h3]
  erw[iT (λpre post σ h=>LD o P w0 X Y s x σ h) (.mk a b v c d) (λpre y post σ h e j=>?_) λσ h j=>?_]
  .obtain⟨n,hn,rfl⟩:∃n:Ń,n<=50/\y=iP n:=by
    let H:y ∈[iP s,.I 0,.I (if((Y.length:Ń):Î)<(s:Ń)then((Y.length:Ń):Î)else(s:Ń))]:=e▸aW _ aJ;rw[h3]at H;rcases ax.mp H with rfl|H;.exact(s,F,Ŗ)
    rcases ax.mp H with rfl|H;.exact(0,∅,Ŗ)
    .exact(M,aj ‹_› ‹_›,aE.mp H)
   induction j with|mk a b v c d=>show br (tV (Y.length:Ń) (n:Ń)) _ _;rw[wa];induction hb:Ñ Y.length n with|d=>let:=dW hb;let hw:=he.resolve_left ();rwa[qu.no (a:=0) ∅ lo t hw () (aj ‹_› ∅) (qu.no (a:=1) ∅ lo t hw () (aj ‹_› ∅) (.mk _ _ _ _ _))]|e=>
    let U:n<=Y.length:=c6.mp λz=>by rw[show Ñ Y.length n=J from aB z]at hb;cases hb
    let(C,e2,D):=A.at' n U;erw[qu.s0 lo D () (bt (x:=C.p) (by show(X.map Wk.p)[n]?=_;rw[aM,e2];rfl) ((Ŗ,?_),qu.s1 lo D () ((?_,?_),.mk _ _ _ _ _)))];.show[C.p].all (rZ 59)=J;rw[b8,WS (n:=55)];rfl
    .show Pv.L [.L (Y.take n)]=.L [.L ((Y.take n).drop 0)];rw[fz]
    .show[Pv.L _].all (rZ 59)=J;rw[b8,show rZ 59 (.L _)=J from bJ.mpr D.dp];rfl
  .induction j with|mk a b v c d=>rwa[tM.ok lo .z (aN _) (tM.ok lo .z (aN _) q)]
end
def y6{α:Type}(P:α->ß):Ł α->ß|[]=>æ|x::r=>P x/\y6 P r
def jR(a:y6 P l):∀x∈l,P x:=by induction l with|f=>rwa[λ_ h=>nomatch h]|g y r i=>rwa[λx h=>(ax.mp h).elim (λz=>z▸a.1) λz=>i a.2 x z]
abbrev Si:Ń->Å:=λi=>í (vl Xl "" i)
abbrev ia(l:Ł (Å×Ń)):Å->Ő ϐ:=λx=>(kK x l).map λn=>Ò n ""
structure Ā(w:ce)(K:Ä)(mg:db)(a0 a1 a2 a3 a4:À):ß where
 z:y6 (λx=>mg x=ao) Yv
 ze:mg "ValueError"=ao
 is:y6 (λp:Å×Î=>∃t,mg p.1=O (.int p.2 t)) [("NO_ROW",-1),("MOST_THINGS",12),("BEYOND",1000000),("BY_NOTHING",1),("NO_PLACE",2),("FULL_LIST",3),("EMPTY_LIST",4),("TOO_DEEP",5),("MOST_FRAMES",8),("WORD",5),("MOST_STEPS",2000)]st:∃t,mg "NO_FUNCTION"=O (.str "" t)ms:y6 (λp:Å×À=>mg p.1=O (.ref p.2)) [("ROW_FORMS",a0),("KINDS",a1),("PLAIN_DEEDS",a2),("DEEDS",a3),("OF_TWO",a4)]t0:C5 w K a0 λx=>kK x Br
 t1:Ie w K a1 λx=>kK x u_
 t2:tJ w K mg Si a2 (ia CF)t3:tJ w K mg Si a3 (ia Zp)t4:tJ w K mg Si a4 (ia F')
structure QM(K:Ä)(mg:db)(x:Å)(C:À)(fs:ϐ):ß where
 m:mg x=O (.ref C)cl:L2.KG K C
 na:y6 (λf=>nE K C f) fs
nonrec def Qo(C c a b d F:À):Ń->À|0=>C|1=>c|2=>a|3=>b|4=>d|_=>F
def qk(h:∃t,W.mg x=O (.int i t)):∃u v,W.mg x=O u/\RelV v u/\∀G M H,eg (((Lx ca Jc).y W).z G) M H (.I i) v:=let (t,h):=h;(_,.I i,h,(t,Ŗ),λ_ _ _=>by rfl)
def ZJ(h:∃t,W.mg x=O (.str i t)):∃u v,W.mg x=O u/\RelV v u/\∀G M H,eg (((Lx ca Jc).y W).z G) M H (.S i) v:=let (t,h):=h;(_,.S i,h,(t,Ŗ),λ_ _ _=>by rfl)
nonrec abbrev UF:ϐ:=["plan","boxes","lists","frames","asked","told","broken","reads","wrote"]
nonrec abbrev ľ:ϐ:=["box_places","list_places","own_places","door_places","door_numbers","paths"]
nonrec abbrev Zi:ϐ:=["rows","within","behind","firsts","seconds","catchers","defs","starts"]
nonrec abbrev đ:ϐ:=["plan","beginning"]
def adY{K:Ä}(T:Ā w K m A a1 f g h)(v:QM K m "Work" a UF)(j:QM K m "Plan" b ľ)(k:QM K m "Paths" d Zi)(n:QM K m "Machine" e đ)(mC:m "NoStep"=O (.ref C))(E:K5 K C)(mF:m "Fault"=O (.ref c))(F:HY K c):Lk (Lx (Qo C a b d e c) Jm) (P,w,K,m,base) where
 bl:=jR (P:=λx=>m x=ao) (l:=Yv) T.z;gl:=by let(I,o,p,q,r,s,t,u,y,B,i,_):=T.is;rwa[jR (l:=[0,1,2,3,4,5,6,7,8,9,10,11]) (qk I,qk o,qk p,qk q,qk r,qk s,qk t,qk u,qk y,ZJ T.st,qk B,qk i,Ť)]
 tab:=by let(M,m1,D,G,H,_):=T.ms;rwa[jR (l:=[0,50,100,101,102]) ((A,M,T.t0),(a1,m1,T.t1),(f,D,T.t2),(g,G,T.t3),(h,H,T.t4),Ť)]
 cls:=jR (l:=[1,2,3,4]) ((v.cl,jR v.na,nX Ŗ),(j.cl,jR j.na,nX Ŗ),(k.cl,jR k.na,nX Ŗ),(n.cl,jR n.na,nX Ŗ),Ť);exc:=jR (l:=[0,999]) ((mC,E),(mF,F),Ť)
def HA(K:Ä):Sp:=λv H Q _=>∃(a:À)(n:Ł Î),v=[.A a]/\gA K H a (n.map V.I)/\∀h,Q (.B J) h
def Z7(ns:Ł Î):aY Z M H (ns.map .I) (ns.map V.I):=by induction ns with|f=>done|g n ns i=>exact(by rfl,i)
def w_{L:Lw}(h:HA W.K vs H Q E):dG (L.y W) YF vs H Q E:=by
 let(a,n,rfl,S,q):=h;erw[([],[],[],[.p (.scr (n.map .I))],λd b=>d=.p (.B J),λ_ _=>ŧ,(iA,(λ_ h=>nomatch h),Ŗ,(λ_ h=>nomatch h),λi a o h=>by simp at h),(?_,Ť),.mk ?_ Ŗ,?_,λ_ _ _ _ _ _ h=>h.elim)]
 .show eg _ _ _ _ _;erw[(a,_,Ŗ,?_,Z7 n)];rcases S with r|c;.rwa[.inl (((λh=>nomatch h),λh=>nomatch h),r)]
  .rwa[.inr (.inr c)]
 .show(n.map Pv.I).all isInt=J;rw[List.all_map];rwa[bJ.mpr λ_ _=>Ŗ]
 .rintro d b M e v _ _ i rfl;rw[QN i];rwa[q e]
section
variable{w:ce}{K:Ä}{mg:db}{h:È}
def ack{α:Type}{f g:Ł Â->α}(hn:n<=5)(h:∀a b c d e,f ([a,b,c,d,e].take n)=g ([a,b,c,d,e].take n))(us:Ł Â)(q:us.length=n):f us=g us:=by
 subst q;let o:Â:=.none;rcases us with _|⟨a,_|⟨b,_|⟨c,_|⟨d,_|⟨e,_|⟨x,r⟩⟩⟩⟩⟩⟩;.rwa[h o o o o o]
 .rwa[h a o o o o]
 .rwa[h a b o o o]
 .rwa[h a b c o o]
 .rwa[h a b c d o]
 .rwa[h a b c d e]
 .rwa[Ă hn (Nat.not_le_of_lt (aD 6 _))]
structure At(K:Ä)(x c3:Å)(st:É)(ps:ϐ)(f:À):ß where ex:∃fd,CB K x c3 st f fd/\Binds K fd ps []
def A4{st:É}{kV:Â}(hn:ps.length<=5)(H:∀(kV doc p:Â)(A:Ő À)(D ct a b c d e:Â),bindArgs (fnOf x q (ij st) (bQ st) (av st) .none kV doc p A D ct) ([a,b,c,d,e].take ps.length,[])=pure (ps.zip ([a,b,c,d,e].take ps.length)))(l:K.lookup f=O (oc,o,.func (fnOf x q (ij st) (bQ st) (av st) .none kV doc p A D ct),Q))(c:codeIn K D q)(k:keepIn K (.ref f)):At K x q st ps f:=have F:=ZG (st:=st) l c k;(_,F,F.binds λkV doc p A D ct=>ack hn (H kV doc p A D ct))
def aaF{st:É}(X:K.In h)(G:h.Ns c' mg)(a:nsIn K c' x=O (O (.ref f)))(A:At K x x st ps f):Src K mg x st ps:=let (_,F,B):=A.ex;(f,_,F,bu X G a,B)
def Vu{st:É}(a:findIn K (.ref C) "__init__"=O (O (.ref f)))(i:isFn K (.ref f))(mk:makesIn K C)(k:keepIn K (.ref C))(A:At K "__init__" q st ps f):qp K C q st ps:=let (_,F,B):=A.ex;(f,_,F,(mk,a,i,k),B)
def Vw{st:É}(a:findIn K (.ref C) x=O (O (.ref f)))(i:isFn K (.ref f))(k:keepIn K (.ref f))(A:At K x q st ps f):gT K C x q st ps:=let (_,F,B):=A.ex;(f,_,F,(a,i,k),B)
structure ă(K:Ä)(x c3:Å)(st:É)(ps:ϐ)(dv:Â)(f:À):ß where ex:∃fd,X8 K x c3 st f fd/\Binds K fd ps []/\Binds K fd ps [dv]
def WJ{ps qs:ϐ}(X:K.In s.heap)(H:fd.defaults=.ref T)(l:K.lookup T=O (oc,o,.seq #[dv] n,q))(h:∃k,bindArgs fd (us,[])=seqItems? fd.defaults>>=k/\k (O #[dv])=pure (ps.zip es)):BindsTo s fd (us,[]) (ps.zip es):=let (_,a,b):=h;.of_defaults H (X _ _ l) Ŗ a b
def Lb{st:É}{kV:Â}(hn:ps.length=2\/ps.length=3)(g:∀a b c,∃k,bindArgs (fnOf x q (ij st) (bQ st) (av st) (.ref T) kV doc p A D ct) ([a,b,c].take ps.length,[])=seqItems? (.ref T)>>=k/\k (O #[dv])=pure (ps.zip ([a,b,c].take ps.length)))(i:∀a b,∃k,bindArgs (fnOf x q (ij st) (bQ st) (av st) (.ref T) kV doc p A D ct) ([a,b].take (ps.length-1),[])=seqItems? (.ref T)>>=k/\k (O #[dv])=pure (ps.zip ([a,b].take (ps.length-1)++[dv])))(L:K.lookup T=O (o,j,.seq #[dv] n,m))(l:K.lookup f=O (oc,t,.func (fnOf x q (ij st) (bQ st) (av st) (.ref T) kV doc p A D ct),Q))(c:codeIn K D q)(k:keepIn K (.ref f)):ă K x q st ps dv f:=by
 erw[(_,((oc,t,.ref T,kV,doc,p,A,D,ct,Q,Ŗ,l,c),k),λs u X H=>?_,λs u X H=>?_)]
 .rw[aT]at H⊢;erw[WJ (qs:=ps) X Ŗ L ?_];rcases hn with e|e;.rw[e]at H g;rcases u with _|⟨a,_|⟨b,_|⟨c,r⟩⟩⟩<;>first|rwa[g a b .none]|cases H
  .rw[e]at H g;rcases u with _|⟨a,_|⟨b,_|⟨c,_|⟨d,r⟩⟩⟩⟩<;>first|rwa[g a b c]|cases H
 .erw[WJ (qs:=ps) X Ŗ L ?_];rw[aq]at H;rcases hn with e|e;.rw[e]at H i;rcases u with _|⟨a,_|⟨b,r⟩⟩<;>first|rwa[i a .none]|(simp at H;all_goals fail)
  .rw[e]at H i;rcases u with _|⟨a,_|⟨b,_|⟨c,r⟩⟩⟩<;>first|rwa[i a b]|(simp at H;all_goals fail)
def Vt{st:É}(X:K.In h)(G:h.Ns c' mg)(a:nsIn K c' x=O (O (.ref f)))(A:ă K x x st ps dv f):A2 K mg x st ps [dv]:=let (_,F,B):=A.ex;(f,_,F,bu X G a,B)
def Vv{st:É}(a:findIn K (.ref C) "__init__"=O (O (.ref f)))(i:isFn K (.ref f))(mk:makesIn K C)(k:keepIn K (.ref C))(A:ă K "__init__" q st ps dv f):CZ K C q st ps [dv]:=let (_,F,B):=A.ex;(f,_,F,(mk,a,i,k),B)
def sI(w:ce){α:Type}(V:α->Â->ß):Ł (Å×α)->Ł gt->ß|[],[]=>æ|p::r,e::E=>(∃t v,e=(PyData.keyHash w.params p.1,.str p.1 t,v)/\V p.2 v)/\sI w V r E|_,_=>ŧ
def rgc{V:α->Â->ß}(e:h'=PyData.keyHash w.params x)(Q:V a v)(q:sI w V r es):sI w V ((x,a)::r) ((h',.str x t,v)::es):=by subst e;exact((t,v,Ŗ,Q),q)
def Hr{α:Type}{V:α->Â->ß}{x:Å}{r:Ł (Å×α)}:∀{es:Ł gt},sI w V r es->KeysLit w.params es/\match kK x r with|O a=>∃v,((es.find? λe=>ã x e.key).map (·.val))=O v/\V a v|ao=>((es.find? λe=>ã x e.key).map (·.val))=none:=by induction r with
 |f=>intro es q;cases es with|f=>exact(Ť,Ŗ)|g _ _=>rwa[q.elim]
 |g p r i=>intro es q;cases es with|f=>rwa[q.elim]|g _ es=>obtain⟨⟨t,v,e,Q⟩,q⟩:=q;subst e;let(I,b):=i q;erw[(((_,_,Ŗ,Ŗ),I),?_)];delta kK;cases e:cE p.1 x with|d=>let e:=bN.mp e;exact(v,by rw[List.find?_cons_of_pos (by show(p.1==x)=J;rw[e];simp)];rfl,Q)|e=>rw[List.find?_cons_of_neg λz=>by rw[bN.mpr (HR (show(p.1==x)=J from z))]at e;cases e];rwa[b]
def Az{α:Type}{V:α->Â->ß}{r:Ł (Å×α)}{es:Array gt}(q:sI w V r es.toList)(x:Å):match kK x r with|O a=>∃v,findBy ã es x=O v/\V a v|ao=>findBy ã es x=none:=by let h:=(Hr (x:=x) q).2;delta findBy;rw[<-AR];rwa[h]
def vK(K:Ä)(k:ϐ)(v:Â):ß:=∃b,v=.ref b/\∃(o:Ù)(B:Array Â)(m:Ń),K.lookup b=O o/\o.cls=.type "tuple"/\o.data=.seq B m/\B.size<=Ã/\Vals (k.map V.S) B.toList
def vS(k:ϐ)(v:Â):ß:=∃y t,k=[y]/\v=.str y t
def vF(mg:db)(n:Ń)(v:Â):ß:=∃f,v=.ref f/\mg (Si n)=O (.ref f)
def afW(l:K.lookup b=O o)(c:o.cls=.type "tuple")(d:o.data=.seq B m)(z:B.size<=Ã)(v:Vals (k.map V.S) B.toList):vK K k (.ref b):=(b,Ŗ,o,B,m,l,c,d,z,v)
def afV(X:K.In h)(G:h.Ns c' mg)(a:nsIn K c' (Si n)=O (O (.ref f))):vF mg n (.ref f):=(f,Ŗ,bu X G a)
section
variable{a:À}{es:Array gt}{n:Ń}(l:K.lookup a=O (.type "dict",ao,.dict es n,#[]))(lo:(a==ft)=bb)
include l lo
def VN(q:sI w (vK K) r es.toList):C5 w K a λx=>kK x r:=((es,n,l,(Hr (x:="") q).1,λx=>by let h:=Az q x;cases e:kK x r with|a=>rw[e]at h;rwa[h]|c k=>rw[e]at h;let(v,H,b,rfl,c):=h;exact(b,H,c)),lo)
def VO(q:sI w vS r es.toList):Ie w K a λx=>kK x r:=((es,n,l,(Hr (x:="") q).1,λx=>by let h:=Az q x;cases e:kK x r with|a=>rw[e]at h;rwa[h]|c k=>rw[e]at h;let(v,H,y,t,b,rfl):=h;exact(y,t,b,H)),lo)
def VM(q:sI w (vF mg) r es.toList):tJ w K mg Si a (ia r):=((es,n,l,(Hr (x:="") q).1,λx=>by let h:=Az q x;show match(kK x r).map λn=>Ò n ("":Å)with|O k=>_|ao=>_;cases e:kK x r with|a=>rw[e]at h;rwa[h]|c m=>rw[e]at h;let(v,H,f,rfl,b):=h;exact(f,H,by rw[cC];rwa[b])),lo)
end
def YM(X:K.In h)(G:h.Ns c' mg)(m:nsIn K c' x=O (O (.ref C)))(p:plainGet K C Str.empty)(H:hasDictIn K C)(P:plainOver K C)(s:findIn K (.ref C) "__setattr__"=O (O (.builtin "object.__setattr__")))(n:y6 (λf=>findIn K (.ref C) f=O ao) fs):QM K mg x C fs:=(bu X G m,(p,H,P,s),n)
def nac(h:findIn K (.ref C) f=O ao)(t:y6 (λf=>findIn K (.ref C) f=O ao) r):y6 (λf=>findIn K (.ref C) f=O ao) (f::r):=(h,t)
def Nh:kitOne K v v=O true:=by delta kitOne;rw[b5 (iL _)]
def TN(c:clsIn K D=O a)(t:typeIn K (.ref D)=O (.type "type"))(s:subIn K (.ref C) (.ref D)=O b)(d:(Ð C==Ð D)=bb):kitOne K (.ref C) (.ref D)=O b:=by delta kitOne kitCls;rw[bM (by rw[d];rwa[aF])];dsimp only;rw[b5 (by rw[c,t];rfl)];rwa[s]
def t_(s:subIn K (.ref C) (.type "ValueError")=O J):kitOne K (.ref C) (.type "ValueError")=O true:=by delta kitOne kitCls;rw[bM (show ¬(Ð C==à "ValueError")=J from aF)];dsimp only;rw[b5 ∅];rwa[s]
def kan(h:kitOne K (.ref C) (.ref D)=O bb)(q:kitAny K (.ref C) (r.map Ð)=O bb):kitAny K (.ref C) ((D::r).map Ð)=O false:=by show kitAny K (.ref C) (.ref D::r.map Ð)=_;delta kitAny;rw[h];rwa[q]
def IT(H:clsIn K C=O c)(b:findIn K (.ref C) name=O (O a))(d:specialIn K a "__get__"=O (O g))(t:takesIn K a=O J):findObj K C ao name=O (.bind g a):=by delta findObj;rw[H,Option.bind_some,b,Option.bind_some];simp[d,t]
def Zw(X:K.In h)(G:h.Ns c' mg)(z:mg "isinstance"=ao)(Z:mg "ValueError"=ao)(n:nsIn K c' "NoStep"=O (O (.ref C)))(N:nsIn K c' "NoCell"=O (O (.ref D)))(j:nsIn K c' "NoDoor"=O (O (.ref d)))(k:nsIn K c' "NoProgram"=O (O (.ref a)))(l:nsIn K c' "NoRow"=O (O (.ref b)))(m:nsIn K c' "NoText"=O (O (.ref e)))(o:nsIn K c' "NoWord"=O (O (.ref f)))(p:nsIn K c' "NoWorld"=O (O (.ref g)))(q:nsIn K c' "TooLong"=O (O (.ref D8)))(b2:specialIn K (.builtin "object.__class__") "__get__"=O (O (.builtin "getset_descriptor.__get__")))(B:takesIn K (.builtin "object.__class__")=O J)(c:clsIn K C=O i)(a1:findIn K (.ref C) "__getattribute__"=O (O (.builtin "BaseException.__getattribute__")))(A:findIn K (.ref C) "__getattr__"=O ao)(r:findIn K (.ref C) "__class__"=O (O (.builtin "object.__class__")))(s:mroIn K C (.type "object")=O J)(t:subIn K (.ref C) (.type "BaseException")=O J)(S:subIn K (.ref C) (.type "ValueError")=O J)(u:kitAny K (.ref C) ([D,d,a,b,e,f,g,D8].map Ð)=O bb):W2c.Ec K mg C D d a b e f g D8:=(z,Z,bu X G n,bu X G N,bu X G j,bu X G k,bu X G l,bu X G m,bu X G o,bu X G p,bu X G q,(a1,A,IT c r b2 B,s,t),by rw[c];rfl,Nh,t_ S,u)
def aax:cP ["self","number"] ["self","number"] (av (c8 (top 29) 0)):=jB ∅
def ZA{C N f:À}{nm q:Å}{bs sub:Ł Â}{sn:ϐ}{ab:Þ}{col:Ő Þ}{dd:Ő À}{k0 k1 k2 k3 k5:Ő Â}{c:ClassData}{o:Ù}{a:Â}{d:Ő À}{es:Array gt}{ep:Ń}{sN:Array (Ő Â)}(l:K.lookup C=O (io nm q C N bs ut J sn sub ab col dd k0 k1 k2 k3 k5 "Exception.__new__"))(L:K.lookup N=O (a,d,.dict es ep,sN))(k:(es.toList.all λe=>match e.key with|.str _ _=>J|_=>bb)=J)(n:nsIn K N "__init__"=O (O (.ref f)))(b:nsIn K N "__setattr__"=O ao)(g:nsIn K N "__getattribute__"=O ao)(i:nsIn K N "__getattr__"=O ao)(j:nsIn K N "number"=O ao)(H:typeIn K (.ref C)=O (.type "type"))(m:clsIn K C=O c)(p:subIn K (.ref C) (.type "BaseException")=O J)(r:subIn K (.ref C) (.ref C)=O J)(lf:K.lookup f=O o)(s:o.cls=.type "function")(A:At K "__init__" "Fault.__init__" (c8 (top 29) 0) ["self","number"] f):HY K C:=by let(t,F,B):=A.ex;exact((f,t,_,_,_,_,_,_,o,(_,_,N,_,_,_,_,_,_,_,_,_,_,_,l,by delta nsOkIn;rw[L];rwa[Array.all_toList.symm.trans k],n,b,g,i,j),F,aax,Ŗ,B,lf,s),(H,by rw[m];rfl,p),r)
end
def v_{l:OpenLaw}{K:Ä}{M:db}(X:K.In h)(G:h.Ns c' M)(p:M "law"=O (.ref L))(T:Ā w K M a0 a1 a2 a3 a4)(U:QM K M "Work" c UF)(W:QM K M "Plan" b ľ)(Y:QM K M "Paths" d Zi)(V4:QM K M "Machine" f đ)(Z:M "isinstance"=ao->M "ValueError"=ao->W2c.Ec K M C D1 D2 D3 D4 D5 D6 D7 D8)(eC:excIn K C NI "ValueError.__new__"=J)(nR:nsIn K c' "RunError"=O (O (.ref R)))(r1:typeIn K (.ref R)=O (.type "type"))(r2:clsIn K R=O cd)(r3:subIn K (.ref R) (.type "BaseException")=O J)(rs:subIn K (.ref C) (.ref R)=O J)(nF:nsIn K c' "Fault"=O (O (.ref F)))(eF:HY K F)(M1:qp K c "Work.__init__" (c8 (top 30) 0) ["self","plan","state"])(M2:qp K b "Plan.__init__" (c8 (top 69) 0) ["self","program","world"])(M3:qp K d "Paths.__init__" (c8 (top 70) 0) ["self","triples"])(M4:CZ K f "Machine.__init__" (c8 (top 74) 0) ["self","program","world"] [.none])(M5:A2 K M "run_length" (top 82) ["machine","most"] [.int 2000 tok])(S:Sg (Qo C c b d f F) K M)(a:nsIn K c' "law"=O (O (.ref N)))(A:At K "law" "law" (top 98) ["_law_script"] N):∃q:ed,(∀(s:bn)(v:Â),BindsTo s q ([v],[]) [("_law_script",v)])/\∀base:È,K.In base->base.Ns c' M->iN l.prog w K M base yW 44 L q ["_law_script"] (HA K):=by let e:=p.symm.trans (bu X G a);cases e;let(q,F3,B3):=A.ex;let F4:=F3;let(oc,od,kV,doc,pm,an,dY,ct,qP,rfl,lk,ny):=F3.ex;erw[(fnOf "law" "law" (ij (top 98)) (bQ (top 98)) (av (top 98)) .none kV doc pm an dY ct,λs v=>.of_eq Ŗ,λbase _ _=>?_)];let Z:=Z T.z.2.1 T.ze;let B:Lk (Lx (Qo C c b d f F) Jm) (l.prog,w,K,M,base):=adY T U W Y V4 Z.ms eC (bu X G nF) eF;let Wm:=Zg B S M1 U.m;let I:=RK B S;let o:DI (Qo C c b d f F) Jm (l.prog,w,K,M,base) 501 21:=Zf B S Wm ∅ (LO (k:=18) B S Wm ∅ (RG B S Wm 6)) (RC B S Wm);let r:DI (Qo C c b d f F) Jm (l.prog,w,K,M,base) 400 36:=Y2 (Jc:=Jm) B S 8;let r:DI (Qo C c b d f F) (Ja Jm) (l.prog,w,K,M,base) 400 36:=r;let t:DI (Qo C c b d f F) (Ja Jm) (l.prog,w,K,M,base) 3 38:=Y5 (LX.to B) S M3 Y.m r;let t:DI (Qo C c b d f F) (Jp Jm) (l.prog,w,K,M,base) 3 38:=t;let u:DI (Qo C c b d f F) (Jp Jm) (l.prog,w,K,M,base) 2 40:=Y7 (LX.to B) S M2 W.m ∅ t;let u:DI (Qo C c b d f F) Jm (l.prog,w,K,M,base) 2 40:=u;let(I6,I7):=Y6 B S M4 V4.m ∅ u;let g:=xr B S (RX B S);let j:=DF (k:=21) B S ∅ g o I;let n:=RQ (k:=21) B S ∅ g o I;let(x,I8):=zC (k:=21) B M5 ∅ g o I;let D:=Y9 B S;let i:=Bh B S D 3;let y:=RB (k:=22) B S (R:=R) (bu X G nR,(r1,by rw[r2];rfl,r3),rs) j n x ((W2c.RF (P:=l.prog) (w:=w) (base:=base) Z S.B0).mono ∅);exact(acB (k:=42) B F4 (j.le ∅,n.le ∅,(Iy B S).le ∅,(LQ B S).le ∅,(IG B S D (RO B S D) i (Gi B S D i (RR B S D i) 3)).le ∅,(RY B S D).le ∅,y.le ∅,(IJ (k:=21) B S ∅ I o).le ∅,Ť) (I6,I7,I8.le ∅,I.le ∅,Ť)).imp λvs H Q E h=>w_ h
def aaW{K:Ä}{m:db}(X:K.In h)(G:h.Ns c' m)(r:nsIn K c' "len"=O ao)(u:nsIn K c' "isinstance"=O ao)(v:nsIn K c' "zip"=O ao)(y:nsIn K c' "range"=O ao)(B:nsIn K c' "list"=O ao)(C:nsIn K c' "tuple"=O ao)(D:nsIn K c' "int"=O ao)(E:nsIn K c' "bool"=O ao)(F:nsIn K c' "set"=O ao)(H:nsIn K c' "dict"=O ao)(z:nsIn K c' "max"=O ao)(Z:nsIn K c' "min"=O ao)(c:nsIn K c' "sorted"=O ao)(d:nsIn K c' "reversed"=O ao)(e:nsIn K c' "enumerate"=O ao)(f:nsIn K c' "ValueError"=O ao)(I:nsIn K c' "NO_ROW"=O (O (.int (-1) T)))(m1:nsIn K c' "MOST_THINGS"=O (O (.int 12 g)))(L:nsIn K c' "BEYOND"=O (O (.int 1000000 i)))(N:nsIn K c' "BY_NOTHING"=O (O (.int 1 j)))(P:nsIn K c' "NO_PLACE"=O (O (.int 2 k)))(Q:nsIn K c' "FULL_LIST"=O (O (.int 3 l)))(R:nsIn K c' "EMPTY_LIST"=O (O (.int 4 n)))(S:nsIn K c' "TOO_DEEP"=O (O (.int 5 o)))(U:nsIn K c' "MOST_FRAMES"=O (O (.int 8 p)))(W:nsIn K c' "WORD"=O (O (.int 5 q)))(M:nsIn K c' "MOST_STEPS"=O (O (.int 2000 t)))(Y:nsIn K c' "NO_FUNCTION"=O (O (.str "" s)))(y0:nsIn K c' "ROW_FORMS"=O (O (.ref a)))(y1:nsIn K c' "KINDS"=O (O (.ref a1)))(y2:nsIn K c' "PLAIN_DEEDS"=O (O (.ref A)))(y3:nsIn K c' "DEEDS"=O (O (.ref b)))(y4:nsIn K c' "OF_TWO"=O (O (.ref a4)))(b0:C5 w K a λx=>kK x Br)(b1:Ie w K a1 λx=>kK x u_)(b2:tJ w K m Si A (ia CF))(b3:tJ w K m Si b (ia Zp))(b4:tJ w K m Si a4 (ia F')):Ā w K m a a1 A b a4:=((cg X G r,cg X G u,cg X G v,cg X G y,cg X G B,cg X G C,cg X G D,cg X G E,cg X G F,cg X G H,cg X G z,cg X G Z,cg X G c,cg X G d,cg X G e,Ť),cg X G f,((_,bu X G I),(_,bu X G m1),(_,bu X G L),(_,bu X G N),(_,bu X G P),(_,bu X G Q),(_,bu X G R),(_,bu X G S),(_,bu X G U),(_,bu X G W),(_,bu X G M),Ť),(_,bu X G Y),(bu X G y0,bu X G y1,bu X G y2,bu X G y3,bu X G y4,Ť),b0,b1,b2,b3,b4)
def walk{l:OpenLaw}{XP:db->È->ß}{K:Params->Ä}(hn:l.most=O 63)(Z:d.params.defaults=[])(H:∀(w:ce)(h:È),Y w h->(K w.params).In h)(F:∀(w:ce)(m:db)(b:À)(h:È),(K w.params).In h->h.Ns c' m->m d.name=O (.ref b)->∃c:ed,(∀(s:bn)(u:Â),BindsTo s c ([u],[]) [("_law_script",u)])/\∀base:È,(K w.params).In base->base.Ns c' m->iN l.prog w (K w.params) m base yW 44 b c ["_law_script"] (HA (K w.params))):WalkO q L XP Y l.row.toRowW d [] λf vs=>PySem.call f vs:=L2.We (n:=63) (k:=44) (x:="_law_script") (CX:=λ_=>yW) (sp:=λw=>HA (K w.params)) hn ∅ Z (Ŗ,∅,∅) H F (λ_ _ a N e _ S=>(a,N,Ŗ,S,λ_=>Ŗ)) λ_ _ _ _ _ z=>z
end W2
open PySem.W
namespace PySem.W.Fast
local macro_rules(kind:=Lean.Parser.Command.print)|s=>let l:=(s[1].isStrLit?.getD "").toList;return Lean.mkNullNode ((List.range (l.length/10)).map fun i=>Ö s ("0 0 0 0 0 0 0 7Command.declModifiers 'theorem `tw"++toString (((l.drop (10*i)).take 10).foldl (fun n x=>n*90+x.toNat-if x.toNat>92 then 37 else if x.toNat>64 then 36 else 35) 0)++" 0 2Command.declId 0 ': `True 2Term.typeSpec 2Command.declSig ':= `True.intro 0 0 2Termination.suffix 0 4Command.declValSimple 4Command.theorem 2Command.declaration")).toArray
#print"5LIl5flQFlNa~g9W7eCFOO4Iy7[D{*3,50g>9Q`CGs-%yPN%N:OzRE>ojHOx+U;yQl~TQfC.xi),+HPI-i_,*-=ZB:IN_~89%h|nHe[E}Ta;LP=SD)'IYH8q*]jFX$F'7i:.pUU:=/E:FK,Z'H0OZ=+tqgg;RMIC#w'q=$Wk4$K]zB&kZtZ=+#[e?dWR0_&[8<`dQg/O8L'Bu2I-*f)%*O#nwH/-7de+&cpB'fBEIbA~epkpK`gj{i/:/^3R%=OOL52nCeFM<yd`P).R(mDbKw[L%)LXxm0;NOO(/6*M[1^QH`nRKbWe>3GAp>v>$(2G<UGF%DIM^3<y%~~[K{~n/NuHh=8`a?N[RWL0_|#66/Z,vq>$ss<2cp.7sJ83=|5G-rz%g+=Zd7^4Jv|qDa{+&u>rMu?Ekv5wf0D4+||%}8'-#b0=Mb~1:7)/R{?8sE{&.jL3#%4rf?.UR'T/^()RW1#dVPP?uNkf2>:O0z3g;~E~#)k*ygsn8jJAS%HN_e<Bx[;IS9hHQrcZy%smwi'=4C%(%V[FQY?|#%u'VJIi,nf>(.W]>XAdec(kAt>oS-M4P/cmAA=&=1]O&6G#y)p`whj%Nlj[?wQey[73-fs+Yx?sAp6?SSXM<8:6UD^o;/aG.Qhprmwek&8`JWCo[JHjQk??dD(#TW?1jANkfgfa7}i?o,0sS6PsMS^XP(BBCK{33hW~_P2gaE~S~Nnk>IP#F;oq#S=k?w$s$MU?#s.h>rpaHS6e_R~PSuvj+r:KeBhBC_Fmy0-|9$F8MA2)n<uY(J#R5/ztov<1$pr{]M+Xw{$)m`ZsrF;S(tA&nQWK5ELVqR>Q7B~,95Yzrk}37KFt>V*1T7_f$~^HBX]o2q)hl|s&A7<0-i:J~*rS=9-TCn(cGVbtLZhu1;?VQ8&8tn%`8;E}H}9j:4I>.C:>}l-]9J&,Gvl+(a6V$i>]N$Ktht[i0|Pe)^3?|0'``(S(*>KgDqJ:B'9}gkHJ:R6NC^$Y9y%TOczosFA0UuTiBC'CEZOyyL,c_{.Qb=mkPsgT5&L_MlnsYN:njdRcKxF<H?SbFbPn4`SU2/ho4y7gC{9fCQ7fyB465))G)[EO9/'%+2+;yA)|*8lgsgCV(R|Iz13/zjOn;l4mTLU#?fkAw+X=n`9BcM6UO0{[L~cEb4k.X&8<:ZT8tB%m5Ur(6^JAa{'<azf`V7K)/h?}GI/v8wEeP?26A/pq/7<;0M<_<A=cvzvTt&bX$7dUJ|DAkM=%HRZW_(Z(Lx$wZ&;VTB:AqNk%13X(4h2aP~PHE5P/pquG_~Y<Il8QGs`3]P7sNNu1Q)P#OnX(C2PFmvJ:_Gc0%{pxG_0=T)X:_R1A9q^HjYpwRx:+S&erjD)h`RU(9I>r/flsN$4S_C5dJv+cwf=w.ggM,R;F=`3A<F>J'#pl-aU_s^O1Hz<|Ok]v?|kO&W_)dK^3z?1b9CAtF0O/B+b>d9K]h8BZ).z4%lp%Fq'fK2?2ZYM5tP~dC7nD1H,jS097.lD:]2)W%->[HO-6m>SyU(A=Un:Df#44I>&9_:|d'2L)aH-0L~MyL+,EB3a)?N7S'I=4.%m[&g+vx2o:P4F_}Q)goENi<[L%u7Zq0N.zdhld4(goJ'h{mvc~1SIlb,DuSP+)9k'bx9TLuXL0)hba:Was?<:OOLa5.<Cf%6?IA0<EM1'g?x3[Bj3W,VBW)K3S,-6tDQ2anDMCh];0$k$Y(o:KuWDQ31$V>VAXCGyfFPltl;.H;d7q<8$AsThn0^z8-d=NC%0MZ^XIi,d;3dAGapo)eRC81kXvoF`VQnq.o[6]xW-)oLB`dX=QQ#futh?^MgS8Ua3a[Vi/-bC.[w$+sZIOhiGIrOj'OHm%NF'/X[I.>rX'hAs70H1'eZ3|]IBFHR1p5(wXQ8B`/6hHgn78o)U$P)}u%W$yG.IlLD/N_=M,&O1QDz(V<<90JWDRMNd2iy6BOmL5v~3=1X4ew%J2{k>[M1g)[+d.`M=[npZVxUzZQ>g0A,.t[L'Y?%#2A9Q~5UUwM}z?e.$1Fdex+DbfQM&aLM%nxD9Bhm$:qw,1McJv5/VTy.EZ_jZRgsUn16a+}XjgL66M7vQ/Q[cM6.knVGfcQi/xY&'ppsG|8txi?Q%u$,%PY,'C|fLE#u;_m+U.]7LSss$PNXF~5FZ/9gcXcEEv_k*Df1_{.,_kF0esr>+WT/94eviEE6=qO7=SYi5[A2NJG`;XE|Jo/Ebaft2[tg4id,4?4z|f[+0sG2KpV;~%kF=+O'RhPX0*7],6iX7^Z^n<4p3pO`F?L(:j3e|]~7;&(W^)n5^YIE'z}?/>F)Nm1[9#MS:SA(<,,4k#FlAN'xGB]*UWLq$ox1OE5wd,&ytC:S?C#fPYwLS-$WJX-JzFFPQfuf:xSuH?ba+JR*a:0d/02&KN$is5E6=P$UMcn-+d:g.3*ciH*[]`,q4f;Q,_,.#),:H[*],-ILVVz.>AYcBD?PWK`>n<H^mQ2q%NW#Q9CH|M:^fE>9tJob,$.,HFwx=5)[JiA5r8L/)5^A$)%M2U0{OdP:yfAb?/MX.~]yM1-GYo*]`iuo^|?_Bm~}lqpu0p*R<I~-u;nsPbu31sPn#MOP?ifO{A|9,7,u'/oQlQ+OWMyX;0XS-}`wD.sKy$PX&w$)Z'vp8+/6V*tzp$"
end PySem.W.Fast
end
set_option maxRecDepth 100000 in
set_option maxHeartbeats 0 in
theorem PySem.Challenge.cw_retrace_k23_runs_holds : PySem.Challenge.rw_retrace_k23_runs.Holds := by
 w_on;o_law;k_head;(case hw=>w_witness2);k_fill;refine W2.walk (l:=PySem.Challenge.rw_retrace_k23_runs) rfl rfl (λw h Y=>PySem.W.kIn_of Y) ?F;case F=>intro w mg fa h KX G Qt;refine' W2.v_ KX G Qt ?T ?V1 ?V2 ?V3 ?V4 ?Z ?eC ?nR ?r1 ?r2 ?r3 ?rs ?nF ?eF ?M1 ?M2 ?M3 ?M4 ?M5 ⟨?S0,?S1,?S2,?S3,?S4,?S5,?S6,?S7,?S8,?S9,?S10,?S11,?S12,?S13,?S14,?S15,?S16,?S17,?S18,?S19,?S20,?S21,?S22,?S23,?S24,?S25,?S26,?S27,?S28,?S29,?S30,?S31,?S32,?S33,?S34,?S35,?S36,?S37,?S38,?S39,?S40,?S41,?S42,?S43,?S44,?S45,?S46,?S47,?S48,?S49,?S50,?S51,?S52,?S53,?S54,?S55,?S56,?S57,?S58,?S59,?S60,?S61,?S62,?S63,?S64,?S65,?S66,?S67,?S68,?S69⟩ ?a ?A;(case a|nR|r1|r2|r3|nF=>k_is);(case A=>(refine' W2.A4 (by decide) (λ_ _ _ _ _ _ _ _ _ _ _=>rfl) ?l ?c ?k;(case l|c|k=>k_is)));(case V1|V2|V3|V4=>refine' W2.YM KX G ?m ?pg ?hd ?po ?sa ?na;(case m|pg|hd|po|sa=>k_is);(case na=>(repeat(refine' W2.nac ?q1 ?_;(case q1=>k_is)));exact trivial));(case Z=>intro z1 z2;refine' W2.Zw KX G z1 z2 ?n0 ?n1 ?n2 ?n3 ?n4 ?n5 ?n6 ?n7 ?n8 ?b2 ?b3 ?c ?a1 ?a2 ?b1 ?a4 ?a5 ?sv ?ko;(case n0|n1|n2|n3|n4|n5|n6|n7|n8|b2|b3|c|a1|a2|b1|a4|a5|sv=>k_is);(case ko=>(repeat(refine' W2.kan (W2.TN ?c2 ?t2 ?s2x ?d2x) ?_;(case c2|t2|s2x=>k_is);(case d2x=>decide)));exact rfl));(case rs=>k_is);(case eC=>k_exc);(case M1|M2|M3=>refine' W2.Vu ?a ?i ?mk ?kc ?A;(case a|i|mk|kc=>k_is);(case A=>(refine' W2.A4 (by decide) (λ_ _ _ _ _ _ _ _ _ _ _=>rfl) ?l ?c ?k;(case l|c|k=>k_is))));(case M4=>refine' W2.Vv ?a ?i ?mk ?kc ?A;(case a|i|mk|kc=>k_is);(case A=>(refine' W2.Lb (by decide) (λ_ _ _=>⟨_,rfl,rfl⟩) (λ_ _=>⟨_,rfl,rfl⟩) ?lT ?l ?c ?k;(case l|lT|c|k=>k_is))));(case M5=>refine' W2.Vt KX G ?a ?A;(case a=>k_is);(case A=>(refine' W2.Lb (by decide) (λ_ _ _=>⟨_,rfl,rfl⟩) (λ_ _=>⟨_,rfl,rfl⟩) ?lT ?l ?c ?k;(case l|lT|c|k=>k_is))));(case S0|S1|S2|S3|S4|S5|S6|S7|S8|S9|S10|S11|S12|S13|S14|S15|S16|S17|S18|S19|S20|S21|S22|S23|S24|S25|S26|S27|S28|S29|S30|S31|S32|S33|S34|S35|S36|S37|S38|S39|S40|S41|S42|S43|S44|S45|S46|S47|S48|S49|S50|S51|S52=>refine' W2.aaF KX G ?a ?A;(case a=>k_is);(case A=>(refine' W2.A4 (by decide) (λ_ _ _ _ _ _ _ _ _ _ _=>rfl) ?l ?c ?k;(case l|c|k=>k_is))));(case S53|S54|S55|S56|S57|S58|S59|S60|S61|S62|S63|S64|S65|S66|S67|S68|S69=>refine' W2.Vw ?a ?i ?k ?A;(case a|i|k=>k_is);(case A=>(refine' W2.A4 (by decide) (λ_ _ _ _ _ _ _ _ _ _ _=>rfl) ?l ?c ?k;(case l|c|k=>k_is))));(case T=>refine' W2.aaW KX G ?z0 ?z1 ?z2 ?z3 ?z4 ?z5 ?z6 ?z7 ?z8 ?z9 ?z10 ?z11 ?z12 ?z13 ?z14 ?z15 ?m0 ?m1 ?m2 ?m3 ?m4 ?m5 ?m6 ?m7 ?m8 ?m9 ?m10 ?ms ?y0 ?y1 ?y2 ?y3 ?y4 ?b0 ?b1 ?b2 ?b3 ?b4;(case z0|z1|z2|z3|z4|z5|z6|z7|z8|z9|z10|z11|z12|z13|z14|z15|m0|m1|m2|m3|m4|m5|m6|m7|m8|m9|m10|ms|y0|y1|y2|y3|y4=>k_is);(case b0=>(refine' W2.VN ?tla ?to ?tq;(case tla=>k_is);(case to=>decide);(case tq=>(repeat(refine' W2.rgc ?ke ?kv ?_;(case ke=>rfl);(case kv=>(refine' W2.afW ?kl ?kc ?kd ?kz ?kw;(case kl=>k_is);(case kc|kd=>rfl);(case kz=>decide);(case kw=>repeat(first|exact .nil|refine .cons ⟨_,rfl⟩ ?_))))));exact trivial)));(case b1=>(refine' W2.VO ?tla ?to ?tq;(case tla=>k_is);(case to=>decide);(case tq=>(repeat(refine' W2.rgc ?ke ?kv ?_;(case ke=>rfl);(case kv=>exact⟨_,_,rfl,rfl⟩)));exact trivial)));(case b2|b3|b4=>(refine' W2.VM ?tla ?to ?tq;(case tla=>k_is);(case to=>decide);(case tq=>(repeat(refine' W2.rgc ?ke ?kv ?_;(case ke=>rfl);(case kv=>refine' W2.afV KX G ?ka;(case ka=>k_is))));exact trivial))));(case eF=>refine' W2.ZA ?l ?lN ?ke ?n1 ?n2 ?n3 ?n4 ?n5 ?h1 ?h2 ?h3 ?h4 ?lf ?cf ?A;(case l|lN|n1|n2|n3|n4|n5|h1|h2|h3|h4|lf=>k_is);(case cf|ke=>rfl);(case A=>(refine' W2.A4 (by decide) (λ_ _ _ _ _ _ _ _ _ _ _=>rfl) ?l ?c ?k;(case l|c|k=>k_is))))
