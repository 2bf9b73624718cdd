import PyProof.Rows.All
import Wide.All
import OpenK.AllK
import Wide.FinOn
import Lean
import PyProof.EqAt
import PyProof.EqKinds
import PyProof.TupleCall
import PySem.Challenge.RW_retrace_k12_whole_other_texts
set_option genSizeOf false
set_option compiler.extract_closed false
set_option bootstrap.genMatcherCode false
set_option Elab.async false
set_option linter.all false
set_option autoImplicit true
set_option maxHeartbeats 4000000
set_option maxRecDepth 100000
open PySem renaming Shared→a5,mainGlobals→bv,wpAny→a6,Program→bn,model→a8,World→a9,Around→bp,bootBuiltins→b',starEach→b5,FuncData→b7,behindInMarks→dg,foldedSetIterable→eo,attributeBase→dL,sysModules→db,DictEntry→cp,backTo→cc,assignEach→d0,noteFrame→dV,rawInt→ci,keywordEach→eA,Keyword→c9,Operator→d4,holding→dc,codeAny→dr,swapsWith→el
open PySem renaming wpAny_bind→ae,wpAny_pure→aH,wpAny_field→bU,wpAny_holding→c7,wpAny_passesOwn→c8,wpAny_callSpecial?_slot→dB,wpAny_mono→d7,wpAny_truthy_bool→eM,wpAny_Call_Name_kw→fE,wpAny_seqItems→fF,wpAny_setField→fG,wpAny_newObj_type→gb,call_meets→gB,wpAny_call_entry→gU,wpAny_setField_rec→iq,codeAny_builtin→iH,wpAny_execs_nil→iJ,mem_of_lookup→jS,wpAny_getItem_str_slice→kS,codeAny_mono→lR,strKind_is→mT,typeIs_str→mU,wpAny_rule→mV,wpAny_pyIter_tuple→qG,wpAny_pyIter_list→rW,wpAny_attempt→sg,wpAny_execs_cons→uw,wpAny_getItem_of→ux,wpAny_Call_method_late→vW,wpAny_call→vX,wpAny_typeOf→vY,post_val_or_str→wI,wpAny_isTrue_Compare1→xy,wpAny_updateSeq_pair→zD,plainId_quiet→CZ,wpAny_onRaise→C0,tupleKind_room_in1→Dn,wpAny_Constant_int→Dp,noFill_tuple_add→La,sizeLine_eq→Na,wpAny_BinOp→Nb,wpAny_of_eq→Nc,wpAny_newFunctionEnv_cells→Tf,seq_tuple_add→ZI,wpAny_standAt→ZJ,wpAny_pyNext_tuple_item→T1,concat_meets→ul,seqIndex_neg→sB,wpAny_pyNext_list_item→U1,codeAny_call_function→YO,wpAny_pyNext_list_end→V',codeAny_call_builtin→ZB,seqIndex_of→sZ,wpAny_letGo→we,wpAny_throw→wf,codeAny_forLoop_any→Ġ
open List renaming length_append→ah,length_map→ai,getElem?_eq_some_iff→aj,mem_cons_of_mem→ak,mem_cons_self→ao,length_cons→aq,getElem?_set_ne→aA,getElem?_eq_getElem→aE,all_eq_true→aG,mem_cons→aJ,getElem?_append_right→aK,mem_singleton→aL,append_assoc→aN,append_nil→aQ,map_append→aR,mem_append_right→aS,size_toArray→aW,getElem?_append_left→aY,mem_of_getElem?→aZ,mem_map→bf,mem_append→bt,all_cons→bC,getElem?_map→bP,length_eq_zero_iff→bQ,length_set→bT,map_cons→bV,length_take→bX,map_map→cq,forall_mem_cons→cw,mem_append_left→cx,length_replicate→cH,getElem?_set_self→cL,nodup_cons→cO,take_append_drop→cS,count_append→cU,length_range→dk,all_append→dy,getElem_mem→dY,length_nil→eO,mem_filter→eP,length_reverse→eV,length_drop→fh,nodup_append→f7,filter_cons_of_neg→gQ,filter_cons_of_pos→gR,getElem?_replicate→gS,take_length→gT,filter_append→ij,nodup_nil→jv,getElem_inj→jB,filterMap_cons→jR,getElem?_take_of_lt→j8,find?_cons→ku,forIn_cons→kx,nil_append→ky,map_id→kQ,all_map→lM,getElem_cons_drop→lN,reverse_cons→lO,cons_lt_cons_iff→mJ,cons_append→mP,filter_cons→mQ,lookup_cons→mR,count_le_length→nK,dropLast_concat→nL,mem_of_mem_take→nO,mem_filterMap→qC,mem_range→qD,any_eq_true→um,countP_cons→uo,take_of_length_le→vT,of_mem_zip→wG,getElem?_of_mem→zB,getElem?_range→A7,map_congr_left→A8,any_cons→CY,countP_append→Dk,set_set→FU,drop_length→K8,not_mem_nil→K9,count_cons→Nt,drop_zero→Ta,take_left→Td,length_erase_of_mem→ZE,map_take→ZF,getElem?_cons_succ→ğ,drop_eq_nil_of_le→Ī,filter_eq_nil_iff→U2,find?_cons_of_neg→U7,find?_cons_of_pos→OD,length_pos_of_mem→Ĭ,getElem?_eq_none→Tk,getElem?_toArray→LS,length_filter_le→Tv,mem_erase_of_ne→Nj,mem_iff_getElem→TD,map_eq_nil_iff→X_
open Nat renaming le_refl→au,le_trans→ay,eq_of_beq_eq_true→aP,lt_of_lt_of_le→bj,zero_le→bu,le_of_ble_eq_true→bx,ne_of_lt→bB,lt_succ_self→cK,lt_irrefl→dv,sub_self→eY,le_add_right→fi,not_lt_zero→fX,beq_refl→f9,beq_eq→jx,ne_of_gt→jD,ble_eq_true_of_le→mK,succ_le_succ→mS,mul_le_mul_right→zC,lt_of_le_of_lt→Dl,lt_succ_of_lt→FV,le_of_eq→su,le_of_lt→sy,le_of_succ_le_succ→YP,le_succ→nG
open PySem.Heap renaming get?_push_of_some→aw,lt_size→aT,get?_push_size→aV,get?_update_other→cb,get?_update_self→cR,size_push→jr
open Bool renaming false_ne_true→aD,and_eq_true→aM,eq_false_iff→bg,or_eq_true→bF,eq_iff_iff→cZ,or_false→gq,and_true→iM,and_false→lJ,false_bne→lK,beq_eq_decide_eq→mI,true_bne→nF,or_eq_false_iff→zA,true_and→CV,or_true→FT,false_and→SW
open Array renaming length_toList→aX,getElem?_eq_some_iff→fD,size_append→rQ,find?_toList→Dj,toList_inj→K7,getElem?_toList→Ę
open PySem.W renaming mg_of→bq,mg_none_of→bY,kia_one→cP,mapOf_K→kA,callWith_K→kB,cellsFrom_some→vV,plainGet_of→A9,callWith_K0→D',looks_subIn→RO
open Option renaming isSome_iff_exists→bN
open Ne renaming symm→cj
open PySem.F renaming plainAttrs_list→cV,slot_tuple_iterator_next→dJ,slot_dict_getitem→jM,slot_list_append→j9,type_list_append→kf,plainAttrs_str→lP,slot_str_split→lQ,args_tuple_iterator_next_1→oW,entry_tuple_iterator_next→pj,slot_list_getattribute→sd,args_str_split_2→se,args_tuple_add_2→sf,entry_str_split→ur,entry_tuple_add→uu,slot_tuple_add→vU,slot_zip_next→wD,slot_dict_update→ZG,slot_tuple_index→ZH,attr_ValueError→x4,plainAttrs_dict→FN,slot_list_count→w1,slot_list_index→Y_,slot_dict_get→B1,slot_list_pop→Qa,type_list_pop→U0
open PyProof.Rows renaming slot_tuple_getitem→cX,subscriptTail_builtinR→ik,gl_int→kC,callWith_type1→pk,vals1→rV,part_short→uq,take_snoc→uv,split_le→xv,strs_map→FX,Constant_none→ZD,entry_tuple_getitem→G2
open Option.some renaming inj→c0
open PySem.Obj renaming data_mapFields→dZ,isFreed_of_fields→iT
open PySem.Heap.SameBut renaming update→gO
open PySem.Calls renaming callWith_builtin→ig,evalArgs_plain→jq,Constant_str→qz,spliced_cons→qA,spliced_nil→rR,Name_function_global→SY
open Int renaming toNat_natCast→iV,ofNat_eq_natCast→nJ,emod_lt_of_pos→qB,le_refl→rS,emod_nonneg→wF,toNat_of_nonneg→Ĵ
open LawfulBEq renaming eq_of_beq→kR
open PySem.Around renaming under_plainId→nH
open PySem.Str renaming cps_append→qE
open PyProof.Rows.F renaming plain_set_update_loop→uk,entry_set_update_loop→K1
open PySem.PassesOwn renaming never→wH
open PySem.StrLaws renaming occ_length_le→xx
open PySem.Value renaming isStrOf_shape→Ba
open PySem.Txt renaming slice_le→FW
nonrec def Ù(s:Lean.Syntax)(p:String):Lean.Syntax:=((p.splitOn " ").foldl (fun t w=>let r:=(w.drop 1).toString
 match w.front with
 |'\''=>.atom .none r::t
 |'`'=>Lean.mkIdent r.toName::t
 |'@'=>r.toList.foldl (fun s c=>s[c.toNat-48]) s::t
 |'/'=>.node .none (Lean.Name.mkStr4 "Lean" "Parser" "Tactic" "tacticSeq") #[.node .none (Lean.Name.mkStr4 "Lean" "Parser" "Tactic" "tacticSeq1Indented") #[.node .none (.mkSimple "null") #[t.headD s]]]::t.drop 1
 |c=>let n:=c.toNat-48
  .node .none (if r==""then .mkSimple "null"else if r.front=='T'||r.front=='C'then ("Lean.Parser."++r).toName else r.toName) (t.take n).reverse.toArray::t.drop n) []).headD s
def o0:Lean.Syntax:=Ù .missing "'rfl 1Tactic.tacticRfl /"
def P3:Lean.Syntax:=Ù .missing "'decide 0 1Tactic.optConfig 2Tactic.decide /"
def gf:Lean.Syntax:=Ù .missing "'first '| 'exact '. `inl 2Term.dotIdent `rfl 1 2Term.app 2Tactic.exact / 2group '| 'exact '. `inr 2Term.dotIdent `rfl 1 2Term.app 2Tactic.exact / 2group '| 'assumption 1Tactic.assumption / 2group 3 2Tactic.first /"
def gA:Lean.Syntax:=Ù .missing "'decide '+ `kernel 2Tactic.posConfigItem 1Tactic.configItem 1 1Tactic.optConfig 2Tactic.decide /"
def eC:Lean.Syntax:=Ù .missing "'intro '_ 1Term.hole 1 2Tactic.intro '; 'rfl 1Tactic.tacticRfl 3 1Tactic.tacticSeq1Indented 1Tactic.tacticSeq"
open Option renaming some→O,none→aa
open Bool renaming true→J,false→af
open List renaming length→À,replicate→Ó,range→Û
open Nat renaming beq→Ë,ble→Í
open PySem.Builtin.Str renaming occurrences→ä,partsBetween→ÿ
open Exists renaming intro→Ô
open PySem renaming intText?→Ú,strKind→â,Const→ĕ,Within→ć
open PySem.Value renaming isStrOf→Ý,ref→Ö,none→Ü,bool→é,type→ñ
open PySem.Str renaming join→Ñ,ofString→ú
open PySem.Txt renaming split→Ø,slice→á,startswith→ð,join→ê
open And renaming intro→Õ
open PySem.Heap renaming SameBut→ã
open PySem.NameKind renaming free→å
open False renaming elim→ç
open ForInStep renaming yield→ò
open True renaming intro→è
open PySem.Obj renaming mapFields→ë,putSet→Ā
open PySem.Builtin.Slice renaming slicePlaces→Ĉ,sliceAdjust→Ĥ
open PySem.SetTable renaming grown→í
open PySem.PyData renaming keyHash→ì
open PySem.Data renaming noConfusion→ô
open PySem PySem.Spec PyProof.Rows
open PySem renaming Addr→Á,sizeLine→Â,Str→Ã,Value→Ä,Expr→Å,Stmt→È,Heap→É,eval→Ê,cLine→Ì,Scope→Ï,Pos→Ð,Env→à
open PySem.W renaming Frag→Æ
noncomputable section
def Ē:Lean.Syntax:=Ù .missing "'exact 'fun '_ 1Term.hole '_ 1Term.hole 2 0 '=> `rfl 4Term.basicFun 2Term.fun 2Tactic.exact /"
def ĩ:Lean.Syntax:=Ù .missing "'exact `Or.inl `rfl 1 2Term.app 2Tactic.exact /"
def Ķ4:Lean.Syntax:=Ù .missing "'first '| 'exact `Or.inl `rfl 1 2Term.app 2Tactic.exact / 2group '| 'exact `Or.inr `Or.inl `rfl 1 2Term.app 1 2Term.app 2Tactic.exact / 2group '| 'exact `Or.inr `Or.inr `rfl 1 2Term.app 1 2Term.app 2Tactic.exact / 2group 3 2Tactic.first /"
def õ:Lean.Syntax:=Ù .missing "'exact `jh '_ 1Term.hole 1 2Term.app 2Tactic.exact /"
nonrec def Ķ1(D L K T:List (String×String))(s:Lean.Syntax):Lean.Syntax:=match s with
 |.atom _ v=>.atom .none v
 |.ident _ r v p=>
  let o:=.ident .none r v p
  match v with
  |.str .anonymous x=>match D.lookup x with
   |.some y=>if y=="Prop"then Ù s "'Prop 1Term.prop"else Lean.mkIdent y.toName
   |_=>match L.lookup x with
    |.some y=>Ù s ("`List `"++y++" 1 2Term.app")
    |_=>o
  |_=>o
 |.node _ k a=>
  let s:Lean.Syntax:=.node .none k a
  match k with
  |.str _ x=>match T.lookup x with
   |.some y=>Ù s y
   |_=>
   if x=="tuple"&&!s[0].isAtom then if s[1].getNumArgs==0 then Ù s "'by 'lia 0 1Tactic.optConfig 2Tactic.lia / 2Term.byTactic"else Ù (Lean.mkNullNode (#[s[1][0],.atom .none ","]++s[1][2].getArgs)) "'⟨ @ '⟩ 3Term.anonymousCtor"
   else if x=="delta"&&s[1].getNumArgs<3 then Ù s "'unfold @1 @2 3Tactic.unfold"
   else if x=="ext"then if s[1].getNumArgs==0 then Ù s "'decide '+ `kernel 2Tactic.posConfigItem 1Tactic.configItem 1 1Tactic.optConfig 2Tactic.decide"else Ù (Lean.mkNullNode (s[1].getArgs.map fun p=>Ù p (if p[0][0].isIdent then "@00 1Lean.binderIdent"else "'_ 1Term.hole 1Lean.binderIdent"))) "'rename_i @ 2Tactic.renameI"
   else if x=="inductionAltLHS"then match K.lookup s[1][1].getId.toString with
    |.some y=>s.setArg 1 (s[1].setArg 1 (Lean.mkIdent (.mkSimple y)))
    |_=>s
   else if x=="tacticLet__"then
    let q:=s[2][0]
    if q[0][1].getNumArgs>0&&q[0].getNumArgs==3 then Ù (Lean.mkNullNode #[Lean.mkNullNode (q[0][1].getArgs.map fun y=>if y.isAtom then y else Ù y ((if y.isIdent then "@ 1Tactic.rcasesPat.one"else "'_ 1Tactic.rcasesPat.ignore")++" 1 1Tactic.rcasesPatMed 0 2Tactic.rcasesPatLo")),q[4]]) "'obtain '⟨ @0 '⟩ 3Tactic.rcasesPat.tuple 1 1Tactic.rcasesPatMed 1 0 ':= @1 1 2 4Tactic.obtain"
    else if q[2][0][1].getId==.mkSimple "Tx"then s else Ù s "'have @1 @2 3Tactic.tacticHave__"
   else s
  |_=>s
 |s=>s
nonrec def Ķ(s:Lean.Syntax):Lean.Syntax:=
 let z(a b c:String):=(a.splitOn " ").zip (b.splitOn c)
 let D:=z "Ł Ő Ń Î Þ ß ŧ æ ø Ŗ Ť Ă Đ" "List Option Nat Int Bool Prop False True autoParam rfl trivial absurd decide" " "
 let L:=z "ϑ ϐ Ϙ ϕ" "Pv Str Nat V" " "
 let K:=z "n s t f i k z v" "none some true false nil cons zero succ" " "
 let T:=z "tacticRwa__ tacticErw___ done left omission term∅ nofun term_<|>_ char" "'exact @1101 2Tactic.exact;'refine @2101 2Tactic.refine;'trivial 1Tactic.tacticTrivial;'simp_all 0 1Tactic.optConfig 0 0 0 5Tactic.simpAll;'by 'simp 0 1Tactic.optConfig 0 0 0 0 6Tactic.simp / 2Term.byTactic;'by 'decide '+ `kernel 2Tactic.posConfigItem 1Tactic.configItem 1 1Tactic.optConfig 2Tactic.decide / 2Term.byTactic;'by 'simp_all 0 1Tactic.optConfig 0 0 0 5Tactic.simpAll / 2Term.byTactic;'. `seq 2Term.dotIdent @0 @2 2 2Term.app;`yx `t `X 2 2Term.app" ";"
 s.rewriteBottomUp (Ķ1 D L K T)
local macro_rules(kind:=Lean.Parser.Command.declaration)|s=>do
 if s.getPos?.isNone then Lean.Macro.throwUnsupported
 let s:=Ķ s
 return if s[1].getKind==`Lean.Parser.Command.structure then Ù s "'set_option `genInjectivity 0 'false 4Command.set_option 'in @ 3Command.in"else if s[0][4].getNumArgs+s[0][6].getNumArgs==0&&(s[1].getKind==`Lean.Parser.Command.definition||s[1].getKind==`Lean.Parser.Command.abbrev)then s.setArg 0 (s[0].setArg 4 (Ù s "'noncomputable 1Command.noncomputable 1"))else s
local macro_rules(kind:=Lean.Parser.Command.mutual)|s=>if s.getPos?.isNone then Lean.Macro.throwUnsupported else return Ķ s
local macro_rules(kind:=Lean.Parser.Command.variable)|s=>if s.getPos?.isNone then Lean.Macro.throwUnsupported else return Ķ s
abbrev dH:=PySem.Value->PySem.Shared->ß
open PySem.Builtin.SmallTypes renaming nextOf→q0',ownedTupleHandOut→q1',ownedTupleIsFree→q2'
abbrev b4:=Ł (PySem.Addr×PySem.Obj)
abbrev b1:=PySem.Str->Ő PySem.Value
section
def aO:=@of_decide_eq_true
def bR:=@decide_eq_true
def cG:=@if_pos
def cI:=@beq_eq_false_iff_ne
def cY:=@congrArg
def dh:=@if_neg
def dP:=@decide_eq_false
def fj:=@beq_self_eq_true
def iW:=@decide_eq_true_eq
def qF:=@decide_eq_true_iff
def rT:=@if_true
def Bb:=@ne_true_of_eq_false
def Te:=@beq_iff_eq
end
open PySem.W(instObj Frag lookIn plainGet hasDictIn findIn handedIn isFn plainOver takerIn Looks makesIn typeIn emptyDict keepIn specialIn takesIn mroIn kitOne fnOf codeIn OpenLaw WalkO KeysLit excIn nsOkIn clsIn subIn KitX nsIn kitCls findObj kIn_of)
namespace L2
abbrev b6:=Sum Î Ã
def AK:b6->Ä->Þ|.inl k,v=>Value.isInt k v|.inr x,v=>Ý x v
def ű(w:a9):b6->Î|.inl k=>hashInt k|.inr x=>hashStr w x
def eR:∀{k:b6}{v:Ä},AK k v=J->(∃i t,k=Sum.inl i/\v=Value.int i t)\/∃x t,k=Sum.inr x/\v=Value.str x t|.inl i,v,h=>by let(t,e):=Value.isInt_shape h;rwa[.inl (i,t,Ŗ,e)]|.inr x,v,h=>by let(t,e):=Ba h;rwa[.inr (x,t,Ŗ,e)]
def L7(i:Î)(t:Tok):AK (.inl i) (.int i t)=true:=by simp[AK,Value.isInt]
def L8(x:Ã)(t:Tok):AK (.inr x) (.str x t)=true:=by simp[AK,Ý]
def Λ(a b:Î):Đ ((Sum.inl a:b6)=Sum.inl b)=(a==b):=by
 by_cases e:a=b;.subst e;simp
 .left
def Φ(a b:Ã):Đ ((Sum.inr a:b6)=Sum.inr b)=Đ (a=b):=⋯
def eU(prog:bn)(w:a9):PySem.KeyKind prog w b6 where
 is:=AK;hash:=ű w;inj:=λv a b d c=>by
  rcases eR d with ⟨i,t,rfl,rfl⟩|⟨x,t,rfl,rfl⟩
  .rcases eR c with ⟨j,u,rfl,e⟩|⟨y,u,rfl,e⟩;.injection e with E _;rw[E]
   .rwa[nomatch e]
  .rcases eR c with ⟨j,u,rfl,e⟩|⟨y,u,rfl,e⟩;.rwa[nomatch e]
   .injection e with E _;rw[E]
 byValue:=λk v h=>by rcases eR h with ⟨i,t,rfl,rfl⟩|⟨x,t,rfl,rfl⟩<;>rfl
 pyHash:=λH h=>by
  rcases eR H with ⟨i,t,rfl,rfl⟩|⟨x,t,rfl,rfl⟩;.rwa[wpAny_pyHash_int h]
  .rwa[wpAny_pyHash_str h]
 eqBool:=λhu H h=>by
  rcases eR hu with ⟨i,t,rfl,rfl⟩|⟨x,t,rfl,rfl⟩
  .rcases eR H with ⟨j,u,rfl,rfl⟩|⟨y,u,rfl,rfl⟩;.rw[Λ]at h;rwa[wpAny_eqBool_int h]
   .rwa[SeqAt.EqAt.int_str i t y u _ _ _ _ h]
  .rcases eR H with ⟨j,u,rfl,rfl⟩|⟨y,u,rfl,rfl⟩;.rwa[SeqAt.EqAt.str_int x t j u _ _ _ _ h]
   .rw[Φ]at h;rwa[wpAny_eqBool_str h]
 «strs»:=λk x t v h=>by
  rcases eR h with ⟨i,u,rfl,e⟩|⟨y,u,rfl,e⟩;.lia
  .injection e with E _;subst E;cases v<;>rfl
def vK(prog:bn)(w:a9)(i:Î)(t:Tok):(eU prog w).is (.inl i) (.int i t)=true:=L7 i t
def vM(prog:bn)(w:a9)(x:Ã)(t:Tok):(eU prog w).is (.inr x) (.str x t)=true:=L8 x t
inductive V where|gH|B(b:Þ)|I(i:Î)|S(x:Ã)|Ng(b:Array UInt8)|UQ(b:UInt64)|A(a:Á)|ty(n:String)deriving DecidableEq
def RelV:V->Ä->ß|.gH,u=>u=Ü|.B b,u=>u=é b|.I i,u=>∃t,u=Value.int i t|.S x,u=>∃t,u=Value.str x t|.Ng b,u=>∃t,u=Value.bytes b t|.UQ b,u=>∃t,u=Value.float b t|.A a,u=>u=Ö a|.ty n,u=>u=ñ n
abbrev Vals:ϕ->Ł Ä->ß:=Paired RelV
theorem Vals.length(r:Vals xs us):À xs=À us:=Paired.length r
theorem Vals.get:∀{xs:ϕ}{us:Ł _}{i:Ń}{x:V},Vals xs us->xs[i]?=O x->∃u,us[i]?=O u/\RelV x u|_,_,_,_,.nil,e=>by grind|_,_,0,_,.cons r _,e=>by grind|_,_,i+1,x,.cons _ t,e=>by let(u,H,h):=Vals.get t (by done);exact(u,by done,h)
theorem Vals.set(r:RelV x u):∀{xs:ϕ}{us:Ł _}(i:Ń),Vals xs us->Vals (xs.set i x) (us.set i u)|_,_,_,.nil=>.nil|_,_,0,.cons _ t=>.cons r t|_,_,i+1,.cons q t=>.cons q (Vals.set r i t)
def Vals.append:∀{xs ys:ϕ}{us ws:Ł _},Vals xs us->Vals ys ws->Vals (xs++ys) (us++ws):=by intro xs ys us ws a b;induction a with|i=>rwa[b]|k r t i=>rwa[.cons r i]
theorem Vals.take:∀{xs:ϕ}{us:Ł _}(n:Ń),Vals xs us->Vals (xs.take n) (us.take n)|_,_,0,_=>.nil|_,_,_+1,.nil=>.nil|_,_,n+1,.cons r t=>.cons r (Vals.take n t)
theorem Vals.drop:∀{xs:ϕ}{us:Ł _}(n:Ń),Vals xs us->Vals (xs.drop n) (us.drop n)|_,_,0,r=>r|_,_,_+1,.nil=>.nil|_,_,n+1,.cons _ t=>Vals.drop n t
def qZ:Ő V->Ő Ä->ß|O v,O u=>RelV v u|aa,aa=>æ|_,_=>ŧ
def KV{κ:Type}:Ł (κ×V)->Ł (κ×Ä)->ß:=Paired λp q=>p.1=q.1/\RelV p.2 q.2
def kV:b6->V|.inl i=>.I i|.inr x=>.S x
inductive HO where|L(xs:ϕ)|T(xs:ϕ)|dK(bI:Ł (b6×V))|dT(bI:Ł (Ł b6×V))|set(S:Î->Þ)(n:Ń)|ins(C dx:Á)(fs:Ł (Ã×V))|own(x:Á)|xd(fs:Ł (Ã×V))|met(f x:Á)|rng(lo hi:Î)|JA(o:Obj)(u:HO)|Zw(ps:Array Ä)|ext(φ:É->ß)
abbrev Hp:=Á->Ő HO
def upd(H:Hp)(a:Á)(o:HO):Hp:=λb=>if b=a then O o else H b
def bA:upd H a o a=O o:=by delta upd;rw[cG Ŗ]
def bJ(h:b≠a):upd H a o b=H b:=by delta upd;rw[dh h]
def bZ{H:Hp}(h:H a=O o)(c:H b=aa):a≠b:=()
section
variable(P:bn)(w:a9)
def iN(H:Hp)(h:É)(a:Á):HO->ß|.L X=>À X<=Â/\∃(b:Ł _)(n:Ń),Vals X b/\h.get? a=O {cls:=.type "list",data:=.seq b.toArray n}|.T X=>À X<=Â/\∃b:Ł _,Vals X b/\IsTup h a b.toArray|.dK B=>À B<=Â/\(a==db)=af/\∃s,KV B s/\h.DictOf (eU P w) a s|.dT B=>À B<=Â/\(a==db)=af/\∃X:Ł _,Paired (λp q=>p.1=q.1/\H q.2.1=O (.T (p.1.map kV))/\RelV p.2 q.2.2) B X/\∃o e E,h.get? a=O o/\o.ExactDict/\o.data=.dict e E/\e.toList=X.map (entryOfKey (tupleKind (eU P w)))/\(X.map (·.1)).Nodup|.set S n=>h.SetOf (intKind P w) a S n|.ins C d fs=>H d=O (.own a)/\À fs<=1000/\d≠a/\h.get? a=O (instObj C d)/\∃m,h.Ns1 d m/\(∀f,qZ (fs.lookup f) (m f))/\ć m (fs.map (·.1))|.own _=>∃o,h.get? a=O o|.xd fs=>∃m,h.Ns1 a m/\∀f,qZ (fs.lookup f) (m f)|.rng lo i=>∃t u v,h.get? a=O {cls:=.type "range",data:=.fields #[.int lo t,.int i u,.int 1 v]}|.JA o u=>h.get? a=O o/\iN H h a u|.Zw j=>h.get? a=O {cls:=.none,data:=.fields j}|.met f x=>h.get? a=O (PySem.W.methodObj (.ref f) (.ref x))|.ext φ=>φ h/\(∃o,h.get? a=O o)/\∀c g:É,φ c->(∀o,c.get? a=O o->g.get? a=O o)->φ g
def oO(H:Hp)(h:É):ß:=∀a o,H a=O o->iN P w H h a o
end
theorem iN.lt(x:iN P w H h a o):a<h.objs.size:=by cases o with|L X=>let(_,_,_,_,e):=x;rwa[aT e]|T X=>let(_,_,_,p):=x;rwa[p.lt]|dK b=>let(_,_,_,_,o,_,_,e,_):=x;rwa[aT e]|dT b=>let(_,_,_,_,o,_,_,e,_):=x;rwa[aT e]|set S n=>let(o,_,_,_,e,_):=x;rwa[aT e]|ins C d fs=>let(_,_,_,e,_):=x;rwa[aT e]|own y=>let(_,e):=x;rwa[aT e]|xd fs=>obtain⟨_,⟨_,_,_,e,_⟩,_⟩:=x;rwa[aT e]|rng lo i=>let(_,_,_,e):=x;rwa[aT e]|JA c u=>let(e,_):=x;rwa[aT e]|Zw s=>rwa[aT x]|met f y=>rwa[aT x]|ext φ=>obtain⟨_,⟨_,e⟩,_⟩:=x;rwa[aT e]
def Paired.ald:∀{l₁:Ł α}{l₂:Ł β},Paired F l₁ l₂->(∀a b,F a b->G a b)->Paired G l₁ l₂:=by intro l₁ l₂ h f;induction h with|i=>rwa[.nil]|k r t i=>rwa[.cons (f _ _ r) i]
def iN.CI(x:iN P w H h a o)(k:∀b u,b=a\/H b=O (.own a)->h.get? b=O u->h'.get? b=O u)(l:∀b,H b=O (.own a)->H' b=O (.own a))(s:∀b xs,H b=O (.T xs)->H' b=O (.T xs)):iN P w H' h' a o:=by induction o with|L xs=>let(z,B,n,r,e):=x;exact(z,B,n,r,k _ _ (.inl Ŗ) e)|T xs=>let(z,B,r,g,e,c):=x;exact(z,B,r,g,k _ _ (.inl Ŗ) e,c)|dK I=>let(z,y,A,r,g,E,i,e,c):=x;exact(z,y,A,r,g,E,i,k _ _ (.inl Ŗ) e,c)|dT I=>let(z,y,xs,r,g,E,i,e,c):=x;exact(z,y,xs,Paired.ald r λp q z=>(z.1,s _ _ z.2.1,z.2.2),g,E,i,k _ _ (.inl Ŗ) e,c)|set S n=>let(g,E,i,t,e,c):=x;exact(g,E,i,t,k _ _ (.inl Ŗ) e,c)|ins C G fs=>obtain⟨d,z,ne,e,m,⟨j,E,i,D,c⟩,r⟩:=x;exact(l _ d,z,ne,k _ _ (.inl Ŗ) e,m,(j,E,i,k _ _ (.inr d) D,c),r)|own y=>let(g,e):=x;exact(g,k _ _ (.inl Ŗ) e)|xd fs=>obtain⟨m,⟨j,E,i,e,c⟩,r⟩:=x;exact(m,(j,E,i,k _ _ (.inl Ŗ) e,c),r)|rng lo K=>let(t,u,v,e):=x;exact(t,u,v,k _ _ (.inl Ŗ) e)|JA g u F=>let(e,q):=x;exact(k _ _ (.inl Ŗ) e,F q)|Zw M=>let e:=x;rwa[k a _ (.inl Ŗ) e]|met f y=>rwa[k a _ (.inl Ŗ) x]|ext φ=>obtain⟨p,⟨o,e⟩,st⟩:=x;exact(st _ _ p λo q=>k _ _ (.inl Ŗ) q,(o,k _ _ (.inl Ŗ) e),st)
theorem oO.lt(x:oO P w H h)(e:H a=O o):a<h.objs.size:=(x a o e).lt
def oO.fresh{a:Á}(x:oO P w H h)(e:h.objs.size<=a):H a=none:=by cases q:H a with|n=>rfl|s u=>rwa[Ă (bj (x.lt q) e) (dv _)]
def oO.kept(x:oO P w H h)(k:∀b u,h.get? b=O u->h'.get? b=O u):oO P w H h':=λa o e=>(x a o e).CI (λb u _ q=>k b u q) (λ_ q=>q) λ_ _ q=>q
def oO.laid{a:Á}(x:oO P w H h)(k:∀b u,h.get? b=O u->h'.get? b=O u)(p:h.objs.size<=a)(new:iN P w (upd H a o) h' a o):oO P w (upd H a o) h':=λb u e=>by
 let hn:=x.fresh p;by_cases d:b=a;.subst d;rw[bA]at e;cases e;rwa[new]
 .rw[bJ d]at e;exact(x b u e).CI (λc v _ q=>k c v q) (λc q=>by rw[bJ (bZ q hn)];rwa[q]) λc X q=>by rw[bJ (bZ q hn)];rwa[q]
def Rd(H:Hp)(a:Á)(u:HO):ß:=H a=O u\/∃o,H a=O (.JA o u)
def Rd.ok{H:Hp}{h:É}{a:Á}{u:HO}(r:Rd H a u)(x:oO P w H h):iN P w H h a u:=by
 rcases r with r|⟨o,r⟩;.rwa[x a u r]
 .let(_,q):=x a _ r;rwa[q]
def hA:Ő HO->ß|O (.L _)=>æ|O (.dK _)=>æ|O (.dT _)=>æ|O (.set _ _)=>æ|O (.ins _ _ _)=>æ|O (.ext _)=>æ|_=>ŧ
def oO.write(ok:oO P w H h)(m:hA (H x))(g:e=x\/H e=O (.own x))(k:∀b u,b≠e->h.get? b=O u->h'.get? b=O u)(o:∃u,h'.get? e=O u)(new:iN P w (upd H x o') h' x o'):oO P w (upd H x o') h':=λb u q=>by
 let A:∀c y,H c=O (.own y)->c≠x:=λc y r z=>by subst z;rw[r]at m;rwa[m]
 by_cases d:b=x;.subst d;rw[bA]at q;cases q;rwa[new]
 .rw[bJ d]at q;by_cases a:b=e
  .let Q:H b=O (.own x):=by
    rcases g with z|z;.rwa[Ă (a.trans z) d]
    .rw[a];rwa[z]
   rw[q]at Q;cases Q;let(v,i):=o;exact(v,by rw[a];rwa[i])
  .erw[(ok b u q).CI (λc v f r=>k c v ?_ r) (λc r=>by rw[bJ (A c b r)];rwa[r]) λc X r=>by rw[bJ ((λc X r z=>by subst z;rw[r]at m;rwa[m]) c X r)];rwa[r]]
   rcases f with rfl|f;.done
   .rintro rfl;rcases g with z|z;.rwa[A c b f z]
    .lia
structure Un(fs ex:Ł Á)(H H':Hp)(h h':É):ß where
 keep:∀b o,h.get? b=O o->H b=aa->b∉fs->b∉ex->h'.get? b=O o
 slot:∀b o,h.get? b=O o->H b=aa->b∈fs->b∉ex->∃sl,h'.get? b=O {o with slots:=sl}free:∀b o,h.get? b=O o->H b=aa->b∉ex->H' b=aa
 there:∀b o,h.get? b=O o->b∉ex->∃o',h'.get? b=O o'
 ue:∀b xs,H b=O (.T xs)->H' b=O (.T xs)rq:∀b o u,H b=O (.JA o u)->H' b=O (.JA o u)ua:∀b ps,H b=O (.Zw ps)->∃more,H' b=O (.Zw (ps++more))
def Un.any(u:Un fs ex H H1 h h1)(q:h.get? b=O c)(n:H b=aa)(d:b∉ex):∃sl,h1.get? b=O {c with slots:=sl}:=by
 by_cases f:b∈fs;.rwa[u.slot b c q n f d]
 .exact(_,u.keep b c q n f d)
def Un.kept(k:∀b u,h.get? b=O u->h'.get? b=O u):Un fs ex H H h h':=(λb c q _ _ _=>k b c q,λb c q _ _ _=>(_,k b c q),λ_ _ _ n _=>n,λb c q _=>(c,k b c q),λ_ _ q=>q,λ_ _ _ q=>q,λ_ p q=>(#[],by done))
def Un.refl:Un fs ex H H h h:=Un.kept λ_ _ q=>q
def Un.laid{h:É}{a:Á}(k:∀b u,h.get? b=O u->h'.get? b=O u)(p:h.objs.size<=a)(hn:H a=aa):Un fs ex H (upd H a o) h h' where
 keep:=λb u q _ _ _=>k b u q;slot:=λb u q _ _ _=>(_,k b u q);free:=λb u q n _=>by rw[bJ (bB (bj (aT q) p))];rwa[n]
 there:=λb u q _=>(u,k b u q);ue:=λb X q=>by rw[bJ (bZ q hn)];rwa[q]
 rq:=λb u X q=>by rw[bJ (bZ q hn)];rwa[q]
 ua:=λb P q=>(#[],by rw[bJ (bZ q hn),q];simp)
def Un.write(M:hA (H x))(i:e=x\/H e=O (.own x))(k:∀b u,b≠e->h.get? b=O u->h'.get? b=O u)(f:∃u,h'.get? e=O u):Un fs ex H (upd H x o) h h':=by
 let g:∀b,H b=aa->b≠x:=λb n z=>by subst z;rw[n]at M;rwa[M]
 let d:∀b,H b=aa->b≠e:=λb n z=>nofun
 let m:∀b u,H b=O u->¬hA (O u)->b≠x:=λb u q N z=>nofun
 erw[(λb u q n _ _=>k b u (d b n) q,λb u q n _ _=>(_,k b u (d b n) q),λb u q n _=>by rw[bJ (g b n)];rwa[n],λb u q _=>?_,λb X q=>by rw[bJ (m b _ q λz=>z)];rwa[q],λb u X q=>by rw[bJ (m b _ q λz=>z)];rwa[q],λb p q=>(#[],by rw[bJ (m b _ q λz=>z),q];simp))];by_cases c:b=e;.left
 .exact(u,k b u c q)
def Ś(h:É)(H:Hp):Ł Á:=(Û h.objs.size).filter λa=>(H a).isSome
def BZ(h:É)(H:Hp):É:=PySem.W.hideAll h (Ś h H)
def LU(h:É)(H:Hp):(BZ h H).objs.size=h.objs.size:=PySem.W.hideAll_size _ _
def OE(e:h.get? b=O o)(n:H b=aa):(BZ h H).get? b=O o:=PySem.W.hideAll_get _ e λm=>by let q:=(eP.mp m).2;rw[n]at q;simp at q
def Wq(e:(BZ h H).get? b=O o):h.get? b=O o/\H b=none:=by let E:=PySem.W.of_hideAll _ e;erw[(E,?_)];cases q:H b with|n=>rfl|s x=>let z:(BZ h H).get? b=none:=PySem.W.hideAll_none _ (eP.mpr (qD.mpr (aT E),by simp[q]));rw[z]at e;cases e
structure Mod(K:Æ)(mg:b1)(base:É):ß where
 SM:K.In base
 glob:base.Ns bv mg
 blt:∃mb,base.Ns builtinsNs mb/\∀x:Ã,x≠"__name__"->mb x=b' x
 nolimit:base.NoLimit
structure Cx where
 prog:bn
 w:a9
 K:Æ
 mg:b1
 base:É
 A:bp
 N:ϐ
 s₀:a5
 H₀:Hp
 env:à
 outer:Ł à
 stack:Ł à
 ex:Ł Á
 fn:Ã->Þ
 calm:Þ
 pn:b4
 xe:dH
def vt(l:Ł à):Ł Á:=l.filterMap (·.frame)
abbrev Cx.fs(X:Cx):Ł Á:=vt X.outer
def l7(s:Ï)(x:Ã):ß:=s.names.lookup x=O .local\/s.names.lookup x=O .cell\/s.names.lookup x=O .free
def Loc(s:Ï)(x:Ã):ß:=s.names.lookup x=O .local\/s.names.lookup x=O .cell
def ajd(env:à)(h:É)(m:b1)(x:Ã)(u:Ä):ß:=env.kindOf x=O .local/\m x=O u\/(env.kindOf x=O .cell\/env.kindOf x=O .free)/\∃c,env.cells.lookup x=O c/\h.IsCell c (O u)
structure Cx.Ok(X:Cx):ß where
 mod:Mod X.K X.mg X.base
 kind:X.env.scope.kind=.function
 glob:X.env.globals=bv
 blt:X.env.builtins=builtinsNs
 above:X.s₀.heap.objs.size<=X.env.locals
 inj:∀x y c,X.env.cells.lookup x=O c->X.env.cells.lookup y=O c->x=y
 has:∀x,X.env.kindOf x=O .cell\/X.env.kindOf x=O .free->∃c,X.env.cells.lookup x=O c
 SD:∀x c,X.fn x=J->X.env.cells.lookup x=O c->X.s₀.heap.objs.size<=c
 hd:X.calm=J->X.A.handled=aa
 frames:X.A.frames=O X.stack
 XI:X.stack=X.outer\/(X.stack=X.env::X.outer/\X.env.frame=O X.env.locals)UM:∀b∈X.ex,b≠X.env.locals/\∀x c,X.env.cells.lookup x=O c->c≠b
 bs:∀b o,X.base.get? b=O o->X.s₀.heap.get? b=O o/\X.H₀ b=aa
 FL:X.base.objs.size<=X.s₀.heap.objs.size
 yz:∀b o,X.base.get? b=O o->b∉X.ex
 zN:∀b∈X.ex,b∉X.fs
 mx:X.s₀.heap.FunFrames X.base X.outer
 LP:∀b∈X.fs,X.H₀ b=aa
structure Inv(X:Cx)(am:b4)(σ:Ł (Ő V))(H:Hp)(s:a5):ß where
 ok:X.Ok
 os:s.os=X.s₀.os
 bare:AllBare s.gens
 base:Un X.fs X.ex X.H₀ H X.s₀.heap s.heap
 loc:∃m,s.heap.Ns X.env.locals m/\∀(i:Ń)(x:Ã)(v:V),X.N[i]?=O x->σ[i]?=O (O v)->l7 X.env.scope x->∃u,RelV v u/\ajd X.env s.heap m x u
 cell:∀x c,X.env.cells.lookup x=O c->∃v,s.heap.IsCell c v
 free:H X.env.locals=aa
 jd:∀x c,X.env.cells.lookup x=O c->H c=aa
 pin:∀p∈X.pn++am,s.heap.get? p.1=O p.2/\H p.1=aa/\p.1≠X.env.locals/\p.1∉X.fs/\∀v,p.2.data≠.cell v
 di:oO X.prog X.w H s.heap
 len:À σ=À X.N
def Cx.Ok.alo{X:Cx}(ok:X.Ok)(e:X.base.get? b=O o):b∉X.fs:=λh=>by let:=(ok.mx.mem h).1;rw[e]at this;cases this
theorem Inv.bs(I:Inv X am σ H s):∀b o,X.base.get? b=O o->s.heap.get? b=O o/\H b=none:=λb o e=>(I.base.keep b o (I.ok.bs b o e).1 (I.ok.bs b o e).2 (I.ok.alo e) (I.ok.yz b o e),I.base.free b o (I.ok.bs b o e).1 (I.ok.bs b o e).2 (I.ok.yz b o e))
def Inv.bk(I:Inv X am σ H s):∀b o,X.base.get? b=O o->s.heap.get? b=O o:=λb o e=>(I.bs b o e).1
theorem Inv.mod(I:Inv X am σ H s):Mod X.K X.mg X.base:=I.ok.mod
def Inv.oR(I:Inv X am σ H s):X.K.In s.heap:=I.ok.mod.SM.keeps I.bk
theorem Inv.lt(I:Inv X am σ H s):X.env.locals<s.heap.objs.size:=let (_,hn,_):=I.loc;hn.lt
def Inv.sz(I:Inv X am σ H s):X.s₀.heap.objs.size<=s.heap.objs.size:=ay I.ok.above (sy I.lt)
def Inv.alp(I:Inv X am σ H s){a:Á}(h:s.heap.objs.size<=a):a∉X.fs:=λb=>by let(_,o,c,_):=I.ok.mx.mem b;rwa[Ă (bj (aT c) (ay I.sz h)) (dv _)]
def Inv.Ug(I:Inv X am σ H s):∀x c,X.env.cells.lookup x=O c->c≠X.env.locals:=λx c e z=>by let(v,o,h,d):=I.cell x c e;obtain⟨m,⟨a,E,p,N,n,_⟩,_⟩:=I.loc;rw[z,N]at h;cases h;rw[n]at d;cases d
theorem Inv.mx(I:Inv X am σ H s):s.heap.FunFrames X.base X.outer:=by
 let all:∀(l:Ł à),(∀b∈vt l,b∈X.fs)->X.s₀.heap.FunFrames X.base l->s.heap.FunFrames X.base l:=by intro l;induction l with|i=>intro _ _;done|k E r i=>intro c d;obtain⟨k,⟨L,o,h,hn,f,g⟩,j⟩:=d;let hL:=c L (by delta vt;rw[jR,h];rwa[ao]);let(sl,e):=I.base.slot L o f (I.ok.LP L hL) hL λz=>I.ok.zN L z hL;exact(k,(L,_,h,hn,e,g),i (λb a=>c b (by delta vt;rw[jR,h];rwa[ak _ a])) j)
 rwa[all _ (λ_ a=>a) I.ok.mx]
theorem Inv.stack(I:Inv X am σ H s):s.heap.FunFrames X.base X.stack:=by
 rcases I.ok.XI with e|⟨e,h⟩;.rw[e];rwa[I.mx]
 .rw[e];let(m,hn,_):=I.loc;rwa[.cons (by rw[I.ok.kind];decide) h hn (Heap.get?_none_of_le (ay I.ok.FL I.ok.above)) I.mx]
def Inv.CK(I:Inv X am σ H s):∀b∈vt X.stack,b∈X.env.locals::X.fs:=λb h=>by
 rcases I.ok.XI with e|⟨e,f⟩;.rw[e]at h;rwa[ak _ h]
 .rw[e]at h;delta vt at h;rw[jR,f]at h;rwa[h]
def Inv.tW(I:Inv X am σ H s):∀b∈vt X.stack,H b=none:=λb h=>by
 rcases aJ.mp (I.CK b h)with e|h;.rw[e];rwa[I.free]
 .let(_,o,a,_):=I.ok.mx.mem h;rwa[I.base.free b o a (I.ok.LP b h) λz=>I.ok.zN b z h]
def Inv.step{ch:Ł _}(I:Inv X am σ H s)(S:∀b∈ch,(b∈X.ex\/X.s₀.heap.objs.size<=b)/\b≠X.env.locals/\(∀x c,X.env.cells.lookup x=O c->c≠b)/\∀p∈X.pn++am,p.1≠b)(keep:∀b o,b≠X.env.locals->b∉X.fs->b∉ch->s.heap.get? b=O o->H b=aa->h'.get? b=O o)(slot:∀b o,b≠X.env.locals->b∈X.fs->b∉ch->s.heap.get? b=O o->H b=aa->∃sl,h'.get? b=O {o with slots:=sl})(f:∀b o,b∉ch->s.heap.get? b=O o->H b=aa->H' b=aa)(there:∀b o,b∉ch->s.heap.get? b=O o->∃o',h'.get? b=O o')(U:∀b xs,H b=O (.T xs)->H' b=O (.T xs))(R:∀b o u,H b=O (.JA o u)->H' b=O (.JA o u))(F:∀b ps,H b=O (.Zw ps)->∃M,H' b=O (.Zw (ps++M)))(G:∀m,s.heap.Ns X.env.locals m->h'.Ns X.env.locals m)(K:oO X.prog X.w H' h')(P:AllBare g'):Inv X am σ H' {s with heap:=h',gens:=g',drawn:=d',toks:=t'}:=by
 let L:∀b o,X.s₀.heap.get? b=O o->b≠X.env.locals:=λb o e=>bB (bj (aT e) I.ok.above);let Y:∀b o,X.s₀.heap.get? b=O o->b∉X.ex->b∉ch:=λb o e h a=>by
  rcases(S b a).1 with z|z;.rwa[h z]
  .rwa[Ă (bj (aT e) z) (dv _)]
 let C:∀x c,X.env.cells.lookup x=O c->∀v,s.heap.IsCell c v->h'.IsCell c v:=λx c e v Z=>by
  let(o,g,t):=Z;let N:=λz=>(S c z).2.2.1 x c e Ŗ;by_cases A:c∈X.fs;.let(sl,q):=slot c o (I.Ug x c e) A N g (I.jd x c e);exact(_,q,t)
  .exact(o,keep c o (I.Ug x c e) A N g (I.jd x c e),t)
 erw[(I.ok,I.os,P,(λb o e n a h=>keep b o (L b o e) a (Y b o e h) (I.base.keep b o e n a h) (I.base.free b o e n h),λb o e n a h=>?_,λb o e n h=>?_,λb o e h=>?_,λb xs e=>U b xs (I.base.ue b xs e),λb o xs e=>R b o xs (I.base.rq b o xs e),λb ps e=>?_),?_,λx c e=>?_,?_,λx c e=>?_,λp B=>?_,K,I.len)];.let(sl,E):=I.base.slot b o e n a h;let(y,j):=slot b _ (L b o e) a (Y b o e h) E (I.base.free b o e n h);exact(y,j)
 .let(o',E):=I.base.there b o e h;rwa[f b o' (Y b o e h) E (I.base.free b o e n h)]
 .let(o',E):=I.base.there b o e h;rwa[there b o' (Y b o e h) E]
 .let(m1,E):=I.base.ua b ps e;let(m2,j):=F b _ E;exact(_,by rw[j,Array.append_assoc])
 .let(m,hn,Q):=I.loc;erw[(m,G m hn,λi x v E j W=>?_)];let(u,r,l):=Q i x v E j W;erw[(u,r,?_)];rcases l with l|⟨k,c,e,z⟩;.rwa[.inl l]
  .rwa[.inr (k,c,e,C x c e _ z)]
 .let(v,z):=I.cell x c e;exact(v,C x c e v z)
 .obtain⟨m,⟨o,_,_,g,_⟩,_⟩:=I.loc;rwa[f _ o (λz=>(S _ z).2.1 Ŗ) g I.free]
 .let(v,o,g,t):=I.cell x c e;rwa[f c o (λz=>(S c z).2.2.1 x c e Ŗ) g (I.jd x c e)]
 .let(e,n,ne,D,d):=I.pin p B;let N:=λz=>(S p.1 z).2.2.2 p B Ŗ;exact(keep p.1 p.2 ne D N e n,f p.1 p.2 N e n,ne,D,d)
def Inv.un(I:Inv X am σ H s)(u:Un X.fs [] H H' s.heap h')(d:oO X.prog X.w H' h'):Inv X am σ H' {s with heap:=h',toks:=t'}:=by obtain⟨m,⟨o,g,p,a,r⟩,_⟩:=id I.loc;let(sl,L):=u.any a I.free ⋯;rwa[I.step (ch:=[]) (λ_ z=>nomatch z) (λb o _ h _ e n=>u.keep b o e n h ⋯) (λb o _ h _ e n=>u.slot b o e n h ⋯) (λb o _ e n=>u.free b o e n ⋯) (λb o _ e=>u.there b o e ⋯) u.ue u.rq u.ua (λM c=>by let(i,f,E,N,R):=c;rw[a]at N;cases N;exact(_,f,E,L,R)) d I.bare]
def Inv.call(I:Inv X am σ H s)(u:Un (vt X.stack) ch H H' s.heap h')(d:oO X.prog X.w H' h')(g:AllBare g')(S:∀b∈ch,(b∈X.ex\/X.s₀.heap.objs.size<=b)/\b≠X.env.locals/\(∀x c,X.env.cells.lookup x=O c->c≠b)/\∀p∈X.pn++am,p.1≠b):Inv X am σ H' {s with heap:=h',gens:=g',drawn:=d',toks:=t'}:=by obtain⟨m,⟨o,k,l,a,r⟩,_⟩:=id I.loc;let(sl,L):=u.any a I.free λz=>(S _ z).2.1 Ŗ;rwa[I.step S (λb o L f h e n=>u.keep b o e n (λz=>(aJ.mp (I.CK b z)).elim L f) h) (λb o _ _ h e n=>u.any e n h) (λb o h e n=>u.free b o e n h) (λb o h e=>u.there b o e h) u.ue u.rq u.ua (λM i=>by let(q,j,E,N,R):=i;rw[a]at N;cases N;exact(_,j,E,L,R)) d g]
def Inv.turned(I:Inv X am σ H s)(k:∀b o,b≠it->s.heap.get? b=O o->h'.get? b=O o)(hn:H it=aa)(L:it≠X.env.locals)(a:it∈X.ex\/X.s₀.heap.objs.size<=it)(d:∀x c,X.env.cells.lookup x=O c->c≠it)(f:∀p∈X.pn++am,p.1≠it):Inv X am σ H {s with heap:=h',toks:=t'}:=by
 let N:∀b u,H b=O u->b≠it:=λb u e z=>()
 erw[I.step (ch:=[it]) (λb g=>?_) (λb o _ _ h e _=>k b o (λz=>h (by simp[z])) e) (λb o _ _ h e _=>(_,k b o (λz=>h (by simp[z])) e)) (λ_ _ _ _ n=>n) (λb o h e=>(o,k b o (λz=>h (by simp[z])) e)) (λ_ _ e=>e) (λ_ _ _ e=>e) (λb P e=>(#[],by done)) (λm i=>?_) (λb u e=>?_) I.bare]
 .let e:=by simpa using g
  subst e;exact(a,L,d,f)
 .let(o,E,j,l,r):=i;exact(o,E,j,k _ o (cj L) l,r)
 .erw[(I.di b u e).CI (λc v h q=>k c v ?_ q) (λ_ q=>q) λ_ _ q=>q];rcases h with z|z;.rw[z];rwa[N b u e]
  .rwa[N c _ z]
def Inv.tok(I:Inv X am σ H s)(t:Ń):Inv X am σ H {s with toks:=t}:=I.un Un.refl I.di
theorem Inv.kept(I:Inv X am σ H s)(k:∀b u,s.heap.get? b=O u->h'.get? b=O u):Inv X am σ H {s with heap:=h',toks:=t'}:=I.un (Un.kept k) (I.di.kept k)
theorem Inv.laid{a:Á}(I:Inv X am σ H s)(k:∀b u,s.heap.get? b=O u->h'.get? b=O u)(h:s.heap.objs.size<=a)(new:iN X.prog X.w (upd H a o) h' a o):Inv X am σ (upd H a o) {s with heap:=h',toks:=t'}:=I.un (Un.laid k h (I.di.fresh h)) (I.di.laid k h new)
theorem Inv.write(I:Inv X am σ H s)(m:hA (H x))(a:e=x\/H e=O (.own x))(k:∀b u,b≠e->s.heap.get? b=O u->h'.get? b=O u)(h:∃u,h'.get? e=O u)(new:iN X.prog X.w (upd H x o) h' x o):Inv X am σ (upd H x o) {s with heap:=h',toks:=t'}:=I.un (Un.write m a k h) (I.di.write m a k h new)
def Inv.Cr{Q:Ł _}(I:Inv X am σ H s)(h:∀p∈Q,s.heap.get? p.1=O p.2/\H p.1=aa/\p.1≠X.env.locals/\p.1∉X.fs/\∀v,p.2.data≠.cell v):Inv X Q σ H s:=(I.ok,I.os,I.bare,I.base,I.loc,I.cell,I.free,I.jd,λp a=>(bt.mp a).elim (λz=>I.pin p (cx _ z)) (h p),I.di,I.len)
def yy{N:ϐ}(h:N.Nodup){j:Ń}(a:N[i]?=O x)(b:N[j]?=O x):i=j:=by let(c,e):=aj.mp a;let(d,E):=aj.mp b;exact(jB h).mp (e.trans E.symm)
def MU{E:dH}(I:Inv X am σ H s)(hN:X.N.Nodup)(L:X.N[i]?=O x)(B:Loc X.env.scope x)(r:RelV v u)(h:∀s',Inv X am (σ.set i (O v)) H s'->(∃a,ã a s.heap s'.heap/\(a=X.env.locals\/X.env.cells.lookup x=O a))->Q ⟨⟩ s')(hf:ø (X.fn x=J\/X.env.scope.names.lookup x=O .local) gf):a6 M A (storeName X.env x u) Q E s:=by
 let(m,hn,hl):=id I.loc;let T:(X.env.scope.kind==.class||X.env.scope.kind==.module&&X.env.locals !=X.env.globals)=false:=by rw[I.ok.kind];rfl
 let P:i<À σ:=by rw[I.len];exact(aj.mp L).1
 let Ug:=I.Ug;let t:∀{a:Á}{h':É},(∃o,s.heap.get? a=O o/\H a=aa)->ã a s.heap h'->oO X.prog X.w H h':=λ{a h'}ha f b ob e=>by
  let(_,_,Ek):=ha;erw[(I.di b ob e).CI (λc W l q=>(f.2 c ?_).trans q) (λ_ q=>q) λ_ _ q=>q];rintro rfl;rcases l with rfl|l;.rw[Ek]at e;cases e
  .rw[Ek]at l;cases l
 rcases B with K|K
 .erw[wpAny_storeName_local K hn (λh' U f=>?_) T];let(oL,_,_,Y,_):=id hn;erw[h _ (I.ok,I.os,I.bare,(λb o e n D B=>?_,λb o e n D B=>?_,I.base.free,λb o e B=>?_,I.base.ue,I.base.rq,I.base.ua),(_,U,λj y Z g C e3=>?_),λy c e=>?_,I.free,I.jd,λp hp=>?_,t (oL,Y,I.free) f,by simpa using I.len) (_,f,.inl Ŗ)];.exact(f.2 b (bB (bj (aT e) I.ok.above))).trans (I.base.keep b o e n D B)
  .let(sl,g):=I.base.slot b o e n D B;exact(sl,(f.2 b (bB (bj (aT e) I.ok.above))).trans g)
  .let(o',g):=I.base.there b o e B;exact(o',(f.2 b (bB (bj (aT e) I.ok.above))).trans g)
  .by_cases F:j=i;.subst F;rw[L]at g;cases g;rw[cL P]at C;cases C;exact(u,r,.inl (K,⋯))
   .rw[aA (cj F)]at C;let(u',r',q):=hl j y Z g C e3;erw[(u',r',?_)];rcases q with ⟨k,e⟩|⟨k,c,e,z⟩;.erw[.inl (k,?_)];let:y≠x:=λe=>F (yy hN g (e▸L));simp[this,e]
    .rwa[.inr (k,c,e,z.sameBut f (Ug y c e))]
  .let(W,z):=I.cell y c e;exact(W,z.sameBut f (Ug y c e))
  .let(e,n,ne,nf,d):=I.pin p hp;exact((f.2 p.1 ne).trans e,n,ne,nf,d)
 .let G:X.fn x=true:=nofun
  let(c,l):=I.ok.has x (.inl K);let(W,z):=I.cell x c l;erw[wpAny_storeName_cell I.ok.kind K l z λh' U8 f=>?_];let(oc,P',akC):=id z;erw[h _ (I.ok,I.os,I.bare,(λb o e n D B=>(f.2 b (bB (bj (aT e) (I.ok.SD x c G l)))).trans (I.base.keep b o e n D B),λb o e n D B=>?_,I.base.free,λb o e B=>?_,I.base.ue,I.base.rq,I.base.ua),(m,hn.sameBut f (cj (Ug x c l)),λj y Z g C e3=>?_),λy S e=>?_,I.free,I.jd,λp hp=>?_,t (oc,P',I.jd x c l) f,by simpa using I.len) (c,f,.inr l)];.let(sl,g):=I.base.slot b o e n D B;exact(sl,(f.2 b (bB (bj (aT e) (I.ok.SD x c G l)))).trans g)
  .let(o',g):=I.base.there b o e B;exact(o',(f.2 b (bB (bj (aT e) (I.ok.SD x c G l)))).trans g)
  .by_cases F:j=i;.subst F;rw[L]at g;cases g;rw[cL P]at C;cases C;exact(u,r,.inr (.inl K,c,l,U8))
   .rw[aA (cj F)]at C;let(u',r',q):=hl j y Z g C e3;erw[(u',r',?_)];rcases q with q|⟨k,S,e,z'⟩;.rwa[.inl q]
    .erw[.inr (k,S,e,z'.sameBut f ?_)];rintro rfl;rwa[F (yy hN g (I.ok.inj _ _ _ e l▸L))]
  .by_cases R:S=c;.subst R;exact(_,U8)
   .let(w2,z2):=I.cell y S e;exact(w2,z2.sameBut f R)
  .let(e,n,ne,nf,d):=I.pin p hp;erw[((f.2 p.1 ?_).trans e,n,ne,nf,d)];intro q;rw[q,P']at e;rwa[d W (by rw[<-c0 e];rwa[akC])]
def tX{E:dH}(I:Inv X am σ H s)(a:X.N.Nodup)(b:X.N[i]?=O x)(c:Loc X.env.scope x)(r:RelV v u)(h:∀s',Inv X am (σ.set i (O v)) H s'->Q ⟨⟩ s')(f:ø (X.fn x=J\/X.env.scope.names.lookup x=O .local) gf):a6 M A (storeName X.env x u) Q E s:=MU I a b c r (λs' d _=>h s' d) f
def Inv.IZ(I:Inv X am σ H s)(h:s'.os=s.os)(u:Un (vt X.stack) ch H H' s.heap s'.heap)(d:oO X.prog X.w H' s'.heap)(g:AllBare s'.gens)(S:∀b∈ch,(b∈X.ex\/X.s₀.heap.objs.size<=b)/\b≠X.env.locals/\(∀x c,X.env.cells.lookup x=O c->c≠b)/\∀p∈X.pn++am,p.1≠b):Inv X am σ H' s':=by let(h',G,D,t,o):=s';subst h;rwa[I.call u d g S]
abbrev XK:=Ä->Ő Á->Hp->ß
abbrev Ç:=Ł (Ő V)
abbrev VK:=V->Hp->ß
abbrev TE:=Ç->Hp->VK->ß
abbrev TT:=Ç->Hp->(Þ->Hp->ß)->ß
abbrev TA:=Ç->Hp->(ϕ->Hp->ß)->ß
structure Ò where
 nx:Ç->Hp->ß
 rt:VK
 bk:Ç->Hp->ß:=λ_ _=>ŧ
 ct:Ç->Hp->ß:=λ_ _=>ŧ
abbrev TS:=Ò->Ç->Hp->ß
def EP(X:Cx)(p:b4)(σ:Ç)(Q:VK)(u:Ä)(s':a5):ß:=∃v H,Inv X p σ H s'/\RelV v u/\Q v H
def TP(X:Cx)(p:b4)(σ:Ç)(Q:Þ->Hp->ß)(b:Þ)(s':a5):ß:=∃H,Inv X p σ H s'/\Q b H
def AP(X:Cx)(p:b4)(σ:Ç)(Q:ϕ->Hp->ß)(us:Ł Ä)(s':a5):ß:=∃v H,Inv X p σ H s'/\Vals v us/\Q v H
def SP(X:Cx)(p:b4)(D:Ò)(f:Flow)(s':a5):ß:=match f with|.next=>∃a H,Inv X p a H s'/\D.nx a H|.brk=>∃a H,Inv X p a H s'/\D.bk a H|.cont=>∃a H,Inv X p a H s'/\D.ct a H|.ret u=>∃v a H,Inv X p a H s'/\RelV v u/\D.rt v H
def PE(X:Cx)(e:Å)(t:TE):ß:=∀(p:Ł _)(s:a5)(σ:Ç)(H:Hp)(Q:VK),Inv X p σ H s->t σ H Q->a6 (a8 X.prog X.w) X.A (Ê e X.env) (EP X p σ Q) X.xe s
def PT(X:Cx)(e:Å)(t:TT):ß:=∀(p:Ł _)(s:a5)(σ:Ç)(H:Hp)(Q:Þ->Hp->ß),Inv X p σ H s->t σ H Q->a6 (a8 X.prog X.w) X.A (isTrue e X.env (Ê e X.env)) (TP X p σ Q) X.xe s
def PW(X:Cx)(e:Å)(t:TT):ß:=∀(qW:Sem _)(p:Ł _)(s:a5)(σ:Ç)(H:Hp)(Q:Þ->Hp->ß),Inv X p σ H s->t σ H Q->a6 (a8 X.prog X.w) X.A (isTrue e X.env qW) (TP X p σ Q) X.xe s
def PW.pt(h:PW X e t):PT X e t:=h _
def PA(X:Cx)(es:Ł Å)(t:TA):ß:=∀(pos:Ð)(p:Ł _)(s:a5)(σ:Ç)(H:Hp)(Q:ϕ->Hp->ß),Inv X p σ H s->t σ H Q->a6 (a8 X.prog X.w) X.A (spliced (cc pos (b5 es X.env))) (AP X p σ Q) X.xe s
def PS(X:Cx)(st:È)(t:TS):ß:=∀(p:Ł _)(s:a5)(σ:Ç)(H:Hp)(D:Ò),Inv X p σ H s->t D σ H->a6 (a8 X.prog X.w) X.A (exec st X.env) (SP X p D) X.xe s
def ph(X:Cx)(st:Ł È)(t:TS):ß:=∀(p:Ł _)(s:a5)(σ:Ç)(H:Hp)(D:Ò),Inv X p σ H s->t D σ H->a6 (a8 X.prog X.w) X.A (execs st X.env) (SP X p D) X.xe s
def gP{M:Model}{A:bp}{E:dH}{s:a5}(h:a6 M A t Q E s)(H:∀a s,Q a s->q a s):a6 M A t q E s:=d7 h H λ_ _ x=>x
def oV{a:dH}{E:dH}(h:a6 M A t (EP X p σ Q) E s)(k:∀u s v H,Inv X p σ H s->RelV v u->Q v H->a u s):a6 M A t a E s:=gP h λu s (v,H,I,r,q)=>k u s v H I r q
def hY{E:dH}(h:a6 M A t (AP X p σ Q) E s)(k:∀u s v H,Inv X p σ H s->Vals v u->Q v H->a u s):a6 M A t a E s:=gP h λu s (v,H,I,r,q)=>k u s v H I r q
def cps{A:ß}(h:∀G:ß,(A->G)->G):A:=h A id
def Il(i:Ń):TE:=λσ H Q=>∃v,σ[i]?=O (O v)/\Q v H
def tC(v:V):TE:=λ_ H Q=>Q v H
def Qv(b:X.N[i]?=O x)(f:l7 X.env.scope x)(d:ø ((x==("__debug__":Ã))=af) P3)(E:ø ((x==("__classdict__":Ã))=af) P3):PE X (.Name x pos) (Il i):=by
 intro p s σ H Q I h;let(v,e,h):=h;let(m,hn,g):=I.loc;let(u,r,l):=g i x v b e f;let fin:EP X _ σ Q u s:=(v,H,I,r,h);rcases l with ⟨k,j⟩|⟨k,c,a,Y⟩;.rwa[wpAny_Name (wpAny_loadName_local I.ok.kind k hn j fin) d]
 .rcases k with k|k;.rwa[wpAny_Name (wpAny_loadName_cell I.ok.kind k a Y fin) d]
  .rwa[wpAny_Name (wpAny_loadName_free I.ok.kind k a Y fin E) d]
def rM{i j pos}:PE X (.Constant (.int i) j pos) (tC (.I i)):=λ_ _ _ H _ I h=>Dp (.I i,H,I.tok _,(_,Ŗ),h)
def Ql{b j pos}:PE X (.Constant (.bool b) j pos) (tC (.B b)):=λ_ _ _ H _ I h=>Constant_bool (.B b,H,I,Ŗ,h)
def aaY{j pos}:PE X (.Constant .none j pos) (tC .gH):=λ_ _ _ H _ I h=>ZD (.gH,H,I,Ŗ,h)
def jj{x j pos}:PE X (.Constant (.str x) j pos) (tC (.S x)):=λ_ _ _ H _ I h=>qz (.S x,H,I.tok _,(_,Ŗ),h)
def Gl(X:Cx)(x:Ã):ß:=X.env.kindOf x=O .globalImplicit
def ma{E:dH}{σ:Ç}{Q:dH}(I:Inv X p σ H s)(g:Gl X x)(m:X.mg x=O u)(h:Q u s)(d:ø ((x==("__debug__":Ã))=af) P3):a6 (a8 X.prog X.w) X.A (Ê (.Name x pos) X.env) Q E s:=SY I.ok.kind g (Calls.loadGlobal_global (by rw[I.ok.glob];rwa[I.mod.glob.keeps I.bk]) m h) d
def yn{E:dH}{σ:Ç}{Q:dH}(I:Inv X p σ H s)(g:Gl X x)(m:X.mg x=aa)(v:b' x=O u)(h:Q u s)(hn:ø (x≠"__name__") P3)(d:ø ((x==("__debug__":Ã))=af) P3):a6 (a8 X.prog X.w) X.A (Ê (.Name x pos) X.env) Q E s:=by let(M,a,b):=I.mod.blt;rwa[SY I.ok.kind g (Calls.loadGlobal_builtin (by rw[I.ok.glob];rwa[I.mod.glob.keeps I.bk]) m (by rw[I.ok.blt];rwa[a.keeps I.bk]) ((b x hn).trans v) h) d]
def oq(g:Gl X x)(m:X.mg x=O u)(r:RelV v u)(d:ø ((x==("__debug__":Ã))=af) P3):PE X (.Name x pos) (tC v):=λ_ _ _ H _ I h=>ma I g m (v,H,I,r,h) d
def WH(g:Gl X x)(m:X.mg x=aa)(a:b' x=O u)(r:RelV v u)(hn:ø (x≠"__name__") P3)(d:ø ((x==("__debug__":Ã))=af) P3):PE X (.Name x pos) (tC v):=λ_ _ _ H _ I h=>yn I g m a (v,H,I,r,h) hn d
def PC(X:Cx)(o:CmpOp)(a b:Å)(t:TE):ß:=∀(p:Ł _)(s:a5)(σ:Ç)(H:Hp)(Q:VK),Inv X p σ H s->t σ H Q->a6 (a8 X.prog X.w) X.A (Ê a X.env) (λv S=>a6 (a8 X.prog X.w) X.A (Ê b X.env) (λu c=>a6 (a8 X.prog X.w) X.A (compareOp o v u) (EP X p σ Q) X.xe c) X.xe S) X.xe s
def amh(ta:TE):TE:=λσ H Q=>ta σ H λx h=>Q (.B (Đ (x=.gH))) h
def agS(ta:TE):TE:=λσ H Q=>ta σ H λx h=>Q (.B ! Đ (x=.gH)) h
def RelV.EI(r:RelV x v):(v==Ü)=Đ (x=.gH):=by cases x with|gH=>cases r;rfl|B _=>cases r;rfl|I _=>let(t,rfl):=r;rfl|S _=>let(t,rfl):=r;rfl|Ng _=>let(t,rfl):=r;rfl|UQ _=>let(t,rfl):=r;rfl|A _=>cases r;rfl|ty _=>cases r;rfl
def aaT{j p}(c:PE X a ta):PC X .Is a (.Constant .none j p) (amh ta):=by intro P s σ H Q I h;rwa[gP (c _ s σ H _ I h) λv s1 z=>by let(x,d,i,r,q):=z;exact(ZD (is_none_gen (_,d,i,by rw[r.EI];rfl,q)))]
def WE{j p}(c:PE X a ta):PC X .IsNot a (.Constant .none j p) (agS ta):=by intro P s σ H Q I h;rwa[gP (c _ s σ H _ I h) λv s1 z=>by let(x,d,i,r,q):=z;exact(ZD (isnot_none_gen (_,d,i,by rw[r.EI];rfl,q)))]
def tB(t:TE):TT:=λσ H Q=>t σ H λx h=>∃c,x=.B c/\Q c h
def aaW{X:Cx}{a b:Å}{pos:Ð}{o:CmpOp}{t:TE}(h:PC X o a b t)(c:autoParam (dg o b=false) o0):PE X (.Compare a [o] [b] pos) t:=λp s σ H Q I w=>wpAny_Compare1 (h _ s σ H Q I w) c
def abm{X:Cx}{a b:Å}{pos:Ð}{o:CmpOp}{t:TE}(h:PC X o a b t)(e:autoParam (dg o b=false) o0):PT X (.Compare a [o] [b] pos) (tB t):=by intro p s σ H Q I w;erw[xy (gP (h _ s σ H _ I w) λv s1 e=>gP e λu s2 f=>gP f λc S x=>?_) e];let(x,g,i,r,j):=x;let(d,rfl,q):=j;cases r;rwa[eM (g,i,q)]
def QW(h:PE X e t)(c:ø (∀qW,isTrue e X.env qW=do let v<-qW;standAt e.pos;dc [v] (truthy v)) eC):PT X e (tB t):=by intro p s σ H Q I w;erw[isTrue_plain (oV (h _ s σ H _ I w) λv s1 x f i r g=>?_) (c _)];let(d,rfl,q):=g;cases r;rwa[eM (f,i,q)]
def L5(t u:TT):TT:=λσ H Q=>t σ H λc h=>if c=J then u σ h Q else Q af h
def x0(t u:TT):TT:=λσ H Q=>t σ H λc h=>if c=J then Q J h else u σ h Q
def Va(t:TT):TT:=λσ H Q=>t σ H λc h=>Q (!c) h
def Xd(d:PT X a tA):PW X (.BoolOp .And [a] pos) tA:=by intro w p s σ H Q I h;erw[isTrue_and (gP (d _ s σ H Q I h) λc s1 e=>?_)];cases c with|t=>rwa[isTrue_and_nil e]|f=>rwa[e]
def QZ(d:PT X a tA):PW X (.BoolOp .Or [a] pos) tA:=by intro w p s σ H Q I h;erw[isTrue_or (gP (d _ s σ H Q I h) λc s1 e=>?_)];cases c with|f=>rwa[isTrue_or_nil e]|t=>rwa[e]
def abr(d:PT X a tA)(e:PW X (.BoolOp .And (b::a7) pos) tB'):PW X (.BoolOp .And (a::b::a7) pos) (L5 tA tB'):=by intro w p s σ H Q I h;erw[isTrue_and (gP (d _ s σ H _ I h) λc s1 (f,i,q)=>?_)];cases c with|t=>rwa[e w _ s1 σ f Q i q]|f=>done
def Y6(d:PT X a tA)(e:PW X (.BoolOp .Or (b::a7) pos) tB'):PW X (.BoolOp .Or (a::b::a7) pos) (x0 tA tB'):=by intro w p s σ H Q I h;erw[isTrue_or (gP (d _ s σ H _ I h) λc s1 (f,i,q)=>?_)];cases c with|t=>done|f=>rwa[e w _ s1 σ f Q i q]
def QU(c:PT X a tA):PT X (.UnaryOp .Not a pos) (Va tA):=by intro p s σ H Q I h;rwa[isTrue_not (c _ s σ H _ I h)]
def Zn(ta tb:TE):TE:=λσ H Q=>ta σ H λx h=>∃c,x=.B c/\if c=J then tb σ h Q else Q (.B af) h
def J'(ta tb:TE):TE:=λσ H Q=>ta σ H λx h=>∃c,x=.B c/\if c=J then Q (.B J) h else tb σ h Q
def Qt{o}(h:PE X a t):PE X (.BoolOp o [a] pos) t:=λp s σ H Q I w=>BoolOp_one (h _ s σ H Q I w)
def aaU(e:PE X a ta)(f:PE X (.BoolOp .And (b::a7) pos) tb):PE X (.BoolOp .And (a::b::a7) pos) (Zn ta tb):=by intro p s σ H Q I h;erw[BoolOp_and (oV (e _ s σ H _ I h) λv s1 x d i r q=>?_)];let(c,rfl,q):=q;cases r;erw[eM ?_];cases c with|t=>rwa[f _ s1 σ d Q i q]|f=>exact(.B _,d,i,Ŗ,q)
def afS(e:PE X a ta)(f:PE X (.BoolOp .Or (b::a7) pos) tb):PE X (.BoolOp .Or (a::b::a7) pos) (J' ta tb):=by intro p s σ H Q I h;erw[BoolOp_or (oV (e _ s σ H _ I h) λv s1 x d i r q=>?_)];let(c,rfl,q):=q;cases r;erw[eM ?_];cases c with|f=>rwa[f _ s1 σ d Q i q]|t=>exact(.B _,d,i,Ŗ,q)
def Wp(t:TT)(ta tb:TE):TE:=λσ H Q=>t σ H λc h=>if c=J then ta σ h Q else tb σ h Q
def Qp(f:PT X c tA)(g:PE X a ta)(j:PE X b tb):PE X (.IfExp c a b pos) (Wp tA ta tb):=by intro p s σ H Q I h;erw[wpAny_IfExp (gP (f _ s σ H _ I h) λd s1 (e,i,q)=>?_)];cases d with|t=>rwa[g _ s1 σ e Q i q]|f=>rwa[j _ s1 σ e Q i q]
def ie(K:Æ)(H:Hp)(a:Á)(xs:ϕ):ß:=Rd H a (.L xs)\/∃(o:Obj)(b:Array _)(n:Ń),K.lookup a=O o/\o.cls=.type "list"/\o.dict=aa/\o.data=.seq b n/\b.size<=Â/\Vals xs b.toList
def fS(K:Æ)(H:Hp)(a:Á)(xs:ϕ):ß:=Rd H a (.T xs)\/∃(o:Obj)(b:Array _)(n:Ń),K.lookup a=O o/\o.cls=.type "tuple"/\o.data=.seq b n/\b.size<=Â/\Vals xs b.toList
def aji:Ä->Ő V|.none=>O .gH|.bool b=>O (.B b)|.int i _=>O (.I i)|.str x _=>O (.S x)|.bytes b _=>O (.Ng b)|.float b _=>O (.UQ b)|.ref a=>O (.A a)|.type n=>O (.ty n)|_=>aa
def RelV.abs(r:RelV x u):aji u=O x:=by cases x with|gH=>cases r;rfl|B _=>cases r;rfl|I _=>let(t,rfl):=r;rfl|S _=>let(t,rfl):=r;rfl|Ng _=>let(t,rfl):=r;rfl|UQ _=>let(t,rfl):=r;rfl|A _=>cases r;rfl|ty _=>cases r;rfl
def RelV.inj(r:RelV x u)(q:RelV y u):x=y:=c0 (r.abs.symm.trans q.abs)
theorem Vals.inj:∀{xs ys:ϕ}{us:Ł _},Vals xs us->Vals ys us->xs=ys:=by intro xs ys us a;induction a generalizing ys with|i=>intro b;cases b;rfl|k r t i=>intro b;cases b with|k R T=>rw[r.inj R,i T]
def ie.of{K:Æ}(h:H a=O (.L xs)):ie K H a xs:=.inl (.inl h)
def fS.of{K:Æ}(h:H a=O (.T xs)):fS K H a xs:=.inl (.inl h)
def Inv.list{σ:Ç}(I:Inv X am σ H s)(h:ie X.K H a xs):∃b:Ł _,Vals xs b/\PlainL s.heap a b.toArray/\À xs<=Â:=by
 rcases h with h|⟨o,b,n,k,c,d,f,g,r⟩;.let(z,b,n,r,e):=h.ok I.di;exact(b,r,(_,n,e,Ŗ,Ŗ,Ŗ),z)
 .erw[(_,r,(o,n,I.oR a o k,c,d,by done),?_)];let e:=r.length;simp only[aX]at e;lia
def Inv.tuple{σ:Ç}(I:Inv X am σ H s)(h:fS X.K H a xs):∃b:Ł _,Vals xs b/\IsTup s.heap a b.toArray/\À xs<=Â:=by
 rcases h with h|⟨o,b,n,k,c,d,f,r⟩;.let(z,b,r,p):=h.ok I.di;exact(b,r,p,z)
 .erw[(_,r,(o,I.oR a o k,c,n,by done),?_)];let e:=r.length;simp only[aX]at e;lia
def Inv.Pl{σ:Ç}(I:Inv X am σ H s)(h:ie X.K H a xs)(b:ie X.K H a ys):xs=ys:=by
 obtain⟨B,r,⟨o,n,e,_,_,d⟩,_⟩:=I.list h;obtain⟨t,R,⟨c,N,E,_,_,D⟩,_⟩:=I.list b;rw[e]at E;cases E;rw[d]at D;injection D with d1 _;let:=by simpa using cY Array.toList d1
 subst this;rwa[r.inj R]
def Inv.qx{σ:Ç}(I:Inv X am σ H s)(h:fS X.K H a xs)(b:fS X.K H a ys):xs=ys:=by
 obtain⟨B,r,⟨o,e,_,n,d⟩,_⟩:=I.tuple h;obtain⟨t,R,⟨c,E,_,N,D⟩,_⟩:=I.tuple b;rw[e]at E;cases E;rw[d]at D;injection D with d1 _;let:=by simpa using cY Array.toList d1
 subst this;rwa[r.inj R]
abbrev Cx.Ae(X:Cx)(E:dH):Cx:={X with xe:=E}
abbrev Cx.nox(X:Cx):Cx:=X.Ae λ_ _=>ŧ
theorem Cx.Ok.Ae{X:Cx}(ok:X.Ok)(E:dH):(X.Ae E).Ok:=(ok.mod,ok.kind,ok.glob,ok.blt,ok.above,ok.inj,ok.has,ok.SD,ok.hd,ok.frames,ok.XI,ok.UM,ok.bs,ok.FL,ok.yz,ok.zN,ok.mx,ok.LP)
def Cx.Ok.p8{X:Cx}(ok:(X.Ae E).Ok):X.Ok:=(ok.mod,ok.kind,ok.glob,ok.blt,ok.above,ok.inj,ok.has,ok.SD,ok.hd,ok.frames,ok.XI,ok.UM,ok.bs,ok.FL,ok.yz,ok.zN,ok.mx,ok.LP)
theorem Inv.Ae{σ:Ç}(I:Inv X am σ H s)(E:dH):Inv (X.Ae E) am σ H s:=(I.ok.Ae E,I.os,I.bare,I.base,I.loc,I.cell,I.free,I.jd,I.pin,I.di,I.len)
theorem Inv.p8{σ:Ç}(I:Inv (X.Ae E) am σ H s):Inv X am σ H s:=(I.ok.p8,I.os,I.bare,I.base,I.loc,I.cell,I.free,I.jd,I.pin,I.di,I.len)
theorem SP.p8(h:SP (X.Ae E) am D f s'):SP X am D f s':=by cases f with|next=>let(a,b,I,q):=h;exact(a,b,I.p8,q)|brk=>let(a,b,I,q):=h;exact(a,b,I.p8,q)|cont=>let(a,b,I,q):=h;exact(a,b,I.p8,q)|ret u=>let(v,a,b,I,r,q):=h;exact(v,a,b,I.p8,r,q)
theorem ph.nox{st:Ł _}(h:ph X.nox st t):ph X st t:=λam s σ H D I w=>d7 (h _ s σ H D (I.Ae _) w) (λ_ _ q=>q.p8) λ_ _ z=>ç z
def agQ:TS:=λD σ H=>D.nx σ H
def wv(t u:TS):TS:=λD σ H=>t {D with nx:=u D} σ H
def Cu:ph X [] agQ:=λ_ _ σ H _ I h=>iJ (σ,H,I,h)
def jk{st:È}(b:PS X st t)(c:ph X a7 u):ph X (st::a7) (wv t u):=by intro p s σ H D I h;erw[uw (gP (b _ s σ H _ I h) λf s1 q=>?_)];cases f with|next=>let(a,d,i,q):=q;rwa[c _ s1 a d D i q]|ret v=>rwa[q]|brk=>rwa[q]|cont=>rwa[q]
def g8{st:È}(a:PS X st t):ph X [st] t:=by intro p s σ H D I h;erw[uw (gP (a _ s σ H D I h) λf s1 q=>?_)];cases f with|next=>rwa[iJ q]|ret v=>rwa[q]|brk=>rwa[q]|cont=>rwa[q]
def Ϻ:TS:=λD σ H=>D.ct σ H
def EW:PS X (.Continue pos) Ϻ:=λ_ _ σ H _ I h=>wpAny_Continue (σ,H,I,h)
def Inv.quiet{p:Ł _}{σ:Ç}(I:Inv X p σ H s):interactive X.env=false:=by simp[interactive,I.ok.kind]
def Zq(te:TE):TS:=λD σ H=>te σ H λ_ h=>D.nx σ h
def xh(a:PE X e te)(b:ø (el e aa pos.line X.env=pure af) o0):PS X (.Expr e pos) (Zq te):=by intro p s σ H D I h;rwa[wpAny_Expr_any (gP (a _ s σ H _ I h) λv s1 z=>by let(x,c,i,r,q):=z;exact(σ,c,i,q)) I.quiet b]
def ġ(te:TE):TS:=λD σ H=>te σ H D.rt
def oA(a:PE X e te):PS X (.Return (O e) pos) (ġ te):=by intro p s σ H D I h;rwa[wpAny_Return_some (gP (a _ s σ H _ I h) λv s1 z=>by let(x,b,i,r,q):=z;exact(x,σ,b,i,r,q))]
def UF(c:TT)(t u:TS):TS:=λD σ H=>c σ H λb h=>if b=J then t D σ h else u D σ h
def QP(g:PT X c T)(j:ph X a t)(k:ph X b u):PS X (.If c a b pos) (UF T t u):=by intro p s σ H D I h;erw[wpAny_If (gP (g _ s σ H _ I h) λd s1 (f,i,q)=>?_)];cases d with|t=>rwa[j _ s1 σ f D i q]|f=>rwa[k _ s1 σ f D i q]
abbrev TG:=V->Ç->Hp->(Ç->Hp->ß)->ß
abbrev Yr:=ϕ->Ç->Hp->(Ç->Hp->ß)->ß
def PG(X:Cx)(T:Å)(t:TG):ß:=∀(p:Ł _)(s:a5)(σ:Ç)(H:Hp)(v:V)(u:Ä)(Q:Ç->Hp->ß),Inv X p σ H s->RelV v u->t v σ H Q->a6 (a8 X.prog X.w) X.A (assign T X.env u) (λ_ S=>∃a h,Inv X p a h S/\Q a h) X.xe s
def Tp(X:Cx)(T:Ł Å)(t:Yr):ß:=∀(p:Ł _)(s:a5)(σ:Ç)(H:Hp)(v:ϕ)(u:Ł _)(Q:Ç->Hp->ß),Inv X p σ H s->Vals v u->t v σ H Q->a6 (a8 X.prog X.w) X.A (assignInOrder ((d0 T X.env).map (·.2)) u) (λ_ S=>∃a h,Inv X p a h S/\Q a h) X.xe s
abbrev ZV:=V->V->V->Hp->(Hp->ß)->ß
def Ld(X:Cx)(t:ZV):ß:=∀(p:Ł _)(s:a5)(σ:Ç)(H:Hp)(o i v:V)(a I u:Ä)(Q:Hp->ß),Inv X p σ H s->RelV o a->RelV i I->RelV v u->t o i v H Q->a6 (a8 X.prog X.w) X.A (setItem a I u) (λ_ S=>∃h,Inv X p σ h S/\Q h) X.xe s
def oQ(i:Ń):TG:=λv σ H Q=>Q (σ.set i (O v)) H
def Cq{X:Cx}{pos:Ð}{i:Ń}{x:Ã}(a:X.N.Nodup)(b:ø (X.N[i]?=O x) o0)(c:autoParam (Loc X.env.scope x) ĩ)(f:ø (X.fn x=J\/X.env.scope.names.lookup x=O .local) gf):PG X (.Name x pos) (oQ i):=by intro p s σ H v u Q I r h;rwa[wpAny_assign_Name (tX I a b c r (λS d=>(_,H,d,h)) f)]
def YB:Yr:=λv σ H Q=>v=[]/\Q σ H
def YC(t:TG)(u:Yr):Yr:=λs σ H Q=>∃v r,s=v::r/\t v σ H λa h=>u r a h Q
def W8:Tp X [] YB:=by intro p s σ H v u Q I r h;let(e,h):=h;rwa[assignInOrder_nil (σ,H,I,h)]
def QG(b:PG X e t)(c:Tp X es u)(d:ø ((d0 (e::es) X.env).map (·.2)=assign e X.env::(d0 es X.env).map (·.2)) o0):Tp X (e::es) (YC t u):=by intro p s σ H g U Q I r h;let(v,j,E,h):=h;subst E;cases r with|k r R=>rw[d];rwa[assignInOrder_cons (gP (b _ s σ H _ _ _ I r h) λ_ s1 z=>by let(a,f,i,q):=z;exact(c _ s1 a f _ _ Q i R q))]
def T_(K:Æ)(n:Ń)(t:Yr):TG:=λv σ H Q=>∃a x,v=.A a/\fS K H a x/\À x=n/\t x σ H Q
def abf(c:X.calm)(h:Tp X es t)(hn:ø (À (d0 es X.env)=n) o0)(d:ø ((d0 es X.env).findIdx? (·.1)=aa) o0):PG X (.Tuple es k pos) (T_ X.K n t):=by intro p s σ H v u Q I r w;let(a,x,E,q,l,w):=w;subst E;cases r;let(B,R,f,z):=I.tuple q;rwa[assign_Tuple_tuple (I.ok.hd c) f (by simp[hn,<-l,R.length]) d λi g=>h _ _ σ H x _ Q (I.kept λb o e=>g b o (bB (aT e)) e) (by done) w]
def J0(T ti:TE)(t:ZV):TG:=λv σ H Q=>T σ H λo h=>ti σ h λi a=>t o i v a λb=>Q σ b
def abe(c:PE X o T)(d:PE X i ti)(e:Ld X t)(f:ø (∀v,assign (.Subscript o i pos) X.env v=do
   let a<-dc [v] (Ê o X.env)let b<-dc [v,a] (Ê i X.env)standAt pos
   dc [v,a,b] (setItem a b v)release [v,a,b] []) eC):PG X (.Subscript o i pos) (J0 T ti t):=by intro p s σ H v u Q I r h;rw[f];rwa[ae (c7 (gP (c _ s σ H _ I h) λa s1 z=>by let(x,g,j,R,q):=z;exact(ae (c7 (gP (d _ s1 σ g _ j q) λb s2 z=>by let(y,k,l,m,n):=z;exact(ae (ZJ (ae (c7 (gP (e _ s2 σ k x y v a b u _ l R m r n) λ_ S (w,A,B)=>wpAny_release (σ,w,A,B)))))))))))]
def Fo(t:TE)(g:TG):TS:=λD σ H=>t σ H λx h=>g x σ h D.nx
def QN(a:PE X e t)(b:PG X tg g)(c:ø (swapsWithSole [tg] e pos.line X.env=pure af) o0)(w:ø (swappedStores [tg] e X.env=pure aa) o0)(d:ø ((d0 [tg] X.env).map (·.2)=[assign tg X.env]) o0):PS X (.Assign [tg] e pos) (Fo t g):=by intro p s σ H D I h;erw[wpAny_Assign_stores (oV (a _ s σ H _ I h) λv s1 x f i r Q=>?_) c w];rw[d];rwa[gP (b _ s1 σ f x v _ i r Q) λ_ s2 q=>q]
def QR(a:X.N.Nodup)(b:X.N[i]?=O x)(c:Loc X.env.scope x)(d:PE X e t)(f:ø (el e (O (.Name x p)) pos.line X.env=pure af) o0)(g:ø (X.fn x=J\/X.env.scope.names.lookup x=O .local) gf):PS X (.Assign [.Name x p] e pos) (Fo t (oQ i)):=by intro P s σ H D I h;rwa[wpAny_Assign_Name (gP (d _ s σ H _ I h) λv s1 z=>by let(y,j,k,r,q):=z;exact(tX k a b c r (λs2 l=>(_,j,l,q)) g)) f]
def Kg{X:Cx}{pos:Ð}(i:Ń){x:Ã}{e:Å}{t:TE}{p:Ð}(h:X.N.Nodup)(H:PE X e t)(a:ø (X.N[i]?=O x) o0)(b:autoParam (Loc X.env.scope x) ĩ)(s:ø (el e (O (.Name x p)) pos.line X.env=pure af) o0)(f:ø (X.fn x=J\/X.env.scope.names.lookup x=O .local) gf):PS X (.Assign [.Name x p] e pos) (Fo t (oQ i)):=QR h a b H s f
def RI(c:TT)(tb:TS):TS:=λD σ H=>∃W:Ń->Ç->Hp->ß,(∃m,W m σ H)/\∀m σ H,W m σ H->c σ H λb h=>if b=J then ∃N:Ç->Hp->ß,(∀a d,N a d->∃M,M<m/\W M a d)/\tb {D with nx:=N,ct:=N,bk:=D.nx} σ h else D.nx σ h
def EX(p:PassesOwn (a8 X.prog X.w) X.A X.env X.xe)(z:PT X c T)(C:ph X B tb):PS X (.While c B [] pos) (RI T tb):=by intro P s σ H D I h;obtain⟨W,⟨m0,E⟩,t⟩:=h;erw[wpAny_While (codeAny_whileLoop (λn S=>∃e o,Inv X _ e o S/\W n e o) ?_ m0 (σ,H,I,E))];rintro n s1 ⟨d,r,F,G⟩;erw[c8 p (gP (z _ s1 d r _ F (t n d r G)) λb s2 (u,x,q)=>?_)];cases b with
 |t=>let(N,y,q):=q;erw[c8 p (gP (C _ s2 d u _ x q) λf K Q=>?_)];cases f with|next=>let(a,g,i,j):=Q;let(m,k,l):=y a g j;exact(m,k,a,g,i,l)|cont=>let(a,g,i,j):=Q;let(m,k,l):=y a g j;exact(m,k,a,g,i,l)|brk=>done|ret v=>done
 |f=>rwa[iJ (d,u,x,q)]
structure It where
 go:Ń->Hp->ß
 yld:Ń->Hp->V->Hp->ß
 stop:Ń->Hp->ß
def oX(X:Cx)(P:b4)(H:Hp)(b:Á):ß:=H b=aa/\b≠X.env.locals/\b∉X.fs/\(b∈X.ex\/X.s₀.heap.objs.size<=b)/\(∀x c,X.env.cells.lookup x=O c->c≠b)/\∀p∈X.pn++P,p.1≠b
def Inv.LO{P:Ł _}{σ:Ç}{b:Á}(I:Inv X P σ H s)(h:s.heap.objs.size<=b)(hn:H' b=aa):oX X P H' b:=by erw[(hn,jD (bj I.lt h),I.alp h,.inr (ay I.sz h),λx c e z=>?_,λp a z=>Ă (bj (aT (I.pin p a).1) nofun) (dv _))];.let(v,q):=I.cell x c e;rwa[Ă (bj q.lt nofun) (dv _)]
structure Lg(P:bn)(w:a9)(K:Æ)(tg:Å)(a:It)(fp:Ł Á)(it:Á)(tn:Ń->É->ß):ß where
 mem:it∈fp
 obj:∀i h,tn i h->∀b∈fp,∃o,h.get? b=O o/\∀v,o.data≠.cell v
 keep:∀i h h',tn i h->(∀b∈fp,∀o,h.get? b=O o->h'.get? b=O o)->tn i h'
 item:∀(X:Cx),X.prog=P->X.w=w->X.K=K->X.calm->∀(i:Ń)(am:b4)(s:a5)(σ:Ç)(H:Hp)(E:dH),Inv X am σ H s->(∀b∈fp,oX X am H b)->tn i s.heap->a.go i H->a6 (a8 P w) X.A (pyNext (.ref it)) (λr s1=>∃u,r=O u/\a6 (a8 P w) X.A (letOwnedTupleGo tg (.ref it) u) (λ_ s2=>∃x H',Inv X am σ H' s2/\RelV x u/\a.yld i H x H'/\tn (i+1) s2.heap/\∀b∈fp,H' b=aa) E s1) E s
 done:∀(X:Cx),X.prog=P->X.w=w->X.K=K->X.calm->∀(i:Ń)(am:b4)(s:a5)(σ:Ç)(H:Hp)(E:dH),Inv X am σ H s->(∀b∈fp,oX X am H b)->tn i s.heap->a.stop i H->a6 (a8 P w) X.A (pyNext (.ref it)) (λr s1=>r=aa/\Inv X am σ H s1) E s
 self:∀(A:bp)(i:Ń)(s:a5)(Q:dH)(E:dH),tn i s.heap->Q (.ref it) s->a6 (a8 P w) A (pyIter (.ref it)) Q E s
abbrev TI:=Ç->Hp->(It->Hp->ß)->ß
def Ě(X:Cx)(p:b4)(σ:Ç)(tg:Å)(R:It->Hp->ß)(i:Ä)(s2:a5):ß:=∃(I:Á)(f:Ł _)(t:Ń->É->ß)(j:It)(H:Hp),i=.ref I/\Inv X p σ H s2/\Lg X.prog X.w X.K tg j f I t/\t 0 s2.heap/\(∀b∈f,oX X p H b)/\R j H
def PI(X:Cx)(tg iter:Å)(W:TI):ß:=∀(p:Ł _)(s:a5)(σ:Ç)(H:Hp)(R:It->Hp->ß),Inv X p σ H s->W σ H R->a6 (a8 X.prog X.w) X.A (Ê iter X.env) (λv s1=>a6 (a8 X.prog X.w) X.A (pyIter v) (Ě X p σ tg R) X.xe s1) X.xe s
def JC{E:dH}(a:s.heap.get? i=O o)(c:o.cls=.type n)(d:o.data=.fields vs)(hn:["enumerate","zip","dict_itemiterator","dict_reverseitemiterator","odict_iterator","itertools.zip_longest","itertools.pairwise"].contains n=af)(H:Q ⟨⟩ s):a6 M A (letOwnedTupleGo tg (.ref i) u) Q E s:=by cases tg<;>first|rwa[aH H]|(cases u<;>first|rwa[aH H]|(erw[ae (wpAny_load a ?_)];rw[c,d];show a6 M A (if(["enumerate","zip","dict_itemiterator","dict_reverseitemiterator","odict_iterator","itertools.zip_longest","itertools.pairwise"].contains n&&vs[0]?==O _)=J then _ else _) Q E s;rw[dh (by intro h;rw[hn]at h;cases h)];rwa[aH H]))
def mF(K:Æ)(a:Á):It:=(λi H=>∃X x,ie K H a X/\X[i]?=O x,λi H x h=>h=H/\∀X,ie K H a X->X[i]?=O x,λi H=>∃X,ie K H a X/\À X<=i)
def Sv(K:Æ)(a:Á):It:=(λi H=>∃X x,fS K H a X/\X[i]?=O x,λi H x h=>h=H/\∀X,fS K H a X->X[i]?=O x,λi H=>∃X,fS K H a X/\À X<=i)
def lw(lo:Î)(n:Ń):It:=(λi _=>i<n,λi H x h=>h=H/\x=.I (lo+i),λi _=>n<=i)
def MZ{K:Æ}(a t:Á):Lg P w K tg (mF K a) [t] t λi h=>h.IsListIter t a i where
 mem:=⋯
 obj:=λi h st b f=>by
  let e:=by simpa using f
  subst e;let(o,e,c,d):=st;exact(o,e,λv z=>nofun)
 keep:=λi h G st k=>st.at λo e=>k t ⋯ o e;item:=by intro X l m n L i g s σ H E I j st r;subst l m n;let(N,x,q,y):=r;let(Q,R,p,S):=I.list q;let(u,hu,T):=R.get y;let(F,A,U,B,C,D):=j t ⋯;erw[U1 st p.isList (by simpa using hu) λG M W=>?_];let(o,e,c,d):=id M;exact(u,Ŗ,JC e c d Ŗ (x,H,I.turned (λb o f e=>(W.2 b f).trans e) F A B C D,T,(Ŗ,λys Y=>by rw[I.Pl Y q];rwa[y]),M,λb f=>(j b f).1))
 done:=by intro X l m n L i g s σ H E I j st r;subst l m n;let(N,q,y):=r;let(Q,R,p,S):=I.list q;let(F,A,U,B,C,D):=j t ⋯;let hl:=R.length;rwa[V' (I.ok.hd L) st p.isList nofun λG Z=>(Ŗ,I.turned (λb o f e=>Z b o f e) F A B C D)]
 self:=λ_ _ _ _ _ st h=>wpAny_pyIter_listiter st h
def Iv{K:Æ}(a t:Á):Lg P w K tg (Sv K a) [t] t λi h=>h.IsTupleIter t a i where
 mem:=⋯
 obj:=λi h st b f=>by
  let e:=by simpa using f
  subst e;let(o,e,c,d):=st;exact(o,e,λv z=>())
 keep:=λi h L st k=>st.at λo e=>k t ⋯ o e;item:=by intro X l m n M i g s σ H E I j st r;subst l m n;erw[cps λR k=>?_];let(Q,x,q,y):=r;let(S,A,p,T):=I.tuple q;let(u,hu,U):=A.get y;let(F,B,W,C,D,G):=j t ⋯;erw[k (T1 st p (by simpa using hu) λL N Y=>?_)];let(o,e,c,d):=id N;exact(u,Ŗ,JC e c d Ŗ (x,H,I.turned (λb o f e=>(Y.2 b f).trans e) F B C D G,U,(Ŗ,λys Z=>by rw[I.qx Z q];rwa[y]),N,λb f=>(j b f).1))
 done:=by intro X l m n M i g s σ H E I j st r;subst l m n;erw[cps λR k=>?_];let(Q,q,y):=r;let(S,A,p,T):=I.tuple q;let(F,B,W,C,D,G):=j t ⋯;let hl:=A.length;rwa[k (wpAny_pyNext_tuple_end (I.ok.hd M) st p (by simp;lia) λL eb=>(Ŗ,I.turned (λb o f e=>eb b o f e) F B C D G))]
 self:=λ_ _ _ _ _ st h=>wpAny_pyIter_tupleiter st h
def Ir{K:Æ}(a:Á)(lo:Î)(n:Ń):Lg P w K tg (lw lo n) [a] a λi h=>IsRangeIter h a (lo+i*1) (n-i) 1 where
 mem:=⋯
 obj:=λi h st b c=>by
  let e:=by simpa using c
  subst e;exact(_,st,λv z=>by done)
 keep:=λi h y st k=>k a ⋯ _ st;item:=by intro X d g j l i p s σ H E I f st m;subst d g j;let(F,q,B,r,u,x):=f a ⋯;erw[(Walks.range (prog:=X.prog) (w:=X.w) (I.ok.hd l) a lo 1 n).item i s _ _ m st λv y T C A D=>?_];let(t,rfl):=C;erw[(_,Ŗ,JC A Ŗ Ŗ Ŗ (.I _,H,I.turned (λb o c e=>D b o (by simpa using c) e) F q r u x,(t,?_),(Ŗ,Ŗ),A,λb c=>(f b c).1))];rw[Int.mul_one]
 done:=by intro X d g j l i p s σ H E I f st m;subst d g j;let(F,q,B,r,u,x):=f a ⋯;rwa[wpAny_pyNext_range_end (I.ok.hd l) st (by let:n<=i:=m;lia) λy G=>(Ŗ,I.turned (λb o c e=>G b o c e) F q r u x)]
 self:=λ_ _ _ _ _ st h=>wpAny_pyIter_rangeiter st h
def ϲ(K:Æ)(tl:TE):TI:=λσ H R=>tl σ H λx h=>∃a,x=.A a/\(∃s,fS K h a s)/\R (Sv K a) h
def Q3{p:Ł _}{σ:Ç}{E:dH}{lo:Î}(I:Inv X p σ H s)(a:-2^62<=lo)(c:lo<2^62)(d:-2^62<=h)(f:h<2^62)(q:R (lw lo (h-lo).toNat) H):a6 (a8 X.prog X.w) X.A (pyIter (.ref s.heap.objs.size)) (Ě X p σ tg R) E {s with heap:=s.heap.push {cls:=.type "range",data:=.fields #[.int lo t,.int h u,.int 1 v]},toks:=T}:=by
 erw[wpAny_pyIter_range (IsRange.new ..) (small_one a c d f) ?_];let i:Inv X _ σ H {s with heap:=s.heap.push {cls:=.type "range",data:=.fields #[.int lo t,.int h u,.int 1 v]},toks:=T}:=I.kept λb o e=>aw _ e;erw[(_,_,_,_,H,Ŗ,i.kept λb o e=>aw _ e,Ir _ lo _,?_,λb g=>?_,q)]
 .let j:lo+(0:Ń)*1=lo:=⋯
  let k:(h-lo).toNat-(0:Ń)=Builtin.Range.rangeSize lo h 1:=by rw[rangeSize_one];split<;>lia
  rw[j,k];rwa[aV _ Ŗ]
 .let e:b=(s.heap.push {cls:=.type "range",data:=.fields #[.int lo t,.int h u,.int 1 v]}).objs.size:=by simpa using g
  subst e;rwa[i.LO (au _) (i.di.fresh (au _))]
def aeW(t:TA):TI:=λσ H R=>t σ H λv h=>∃j:Î,v=[.I j]/\-2^62<=j/\j<2^62/\R (lw 0 j.toNat) h
def MD(g:Gl X "range")(m:X.mg "range"=aa)(b:PA X [a] T)(c:ø (b5 [a] X.env=[(af,Ê a X.env)]) o0):PI X tg (.Call (.Name "range" p) [a] [] pos) (aeW T):=by intro P s σ H R I h;erw[Call_ (yn I g m boot_range (pk (hY (b pos _ s σ H _ I h) λu s1 v l i d Q=>?_) c Ŗ))];let(j,e,Q,f,q):=Q;subst e;cases d with|k r k=>cases k;let(t,rfl):=r;rwa[call_range_1 (Q3 i () () Q f (by simpa using q))]
def XQ(w:TI)(g:TG)(tb:TS):TS:=λD σ H=>w σ H λj c=>∃W:Ń->Ń->Ç->Hp->ß,(∃m,W 0 m σ c)/\∀i m σ H,W i m σ H->j.stop i H/\D.nx σ H\/j.go i H/\∃N:Ç->Hp->ß,(∀a h,N a h->∃M,M<m/\W (i+1) M a h)/\∀x h,j.yld i H x h->g x σ h λb d=>tb {D with nx:=N,ct:=N,bk:=D.nx} b d
def u7(fp:Ł Á)(h:É):b4:=fp.filterMap λb=>(h.get? b).map λo=>(b,o)
def jK(H:b∈fp)(e:h.get? b=O o):(b,o)∈u7 fp h:=qC.mpr (b,H,by rw[e];rfl)
def Mn(H:p∈u7 fp h):p.1∈fp/\h.get? p.1=O p.2:=by let(b,a,e):=qC.mp H;cases q:h.get? b with|n=>left|s o=>rw[q]at e;let E:=c0 e;subst E;exact(a,q)
def Inv.pinned{P:Ł _}{σ:Ç}(I:Inv X P σ H s)(f:∀b∈fp,oX X P H b)(a:∀b∈fp,∃o,s.heap.get? b=O o/\∀v,o.data≠.cell v):Inv X (P++u7 fp s.heap) σ H s:=I.Cr λp c=>(bt.mp c).elim (λz=>I.pin p (aS _ z)) λz=>by let(h,e):=Mn z;let(F,g,i,_):=f p.1 h;let(o,E,d):=a p.1 h;rw[e]at E;cases E;exact(e,F,g,i,d)
def Inv.jm{P:Ł _}{σ:Ç}(I:Inv X (P++l) σ H s):Inv X P σ H s:=I.Cr λp h=>I.pin p (aS _ (cx _ h))
def QO(t:PassesOwn (a8 X.prog X.w) X.A X.env X.xe)(hc:X.calm)(hi:PI X tg iter wi)(hg:PG X tg g)(c:ph X B tb)(hs:ø (∀x,eo iter X.env x=pure x) eC):PS X (.For tg iter B [] pos) (XQ wi g tb):=by
 intro P s σ H D I h;erw[wpAny_For (gP (hi _ s σ H _ I h) λv s1 h1=>gP h1 λitv s2 h2=>cps λR k0=>?_) hs];obtain⟨it,F,tn,j,H2,e,I2,T,L,f2,W,⟨m0,w0⟩,y⟩:=h2;subst e;let M:∀{H':Hp},(∀b∈F,H' b=aa)->∀b∈F,oX X _ H' b:=λhn b c=>(hn b c,(f2 b c).2);erw[k0 (Ġ (λn s'=>∃i k H',Inv X _ k H' s'/\tn i s'.heap/\(∀b∈F,H' b=aa)/\W i n k H') ?_ m0 (0,σ,H2,I2,L,λb c=>(f2 b c).1,w0))];erw[λn s3 z=>cps λR k1=>?_];let(i,l,K,I3,C,E,w3):=z;rcases y i n l K w3 with ⟨stop,qn⟩|⟨go,N,hN,step⟩;.erw[k1 (c8 t (gP (T.done X rfl rfl rfl hc i _ s3 l K _ I3 (M E) C stop) λr s4 (U,I4)=>?_))];subst U;rwa[iJ (l,K,I4,qn)]
 .erw[k1 (c8 t (gP (T.item X rfl rfl rfl hc i _ s3 l K _ I3 (M E) C go) λr s4 (u,U,h4)=>?_))];subst U;erw[c8 t (gP h4 λ_ s5 x=>?_)];let(x,H5,I5,r5,y5,S,Y):=x;erw[c8 t (gP (hg _ s5 l H5 x u _ (I5.pinned (M Y) (T.obj _ _ S)) r5 (step x H5 y5)) λ_ s6 Z=>?_)];let(Z,H6,I6,q6):=Z;erw[c8 t (gP (c _ s6 Z H6 _ I6 q6) λf s7 Q=>?_)];let again:∀{a:Ç}{p:Hp},Inv X (P++u7 F _) a p s7->N a p->∃m,m<n/\∃i k H',Inv X _ k H' s7/\tn i _/\(∀b∈F,H' b=aa)/\W i m k H':=λ{a p}q G=>by let(m',hm,w7):=hN a p G;erw[(m',hm,_,a,p,q.jm,T.keep _ _ _ S λb c o e=>(q.pin _ (aS _ (aS _ (jK c e)))).1,λb c=>?_,w7)];let(o,e,d):=T.obj _ _ S b c;exact(q.pin _ (aS _ (aS _ (jK c e)))).2.1
  cases f with|next=>let(a,p,q,G):=Q;rwa[again q G]|cont=>let(a,p,q,G):=Q;rwa[again q G]|brk=>let(a,p,q,Q):=Q;exact(a,p,q.jm,Q)|ret v=>let(x7,a,p,q,r7,Q):=Q;exact(x7,a,p,q.jm,r7,Q)
def UW{K:Æ}{g:TG}{tb:TS}{D:Ò}(Pv:Ń->Ç->Hp->ß)(c:Pv 0 σ H)(l:∀i σ H,i<=À xs->Pv i σ H->fS K H a xs)(s:∀i x σ H,xs[i]?=O x->Pv i σ H->g x σ H λb h=>tb {D with nx:=Pv (i+1),ct:=Pv (i+1),bk:=D.nx} b h)(d:∀σ H,Pv (À xs) σ H->D.nx σ H):∃W:Ń->Ń->Ç->Hp->ß,(∃m,W 0 m σ H)/\∀i m σ H,W i m σ H->(Sv K a).stop i H/\D.nx σ H\/(Sv K a).go i H/\∃N:Ç->Hp->ß,(∀σ' H',N σ' H'->∃M,M<m/\W (i+1) M σ' H')/\∀x H',(Sv K a).yld i H x H'->g x σ H' λb h=>tb {D with nx:=N,ct:=N,bk:=D.nx} b h:=by
 erw[(λi m σ H=>m=À xs-i/\i<=À xs/\Pv i σ H,(_,Ŗ,bu _,c),?_)];rintro i m σ H ⟨rfl,f,p⟩;let q:=l i σ H f p;by_cases r:i<À xs;.erw[.inr ((xs,xs[i],q,⋯),_,λσ' H' P=>(_,(),Ŗ,r,P),λx H' y=>?_)];let(e,y):=y;subst e;rwa[s i x σ _ (y xs q) p]
 .let e:i=À xs:=()
  subst e;rwa[.inl ((xs,q,au _),d σ H p)]
abbrev R2:=V->V->Hp->VK->ß
def jz(X:Cx)(f:Ä->Ä->Sem Ä)(r:R2):ß:=∀(p:Ł _)(s:a5)(σ:Ç)(H:Hp)(x y:V)(v u:Ä)(Q:VK),Inv X p σ H s->RelV x v->RelV y u->r x y H Q->a6 (a8 X.prog X.w) X.A (f v u) (EP X p σ Q) X.xe s
def Ys(X:Cx)(f:Ä->Sem Ä)(r:V->Hp->VK->ß):ß:=∀(p:Ł _)(s:a5)(σ:Ç)(H:Hp)(x:V)(v:Ä)(Q:VK),Inv X p σ H s->RelV x v->r x H Q->a6 (a8 X.prog X.w) X.A (f v) (EP X p σ Q) X.xe s
def dW(X:Cx)(f:Ä)(r:ϕ->Hp->VK->ß):ß:=∀(p:Ł _)(s:a5)(σ:Ç)(H:Hp)(x:ϕ)(u:Ł _)(Q:VK),Inv X p σ H s->Vals x u->r x H Q->a6 (a8 X.prog X.w) X.A (call f u) (EP X p σ Q) X.xe s
def Zt(r:R2)(t tb:TE):TE:=λσ H Q=>t σ H λx h=>tb σ h λy a=>r x y a Q
def AT(r:V->Hp->VK->ß)(t:TE):TE:=λσ H Q=>t σ H λx h=>r x h Q
def rI(C:Î->Î->ß)(g:Î->Î->V):R2:=λx y H Q=>∃i j,x=.I i/\y=.I j/\C i j/\Q (g i j) H
def MO(g:Î->Î->V):R2:=λx y H Q=>∃i j,x=.I i/\y=.I j/\Q (g i j) H
def rU(g:Î->V):V->Hp->VK->ß:=λx H Q=>∃i,x=.I i/\Q (g i) H
def Z3(i:PE X a ta)(j:PE X b tb){p:Ł _}{σ:Ç}{R:V->V->Hp->ß}(I:Inv X p σ H s)(h:ta σ H λx g=>tb σ g λy d=>R x y d){Q:dH}{f:Ä->Ä->Sem _}(k:∀v u s2 x y d,Inv X p σ d s2->RelV x v->RelV y u->R x y d->a6 (a8 X.prog X.w) X.A (f v u) Q X.xe s2):a6 (a8 X.prog X.w) X.A (Ê a X.env) (λv S=>a6 (a8 X.prog X.w) X.A (Ê b X.env) (λu e=>a6 (a8 X.prog X.w) X.A (f v u) Q X.xe e) X.xe S) X.xe s:=by rwa[oV (i _ s σ H _ I h) λv s1 x g l r q=>oV (j _ s1 σ g _ l q) λu s2 y d m n o=>k v u s2 x y d m r n o]
def afR(d:jz X (binaryOp o) r)(e:PE X a ta)(f:PE X b tb):PE X (.BinOp a o b pos) (Zt r ta tb):=by intro p s σ H Q I h;rwa[Nb (Z3 e f I h λv u s2 x y g i R j q=>d _ s2 σ g x y v u Q i R j q)]
def Ű(d:Ys X (unaryOp o) r)(e:PE X a ta):PE X (.UnaryOp o a pos) (AT r ta):=by intro p s σ H Q I h;rwa[UnaryOp_ (gP (e _ s σ H _ I h) λv s1 z=>by let(x,f,i,R,q):=z;rwa[d _ s1 σ f x v Q i R q])]
def rc{g:Î->Î->Î}(rule:∀(i j:Î)(t u:Tok)(s:a5)(Q:dH)(E:dH),C i j->Q (.int (g i j) s.toks) {s with toks:=s.toks+1}->a6 (a8 X.prog X.w) X.A (f (.int i t) (.int j u)) Q E s):jz X f (rI C λi j=>.I (g i j)):=by intro p s σ H x y v u Q I r R h;let(i,j,rfl,rfl,d,q):=h;let(t,rfl):=r;let(T,rfl):=R;rwa[rule i j t T s _ _ d (.I _,H,I.tok _,(_,Ŗ),q)]
def J5{g:Î->Î->Î}(rule:∀(i j:Î)(t u:Tok)(s:a5)(Q:dH)(E:dH),Q (.int (g i j) s.toks) {s with toks:=s.toks+1}->a6 (a8 X.prog X.w) X.A (f (.int i t) (.int j u)) Q E s):jz X f (MO λi j=>.I (g i j)):=by intro p s σ H x y v u Q I r R h;let(i,j,rfl,rfl,q):=h;let(t,rfl):=r;let(T,rfl):=R;rwa[rule i j t T s _ _ (.I _,H,I.tok _,(_,Ŗ),q)]
def vl{g:Î->Î->Þ}(rule:∀(i j:Î)(t u:Tok)(s:a5)(Q:dH)(E:dH),Q (.bool (g i j)) s->a6 (a8 X.prog X.w) X.A (f (.int i t) (.int j u)) Q E s):jz X f (MO λi j=>.B (g i j)):=by intro p s σ H x y v u Q I r R h;let(i,j,rfl,rfl,q):=h;let(t,rfl):=r;let(T,rfl):=R;rwa[rule i j t T s _ _ (.B _,H,I,Ŗ,q)]
def y8(i j:Î):ß:=0<j/\j<1073741824
def Nv(i j:Î):ß:=-2^64<i/\i<2^64\/-2^64<j/\j<2^64
def Nv.ok(h:Nv i j):IntMulOk i j:=by
 rcases h with ⟨H,d⟩|⟨H,d⟩;.rwa[.of_left (intBits_le_64 H d)]
 .rwa[.of_right (intBits_le_64 H d)]
def aaB:jz X (binaryOp .Add) (MO λi j=>.I (i+j)):=J5 λ_ _ _ _ _ _ _ q=>add_int q
def Ϲ:jz X (binaryOp .Sub) (MO λi j=>.I (i-j)):=J5 λ_ _ _ _ _ _ _ q=>sub_int q
def aaI:jz X (binaryOp .Mult) (rI Nv λi j=>.I (i*j)):=rc λ_ _ _ _ _ _ _ h q=>mul_int q h.ok
def Wx:jz X (binaryOp .FloorDiv) (rI y8 λi j=>.I (i/j)):=rc λi j _ _ _ _ _ h q=>by let h1:=h.1;let h2:=h.2;rwa[floordiv_int () (by rw[Int.fdiv_eq_ediv_of_nonneg i ()];rwa[q]) (.inl (PyProof.noPylong_small ()))]
def aaH:jz X (binaryOp .Mod) (rI (λ_ j=>0<j) λi j=>.I (i%j)):=rc λi j _ _ _ _ _ h q=>by rwa[mod_int' () (by rw[Int.fmod_eq_emod_of_nonneg i ()];rwa[q])]
def unI{g:Î->Î}(rule:∀(i:Î)(t:Tok)(s:a5)(Q:dH)(E:dH),Q (.int (g i) s.toks) {s with toks:=s.toks+1}->a6 (a8 X.prog X.w) X.A (f (.int i t)) Q E s):Ys X f (rU λi=>.I (g i)):=by intro p s σ H x v Q I r h;let(i,rfl,q):=h;let(t,rfl):=r;rwa[rule i t s _ _ (.I _,H,I.tok _,(_,Ŗ),q)]
def abY:Ys X (unaryOp .USub) (rU λi=>.I (-i)):=unI λ_ _ _ _ _ q=>neg_int q
def ľ:V->V->Þ|.gH,.gH=>J|.gH,.I _=>J|.I _,.gH=>J|.gH,.B _=>J|.B _,.gH=>J|.gH,.S _=>J|.S _,.gH=>J|.I _,.I _=>J|.B _,.B _=>J|.S _,.S _=>J|.Ng _,.Ng _=>J|.I _,.S _=>J|.S _,.I _=>J|.B _,.S _=>J|.S _,.B _=>J|_,_=>af
def rNe:R2:=λx y H Q=>ľ x y=J/\Q (.B ! Đ (x=y)) H
def Uv:Đ (V.I i=V.I j)=(i==j):=by rw[cZ];simp
def z_:Đ (V.B i=V.B j)=(i==j):=by rw[cZ];simp
def Uw:Đ (V.S i=V.S j)=(i==j):=by rw[cZ];simp
def Uu:Đ (V.Ng i=V.Ng j)=(i.toList==j.toList):=by rw[cZ];cases i;cases j;simp
def hV{p:Ł _}{σ:Ç}(I:Inv X p σ H s)(q:Q (.B k) H)(e:k=k'):EP X p σ Q (.bool k') s:=by subst e;exact(.B k,H,I,Ŗ,q)
def ŏ:jz X (compareOp .NotEq) rNe:=by intro p s σ H x y v u Q I R r h;let(d,q):=h;cases x with
 |gH=>cases R;cases y with|gH=>cases r;rwa[PySem.EqNone.ne_none_none (hV I q ⋯)]|B j=>cases r;rwa[PySem.EqNone.ne_none_bool (hV I q ⋯)]|I j=>let(T,rfl):=r;rwa[PySem.EqNone.ne_none_int (hV I q ⋯)]|S j=>let(T,rfl):=r;rwa[PySem.EqNone.ne_none_str (hV I q ⋯)]|_=>rwa[Ă (show af=J from d) aD]
 |B i=>cases R;cases y with|gH=>cases r;rwa[PySem.EqNone.ne_bool_none (hV I q ⋯)]|B j=>cases r;rwa[ne_bool (hV I q (cY not z_))]|S j=>let(T,rfl):=r;rwa[PySem.EqMixed.ne_bool_str (hV I q ⋯)]|_=>rwa[Ă (show af=J from d) aD]
 |I i=>let(t,rfl):=R;cases y with|gH=>cases r;rwa[PySem.EqNone.ne_int_none (hV I q ⋯)]|I j=>let(T,rfl):=r;rwa[ne_int (hV I q (cY not Uv))]|S j=>let(T,rfl):=r;rwa[PySem.EqMixed.ne_int_str (hV I q ⋯)]|_=>rwa[Ă (show af=J from d) aD]
 |S i=>let(t,rfl):=R;cases y with|gH=>cases r;rwa[PySem.EqNone.ne_str_none (hV I q ⋯)]|B j=>cases r;rwa[PySem.EqMixed.ne_str_bool (hV I q ⋯)]|I j=>let(T,rfl):=r;rwa[PySem.EqMixed.ne_str_int (hV I q ⋯)]|S j=>let(T,rfl):=r;rwa[ne_str (hV I q (cY not Uw))]|_=>rwa[Ă (show af=J from d) aD]
 |Ng i=>let(t,rfl):=R;cases y with|Ng j=>let(T,rfl):=r;rwa[PySem.W.ne_bytes (hV I q (cY not Uu))]|_=>rwa[Ă (show af=J from d) aD]
 |_=>done
def afL:jz X (compareOp .Lt) (MO λi j=>.B (Đ (i<j))):=vl λ_ _ _ _ _ _ _ q=>lt_int q
def afK:jz X (compareOp .LtE) (MO λi j=>.B (Đ (i<=j))):=vl λ_ _ _ _ _ _ _ q=>le_int q
def Ŷ:jz X (compareOp .Gt) (MO λi j=>.B (Đ (j<i))):=vl λ_ _ _ _ _ _ _ q=>gt_int q
def Mo:jz X (compareOp .In) λx y H Q=>∃i j,x=.S i/\y=.S j/\Q (.B !(ä j i 0 j.length 1).isEmpty) H:=by intro p s σ H x y v u Q I r R h;let(i,j,rfl,rfl,q):=h;let(t,rfl):=r;let(T,rfl):=R;rwa[in_str (hV I q Ŗ)]
def jz.or(h:jz X f r)(e:jz X f r'):jz X f λx y H Q=>r x y H Q\/r' x y H Q:=by
 intro p s σ H x y v u Q I R d q;rcases q with q|q;.rwa[h _ s σ H x y v u Q I R d q]
 .rwa[e _ s σ H x y v u Q I R d q]
def PR(b:Å)(h:ø (o≠.In) P3)(H:ø (o≠.NotIn) P3):dg o b=false:=by
 let e:(o==CmpOp.In)=false:=()
 let E:(o==CmpOp.NotIn)=false:=nofun
 cases b<;>simp[dg,e,E]
def WJ(d:jz X (compareOp o) r)(e:PE X a ta)(f:PE X b tb)(m:dg o b=af):PE X (.Compare a [o] [b] pos) (Zt r ta tb):=by intro p s σ H Q I h;rwa[wpAny_Compare1 (Z3 e f I h λv u s2 x y g i R j q=>d _ s2 σ g x y v u Q i R j q) m]
def Zv(t:TE):TT:=λσ H Q=>t σ H λx h=>∃k,x=.B k/\Q k h
def xi(d:jz X (compareOp o) r)(f:PE X a ta)(g:PE X b tb)(m:dg o b=af):PT X (.Compare a [o] [b] pos) (Zv (Zt r ta tb)):=by intro p s σ H Q I h;erw[xy (oV (f _ s σ H _ I h) λv s1 x i j R q=>oV (g _ s1 σ i _ j q) λu s2 y l n t w=>oV (d _ s2 σ l x y v u _ n R t w) λc S z A B C (k,e,D)=>?_) m];subst e;cases C;rwa[eM (A,B,D)]
def Ry(r r':R2)(ta tb tc:TE):TE:=λσ H Q=>ta σ H λx d=>tb σ d λy e=>r x y e λz h=>∃k,z=.B k/\if k=J then tc σ h λw f=>r' y w f Q else Q (.B af) h
def Qo{X:Cx}{a b c:Å}{ta tb tc:TE}{pos:Ð}{p o:CmpOp}{r r':R2}(g:jz X (compareOp p) r)(N:jz X (compareOp o) r')(j:PE X a ta)(l:PE X b tb)(m:PE X c tc)(n:lastMarks [p,o] [b,c]=false:=by with_unfolding_all rfl):PE X (.Compare a [p,o] [b,c] pos) (Ry r r' ta tb tc):=by intro P s σ H Q I h;erw[Compare_chain (oV (j _ s σ H _ I h) λv s1 x t w A C=>chain_link (oV (l _ s1 σ t _ w C) λu s2 y D E R F=>oV (g _ s2 σ D x y v u _ E A R F) λd S z f i G (k,e,q)=>?_)) n];subst e;cases G;erw[eM ?_];cases k with|f=>rwa[ite_ff (.B _,f,i,Ŗ,q)]|t=>rwa[ite_tt (chain_last (gP (m _ S σ f _ i q) λW K Z=>by let(L,M,T,U,Y):=Z;rwa[N _ K σ M y L u W Q T R U Y]))]
def uV:Â<2^63:=∅
def Hy:jz X (binaryOp .Add) λx y H Q=>∃i j,x=.S i/\y=.S j/\i.length+j.length<=Â/\Q (.S (i++j)) H:=by intro p s σ H x y v u Q I r R h;let(i,j,rfl,rfl,z,q):=h;let(t,rfl):=r;let(T,rfl):=R;rwa[add_str (λT k=>(.S _,H,I.tok _,(_,Ŗ),q)) z]
def rV(r:Vals [x] us):∃u,us=[u]/\RelV x u:=by cases r with|k R d=>cases d;exact(_,Ŗ,R)
def Lm:dW X (.type "int") λxs H Q=>(∃i,xs=[.I i]/\Q (.I i) H)\/∃k,xs=[.B k]/\Q (.I (if k then 1 else 0)) H:=by
 intro p s σ H xs U Q I r h;rcases h with ⟨i,rfl,q⟩|⟨k,rfl,q⟩;.let(u,rfl,t,rfl):=rV r;rwa[call_int_int (.I i,H,I,(_,Ŗ),q)]
 .let(u,rfl,R):=rV r;cases R;rwa[call_int_bool (.I _,H,I.tok _,(_,Ŗ),q)]
def Bz:dW X (.type "str") λxs H Q=>∃i,xs=[.I i]/\i.natAbs.log2<1920/\Q (.S (toString i)) H:=by intro p s σ H xs U Q I r h;let(i,rfl,z,q):=h;let(u,rfl,t,rfl):=rV r;rwa[PySem.P.str_of_int z (.S _,H,I.tok _,(_,Ŗ),q)]
structure F2(h:É)(x dx C:Á)(mA:b1):ß where
 obj:h.get? x=O (instObj C dx)ns:h.Ns1 dx mA
 ne:dx≠x
def Mc{h:É}(n:h.Ns1 d m):∃b,h.get? d=O b/\∀name,lookIn name b=O (m name):=by
 let(o,E,p,H,c,k,_,f):=n;erw[(o,H,λname=>?_)];let e:=f name;delta nsFind findBy at e;rw[<-Dj]at e;delta lookIn;rw[c];dsimp only;split;.ext y q;rw[q]at e;rwa[cY _ e]
 .ext q;rw[q]at e;let a:E.toList.any (·.refKey)=false:=by rw[List.any_eq_false];intro y g;let(z,t,L):=k y (Array.mem_toList_iff.mp g);simp[DictEntry.refKey,L]
  rw[dh (by rw[a];rwa[aD])];rwa[cY _ e]
def F2.look{m:Ã->Ő _}(I:F2 h x d C m):∃o,PySem.W.InstAt h x (instObj C d) C (O o)/\∀name,lookIn name o=O (m name):=let (o,H,l):=Mc I.ns;(o,(I.obj,Ŗ,Ŗ,H),l)
def U4{E:dH}{K:Æ}{Q:dH}(X:K.In s.heap)(I:F2 s.heap x dx C mA)(g:plainGet K C name)(a:hasDictIn K C)(b:findIn K (.ref C) name=O aa)(c:mA name=O v)(H:handedIn v)(h:Q v {s with toks:=s.toks+1}):a6 (a8 prog w) A (getAttr (.ref x) name e) Q E s:=by let(o,j,l):=I.look;rwa[PySem.W.get_value X j (A9 g).1 (PySem.W.findObj_own a b Ŗ nofun) H h]
def Oy{E:dH}{K:Æ}(X:K.In s.heap)(I:F2 s.heap x dx C mA)(H:plainGet K C name)(a:findIn K (.ref C) name=O (O (.ref f)))(t:isFn K (.ref f))(b:mA name=aa)(h:Q (.ref f,[.ref x]) s):a6 (a8 prog w) A (getMethod (.ref x) name p) Q E s:=by let(o,j,l):=I.look;rwa[PySem.W.method_fn X j (A9 H).1 (A9 H).2 a (Te.mp t) (by show(lookIn _ o).map _=O _;rw[l,b];rfl) h]
def Xz{E:dH}{K:Æ}(X:K.In s.heap)(I:F2 s.heap x dx C mA)(e:findIn K (.ref C) "__setattr__"=O (O (.builtin "object.__setattr__")))(p:plainOver K C)(t:takerIn K C name=O aa)(g:hasDictIn K C)(i:ć mA n)(q:À n<=Â)(h:∀a,F2 a x dx C (λy=>if y=name then O v else mA y)->ã dx s.heap a->Q ⟨⟩ {s with heap:=a,toks:=s.toks+2}):a6 (a8 prog w) A (setAttr (.ref x) name v) Q E s:=by let(r,j,u):=I.look;erw[PySem.W.set_plain X j e (PySem.W.osa_open X j p t λb=>?_)];let(z,k,l):=PySem.W.any_some g;erw[ae (aH (ae (ae (wpAny_loadPart I.obj (ae (Looks.here (PySem.W.looks_clsIn X k) ?_))))))];rw[l];erw[aH (ae (aH (ae ?_)))];erw[wpAny_nsSet1 I.ns λa N H=>?_];let(B,m,o,D,c,d):=N.count (PySem.Within.cons _ v i);rwa[ae (wpAny_lookBehind D (by rw[c];rwa[pastItsLine_dict (ay d nofun)]) (aH (h _ ((H.2 _ (cj I.ne)).trans I.obj,N,I.ne) H)))]
def Px{s:a5}{K:Æ}(X:K.In s.heap)(H:makesIn K C)(i:findIn K (.ref C) "__init__"=O (O (.ref f)))(a:typeIn K (.ref f)=O (.type "function"))(h:dr (a8 prog w) (A.under (.builtin "type.__call__" (.ref C::vs,k))) (.call (.ref f) (.ref (s.heap.objs.size+1)::vs,k)) (PySem.W.InitBack (s.heap.objs.size+1) R) {s with heap:=(s.heap.push emptyDict).push (instObj C s.heap.objs.size)}):dr (a8 prog w) A (.call (.ref C) (vs,k)) R s:=by rwa[PySem.W.make_core (PySem.W.makes_of X H) (PySem.W.looks_findIn X i) (λself=>PySem.W.bind_fn X _ a) (.inl Ŗ) h]
def ko(f:Ã)(v:V):Ł (Ã×V)->Ł (Ã×V)|[]=>[(f,v)]|(g,x)::r=>if g=f then(g,v)::r else(g,x)::ko f v r
theorem vI(f g:Ã)(v:V):∀fs:Ł _,(ko f v fs).lookup g=if g=f then O v else fs.lookup g
 |[]=>by
  show List.lookup g [(f,v)]=_;by_cases h:g=f;.grind
  .grind|(k,x)::r=>by
  let i:=vI f g v r;rw[show ko f v _=if k=f then(k,v)::r else(k,x)::ko f v r from Ŗ];by_cases H:k=f;.grind
  .grind
theorem uS(f:Ã)(v:V):∀fs:Ł _,f∈(ko f v fs).map (·.1)/\∀g,g∈fs.map (·.1)->g∈(ko f v fs).map (·.1)
 |[]=>(by simp[ko],λg h=>by grind)|(k,x)::r=>by
  let(i,I):=uS f v r;rw[show ko f v _=if k=f then(k,v)::r else(k,x)::ko f v r from Ŗ];by_cases H:k=f;.grind
  .grind
theorem vG(f:Ã)(v:V):∀fs:Ł _,À (ko f v fs)<=À fs+1
 |[]=>by simp[ko]|(k,x)::r=>by
  let i:=vG f v r;rw[show ko f v _=if k=f then(k,v)::r else(k,x)::ko f v r from Ŗ];by_cases h:k=f;.grind
  .grind
def qZ.some_of(r:qZ (O v) o):∃u,o=O u/\RelV v u:=by cases o with|n=>exact(r).elim|s u=>exact(u,Ŗ,r)
def qZ.none_of(r:qZ aa o):o=none:=by cases o with|n=>rfl|s u=>exact(r).elim
def LQ(r:RelV v u):handedIn u=true:=by cases v with|gH=>cases r;rfl|B b=>cases r;rfl|I i=>let(t,e):=r;cases e;rfl|S x=>let(t,e):=r;cases e;rfl|Ng b=>let(t,e):=r;cases e;rfl|UQ b=>let(t,e):=r;cases e;rfl|A a=>cases r;rfl|ty n=>cases r;rfl
def wW(D:oO P w H h)(e:H a=O (.ins C dx fs)):∃m,F2 h a dx C m/\(∀f,qZ (fs.lookup f) (m f))/\ć m (fs.map (·.1))/\À fs<=1000/\H dx=O (.own a):=by let(d,z,ne,o,m,n,r,q):=D a _ e;exact(m,(o,n,ne),r,q,z,d)
structure IF(K:Æ)(C:Á):ß where
 pg:plainGet K C Str.empty=J
 hd:hasDictIn K C=J
 po:plainOver K C=J
 sa:findIn K (.ref C) "__setattr__"=O (O (.builtin "object.__setattr__"))
def IF.get{K:Æ}(c:IF K C)(f:Ã):plainGet K C f=true:=c.pg
def nP(K:Æ)(C:Á)(f:Ã):ß:=findIn K (.ref C) f=O aa
def nP.agX{K:Æ}(n:nP K C f):takerIn K C f=O none:=by delta takerIn;rw[n];rfl
structure Tn(K:Æ)(C:Á)(m:Ã)(f:Á):ß where
 at_:findIn K (.ref C) m=O (O (.ref f))fn:isFn K (.ref f)=J
 kp:keepIn K (.ref f)=J
def yg{σ:Ç}{E:dH}{Q:dH}(I:Inv X am σ H s)(e:H a=O (.ins C dx fs))(c:IF X.K C)(n:nP X.K C f)(l:fs.lookup f=O v)(h:∀u s',Inv X am σ H s'->RelV v u->Q u s'):a6 (a8 X.prog X.w) A (getAttr (.ref a) f b) Q E s:=by let(m,o,r,_,_,_):=wW I.di e;let(u,hu,R):=qZ.some_of (by rw[<-l];rwa[r f]);rwa[U4 I.oR o (c.get f) c.hd n hu (LQ R) (h u _ (I.tok _) R)]
def GV{σ:Ç}{E:dH}(I:Inv X am σ H s)(e:H a=O (.ins C dx fs))(c:IF X.K C)(k:Tn X.K C m g)(l:fs.lookup m=aa)(h:Q (.ref g,[.ref a]) s):a6 (a8 X.prog X.w) A (getMethod (.ref a) m p) Q E s:=by let(M,o,r,_,_,_):=wW I.di e;rwa[Oy I.oR o (c.get m) k.at_ k.fn (qZ.none_of (by rw[<-l];rwa[r m])) h]
def yR{σ:Ç}{E:dH}(I:Inv X am σ H s)(e:H a=O (.ins C dx fs))(c:IF X.K C)(n:nP X.K C f)(t:À fs<1000)(R:RelV y u)(h:∀s',Inv X am σ (upd H a (.ins C dx (ko f y fs))) s'->Q ⟨⟩ s'):a6 (a8 X.prog X.w) A (setAttr (.ref a) f u) Q E s:=by
 let(m,d,r,W,_,j):=wW I.di e;erw[Xz I.oR d c.sa c.po n.agX c.hd W (by rw[ai,Na];lia) λx i S=>h _ ?_];erw[I.write (by rw[e];rwa[è]) (.inr j) (λb q k z=>(S.2 b k).trans z) (let (o,_,_,l,_):=i.ns;(o,l)) ?_];erw[(by rw[bJ d.ne];rwa[j],?_,d.ne,i.obj,_,i.ns,λg=>?_,λg p=>?_)];.let:=vG f y fs;lia
 .rw[vI];by_cases q:g=f;.rw[cG q,cG q];rwa[R]
  .rw[dh q,dh q];rwa[r g]
 .by_cases q:g=f;.rw[q];exact(uS f y fs).1
  .erw[(uS f y fs).2 g (W g λz=>p ?_)];show(if g=f then O u else m g)=aa;rw[dh q];rwa[z]
def Inv.made{σ:Ç}(I:Inv X am σ H s):Inv X am σ (upd (upd H s.heap.objs.size (.own (s.heap.objs.size+1))) (s.heap.objs.size+1) (.ins C s.heap.objs.size [])) {s with heap:=(s.heap.push emptyDict).push (instObj C s.heap.objs.size)}:=by let c:(s.heap.push emptyDict).get? _=O _:=aV _ Ŗ;erw[(I.laid (o:=.own (s.heap.objs.size+1)) (t':=s.toks) (λb u q=>aw _ q) (au _) (_,c)).laid (λb u q=>aw _ q) (su (jr _ _)) ?_];let ne:s.heap.objs.size≠s.heap.objs.size+1:=bB (cK _);exact(by rw[bJ ne,bA],bu _,ne,by let:=aV (s.heap.push emptyDict) (o:=instObj C s.heap.objs.size) Ŗ;rw[jr]at this;assumption,_,(Heap.Ns1.of_empty (_,#[],_,c,Ŗ,λe h=>Ă h ⋯,λ_=>Ŗ)).at λo q=>aw _ q,λ_=>è,λy d=>Ă Ŗ d)
def TH{E:dH}{Q:dH}(b:dL e f env (Ê e env)=Ê e env)(h:a6 (a8 prog w) A (Ê e env) (λo S=>a6 (a8 prog w) A (getAttr o f J) Q E S) E s):a6 (a8 prog w) A (Ê (.Attribute e f pos) env) Q E s:=Attribute_any_ h (by rw[arm_eval_Attribute,b])
def Ŧ(K:Æ)(t:TE)(f:Ã):TE:=λσ H Q=>t σ H λx h=>∃a C d fs v,x=.A a/\h a=O (.ins C d fs)/\IF K C/\nP K C f/\fs.lookup f=O v/\Q v h
def Et(K:Æ)(t T:TE)(f:Ã):TS:=λD σ H=>T σ H λy b=>t σ b λx h=>∃a C d fs,x=.A a/\h a=O (.ins C d fs)/\IF K C/\nP K C f/\À fs<1000/\D.nx σ (upd h a (.ins C d (ko f y fs)))
def OH(X:Cx)(o:d4)(rd:V->V->Hp->VK->ß):ß:=∀(p:Ł _)(s:a5)(σ:Ç)(H:Hp)(x y:V)(u v:Ä)(Q:VK),Inv X p σ H s->RelV x u->RelV y v->rd x y H Q->a6 (a8 X.prog X.w) X.A (inplaceOp o u v) (EP X p σ Q) X.xe s
def Kr(K:Æ)(t T:TE)(rd:V->V->Hp->VK->ß)(f:Ã):TS:=λD σ H=>t σ H λx h=>∃a C c fs v,x=.A a/\h a=O (.ins C c fs)/\IF K C/\nP K C f/\fs.lookup f=O v/\T σ h λy e=>rd v y e λz b=>∃d E,b a=O (.ins C d E)/\À E<1000/\D.nx σ (upd b a (.ins C d (ko f z E)))
def Ō(b:PE X e ta)(d:dL e f X.env (Ê e X.env)=Ê e X.env):PE X (.Attribute e f pos) (Ŧ X.K ta f):=by intro p s σ H Q I h;erw[TH d (oV (b _ s σ H _ I h) λu s1 x g i r a=>?_)];let(a,C,D,fs,v,ex,E,c,n,l,q):=a;subst ex;obtain rfl:u=Ö a:=r;rwa[yg i E c n l λU s2 j R=>(v,g,j,R,q)]
def abk(b:PE X o ta)(v:PE X ce tv)(d:el ce (O (.Attribute o f pos')) pos.line X.env=pure af):PS X (.Assign [.Attribute o f pos'] ce pos) (Et X.K ta tv f):=by intro p s σ H D I h;erw[plainObj_wpAny_Assign_Attribute (oV (v _ s σ H _ I h) λu s1 y g i r q=>oV (b _ s1 σ g _ i q) λj s2 x t k R a=>?_) d];let(a,C,w,fs,ex,E,c,n,l,Q):=a;subst ex;obtain rfl:j=Ö a:=R;rwa[yR k E c n l r λS m=>(σ,_,m,Q)]
def MF(b:PE X o ta)(d:PE X ce tv)(g:OH X p rd):PS X (.AugAssign (.Attribute o f Fs) p ce pos) (Kr X.K ta tv rd f):=by intro P s σ H D I h;erw[wpAny_AugAssign_AttributeAny (oV (b _ s σ H _ I h) λi s1 x j k r a=>?_)];let(a,C,W,fs,v,ex,m,c,n,l,q):=a;subst ex;obtain rfl:i=Ö a:=r;rwa[yg k m c n l λu s2 t R=>gP (d _ s2 σ j _ t q) λw S Z=>by let(y,A,B,F,Q):=Z;rwa[gP (g _ S σ A v y u w _ B R F Q) λY s4 Z=>by let(z,H3,G,L,M,Eg,E,N,T):=Z;rwa[yR G E c n N L λs5 U=>(σ,_,U,T)]]]
def UV:V->V->Hp->VK->ß:=λx y H Q=>∃i j,x=.I i/\y=.I j/\Q (.I (i+j)) H
def δ:OH X .Add UV:=by rintro p s σ H x y u v Q I r R ⟨i,j,rfl,rfl,q⟩;let(t,rfl):=r;let(T,rfl):=R;rwa[PyProof.Rows.iadd_int (.I _,H,I.tok _,(_,Ŗ),q)]
section
variable{X:Cx}{am:b4}{σ:Ç}{H:Hp}{s:a5}{A:bp}{E:dH}{Q:dH}{c:Ä}{b:Þ}
inductive uC(K:Æ)(H:Hp):V->Ä->ß where|gH:uC K H .gH (.type "NoneType")|bl(x:Þ):uC K H (.B x) (.type "bool")|int(i:Î):uC K H (.I i) (.type "int")|str(x:Ã):uC K H (.S x) (.type "str")|UQ(x:UInt64):uC K H (.UQ x) (.type "float")|lst{a:Á}{xs:ϕ}(e:H a=O (.L xs)):uC K H (.A a) (.type "list")|JA{a:Á}{o:Obj}{xs:ϕ}(e:H a=O (.JA o (.L xs))):uC K H (.A a) (.type "list")|tup{a:Á}{xs:ϕ}(e:H a=O (.T xs)):uC K H (.A a) (.type "tuple")|dK{a:Á}{bI:Ł (b6×V)}(e:H a=O (.dK bI)):uC K H (.A a) (.type "dict")|dT{a:Á}{bI:Ł (Ł b6×V)}(e:H a=O (.dT bI)):uC K H (.A a) (.type "dict")|ins{a C dx:Á}{fs:Ł (Ã×V)}(e:H a=O (.ins C dx fs))(cl:IF K C)(ha:findIn K (.ref C) "__class__"=O (O (.builtin "object.__class__")))(hn:specialIn K (.builtin "object.__class__") "__get__"=O (O (.builtin "getset_descriptor.__get__")))(htk:takesIn K (.builtin "object.__class__")=O J)(hm:mroIn K C (.type "object")=O J):uC K H (.A a) (.ref C)
def L4(I:Inv X am σ H s)(r:RelV x u)(ty:uC X.K H x t)(e:kitOne X.K t c=O b)(h:∀T,Q (.bool b) {s with toks:=T}):a6 (a8 X.prog X.w) A (call (.builtin "isinstance") [u,c]) Q E s:=by cases ty with|gH=>cases r;rwa[cP PySem.W.kitx_none I.oR è e (λz=>nomatch z) h]|bl y=>cases r;rwa[cP PySem.W.kitx_bool I.oR è e (λz=>nomatch z) h]|int i=>let(t,q):=r;cases q;rwa[cP PySem.W.kitx_int I.oR è e (λz=>nomatch z) h]|str y=>let(t,q):=r;cases q;rwa[cP PySem.W.kitx_str I.oR è e (λz=>nomatch z) h]|UQ y=>let(t,q):=r;cases q;rwa[cP PySem.W.kitx_float I.oR è e (λz=>nomatch z) h]|@lst a l f=>cases show u=Ö a from r;let(_,_,n,_,g):=I.di a _ f;rwa[cP PySem.W.kitx_list I.oR (_,g,Ŗ) e (λz=>nomatch z) h]|@JA a L l f=>cases r;let(_,_,_,n,_,g):=I.di a _ f;rwa[cP PySem.W.kitx_list I.oR (_,g,Ŗ) e (λz=>nomatch z) h]|@tup a l f=>cases show u=Ö a from r;let(_,_,_,p):=I.di a _ f;let(o,g,k,_):=p;rwa[cP PySem.W.kitx_tuple I.oR (o,g,k) e (λz=>nomatch z) h]|@dK a B f=>cases show u=Ö a from r;let(_,_,M,_,p):=I.di a _ f;let(o,v,D,g,k,_):=p;rwa[cP PySem.W.kitx_dict I.oR (o,g,k.1) e (λz=>nomatch z) h]|@dT a B f=>cases show u=Ö a from r;let(_,_,l,_,o,v,D,g,k,_):=I.di a _ f;rwa[cP PySem.W.kitx_dict I.oR (o,g,k.1) e (λz=>nomatch z) h]|@ins a C N fs f cl F hn m G=>cases r;let(P,d,_):=wW I.di f;let(R,j,_):=d.look;rwa[cP (PySem.W.kitx_own (cl.get _) cl.hd F hn m G) I.oR j e (λz=>nomatch z) h]
end
structure eE(k:Ń)(A:bp):ß where
 hd:A.handled=aa
 dp:A.depth+3*k+5<recursionLimit
 un:A.units+16*k+200<Ì
def eE.mono(r:eE k A)(h:j<=k):eE j A:=(r.hd,by let:=r.dp;lia,by let:=r.un;lia)
theorem eE.deeper(r:eE (k+1) A)(env:à):eE k (A.deeper env):=(r.hd,by let:=r.dp;show A.depth+1+3*k+5<_;lia,by let:=r.un;show A.units+3+16*k+200<_;lia)
def Hn{A:bp}:(A.under (.builtin "type.__call__" (.ref C::us,k))).depth=A.depth+1:=rfl
def Ho{A:bp}:(A.under (.builtin "type.__call__" (.ref C::us,k))).units=A.units+1:=rfl
def eE.make(r:eE (k+1) A)(C:Á)(us:Ł _)(K:Ł _):eE k (A.under (.builtin "type.__call__" (.ref C::us,K))):=(r.hd,by let:=r.dp;rw[Hn];lia,by let:=r.un;rw[Ho];lia)
theorem eE.depth(r:eE k A):A.depth<recursionLimit:=by let:=r.dp;lia
theorem eE.units(r:eE k A):A.units+64<Ì:=by let:=r.un;lia
def CM:TA:=λ_ H Q=>Q [] H
def Fp(t:TE)(tr:TA):TA:=λσ H Q=>t σ H λx h=>tr σ h λX a=>Q (x::X) a
def fw:PA X [] CM:=λ_ _ _ _ H Q I h=>rR ([],H,I,.nil,h)
def J1(a:PE X e te)(r:PA X es t)(b:ø (b5 (e::es) X.env=(af,Ê e X.env)::b5 es X.env) o0):PA X (e::es) (Fp te t):=by intro pos p s σ H Q I h;rw[b];show a6 _ _ (spliced ((af,Ê e _)::cc pos _)) _ _ s;rwa[qA (gP (a _ s σ H _ I h) λu s1 z=>by let(x,c,i,R,q):=z;exact(gP (r pos _ s1 σ c _ i q) λU s2 z=>by let(k,d,f,g,j):=z;exact(_,d,f,.cons R g,j)))]
def Ħ(t:TA):TE:=λσ H Q=>t σ H λx h=>À x<=Â/\∀p,h p=aa->Q (.A p) (upd h p (.T x))
def RA(t:TA):TE:=λσ H Q=>t σ H λx h=>À x<=Â/\∀p,h p=aa->Q (.A p) (upd h p (.L x))
def HD{x}(h:PA X es t):PE X (.Tuple es x pos) (Ħ t):=by intro p s σ H Q I a;erw[wpAny_Tuple_spliced (hY (h pos _ s σ H _ I a) λU s1 c d i r (z,q)=>(by rw[<-r.length];rwa[z],?_))];erw[(.A _,_,i.laid (λb u e=>aw _ e) (au _) ?_,Ŗ,q _ (i.di.fresh (au _)))];exact(z,U,r,(_,aV _ Ŗ,Ŗ,_,Ŗ))
def yF(h:PA X es t):PE X (.List es pos) (RA t):=by intro p s σ H Q I a;erw[wpAny_List_spliced (hY (h pos _ s σ H _ I a) λU s1 x c i r (z,q)=>(by rw[<-r.length];rwa[z],?_))];erw[(.A _,_,i.laid (λb u e=>aw _ e) (au _) ?_,Ŗ,q _ (i.di.fresh (au _)))];exact(z,U,0,r,aV _ Ŗ)
abbrev Sp:=ϕ->Hp->VK->XK->ß
abbrev Ag:=Ł à->Hp->a5->XK->Ä->a5->ß
structure Ds(P:bn)(w:a9)(K:Æ)(mg:b1)(base:É)(A:bp)(outer:Ł à)(s:a5)(H:Hp):ß where
 frames:A.frames=O outer
 mod:Mod K mg base
 bs:∀b o,base.get? b=O o->s.heap.get? b=O o/\H b=aa
 FL:base.objs.size<=s.heap.objs.size
 mx:s.heap.FunFrames base outer
 LP:∀b∈vt outer,H b=aa
 di:oO P w H s.heap
 bare:AllBare s.gens
def CE(o:Ł à)(P:bn)(w:a9)(H:Hp)(s:a5)(Q:VK)(u:Ä)(s':a5):ß:=∃v h,s'.os=s.os/\AllBare s'.gens/\Un (vt o) [] H h s.heap s'.heap/\oO P w h s'.heap/\RelV v u/\Q v h
def CR(CX:Ag)(o:Ł à)(P:bn)(w:a9)(H:Hp)(s:a5)(Q:VK)(E:XK)(r:Result)(s':a5):ß:=match r with|.ok (.ret u)=>CE o P w H s Q u s'|.ok _=>ŧ|.error e=>CX o H s E e s'
structure jT(P:bn)(w:a9)(K:Æ)(mg:b1)(base:É)(CX:Ag)(k:Ń)(f:Á)(fd:b7)(ps:ϐ)(sp:Sp):ß where len:∀vs H Q E,sp vs H Q E->À vs=(À ps)run:∀(A:bp)(outer:Ł à)(s:a5)(H:Hp)(args:Args)(us:Ł Ä)(vs:ϕ)(Q:VK)(E:XK),eE k A->Ds P w K mg base A outer s H->BindsTo s fd args (ps.zip us)->Vals vs us->sp vs H Q E->dr (a8 P w) A (.call (.ref f) args) (CR CX outer P w H s Q E) s
theorem jT.mono{K:Æ}{m:Ã->Ő _}(F:jT P w K m base CX j f d ps sp)(h:j<=k):jT P w K m base CX k f d ps sp:=(F.len,λA o s H args u v Q E r=>F.run A _ s H _ u v Q E (r.mono h))
def jT.imp{K:Æ}{m:Ã->Ő _}(F:jT P w K m base CX k f d ps sp)(h:∀vs H Q E,sp' vs H Q E->sp vs H Q E):jT P w K m base CX k f d ps sp':=(λvs H Q E q=>F.len vs H Q E (h _ _ _ _ q),λA o s H args u vs Q E r e b v a=>F.run A _ s H _ u vs Q E r e b v (h _ _ _ _ a))
def Ds.make{K:Æ}{m:Ã->Ő _}(e:Ds P w K m base A o s H)(C:Á)(us:Ł _)(k:Ł _):Ds P w K m base (A.under (.builtin "type.__call__" (.ref C::us,k))) o s H:=(by first|rwa[e.frames]|lia,e.mod,e.bs,e.FL,e.mx,e.LP,e.di,e.bare)
def Inv.J_{σ:Ç}(I:Inv X am σ H s):Ds X.prog X.w X.K X.mg X.base X.A X.stack s H:=(I.ok.frames,I.ok.mod,I.bs,ay I.ok.FL I.sz,I.stack,I.tW,I.di,I.bare)
def Inv.after{σ:Ç}(I:Inv X am σ H s)(h:CE X.stack X.prog X.w H s Q u s'):EP X am σ Q u s':=by let(v,a,os,B,un,D,r,q):=h;let(c,g,d,t,o):=s';obtain rfl:o=s.os:=os;exact(v,a,I.call un D B λb z=>Ă z ⋯,r,q)
def Rw(sp:Sp)(A:ϕ)(E:XK)(t:TA):TE:=λσ H Q=>t σ H λv h=>sp (v++A) h Q E
def RB(C:Á)(m:Ã)(sp:Sp)(b:ϕ)(E:XK)(T:TE)(t:TA):TE:=λσ H Q=>T σ H λx h=>∃a d fs,x=.A a/\h a=O (.ins C d fs)/\fs.lookup m=aa/\t σ h λv c=>sp (x::(v++b)) c Q E
def KL(C:Á)(sp:Sp)(a:ϕ)(E:XK)(t:TA):TE:=λσ H Q=>t σ H λs h=>∀x d,h x=aa->h d=aa->d≠x->sp (.A x::(s++a)) (upd (upd h d (.own x)) x (.ins C d [])) (λv b=>v=.gH/\Q (.A x) b) E
def Binds(K:Æ)(f:b7)(ps:ϐ)(ds:Ł Ä):ß:=∀(s:a5)(u:Ł _),K.In s.heap->À (u++ds)=À ps->BindsTo s f (u,[]) (ps.zip (u++ds))
def Binds.all{K:Æ}(h:∀us:Ł _,À us=À ps->bindArgs f (us,[])=pure (ps.zip us)):Binds K f ps []:=λs us _ H=>by rw[aQ]at H⊢;rwa[.of_eq (h us H)]
def eX(CX:Ag)(X:Cx)(E:XK):ß:=∀(p:Ł _)(σ:Ç)(H:Hp)(s:a5)(e:Ä)(S:a5),Inv X p σ H s->CX X.stack H s E e S->X.xe e S
section
variable{X:Cx}{CX:Ag}{k:Ń}{f C:Á}{fd:b7}{ps:ϐ}{sp:Sp}{AA:ϕ}{ds:Ł Ä}{E:XK}{x m:Ã}{p pos bb:Ð}{e o:Å}{es:Ł Å}{ta:TE}{t:TA}
def Cz{P:Ł _}{σ:Ç}(F:jT X.prog X.w X.K X.mg X.base CX k f fd ps sp)(a:eE k X.A)(b:Binds X.K fd ps ds)(d:Vals AA ds)(c:eX CX X E)(I:Inv X P σ H s)(r:Vals vs us)(h:sp (vs++AA) H Q E):a6 (a8 X.prog X.w) X.A (call (.ref f) us) (EP X P σ Q) X.xe s:=by let r2:=r.append d;erw[vX (lR (F.run X.A _ s H _ _ _ Q E a I.J_ (b s us I.oR (by rw[<-r2.length];rwa[F.len _ _ _ _ h])) r2 h) λr S q=>?_)];cases r with|error e=>rwa[c _ σ H s e S I q]|ok l=>cases l with|ret u=>rwa[I.after q]|next=>assumption|brk=>assumption|cont=>assumption
def WI(F:jT X.prog X.w X.K X.mg X.base CX k f fd ps sp)(a:eE k X.A)(g:Gl X x)(b:X.mg x=O (.ref f))(c:keepIn X.K (.ref f))(d:Binds X.K fd ps ds)(j:Vals AA ds)(l:eX CX X E)(n:PA X (e::es) t)(u:ø ((x==("__debug__":Ã))=af) P3)(v:ø (b5 (e::es) X.env=(af,Ê e X.env)::b5 es X.env) o0)(y:ø ((cc pos (b5 es X.env)).any (·.1)=af) o0):PE X (.Call (.Name x p) (e::es) [] pos) (Rw sp AA E t):=by intro P s σ H Q I h;rwa[fE (ma I g b (kB I.ok.mod.SM c (gP (n pos _ s σ H _ I h) λU s1 z=>by let(B,D,i,r,q):=z;exact(i.oR,Cz F a d j l i r q)) v y) u)]
def Qr{d:Sem Þ}(g:PE X o ta)(c:IF X.K C)(b:Tn X.K C m f)(F:jT X.prog X.w X.K X.mg X.base CX k f fd ps sp)(r:eE k X.A)(j:Binds X.K fd ps ds)(n:Vals AA ds)(y:eX CX X E)(z:ø (Ê (.Call (.Attribute o m bb) [] [] pos) X.env=do
   let v<-Ê o X.env
   standAt bb.atName let(f,first)<-dc [v] (getMethod v m d)callWith pos f first (cc pos (b5 [] X.env)) (backToKw pos (eA [] X.env))) o0):PE X (.Call (.Attribute o m bb) [] [] pos) (RB C m sp AA E ta CM):=by intro P s σ H Q I h;erw[PySem.W.methodCall_KW (oV (g _ s σ H _ I h) λu s1 x D i R a=>?_) z];let(a,G,fs,ex,B,l,q):=a;subst ex;obtain rfl:u=Ö a:=R;rwa[GV i B c b l (D' i.oR b.kp (Cz (us:=[.ref a]) (vs:=[.A a]) F r j n y i (.cons Ŗ .nil) q))]
structure Mk(K:Æ)(C f:Á):ß where
 makes:makesIn K C=J
 init:findIn K (.ref C) "__init__"=O (O (.ref f))fn:isFn K (.ref f)=J
 kp:keepIn K (.ref C)=J
def Ff{P:Ł _}{σ:Ç}(M:Mk X.K C f)(F:jT X.prog X.w X.K X.mg X.base CX k f fd ps sp)(b:eE (k+1) X.A)(c:Binds X.K fd ps ds)(g:Vals AA ds)(j:eX CX X E)(I:Inv X P σ H s)(r:Vals vs us)(h:∀x d,H x=aa->H d=aa->d≠x->sp (.A x::(vs++AA)) (upd (upd H d (.own x)) x (.ins C d [])) (λv l=>v=.gH/\Q (.A x) l) E):a6 (a8 X.prog X.w) X.A (call (.ref C) us) (EP X P σ Q) X.xe s:=by
 let q:=h (s.heap.objs.size+1) _ (I.di.fresh (nG _)) (I.di.fresh (au _)) (bB (cK _));let i:=Inv.made (C:=C) I;let R:Vals (V.A (s.heap.objs.size+1)::(vs++AA)) _:=.cons Ŗ (r.append g);let hl:=by let e:=R.length;rw[F.len _ _ _ _ q]at e;rwa[e.symm]
 erw[vX (Px I.oR M.makes M.init (Te.mp M.fn) (lR (F.run _ _ _ _ _ _ _ _ E (b.make C us []) (i.J_.make C us []) (c _ _ i.oR hl) R q) λr S a=>?_))];cases r with|error e=>rwa[j _ σ _ _ e S i a]|ok n=>cases n with|ret u=>let(v,y,z,B,D,G):=i.after a;subst D;exact(B,(V.A _,y,z,Ŗ,G))|next=>assumption|brk=>assumption|cont=>assumption
def WO(M:Mk X.K C f)(F:jT X.prog X.w X.K X.mg X.base CX k f fd ps sp)(a:eE (k+1) X.A)(g:Gl X x)(b:X.mg x=O (.ref C))(c:Binds X.K fd ps ds)(d:Vals AA ds)(j:eX CX X E)(l:PA X (e::es) t)(n:ø ((x==("__debug__":Ã))=af) P3)(u:ø (b5 (e::es) X.env=(af,Ê e X.env)::b5 es X.env) o0)(v:ø ((cc pos (b5 es X.env)).any (·.1)=af) o0):PE X (.Call (.Name x p) (e::es) [] pos) (KL C sp AA E t):=by intro P s σ H Q I h;rwa[fE (ma I g b (kB I.ok.mod.SM M.kp (gP (l pos _ s σ H _ I h) λU s1 z=>by let(y,B,i,r,q):=z;exact(i.oR,Ff M F a c d j i r q)) u v) n)]
def Qq(M:Mk X.K C f)(F:jT X.prog X.w X.K X.mg X.base CX k f fd ps sp)(r:eE (k+1) X.A)(g:Gl X x)(a:X.mg x=O (.ref C))(b:Binds X.K fd ps ds)(d:Vals AA ds)(c:eX CX X E)(i:ø ((x==("__debug__":Ã))=af) P3):PE X (.Call (.Name x p) [] [] pos) (KL C sp AA E CM):=by intro P s σ H Q I h;rwa[fE (ma I g a (D' I.oR M.kp (Ff (us:=[]) M F r b d c I .nil h)) i)]
end
structure dR(N P:ϐ)(sc:Ï):ß where
 kind:sc.kind=.function
 co:sc.isCoroutine=af
 gen:sc.isGenerator=af
 nd:N.Nodup
 pre:N.take (À P)=P
 par:∀x∈P,sc.names.lookup x=O .local\/sc.names.lookup x=O .cell
 aau:∀y∈sc.names,y.2≠.free
theorem Aq{kindOf:Ã->Ő _}:∀{binds:Ł _}{m:Ã->Ő _},(∀v,(x,v)∉binds)->bindL kindOf binds m x=m x
 |[],_,_=>Ŗ|(n,v)::r,m,h=>by
  delta bindL;rw[Aq λw H=>h w (ak _ H)];split;.grind
  .rfl
theorem Ao{kindOf:Ã->Ő _}:∀{binds:Ł _}{m:Ã->Ő _},(∀v,(x,v)∉binds)->bindC kindOf binds m x=m x
 |[],_,_=>Ŗ|(n,v)::r,m,h=>by
  delta bindC;rw[Ao λw H=>h w (ak _ H)];split;.rfl
  .grind
theorem Ap{kindOf:Ã->Ő _}{x:Ã}{v:Ä}:∀{P:ϐ}{vs:Ł _}{i:Ń}{m:Ã->Ő _},P.Nodup->P[i]?=O x->vs[i]?=O v->kindOf x=O .local->bindL kindOf (P.zip vs) m x=O v|[],_,_,_,_,h,_,_=>by grind|_::_,[],_,_,_,_,h,_=>by grind|p::P,w::vs,0,m,nd,H,a,k=>by simp at H a;subst H;subst a;show bindL _ ((p,w)::P.zip vs) m p=_;delta bindL;rw[Aq λv b=>(cO.mp nd).1 (wG b).1,cG k];simp|p::P,w::vs,i+1,m,nd,H,a,k=>by show bindL _ ((p,w)::P.zip vs) m x=_;rwa[Ap (cO.mp nd).2 (by done) (by done) k]
theorem An{kindOf:Ã->Ő _}{x:Ã}{v:Ä}:∀{P:ϐ}{vs:Ł _}{i:Ń}{m:Ã->Ő _},P.Nodup->P[i]?=O x->vs[i]?=O v->kindOf x≠O .local->bindC kindOf (P.zip vs) m x=O v|[],_,_,_,_,h,_,_=>by grind|_::_,[],_,_,_,_,h,_=>by grind|p::P,w::vs,0,m,nd,H,a,k=>by simp at H a;subst H;subst a;show bindC _ ((p,w)::P.zip vs) m p=_;delta bindC;rw[Ao λv b=>(cO.mp nd).1 (wG b).1,dh k];simp|p::P,w::vs,i+1,m,nd,H,a,k=>by show bindC _ ((p,w)::P.zip vs) m x=_;rwa[An (cO.mp nd).2 (by done) (by done) k]
def start(N:ϐ)(vs:ϕ):Ç:=vs.map O++Ó (À N-À vs) aa
def uJ(CX:Ag)(P:bn)(w:a9)(K:Æ)(mg:b1)(base:É)(N:ϐ)(q:Ã)(S:Ï)(f:Á)(c:Ä)(A:bp)(outer:Ł à)(s:a5)(H:Hp)(E:XK):Cx where prog:=P;w:=w;K:=K;mg:=mg;base:=base;A:=A.deeper (envOfC q S s.heap.objs.size f c);N:=N;s₀:=s;H₀:=H;env:=envOfC q S s.heap.objs.size f c;outer:=outer;stack:=envOfC q S s.heap.objs.size f c::outer;ex:=[];calm:=J;fn:=λ_=>J;pn:=[];xe:=λe a=>a6 (a8 P w) (A.deeper (envOfC q S s.heap.objs.size f c)) (leaving (envOfC q S s.heap.objs.size f c) e) (λ_ M=>CX outer H s E e M) (λb M=>CX outer H s E b M) a
def DP{s:Ï}(h:s.names.lookup x=O .cell):∃c,(cellsFrom n s.names []).lookup x=O c:=by rwa[bN.mp (vV _ n [] (.inl h))]
def AG{K:Æ}{M:Ã->Ő _}(S:dR N ps d)(F:A.handled=aa)(e0:Ds P w K M base A o s H)(I:À vs=À ps)(r:Vals vs us)(x:InCallC s s.heap.objs.size (bindL (envOfC Q d s.heap.objs.size f C).kindOf (ps.zip us) λ_=>aa) (cellsFrom (s.heap.objs.size+1) d.names []) (bindC (envOfC Q d s.heap.objs.size f C).kindOf (ps.zip us) λ_=>aa) s1):Inv (uJ CX P w K M base N Q d f C A o s H E) [] (start N vs) H s1:=by
 let L:À ps<=À N:=by let:=cY À S.pre;rw[bX]at this;lia
 let(t,T,rfl,D):=x.done;let n:∀b:Á,b∉(uJ CX P w K M base N Q d f C A o s H E).ex:=λb z=>Ă (show b∈[]from z) ⋯;erw[((e0.mod,S.kind,Ŗ,Ŗ,au _,λy z c t g=>name_of_addr x.apart (jS t) (jS g),λy j=>?_,λy c _ h=>sy (x.above y c (jS h)),λ_=>F,Around.frames_deeper e0.frames,.inr (Ŗ,Ŗ),λb z=>Ă z (n b),e0.bs,e0.FL,λb _ _=>n b,λb z=>Ă z (n b),e0.mx,e0.LP),Ŗ,e0.bare,Un.kept D,(_,x.toInCall.ns,λi y v t g U=>?_),λy c h=>(_,x.cell y c h),e0.di.fresh (au _),λy c h=>e0.di.fresh (sy (x.above y c (jS h))),λp l=>Ă (show p∈[]from l) ⋯,e0.di.kept D,?_)]
 .rcases j with j|j;.rwa[DP j]
  .rwa[Ă Ŗ (S.aau _ (jS j))]
 .let B:i<À vs:=by
   delta start at g;by_cases B:i<À vs;.done
   .rw[aK (by simpa using B),gS]at g;split at g<;>cases g
  let G:vs[i]?=O v:=by delta start at g;rw[aY (by simpa using B),bP]at g;cases e:vs[i]? with|n=>left|s a=>grind
  let(u,hu,R):=r.get G;let l:ps[i]?=O y:=by rw[<-S.pre,j8 ()];rwa[t]
  let m:ps.Nodup:=by rw[<-S.pre];rwa[S.nd.sublist (List.take_sublist _ _)]
  erw[(u,R,?_)];rcases S.par y (aZ l)with k|k;.rwa[.inl (k,Ap m l hu k)]
  .let(c,e):=DP k;erw[.inr (.inl k,c,e,?_)];let q:=x.cell y c e;rw[An m l hu (by show d.names.lookup y≠_;rw[k];decide)]at q;rwa[q]
 .delta start;show _=À N;rw[ah,ai,cH];lia
def Ot{K:Æ}{m:Ã->Ő _}{kV:Ä}(lk:K.lookup f=O (oc,C,.func (fnOf name l p B a D kV doc i y F ct),G))(L:codeIn K F l)(S:dR N ps a)(len:∀vs H Q E,sp vs H Q E->À vs=À ps)(M:∀(A:bp)(c:Ł à)(s:a5)(H:Hp)(vs:ϕ)(Q:VK)(E:XK),eE k (A.deeper (envOfC l a s.heap.objs.size f F))->sp vs H Q E->∃t,ph (uJ CX P w K m base N l a f F A c s H E) B t/\t {nx:=λ_ H'=>Q .gH H',rt:=Q} (start N vs) H):jT P w K m base CX (k+1) f (fnOf name l p B a D kV doc i y F ct) ps sp:=by
 erw[(len,λA c s H args us vs Q E g e0 T r z=>?_)];let X:=e0.mod.SM.keeps λb o e=>(e0.bs b o e).1;erw[YO g.depth (X _ _ lk) rfl S.co S.gen rfl (PySem.W.codeRec_of X L) (T _ _ _ _ ?_)];erw[Tf S.kind (λ(n,v) U=>by
  rcases S.par n (wG U).1 with q|q;.rwa[.inl q]
  .rwa[.inr (q,vV _ _ _ (.inl q))]) λY Z s1 x=>?_];subst Z;erw[((e0.mod.nolimit.keeps λb o e=>(e0.bs b o e).1).keeps x.toInCall.keep,codeAny_func ?_)];let(t,ht,hq):=M A _ s H vs Q E (g.deeper _) z;let I:Inv (uJ CX P w K m _ N l _ f F A _ s H E) [] _ H s1:=AG S g.hd e0 (len _ _ _ _ z) r x;erw[d7 (ht [] s1 _ H _ I hq) (λfl s' h=>?_) λe s' h=>h];let fin:∀{d:Ç}{H':Hp}{v:V}{u:Ä},Inv (uJ CX P w K m base N l a f F A _ s H E) [] d H' s'->RelV v u->Q v H'->CE c P w H s Q u s':=λ{d H' v u}j R q=>(v,H',j.os,j.bare,j.base,j.di,R,q);cases fl with|ret u=>let(v,d,H',j,R,q):=h;rwa[fin j R q]|next=>let(d,H',j,q):=h;rwa[fin (v:=V.gH) j Ŗ q]|brk=>let(_,_,_,q):=h;rwa[ç q]|cont=>let(_,_,_,q):=h;rwa[ç q]
def j1(r:ϕ->Hp->VK->ß)(t:TA):TE:=λσ H Q=>t σ H λv h=>r v h Q
def Qm{id:String}(c:dW X (.builtin id) r)(g:Gl X x)(m:X.mg x=aa)(v:b' x=O (.builtin id))(a:PA X (e::es) t)(hn:ø (x≠"__name__") P3)(k:ø ((x==("__debug__":Ã))=af) P3)(b:ø (b5 (e::es) X.env=(af,Ê e X.env)::b5 es X.env) o0)(E:ø ((cc pos (b5 es X.env)).any (·.1)=af) o0):PE X (.Call (.Name x p) (e::es) [] pos) (j1 r t):=by intro P s σ H Q I h;rwa[fE (yn I g m v (PyProof.Rows.callWith_builtin1 (gP (a pos _ s σ H _ I h) λu s1 z=>by let(d,f,i,R,q):=z;rwa[c _ s1 σ f d u Q i R q]) b E) hn k)]
def Mx(c:dW X (.type T) r)(g:Gl X x)(m:X.mg x=aa)(v:b' x=O (.type T))(a:PA X (e::es) t)(hn:ø (x≠"__name__") P3)(k:ø ((x==("__debug__":Ã))=af) P3)(b:ø (b5 (e::es) X.env=(af,Ê e X.env)::b5 es X.env) o0)(E:ø ((cc pos (b5 es X.env)).any (·.1)=af) o0):PE X (.Call (.Name x p) (e::es) [] pos) (j1 r t):=by intro P s σ H Q I h;rwa[fE (yn I g m v (pk (hY (a pos _ s σ H _ I h) λu s1 d f i R q=>c _ s1 σ f d u Q i R q) b E) hn k)]
end L2
namespace HT
section
open PySem.SeqAt
open PySem.AutoSeq1(wpAny_loadPart')
open PySem.MeetsSeq PySem.MeetsSeq2 PySem.MeetsSeq3
end
def Ub{E:dH}{Q:dH}(g:IsTup s.heap t vs.toArray)(i:IsTup s.heap b ws.toArray)(v:vs ≠[])(j:ws=[]->Q (.ref t) s)(k:ws ≠[]->Q (.ref s.heap.objs.size) {s with heap:=s.heap.push {cls:=.type "tuple",data:=.seq (vs++ws).toArray}})(l:À vs+À ws<=Â):a6 (a8 prog w) A (binaryOp .Add (.ref t) (.ref b)) Q E s:=by
 obtain⟨⟨cls,D,data,sl⟩,o,c,n,f⟩:=id g;obtain⟨⟨z,d,data2,S⟩,U,h,N,H⟩:=id i;simp only at c f h H;subst c f h H;let e:vs.toArray++ws.toArray=(vs++ws).toArray:=⋯
 by_cases a:ws=[];.rwa[ul (_,o,Ŗ) (_,U,Ŗ) La ZI vU uu (sf _ _) (tuple_addW1 t b _ _ n N D d sl S (by simpa using v) nofun) (o,U,j a)]
 .erw[ul (_,o,Ŗ) (_,U,Ŗ) La ZI vU uu (sf _ _) (tuple_addW2 t b _ _ n N D d sl S (by simpa using v) (by simpa using a) (by done)) (o,U,?_)];rw[e];rwa[k a]
def nB(n d:Ń):Ő Î->Ń|aa=>d|O v=>if v<0 then(v+n).toNat else min v.toNat n
def Fh(n d:Ń):nB n d aa=d:=rfl
def Ks(n d k:Ń):nB n d (O k)=min k n:=rfl
def BB(v:Î)(n d:Ń):(if v<0 then max (v+n) 0 else min v n)=nB n d (O v):=by
 show(if v<0 then max _ 0 else min v _)=(if v<0 then(v+n).toNat else min _ n:Ń);by_cases h:v<0;.left
 .grind
def F6(lo h:Ő Î)(n:Ń):Ĥ lo h 1 n=((nB n 0 lo:Î),(nB n n h:Î)):=by
 erw[Prod.ext ?_ ?_];.cases lo with|n=>rfl|s v=>rwa[BB v n 0]
 .cases h with|n=>rfl|s v=>rwa[BB v n n]
def HF(i j:Ń):Ĉ i j 1=j-i:=by
 delta Ĉ;let h:(1:Î)>0:=()
 simp only[h,rT,Int.ediv_one];split<;>lia
def yT{E:dH}(p:IsPart v o)(h:Q o s):a6 (a8 prog w) A (Builtin.Slice.slicePartIndex v) Q E s:=by cases p with|n=>rwa[slicePart_none h]|int i t=>rwa[slicePart_int h]
def nD{E:dH}{lo:Ő Î}{Q:Î×Î×Ń->a5->ß}(a:s.heap.IsSliceOf sl v u .none)(p:IsPart v lo)(P:IsPart u i)(h:Q (nB n 0 lo,1,nB n n i-nB n 0 lo) s):a6 (a8 prog w) A (Builtin.Slice.sliceApplied (.ref sl) (pure n)) Q E s:=by let(os,c,b,H):=id a;erw[ae (ae (bU c H (x:=v) Ŗ (ae (bU c H (x:=u) Ŗ (ae (bU c H (x:=.none) Ŗ (aH ?_)))))))];erw[ae (slicePart_none ?_)];erw[ae (yT p (ae (yT P (ae (aH ?_)))))];show a6 _ _ (match Ĥ lo i 1 _ with|(lo,i)=>pure (Prod.mk lo (Prod.mk (1:Î) (Ĉ lo i 1)))) _ _ s;rw[F6 lo i n];show a6 _ _ (pure _) _ _ s;rw[HF];rwa[aH h]
def QI(xs:Array Ä)(i k:Ń):((Û k).filterMap λ(m:Ń)=>xs[((i:Î)+m*1).toNat]?).toArray=((xs.toList.drop i).take k).toArray:=by
 let e:(λ(m:Ń)=>xs[((i:Î)+m*1).toNat]?)=λm=>xs[i+m]?:=by
  funext m;let:((i:Î)+m*1).toNat=i+m:=()
  rw[this]
 rw[e];let:=pick_run xs i k;rw[List.filterMap_map]at this;let a:((λx=>xs[x]?)∘ λx=>i+x)=λm=>xs[i+m]?:=Ŗ;rw[a]at this;rw[this]
def sX{E:dH}{lo:Ő Î}{Q:dH}(a:IsTup s.heap t be)(c:s.heap.IsSliceOf sl v u .none)(p:IsPart v lo)(P:IsPart u H)(f:¬(nB be.size 0 lo=0/\nB be.size be.size H=be.size))(h:Q (.ref s.heap.objs.size) {s with heap:=s.heap.push {cls:=.type "tuple",data:=.seq ((be.toList.drop (nB be.size 0 lo)).take (nB be.size be.size H-nB be.size 0 lo)).toArray}})(g:be.size<=Â):a6 (a8 prog w) A (getItem (.ref t) (.ref sl)) Q E s:=by
 let(os,d,b,e):=id c;delta getItem;try with_reducible erw[c7 ?_]
 erw[ae (wpAny_sequenceKey a.typeIs Ŗ ?_)];erw[ae (dB a.typeIs cX (gU cX a.typeIs G2 ?_ (args_tuple_getitem _ _)))];show a6 _ _ (Builtin.Tuple.tupleItemsOf _>>=_) _ _ s;erw[ae (tupleItemsOf_ a ?_)];erw[ae (vY (os,d,b) ?_)];erw[ae (nD c p P ?_)];show a6 _ _ (if((nB _ 0 lo:Î)==0&&1==1&&nB _ _ H-nB _ 0 lo==be.size)=J then _ else _) _ _ s;rw[dh (),QI];first|rwa[ae (gb (aH (_,Ŗ,aH h)) (by show((be.toList.drop _).take _).toArray.size<=Â;rw[aW,bX,fh,aX];lia))]|rfl|lia|lia
end HT
namespace L2
abbrev TO:=Ç->Hp->(Ő Î->Hp->ß)->ß
def PO(X:Cx)(e:Ő Å)(t:TO):ß:=∀(p:Ł _)(s:a5)(σ:Ç)(H:Hp)(Q:Ő Î->Hp->ß),Inv X p σ H s->t σ H Q->a6 (a8 X.prog X.w) X.A (evalPart e X.env) (λu S=>∃o h,Inv X p σ h S/\IsPart u o/\Q o h) X.xe s
def XT:TO:=λ_ H Q=>Q aa H
def agU(t:TE):TO:=λσ H Q=>t σ H λx h=>∃i,x=.I i/\Q (O i) h
def J9:PO X aa XT:=by intro p s σ H Q I h;rwa[aH (_,H,I,.none,h)]
def Ka(h:PE X e te):PO X (O e) (agU te):=by intro p s σ H Q I w;erw[oV (h _ s σ H _ I w) λu s1 x a b r c=>?_];let(i,rfl,q):=c;let(t,rfl):=r;exact(_,a,b,.int i t,q)
def IG(X:Cx)(r:V->Ő Î->Ő Î->Hp->VK->ß):ß:=∀(p:Ł _)(s:a5)(σ:Ç)(H:Hp)(x:V)(v l u:Ä)(lo hi:Ő Î)(sl:Á)(Q:VK),Inv X p σ H s->RelV x v->s.heap.IsSliceOf sl l u .none->IsPart l lo->IsPart u hi->r x lo hi H Q->∃T id,typeLookup (.type T) "__getitem__"=pure (O (.builtin id))/\s.TypeIs v T/\a6 (a8 X.prog X.w) X.A (getItem v (.ref sl)) (EP X p σ Q) X.xe s
def IG.or(h:IG X r)(c:IG X r'):IG X λx lo hi H Q=>r x lo hi H Q\/r' x lo hi H Q:=by
 intro p s σ H x v l u lo hi sl Q I R a P b q;rcases q with q|q;.rwa[h _ s σ H x v l u lo hi sl Q I R a P b q]
 .rwa[c _ s σ H x v l u lo hi sl Q I R a P b q]
def Ϡ(r:V->Ő Î->Ő Î->Hp->VK->ß)(te:TE)(tl th:TO):TE:=λσ H Q=>te σ H λx h=>tl σ h λl a=>th σ a λu b=>r x l u b Q
def ET{lo:Ő Å}(a:IG X r)(c:PE X e te)(d:PO X lo tl)(hu:PO X hi th):PE X (.Subscript e (.Slice lo hi aa p2) pos) (Ϡ r te tl th):=by intro p s σ H Q I h;erw[Subscript_ (oV (c _ s σ H _ I h) λv s1 x f i R g=>?_)];erw[wpAny_Slice (gP (d _ s1 σ f _ i g) λj s2 (l,k,m,P,n)=>gP (hu _ s2 σ k _ m n) λo S u=>?_)];let(u,t,w,y,z):=u;erw[aH ?_];let(T,id,A,B,C):=a _ _ σ t x v j o l u S.heap.objs.size Q (w.kept λb D q=>aw _ q) R (Heap.IsSliceOf.new ..) P y z;rwa[tail_any B A C Ŗ]
def rh(xs:ϕ)(lo hi:Ő Î):ϕ:=(xs.drop (HT.nB (À xs) 0 lo)).take (HT.nB (À xs) (À xs) hi-HT.nB (À xs) 0 lo)
def vm(xs:ϕ)(lo hi:Ő Î):À (rh xs lo hi)<=À xs:=by delta rh;rw[bX,fh];lia
def alN(K:Æ):V->Ő Î->Ő Î->Hp->VK->ß:=λx lo hi H Q=>∃a s,x=.A a/\fS K H a s/\¬(HT.nB (À s) 0 lo=0/\HT.nB (À s) (À s) hi=À s)/\∀p,H p=aa->Q (.A p) (upd H p (.T (rh s lo hi)))
def abH:IG X (alN X.K):=by
 intro p s σ H x v l g lo hi sl Q I R d P u h;let(a,c,rfl,f,w,q):=h;cases R;let(B,r,t,z):=I.tuple f;let n:B.toArray.size=À c:=by rwa[r.length.symm]
 erw[(_,_,cX.lookup,t.typeIs,?_)];erw[HT.sX t d P u (by rw[n];rwa[w]) ?_ (by rw[n];rwa[z])];rw[n];erw[(.A _,_,I.laid (λb o q=>aw _ q) (au _) ?_,Ŗ,q _ (I.di.fresh (au _)))];exact(ay (vm c lo hi) z,_,(r.drop _).take _,IsTup.new _ _)
def af9(K:Æ):R2:=λx y H Q=>∃a b s Y,x=.A a/\y=.A b/\fS K H a s/\fS K H b Y/\s ≠[]/\À s+À Y<=Â/\(Y=[]->Q (.A a) H)/\(Y ≠[]->∀p,H p=aa->Q (.A p) (upd H p (.T (s++Y))))
def Vals.Ce(r:Vals xs us):us=[]↔xs=[]:=by cases r with|i=>simp|k _ _=>simp
def Wv:jz X (binaryOp .Add) (af9 X.K):=by intro p s σ H x y v u Q I d f h;let(a,b,m,Y,rfl,rfl,g,i,j,c,k,l):=h;cases d;cases f;let(B,R,P,_):=I.tuple g;let(n,r,p2,_):=I.tuple i;erw[HT.Ub P p2 (λz=>j (R.Ce.mp z)) (λz=>(.A a,H,I,Ŗ,k (r.Ce.mp z))) (λz=>?_) (by rw[<-R.length,<-r.length];rwa[c])];erw[(.A _,_,I.laid (λb o q=>aw _ q) (au _) ?_,Ŗ,l (λw=>z (r.Ce.mpr w)) _ (I.di.fresh (au _)))];exact(by rw[ah];rwa[c],_,R.append r,IsTup.new _ _)
def VG(n:Ń)(i:Î):Ő Ń:=if 0<=i then(if i<n then O i.toNat else aa)else if-n<=i then O (i+n).toNat else aa
def FK{α:Type}(xs:Ł α)(i:Î):Ő α:=(VG (À xs) i).bind λj=>xs[j]?
def JJ(h:VG n i=O j):seqIndex? i n=O j/\j<n/\-n<=i/\i<n:=by
 delta VG at h;by_cases a:0<=i
 .rw[cG a]at h;by_cases H:i<n;.rw[cG H]at h;exact(by rw[sZ a H,c0 h],(),(),H)
  .left
 .rw[dh a]at h;by_cases H:-n<=i;.rw[cG H]at h;exact(by rw[sB () H,c0 h],(),H,())
  .left
def Bk(h:FK xs i=O v):∃j,seqIndex? i (À xs)=O j/\xs[j]?=O v/\j<À xs/\-À xs<=i/\i<À xs:=by delta FK at h;cases e:VG (À xs) i with|n=>left|s j=>rw[e]at h;let(H,a,b,c):=JJ e;exact(j,H,h,a,b,c)
def lZ{j:Ń}{v:α}(h:xs[j]?=O v):FK xs j=O v:=by
 let hj:=(aj.mp h).1;let e:VG (À xs) j=O j:=by delta VG;rw[cG (),cG ()];simp
 delta FK;rw[e];rwa[h]
def p9(b:Å):ß:=∀o i,subscripted b af o i=operate [o,i] (getItem o i)
def Ah(X:Cx)(r:R2):ß:=∀(e slice:Å)(p:Ł _)(s:a5)(σ:Ç)(H:Hp)(x y:V)(v u:Ä)(Q:VK),Inv X p σ H s->RelV x v->RelV y u->r x y H Q->subscripted slice af v u=operate [v,u] (getItem v u)->a6 (a8 X.prog X.w) X.A (subscriptTail e slice v u) (EP X p σ Q) X.xe s
def To(X:Cx)(id:String)(r:V->ϕ->Hp->VK->ß):ß:=∀(p:Ł _)(s:a5)(σ:Ç)(H:Hp)(x:V)(a:ϕ)(v:Ä)(u:Ł _)(Q:VK),Inv X p σ H s->RelV x v->Vals a u->r x a H Q->a6 (a8 X.prog X.w) X.A (call (.builtin id) (v::u)) (EP X p σ Q) X.xe s
def Ah.or(h:Ah X r)(f:Ah X r'):Ah X λx y H Q=>r x y H Q\/r' x y H Q:=by
 intro e slice p s σ H x y v u Q I R c q d;rcases q with q|q;.rwa[h _ _ _ s σ H x y v u Q I R c q d]
 .rwa[f _ _ _ s σ H x y v u Q I R c q d]
def tI{X:Cx}{a b:Å}{ta tb:TE}{pos:Ð}{r:R2}(c:Ah X r)(d:PE X a ta)(e:PE X b tb)(f:autoParam (p9 b) Ē):PE X (.Subscript a b pos) (Zt r ta tb):=by intro p s σ H Q I h;rwa[Subscript_ (Z3 d e I h λv u s2 x y g i R j q=>c a b _ s2 σ g x y v u Q i R j q (f _ _))]
def No(K:Æ):R2:=λx y H Q=>∃p s i v,x=.A p/\y=.I i/\ie K H p s/\FK s i=O v/\Q v H
def MP(K:Æ):R2:=λx y H Q=>∃p s i v,x=.A p/\y=.I i/\fS K H p s/\FK s i=O v/\Q v H
def Vc:R2:=λx y H Q=>∃z i c,x=.S z/\y=.I i/\z.length<=Â/\FK z.cps.toList i=O c/\Q (.S ⟨#[c]⟩) H
def JK:Ah X (No X.K):=by
 intro e slice d s σ H x y v u Q I R k h f;let(p,C,i,z,rfl,rfl,l,m,q):=h;cases R;let(t,rfl):=k;let(B,r,P,D):=I.list l;let(j,c,n,G,o,A):=Bk m;let(w,E,F):=r.get n;let hl:=r.length;let hn:=uV;let fin:EP X _ σ Q w s:=(z,H,I,F,q);by_cases g:0<=i
 .let hj:=by rw[sZ g A]at c;rwa[c0 c]
  rwa[item_listR P.isList g () (by rw[hj];simpa using E) fin f]
 .let hj:(i+B.toArray.size).toNat=j:=by rw[sB () o]at c;rw[aW,<-hl];rwa[c0 c]
  rwa[ik P.isList.typeIs slot_list_getitem.lookup (wpAny_getItem_list_neg P.isList () nofun () (by rw[hj];simpa using E) (Ŗ,fin)) f]
def yk:Ah X (MP X.K):=by intro e slice P s σ H x y v u Q I R c h d;let(p,n,i,z,rfl,rfl,f,g,q):=h;cases R;let(t,rfl):=c;let(B,r,l,o):=I.tuple f;let(j,k,m,A,C,D):=Bk g;let(w,E,F):=r.get m;let hn:=uV;rwa[ik l.typeIs slot_tuple_getitem.lookup (getItem_tuple l () () (by rw[aW,<-r.length];rwa[k]) (by simpa using E) (Ŗ,(z,H,I,F,q))) d]
def Δ:Ah X Vc:=by intro e slice p s σ H x y v u Q I r R h f;let(z,i,c,rfl,rfl,o,g,q):=h;let(t,rfl):=r;let(T,rfl):=R;let(j,d,k,w,l,m):=Bk g;let n:À z.cps.toList=z.length:=Ŗ;rw[n]at d l m;let hn:=uV;rwa[tail_any (mU s z t) slot_str_getitem.lookup (getItem_str () (by rw[d];simpa using k) (.S _,H,I.tok _,(_,Ŗ),q)) f]
def ī(K:Æ):R2:=λx y H Q=>No K x y H Q\/MP K x y H Q\/Vc x y H Q
def ω:Ah X (ī X.K):=JK.or (yk.or Δ)
def Hq(B:Ł _)(n j:Ń)(u:Ä):Obj.mapSeq (·.setIfInBounds j u) {cls:=.type "list",data:=.seq B.toArray n}={cls:=.type "list",data:=.seq (B.set j u).toArray n}:=by simp[Obj.mapSeq]
def Inv.lst{P:Ł _}{σ:Ç}{H:Hp}{s:a5}{p:Á}{xs:ϕ}(I:Inv X P σ H s)(h:H p=O (.L xs)):∃(B:Ł _)(n:Ń),Vals xs B/\s.heap.get? p=O {cls:=.type "list",data:=.seq B.toArray n}/\À xs<=Â:=by let(z,B,n,r,e):=I.di p _ h;exact(B,n,r,e,z)
def Inv.aal{P:Ł _}{σ:Ç}{B:Ł _}(I:Inv X P σ H s)(h:H p=O (.L xs))(o:s.heap.get? p=O {cls:=.type "list",data:=.seq B.toArray n})(c:f {cls:=.type "list",data:=.seq B.toArray n}={cls:=.type "list",data:=.seq E.toArray n'})(r:Vals ys E)(z:À ys<=Â)(t:Ń):Inv X P σ (upd H p (.L ys)) {s with heap:=s.heap.update p f,toks:=t}:=by
 let e:(s.heap.update p f).get? p=O {cls:=.type "list",data:=.seq E.toArray n'}:=by rw[cR f o (by rw[c]<;>rfl),c]
 rwa[I.write (by rw[h];done) (.inl Ŗ) (λb u d q=>(cb _ _ (cj d)).trans q) (_,e) (z,_,n',r,e)]
def Za:V->V->V->Hp->(Hp->ß)->ß:=λo i v H Q=>∃p x k j,o=.A p/\i=.I k/\H p=O (.L x)/\VG (À x) k=O j/\Q (upd H p (.L (x.set j v)))
def Rn:Ld X Za:=by
 intro P s σ H o i v A C u Q I R w x h;let(p,D,k,j,rfl,rfl,e,y,q):=h;cases R;let(t,rfl):=w;let(B,n,r,d,z):=I.lst e;let(c,E,f,g):=JJ y;let hl:=r.length;let hn:=uV;let l:Inv X _ σ _ {s with heap:=s.heap.update p _}:=I.aal e d (Hq B n j u) (r.set x j) (by rw[bT];rwa[z]) _;by_cases m:0<=k
 .let hk:=by rw[sZ m g]at c;rwa[c0 c]
  rwa[PySem.W.ki_setAt d m () (by rw[aW,<-hl];rwa[g]) (by rw[hk];exact(_,l,q))]
 .let hk:(k+B.toArray.size).toNat=j:=by rw[sB () f]at c;rw[aW,<-hl];rwa[c0 c]
  rwa[PySem.W.ki_setBack d () (by rw[aW,<-hl];rwa[f]) () (by rw[hk];exact(_,l,q))]
def CG(lo H:Ő Î)(n:Ń):(sliceBounds lo H aa n).1=HT.nB n 0 lo/\(sliceBounds lo H aa n).2.1=HT.nB n n H/\(sliceBounds lo H aa n).2.2=1:=by
 erw[(?_,?_,Ŗ)];.cases lo with|n=>rfl|s i=>
   simp only[sliceBounds,HT.nB,Option.getD_none,show(1:Î)>0 by ext,rT];by_cases h:i<0;.simp only[h,rT]<;>lia
   .simp only[h,if_false]<;>lia
 .cases H with|n=>rfl|s i=>
   simp only[sliceBounds,HT.nB,Option.getD_none,show(1:Î)>0 by ext,rT];by_cases h:i<0;.simp only[h,rT]<;>lia
   .simp only[h,if_false]<;>lia
def Ab(B:Ł _)(lo h:Ő Î):slicePick B.toArray lo h aa=((B.drop (HT.nB (À B) 0 lo)).take (HT.nB (À B) (À B) h-HT.nB (À B) 0 lo)).toArray:=by let(H,c,d):=CG lo h _;delta slicePick;rw[H,c,d];simp only[sliceRange_one,pick_run,aW]<;>rfl
def Rg(K:Æ):V->Ő Î->Ő Î->Hp->VK->ß:=λx lo h H Q=>∃a s,x=.A a/\ie K H a s/\∀p,H p=aa->Q (.A p) (upd H p (.L (rh s lo h)))
def XB:IG X (Rg X.K):=by intro p s σ H x v l f lo i sl Q I R c P u h;let(a,d,rfl,e,q):=h;cases R;let(B,r,t,z):=I.list e;let n:=r.length;erw[(_,_,slot_list_getitem.lookup,t.isList.typeIs,?_)];erw[wpAny_getItem_list_slice t.isList c P u .none ⋯ ?_ nofun];rw[Ab,<-n];erw[(.A _,_,I.laid (λb o q=>aw _ q) (au _) ?_,Ŗ,q _ (I.di.fresh (au _)))];exact(ay (vm d lo i) z,_,0,(r.drop _).take _,aV _ Ŗ)
def pK:V->Þ|.gH=>J|.B _=>J|.I _=>J|.S _=>J|_=>af
def SG:V->V->Þ|.gH,.gH=>J|.B a,.B b=>a==b|.B a,.I b=>(if a then 1 else 0)==b|.I a,.B b=>a==if b then 1 else 0|.I a,.I b=>a==b|.S a,.S b=>a==b|_,_=>af
def Oi(R:RelV y u)(r:RelV x v)(F:pK y)(f:pK x):SeqAt.EqAt A s u v (SG y x):=by cases y with
 |gH=>cases R;cases x with|gH=>cases r;rwa[SeqAt.EqAt.same _]|B b=>cases r;rwa[SeqAt.EqAt.none_bool b]|I b=>let(t,rfl):=r;rwa[SeqAt.EqAt.none_int b t]|S b=>let(t,rfl):=r;rwa[SeqAt.EqAt.none_str b t]|_=>rwa[Ă (show af=J from f) aD]
 |B a=>cases R;cases x with|gH=>cases r;rwa[SeqAt.EqAt.bool_none a]|B b=>cases r;rwa[SeqAt.EqAt.bool_bool a b]|I b=>let(t,rfl):=r;rwa[SeqAt.EqAt.bool_int a b t]|S b=>let(t,rfl):=r;rwa[SeqAt.EqAt.bool_str a b t]|_=>rwa[Ă (show af=J from f) aD]
 |I a=>let(T,rfl):=R;cases x with|gH=>cases r;rwa[SeqAt.EqAt.int_none a T]|B b=>cases r;rwa[SeqAt.EqAt.int_bool a T b]|I b=>let(t,rfl):=r;rwa[SeqAt.EqAt.int_int a T b t]|S b=>let(t,rfl):=r;rwa[SeqAt.EqAt.int_str a T b t]|_=>rwa[Ă (show af=J from f) aD]
 |S a=>let(T,rfl):=R;cases x with|gH=>cases r;rwa[SeqAt.EqAt.str_none a T]|B b=>cases r;rwa[SeqAt.EqAt.str_bool a T b]|I b=>let(t,rfl):=r;rwa[SeqAt.EqAt.str_int a T b t]|S b=>let(t,rfl):=r;rwa[SeqAt.EqAt.str_str a T b t]|_=>rwa[Ă (show af=J from f) aD]
 |_=>rwa[Ă (show af=J from F) aD]
def L_(x:V)(u:Ä):Þ:=match u with|.none=>SG .gH x|.bool b=>SG (.B b) x|.int i _=>SG (.I i) x|.str z _=>SG (.S z) x|_=>af
def Oj(r:RelV y u)(f:pK y):L_ x u=SG y x:=by cases y with|gH=>cases r;rfl|B b=>cases r;rfl|I i=>let(t,rfl):=r;rfl|S z=>let(t,rfl):=r;rfl|_=>rwa[Ă (show af=J from f) aD]
def wK:∀{xs:ϕ}{us:Ł _},Vals xs us->xs.all pK->us.any (L_ x)=xs.any λy=>SG y x:=by intro xs us h f;induction h with|i=>rfl|k r t i=>rw[bC,aM]at f;rw[CY,CY,Oj r f.1,i f.2]
theorem pU{x:V}{v:Ä}(R:RelV x v)(F:pK x):∀{xs:ϕ}{us:Ł _},Vals xs us->xs.all pK->∀u∈us,SeqAt.EqAt A s u v (L_ x u)
 |_,_,.nil,_=>λu hu=>by grind|y::xs,u::us,.cons r t,f=>λU hu=>by
  rw[bC,aM]at f;rcases aJ.mp hu with rfl|hu;.rw[Oj r f.1];rwa[Oi r R f.1 F]
  .rwa[pU R F t f.2 U hu]
def γ(x:V)(xs:ϕ):Þ:=xs.any λy=>SG y x
def rk(K:Æ)(neg:Þ):R2:=λx y H Q=>∃p s,y=.A p/\(ie K H p s\/fS K H p s)/\pK x=J/\s.all pK=J/\Q (.B (if neg then !γ x s else γ x s)) H
def AQ:jz X (compareOp .In) (rk X.K af):=by
 intro e s σ H x y v u Q I R g h;let(p,i,rfl,c,f,fs,q):=h;cases g;rcases c with c|c;.let(L,r,P,z):=I.list c;erw[SeqAt.in_listAt _ P.isList (λw d=>pU R f r fs w (by simpa using d)) (.B _,H,I,Ŗ,?_)];rw[show L.toArray.any _=L.any (L_ x)by simp,wK r fs];rwa[q]
 .let(L,r,P,z):=I.tuple c;erw[SeqAt.in_tupleAt _ P (λw d=>pU R f r fs w (by simpa using d)) (.B _,H,I,Ŗ,?_)];rw[show L.toArray.any _=L.any (L_ x)by simp,wK r fs];rwa[q]
def Ck:jz X (compareOp .NotIn) (rk X.K J):=by
 intro e s σ H x y v u Q I R g h;let(p,i,rfl,c,f,fs,q):=h;cases g;rcases c with c|c;.let(L,r,P,z):=I.list c;erw[SeqAt.notIn_listAt _ P.isList (λw d=>pU R f r fs w (by simpa using d)) (.B _,H,I,Ŗ,?_)];rw[show L.toArray.any _=L.any (L_ x)by simp,wK r fs];rwa[q]
 .let(L,r,P,z):=I.tuple c;erw[SeqAt.notIn_tupleAt _ P (λw d=>pU R f r fs w (by simpa using d)) (.B _,H,I,Ŗ,?_)];rw[show L.toArray.any _=L.any (L_ x)by simp,wK r fs];rwa[q]
def Cm:jz X (compareOp .NotIn) λx y H Q=>∃i j,x=.S i/\y=.S j/\Q (.B !!(ä j i 0 j.length 1).isEmpty) H:=by intro p s σ H x y v u Q I r R h;let(i,j,rfl,rfl,q):=h;let(t,rfl):=r;let(T,rfl):=R;rwa[notIn_str (.B _,H,I,Ŗ,q)]
def Bv:dW X (.builtin "len") λxs H Q=>∃p ys,xs=[.A p]/\(ie X.K H p ys\/fS X.K H p ys)/\Q (.I (À ys)) H:=by
 intro d s σ H xs U Q I r h;let(p,ys,rfl,c,q):=h;let(u,rfl,x):=rV r;cases x;let hn:=uV;rcases c with c|c;.let(B,R,P,z):=I.list c;let n:=R.length;rwa[Calls.call_len_list P.isList (by simp only[aW]<;>lia) (.I _,H,I.tok _,(_,by rw[aW,n]),q)]
 .let(B,R,P,z):=I.tuple c;let n:=R.length;rwa[len_tuple P (by simp only[aW]<;>lia) (.I _,H,I.tok _,(_,by rw[aW,n]),q)]
def Bw:dW X (.builtin "len") λxs H Q=>∃z,xs=[.S z]/\z.length<=Â/\Q (.I z.length) H:=by intro p s σ H xs U Q I r h;let(z,rfl,c,q):=h;let(u,rfl,t,rfl):=rV r;let hn:=uV;rwa[len_str () (.I _,H,I.tok _,(_,Ŗ),q)]
def dW.or(h:dW X f r)(c:dW X f r'):dW X f λxs H Q=>r xs H Q\/r' xs H Q:=by
 intro p s σ H xs u Q I R q;rcases q with q|q;.rwa[h _ s σ H xs u Q I R q]
 .rwa[c _ s σ H xs u Q I R q]
def Bx:dW X (.type "list") λxs H Q=>∃p ys,xs=[.A p]/\(ie X.K H p ys\/fS X.K H p ys)/\∀l,H l=aa->Q (.A l) (upd H l (.L ys)):=by
 intro m s σ H xs U Q I r h;let(p,ys,rfl,d,q):=h;let(u,rfl,x):=rV r;cases x;let fin:∀(B:Ł _),Vals ys B->À ys<=Â->∀(c:É)(C:Ń),(∀b t,s.heap.get? b=O t->c.get? b=O t)->c.get? _=O _->EP X _ σ Q _ {s with heap:=c}:=λB R z c C k e=>(.A _,_,I.laid k (au _) (show iN _ X.w _ c _ (.L ys)from(z,B,C,R,e)),Ŗ,q _ (I.di.fresh (au _)));rcases d with d|d;.let(B,R,P,z):=I.list d;let f:=R.length;let(o,g,i,n,j):=P.isList;rwa[call_list_seq p (.inl Ŗ) g i j (λc C k e=>fin B R z c C k e) (by simp only[aW]<;>lia)]
 .let(B,R,P,z):=I.tuple d;let f:=R.length;let(o,g,i,n,j):=P;rwa[call_list_seq p (.inr Ŗ) g i j (λc C k e=>fin B R z c C k e) (by simp only[aW]<;>lia)]
def zK:dW X (.type "tuple") λxs H Q=>∃p ys,xs=[.A p]/\((ie X.K H p ys/\∀l,H l=aa->Q (.A l) (upd H l (.T ys)))\/fS X.K H p ys/\Q (.A p) H):=by
 intro d s σ H xs U Q I r h;let(p,ys,rfl,h):=h;let(u,rfl,x):=rV r;cases x;rcases h with ⟨c,q⟩|⟨c,q⟩;.let(B,R,P,z):=I.list c;let n:=R.length;erw[call_tuple_list P.isList (λf k=>?_) (by simp only[aW]<;>lia)];let i:Inv X _ σ H {s with heap:=f}:=I.kept k;let g:Inv X _ σ (upd H _ (.T ys)) {s with heap:=f.push _}:=i.laid (λb o e=>aw _ e) (au _) (z,B,R,IsTup.new _ _);exact(.A _,_,g,Ŗ,q _ (i.di.fresh (au _)))
 .let(B,R,P,z):=I.tuple c;rwa[call_tuple_same P (.A p,H,I,Ŗ,q)]
def hF(K:Æ)(T:String)(x:V)(H:Hp):ß:=match x with|.S _=>T="str"|.I _=>T="int"|.A p=>(T="list"/\∃s,ie K H p s)\/(T="tuple"/\∃o,K.lookup p=O o/\o.cls=.type "tuple"/\o.dict=aa)\/T="dict"/\((∃B,H p=O (.dK B))\/∃B,H p=O (.dT B))\/T="set"/\∃S n,H p=O (.set S n)|_=>ŧ
def RR{P:Ł _}{σ:Ç}(I:Inv X P σ H s)(r:RelV x v)(ty:hF X.K T x H):
  s.TypeIs v T/\∀a,v=.ref a->∃f,s.heap.get? a=O f/\f.dict=none:=by cases x with|S z=>let(t,rfl):=r;cases show T="str"from ty;exact(mU s z t,λ_ e=>nomatch e)|I i=>let(t,rfl):=r;cases show T="int"from ty;exact(typeIs_int s i t,λ_ e=>nomatch e)|A p=>
  cases r;rcases ty with ⟨rfl,j,q⟩|⟨rfl,o,h,g,d⟩|⟨rfl,h⟩|⟨rfl,S,n,h⟩;.let(L,_,l,_):=I.list q;erw[(l.isList.typeIs,λa e=>?_)];cases e;let(o,n,e,c,d,_):=l;exact(o,e,d)
  .erw[((o,I.oR p o h,g),λa e=>?_)];cases e;exact(o,I.oR _ o h,d)
  .let z:∃o,s.heap.get? p=O o/\o.ExactDict:=by
    rcases h with ⟨B,h⟩|⟨B,h⟩;.let(_,_,_,_,o,_,_,e,ex,_):=I.di p _ h;exact(o,e,ex)
    .let(_,_,_,_,o,_,_,e,ex,_):=I.di p _ h;exact(o,e,ex)
   let(o,e,ex):=z;erw[((o,e,ex.1),λa E=>?_)];cases E;exact(o,e,ex.2.1)
  .let(o,_,_,_,e,ex,_):=I.di p _ h;erw[((o,e,ex.1),λa E=>?_)];cases E;exact(o,e,ex.2.1)|_=>rwa[ç ty]
def Db(K:Æ)(T:String)(r:V->ϕ->Hp->VK->ß)(t:TE):TE:=λσ H Q=>t σ H λx h=>hF K T x h/\r x [] h Q
def sv(K:Æ)(T:String)(r:V->ϕ->Hp->VK->ß)(o:TE)(t:TA):TE:=λσ H Q=>o σ H λx h=>hF K T x h/\t σ h λs c=>r x s c Q
def aaV{id:String}(P:PlainAttrs T)(slot:Slot T name id)(y:typeOf (.builtin id)=pure (.type "method_descriptor"))(m:To X id r)(c:PE X o to)(S:ø (dL o name X.env (Ê o X.env)=Ê o X.env) o0)(d:ø ((bb.endLine==dw.line)=J) o0):PE X (.Call (.Attribute o name bb) [] [] dw) (Db X.K T r to):=by intro p s σ H Q I h;erw[wpAny_Call_method0_late S d (oV (c _ s σ H _ I h) λv s1 x f i R (ty,q)=>?_)];let(g,j):=RR i R ty;exact(T,id,P,slot,y,g,j,ig Ŗ (PySem.evalArgs_none (m _ s1 σ f x [] v [] Q i R .nil q)))
def yD{id:String}(P:PlainAttrs T)(slot:Slot T name id)(y:typeOf (.builtin id)=pure (.type "method_descriptor"))(m:To X id r)(c:PE X o to)(d:PA X (e::es) t)(S:ø (dL o name X.env (Ê o X.env)=Ê o X.env) o0)(D:ø (((cc dw (b5 (e::es) X.env)).all (λx=>!x.1)&&(backToKw dw (eA [] X.env)).all (λx=>x.1.isSome)&&Đ (À (e::es)+À ([]:Ł c9)+(if([]:Ł c9).isEmpty then 0 else 1)<30))=J) o0)(f:ø ((bb.endLine==dw.line)=J) o0)(g:ø (b5 (e::es) X.env=(af,Ê e X.env)::b5 es X.env) o0)(G:ø ((cc dw (b5 es X.env)).any (·.1)=af) o0):PE X (.Call (.Attribute o name bb) (e::es) [] dw) (sv X.K T r to t):=by intro p s σ H Q I h;erw[vW S D f Ŗ (oV (c _ s σ H _ I h) λv s1 x j i R (ty,q)=>?_)];let(k,l):=RR i R ty;erw[(T,id,P,slot,y,k,l,?_)];let A:=d dw _ s1 σ j _ i q;rw[g]at A⊢;rwa[ig (by done) (jq (gP A λu s2 z=>by let(n,w,B,C,E):=z;rwa[m _ s2 σ w x n v u Q B R C E]))]
def vx(X:Cx)(id:String)(r:V->ϕ->Hp->VK->ß):ß:=∀(p:Ł _)(s:a5)(σ:Ç)(H:Hp)(x:V)(a:ϕ)(v:Ä)(u:Ł _)(Q:VK),Inv X p σ H s->RelV x v->Vals a u->r x a H Q->a6 (a8 X.prog X.w) X.A (call (.builtin id) (v::u)) (EP X p σ Q) X.xe s
def Vals.one:∀{x:V}{us:Ł _},Vals [x] us->∃u,us=[u]/\RelV x u:=by intro _ _ h;cases h with|k r t=>cases t;exact(_,Ŗ,r)
def Vals.two:∀{x y:V}{us:Ł _},Vals [x,y] us->∃u v,us=[u,v]/\RelV x u/\RelV y v:=by intro _ _ _ h;cases h with|k r t=>cases t with|k q t=>cases t;exact(_,_,Ŗ,r,q)
def Vals.zero:∀{us:Ł _},Vals [] us->us=[]|_,.nil=>Ŗ
theorem Vals.dropLast(h:Vals xs us):Vals xs.dropLast us.dropLast:=by induction h with|i=>rwa[.nil]|k r t i=>cases t with|i=>done|k q T=>rwa[.cons r i]
theorem Vals.eraseIdx:∀{xs:ϕ}{us:Ł _}(i:Ń),Vals xs us->Vals (xs.eraseIdx i) (us.eraseIdx i)|_,_,_,.nil=>.nil|_,_,0,.cons _ t=>t|_,_,i+1,.cons r t=>.cons r (Vals.eraseIdx i t)
theorem Vals.rep(h:Vals xs us):∀k:Ń,Vals (Ó k xs).flatten (Ó k us).flatten|0=>.nil|k+1=>by rwa[Vals.append h (Vals.rep h k)]
theorem AL{α:Type}:∀(l:Ł α)(i:Ń),À (l.eraseIdx i)<=À l|[],_=>au _|_::_,0=>nG _|_::r,i+1=>mS (AL r i)
theorem cf(b:Ł Ä):∀(k:Ń)(acc:Ł _),List.foldl (λx X=>x++X) acc.toArray (Ó k b.toArray)=(acc++(Ó k b).flatten).toArray
 |0,acc=>⋯|k+1,acc=>by
  let e:acc.toArray++b.toArray=(acc++b).toArray:=⋯
  let E:acc++b++(Ó k b).flatten=acc++(Ó (k+1) b).flatten:=by grind
  rw[<-E,<-cf b k _,<-e,List.replicate_succ,List.foldl_cons]
def Inv.aak{σ:Ç}{B:Ł _}(I:Inv X am σ H s)(h:H l=O (.L xs))(e:s.heap.get? l=O {cls:=.type "list",data:=.seq B.toArray n})(a:f B.toArray=E.toArray)(v:Vals ys E)(z:À ys<=Â):Inv X am σ (upd H l (.L ys)) {s with heap:=s.heap.update l (Obj.mapSeq f),toks:=t'}:=by let q:=PySem.IsL.update e f;rw[a]at q;rwa[I.write (by rw[h];rwa[Ť]) (.inl Ŗ) (λd u c hu=>(cb _ _ (cj c)).trans hu) (_,q) (z,_,_,v,q)]
def Inv.aaj{σ:Ç}(I:Inv X am σ H s)(h:Vals ys B)(z:À ys<=Â):Inv X am σ (upd H s.heap.objs.size (.L ys)) {s with heap:=s.heap.push {cls:=.type "list",data:=.seq B.toArray},toks:=t'}:=I.laid (λ_ _ q=>aw _ q) (au _) (z,B,0,h,aV _ Ŗ)
theorem Inv.fresh{σ:Ç}(I:Inv X am σ H s):H s.heap.objs.size=none:=I.di.fresh (au _)
def Inv.Me{σ:Ç}(I:Inv X am σ H s)(h:H l=O (.L xs)):À xs<=Â/\∃(B:Ł _)(n:Ń),Vals xs B/\À xs=À B/\s.heap.get? l=O {cls:=.type "list",data:=.seq B.toArray n}:=by let(z,B,n,r,e):=I.di l _ h;exact(z,B,n,r,r.length,e)
def PU(h:n<=Â):Builtin.List.listTooLong n=false:=by rwa[dP ()]
def Cw:V->ϕ->Hp->VK->ß:=λx v H Q=>∃l s y,x=.A l/\v=[y]/\H l=O (.L s)/\À s<Â/\Q .gH (upd H l (.L (s++[y])))
def nr:vx X "list.append" Cw:=by intro p s σ H x d v U Q I R b h;let(l,f,y,rfl,rfl,a,g,q):=h;cases R;let(u,rfl,c):=b.one;let(z,B,n,r,i,e):=I.Me a;erw[gB F.slot_list_append (_,e,Ŗ) F.entry_list_append (F.args_list_append_2 _ _) (PySem.list_append l _ n u nofun) (e,?_)];erw[(.gH,_,I.aak a e ⋯ (r.append (.cons c .nil)) ?_,Ŗ,q)];rw[ah,List.length_singleton];lia
def wP:V->ϕ->Hp->VK->ß:=λx v H Q=>∃l s y,x=.A l/\v=[]/\H l=O (.L s)/\s[À s-1]?=O y/\Q y (upd H l (.L s.dropLast))
def aap:vx X "list.pop" wP:=by
 intro p s σ H x i v U Q I R c h;let(l,j,y,rfl,rfl,b,d,q):=h;cases R;let a:=c.zero;subst a;let(z,B,n,r,f,e):=I.Me b;let(u,hu,g):=r.get d;erw[gB F.slot_list_pop (_,e,Ŗ) F.entry_list_pop (F.args_list_pop_1 _) (MeetsSeq.list_pop_last l _ n u (by show B.toArray[À B-1]?=O u;rw[<-Ę,<-f];rwa[hu]) nofun) (e,?_)];erw[(y,_,I.aak b e ?_ r.dropLast ?_,g,q)];.simp
 .grind
def Q1:V->ϕ->Hp->VK->ß:=λx v H Q=>∃l s i k y,x=.A l/\v=[.I i]/\H l=O (.L s)/\-2^63<=i/\i<2^63/\seqIndex? i (À s)=O k/\s[k]?=O y/\Q y (upd H l (.L (s.eraseIdx k)))
def PF:vx X "list.pop" Q1:=by
 intro p s σ H x B v U Q I R b h;let(l,c,i,k,y,rfl,rfl,a,d,f,g,j,q):=h;cases R;let(u,rfl,m):=b.one;let(t,rfl):=m;let(z,L,n,r,o,e):=I.Me a;let(w,C,A):=r.get j;erw[gB F.slot_list_pop (_,e,Ŗ) F.entry_list_pop (F.args_list_pop_2 _ _) (MeetsSeq.list_pop_at l _ n i t k w (fitsIndex_both d f) (by rw[aW,<-o];rwa[g]) nofun (by rw[aW];lia)) (e,?_)];erw[(y,_,I.aak a e ?_ (r.eraseIdx k) ?_,A,q)];.simp
 .let:=AL c k;lia
def Xf:R2:=λx y H Q=>∃l b s z,x=.A l/\y=.A b/\H l=O (.L s)/\H b=O (.L z)/\À s+À z<=Â/\∀p,H p=aa->Q (.A p) (upd H p (.L (s++z)))
def HA:jz X (binaryOp .Add) Xf:=by
 intro p s σ H x y v u Q I R a h;let(l,b,j,Z,rfl,rfl,c,d,k,q):=h;cases R;cases a;let(z,B,n,r,m,e):=I.Me c;let(o,Y,N,f,g,E):=I.Me d;erw[PySem.P.add_list e E ?_ (by rw[aW,aW];lia)];let i:B.toArray++Y.toArray=(B++Y).toArray:=⋯
 rw[i];exact(.A _,_,I.aaj (r.append f) (by rw[ah];lia),Ŗ,q _ I.fresh)
def WF:R2:=λx y H Q=>∃l k s,x=.A l/\y=.I k/\H l=O (.L s)/\-2^63<=k/\k<2^63/\À s*k.toNat<=Â/\∀p,H p=aa->Q (.A p) (upd H p (.L (Ó k.toNat s).flatten))
def VR{α:Type}(xs:Ł α)(k:Ń):À (Ó k xs).flatten=k*À xs:=⋯
def aaM:jz X (binaryOp .Mult) WF:=by
 intro p s σ H x y v u Q I R f h;let(l,k,E,rfl,rfl,g,i,j,d,q):=h;cases R;let(t,rfl):=f;let(z,b,n,r,o,e):=I.Me g;let c:b.toArray.size*k.toNat<=Â:=by rw[aW,<-o];rwa[d]
 let w:List.foldl (λB C=>B++C) #[] (Ó (if b.toArray.isEmpty=J then 0 else k.toNat) b.toArray)=(Ó k.toNat b).flatten.toArray:=by
  let D:∀m:Ń,List.foldl _ #[] _=(Ó m b).flatten.toArray:=λm=>by let:=cf b m [];rwa[this]
  rw[D];cases b with|i=>simp|k a G=>rfl
 erw[wpAny_binaryOp_repeat_ref (by rfl) (_,e,Ŗ) (λS=>typeIs_int S k t) noFill_list_mul F.fills_int_mul F.slot_int_rmul repeat_list F.slot_int_index.lookup (gB F.slot_int_rmul (typeIs_int s k t) F.entry_int_rmul (F.args_int_rmul_2 _ _) (int___rmul___int_list k t l _ n) (e,Ŗ,(_,e,Ŗ),gB F.slot_list_mul (_,e,Ŗ) F.entry_list_mul (F.args_list_mul_2 _ _) (AutoListH.list___mul___list_int_3 l _ n k t (by rw[fitsIndex_both i j];rwa[aD]) (by
  let:Â<=(2^63-1)/8:=∅
  lia) (by rw[PU c];rwa[aD])) (e,?_)))];rw[w];exact(.A _,_,I.aaj (r.rep _) (by rw[VR,Nat.mul_comm];rwa[d]),Ŗ,q _ I.fresh)
end L2
namespace Att
open PySem.W PySem.Calls
def wu:∀(ns:Ł Î)(vs:Ł _),WellAll P h vs (ns.map WData.int)->IntsAre vs ns:=by intro ns;induction ns with|i=>intro vs w;cases w;rwa[.nil]|k n ns i=>intro vs w;cases w with|k a b=>cases a;rwa[.cons _ _ (i _ b)]
def MS{l:OpenLaw}(hn:l.most=O n)(b:l.row.toRowW.claim.pre args)(H:WellAll P h v args):∃a vs N,v=[Ö a]/\args=[WData.list (N.map WData.int)]/\h.get? a=O {cls:=.type "list",data:=.seq vs.toArray}/\IntsAre vs N/\À N<=n:=by let(d,r,rfl,e,f):=hasAllW_cons (pre_splitW b).1;obtain rfl:=hasAllW_nil f;let(x,rfl,g):=hasW_list e;let(N,rfl):=items_int g;cases H with|k w W=>cases W;cases w with|list o F=>exact(_,_,N,Ŗ,Ŗ,o,wu N _ F,by let h5:=condW_of (by let c:=(holds_andW (pre_splitW b).2).1;rw[hn]at c;rwa[c]) (w_not (w_lt w_lit (w_len_list (w_arg Ŗ))));rw[ai]at h5;first|(rw[bR ()]at h5;rwa[Ă h5 ∅])|lia)
def ME(l:OpenLaw)(args:Ł _):l.row.toRowW.claim.post args (.bool J) args=true:=postW_of (show WShape.has [] _ .bool=J by rfl) (w_eq_bool (w_res Ŗ) w_lit) Ŗ
def DD{l:OpenLaw}(hn:l.most=O n)(b:d.params.defaults=[])(call:∀(w:a9)(S s:a5)(m M:Ã->Ő _)(F:Á)(o:Obj)(p c doc:Ä)(a:Á)(vs:Ł _)(N:Ł Î),Ground q L [] XP w S m M s.heap->y w s.heap->s.heap.get? F=O o->o.data=.func (docDef d.name d.params d.body d.scope p c doc)->s.heap.CodeRec c d.name->m d.name=O (.ref F)->s.heap.get? a=O {cls:=.type "list",data:=.seq vs.toArray}->IntsAre vs N->À N<=n->s.gens=#[]->dr (a8 l.prog w) callerA (.call (.ref F) ([.ref a],[])) (λr s'=>r=.ok (.ret (.bool J))/\OldK s.heap s'.heap/\s'.os=s.os/\AllBare s'.gens) s):WalkO q L XP y l.row.toRowW d [] λf vs=>PySem.call f vs:=by intro w S s m M G Y F o p c doc i kV j k E D g t args v R u A x e z;obtain rfl:i=.none:=Dflts.none D b;obtain rfl:kV=.none:=Dflts.noKw D;let(a,vs,N,rfl,rfl,B,h,H):=MS hn u e;erw[enter_call (lR (call w _ _ m M F o p c doc a vs N G Y j (fd_plain k) E g B h H t) λr s' C=>?_)];let(rfl,I,K,P):=C;exact(.inl (_,_,[],Ŗ,λ_=>Ŗ,.bool _,ME l _,λ_=>(List.Pairwise.nil,λ_ Q=>nomatch Q)),I,K,P)
end Att
namespace L2
def M9:∀{vs:Ł _}{N:Ł Î},IntsAre vs N->Vals (N.map V.I) vs:=by intro vs N h;induction h with|i=>rwa[.nil]|k n t h i=>rwa[.cons (t,Ŗ) i]
def ZT(H:Hp):ß:=∀b,H b=aa\/∃o x,H b=O (.JA o (.L x))
def Pj{K:Æ}{M p:b1}(T:K.In s₁.heap)(f:s₁.heap.Ns bv M)(c:s₁.heap.Ns builtinsNs p)(y:∀x:Ã,x≠"__name__"->p x=b' x)(D:s₁.heap.NoLimit)(hg:s₁.gens=#[])(l:s₁.heap.get? a=O {cls:=.type "list",data:=.seq vs.toArray})(U:IntsAre vs j)(hl:À j<=Â)(hr:eE k callerA)(F:∀base:É,K.In base->base.Ns bv M->jT P w K M base CX k t S [x] sp)(G:∀(s:a5)(u:Ä),BindsTo s S ([u],[]) [(x,u)])(zO:∀H:Hp,ZT H->ie K H a (j.map V.I)->sp [.A a] H (λv _=>v=.B J) λ_ _ _=>ŧ)(X:∀H e s',CX [] H s₁ (λ_ _ _=>ŧ) e s'->ŧ):dr (a8 P w) callerA (.call (.ref t) ([.ref a],[])) (λr s'=>r=.ok (.ret (.bool J))/\OldK s₁.heap s'.heap/\s'.os=s₁.os/\AllBare s'.gens) s₁:=by
 let rv:=M9 U;let ard:=U.length;let C:∀H:Hp,ZT H->ie K H a (j.map V.I)->oO P w H s₁.heap->(∀b,H b≠aa->b=a)->(H a≠aa->K.lookup a=aa)->dr (a8 P w) callerA (.call (.ref t) ([.ref a],[])) (λr s'=>r=.ok (.ret (.bool J))/\OldK s₁.heap s'.heap/\s'.os=s₁.os/\AllBare s'.gens) s₁:=by
  intro H W hS Y Z hK;let II:∀{b:Á}{o:Obj},s₁.heap.get? b=O o->H b=aa->(BZ s₁.heap H).get? b=O o:=λe n=>OE e n;let L:∀{b:Á}{o:Obj}{E:Array cp}{ep:Ń},s₁.heap.get? b=O o->o.data=.dict E ep->H b=none:=λ{b o E ep}e d=>by cases q:H b with|n=>rfl|s u=>let Q:b=a:=Z b (by rw[q];simp);subst Q;rw[l]at e;cases e;let d':Data.seq vs.toArray _=Data.dict E ep:=d;cases d'
  let N:∀{b:Á}{m:b1},s₁.heap.Ns b m->(BZ s₁.heap H).Ns b m:=λ{b m}zz=>(by let(o,E,ep,e,d,r):=zz;exact(o,E,ep,II e (L e d),d,r));let g:K.In (BZ s₁.heap H):=λb o e=>II (T b o e) (by cases q:H b with|n=>rfl|s u=>let Q:b=a:=Z b (by rw[q];simp);subst Q;rw[hK (by rw[q];simp)]at e;cases e);let hM:Mod K M (BZ s₁.heap H):=(g,N f,(p,N c,y),let (mc,h1,h2):=D;(mc,N h1,h2));let e0:Ds P w K M (BZ s₁.heap H) callerA [] s₁ H:=(Ŗ,hM,λb o e=>Wq e,su (LU _ _),Ť,λb c=>Ă (show b∈([]:Ł Á)from c) ⋯,Y,.of_eq hg);erw[lR ((F _ g (N f)).run callerA [] s₁ H ([.ref a],[]) [.ref a] [.A a] _ _ hr e0 (G s₁ (.ref a)) (.cons Ŗ .nil) (zO H W hS)) λr s' h=>?_];cases r with|error e=>exact(X H e s' h).elim|ok fl=>cases fl with|next=>rwa[ç h]|brk=>rwa[ç h]|cont=>rwa[ç h]|ret u=>let(v,H',os,i,un,S',r',q):=h;let q':v=.B true:=q;subst q';obtain rfl:u=é true:=r';erw[(Ŗ,OldK.of_keep λb o e=>?_,os,i)];cases q:H b with|n=>rwa[un.keep b o e q (by intro z;rwa[Ă (show b∈([]:Ł Á)from z) ⋯]) ⋯]|s u=>
     rcases W b with z|⟨ob,xs,z⟩;.lia
     .let(e1,_):=Y b _ z;let(e2,_):=S' b _ (un.rq b ob _ z);rw[e]at e1;cases e1;rwa[e2]
 cases R:K.lookup a with|s o=>let e:=T a o R;rw[l]at e;cases e;rwa[C _ (λ_=>.inl Ŗ) (.inr (_,_,_,R,Ŗ,Ŗ,Ŗ,nofun,by done)) λb u z=>by done (λb z=>Ă Ŗ z) λz=>Ă Ŗ z]|n=>
  erw[C (λb=>if b=a then O (.JA {cls:=.type "list",data:=.seq vs.toArray} _)else aa) (λb=>?_) (.inl (.inr (_,cG Ŗ))) (λb u z=>?_) (λb z=>?_) λ_=>R]
  .by_cases c:b=a;.rwa[.inr (_,_,cG c)]
   .rwa[.inl (dh c)]
  .by_cases c:b=a;.let z':=(cG c).symm.trans z;cases z';subst c;exact(l,by rw[ai];rwa[hl],vs,_,rv,l)
   .left
  .by_cases c:b=a;.done
   .rwa[Ă (dh c) z]
def Yk{l:OpenLaw}{K:Params->Æ}{CX:a9->Ag}{sp:a9->Sp}(hn:l.most=O n)(D:n<=Â)(p:d.params.defaults=[])(E:eE k callerA)(M:∀(w:a9)(h:É),y w h->(K w.params).In h)(F:∀(w:a9)(m:Ã->Ő _)(j:Á)(h:É),(K w.params).In h->h.Ns bv m->m d.name=O (.ref j)->∃r:b7,(∀(s:a5)(u:Ä),BindsTo s r ([u],[]) [(x,u)])/\∀base:É,(K w.params).In base->base.Ns bv m->jT l.prog w (K w.params) m base (CX w) k j r [x] (sp w))(Z:∀(w:a9)(H:Hp)(a:Á)(N:Ł Î),À N<=n->ZT H->ie (K w.params) H a (N.map V.I)->sp w [.A a] H (λv _=>v=.B J) λ_ _ _=>ŧ)(X:∀(w:a9)(H:Hp)(s:a5)(e:Ä)(s':a5),CX w [] H s (λ_ _ _=>ŧ) e s'->ŧ):WalkO q L XP y l.row.toRowW d [] λf vs=>PySem.call f vs:=by erw[Att.DD hn p λw S z m mb j o pm cd doc a vs N G Y ho hd Ei t P i c Q=>?_];let C:=M w _ Y;let(r,R,U):=F w m j _ C G.T.g t;rwa[Pj C G.T.g G.T.b G.T.builtins G.T.nolimit Q P i (ay c D) E U R (λH W hS=>Z w H a N c W hS) λH e s'=>X w H _ e s']
def iG(s:È)(j:Ń):È:=match s with|.ClassDef _ _ _ body _ _ _ _ _ _ _=>body.getD j (.Pass (0,0,0,0))|_=>.Pass (0,0,0,0)
def iF(s:È):Arguments:=match s with|.FunctionDef _ a _ _ _ _ _ _ _ _=>a|_=>{posonlyargs:=[],args:=[],vararg:=aa,kwonlyargs:=[],kw_defaults:=[],kwarg:=aa,defaults:=[]}
def cB(s:È):Ł È:=match s with|.FunctionDef _ _ b _ _ _ _ _ _ _=>b|_=>[]
def aU(s:È):Ï:=match s with|.FunctionDef _ _ _ _ _ _ S _ _ _=>S|_=>{kind:=.function,names:=[],isGenerator:=af,isCoroutine:=af}
abbrev IE:Ag:=λ_ _ _ _ _ _=>ŧ
abbrev E0:XK:=λ_ _ _=>ŧ
def Y2:eX IE X E0:=λ_ _ _ _ _ _ _ h=>h.elim
structure Nd(K:Æ)(x b8:Ã)(st:È)(f:Á)(fd:b7):ß where
 ex:∃(oc:Ä)(od:Ő Á)(kV doc pm:Ä)(an:Ő Á)(fR ct:Ä)(Dg:Array (Ő Ä)),fd=fnOf x b8 (iF st) (cB st) (aU st) .none kV doc pm an fR ct/\K.lookup f=O (oc,od,.func fd,Dg)/\codeIn K fR b8=J
 kp:keepIn K (.ref f)=J
def Nd.ok{K:Æ}{mg:b1}{base:É}{x l:Ã}{st:È}{f:Á}{d:b7}{N ps:ϐ}{k:Ń}{sp:Sp}(F:Nd K x l st f d)(S:dR N ps (aU st))(len:∀vs H Q E,sp vs H Q E->À vs=À ps)(p:∀(R:Ä)(A:bp)(o:Ł à)(s:a5)(H:Hp)(vs:ϕ)(Q:VK)(E:XK),eE k (A.deeper (envOfC l (aU st) s.heap.objs.size f R))->sp vs H Q E->∃t,ph (uJ IE P w K mg base N l (aU st) f R A o s H E).nox (cB st) t/\t {nx:=λ_ H'=>Q .gH H',rt:=Q} (start N vs) H):jT P w K mg base IE (k+1) f d ps sp:=by let(oc,a,kV,doc,m,n,R,ct,D,rfl,lk,e):=F.ex;erw[Ot lk e S len λA o s H vs Q E r z=>?_];let(t,h,q):=p R A _ s H vs Q E r z;exact(t,h.nox,q)
def Nd.binds{K:Æ}{st:È}(F:Nd K x q st f d)(h:∀(kV doc p:Ä)(a:Ő _)(R ct:Ä)(us:Ł _),À us=À ps->bindArgs (fnOf x q (iF st) (cB st) (aU st) .none kV doc p a R ct) (us,[])=pure (ps.zip us)):Binds K d ps []:=by let(oc,o,kV,doc,p,a,R,ct,D,rfl,lk,E):=F.ex;rwa[.all (h kV doc p a R ct)]
def BV{K:Æ}{st:È}{kV:Ä}(l:K.lookup f=O (oc,o,.func (fnOf x q (iF st) (cB st) (aU st) .none kV doc p a F ct),D))(c:codeIn K F q)(k:keepIn K (.ref f)):Nd K x q st f (fnOf x q (iF st) (cB st) (aU st) .none kV doc p a F ct):=((oc,o,kV,doc,p,a,F,ct,D,Ŗ,l,c),k)
def aeU(h:eE k A):A.units+1<Ì:=Dl (Nat.add_le_add_left ⋯ _) h.units
def pv{X:Cx}(i:Ń){x:Ã}{pos:Ð}(h:ø (X.N[i]?=O x) o0)(H:autoParam (l7 X.env.scope x) Ķ4)(d:ø ((x==("__debug__":Ã))=af) P3)(E:ø ((x==("__classdict__":Ã))=af) P3):PE X (.Name x pos) (Il i):=Qv h H d E
def ϳ{B:ß}[Decidable c](h:c->A)(H:¬c->B):if c then A else B:=nofun
def jF(H H':Hp):ß:=∀b o,H b=O o->H' b=O o
def jF.refl(H:Hp):jF H H:=λ_ _ h=>h
def jF.trans(a:jF H d)(b:jF d H2):jF H H2:=λc o h=>b c o (a c o h)
section
variable(P:bn)(w:a9)
end
section
variable{κ:Type}[DecidableEq κ]
def qK(b:Ł (κ×V))(k:κ):Ő V:=(b.find? λK=>Đ (K.1=k)).map (·.2)
def yG(b:Ł (κ×V))(k:κ)(v:V):Ł (κ×V):=if(b.any λK=>Đ (K.1=k))=J then b.map λK=>if K.1=k then(K.1,v)else K else b++[(k,v)]
def zh{k:κ}(e:p.1=k):qK (p::r) k=O p.2:=by simp[qK,ku,e]
def zg{k:κ}(e:¬p.1=k):qK (p::r) k=qK r k:=by simp[qK,ku,e]
def EE(b:Ł _)(k:κ)(v:V):À (yG b k v)<=À b+1:=by
 delta yG;split;.simp
 .simp
def qZ.qj(r:qZ o u):o.isSome=u.isSome:=by cases o with
 |n=>cases u with|n=>rfl|s _=>exact(r).elim
 |s _=>cases u with|n=>exact(r).elim|s _=>rfl
def KV.val(r:KV B vs)(k:κ):qZ (qK B k) (valueAt vs k):=by induction r with|i=>done|@k p q P Q h t i=>
  let(H,a):=h;by_cases e:p.1=k
  .let E:=H.symm.trans e;let b:valueAt (q::Q) k=O q.2:=by simp[valueAt,ku,E]
   rw[zh e,b];rwa[a]
  .let E:¬q.1=k:=λz=>e (H.trans z);let b:valueAt (q::Q) k=valueAt Q k:=by simp[valueAt,ku,E]
   rw[zg e,b];rwa[i]
theorem KV.any(r:KV b vs)(k:κ):(b.any λK=>Đ (K.1=k))=vs.any λK=>Đ (K.1=k):=by induction r with|i=>rfl|k h t i=>left
def KV.alP(r:KV b vs)(k:κ){y:V}{u:Ä}(R:RelV y u):KV (b.map λK=>if K.1=k then(K.1,y)else K) (vs.map λK=>if K.1=k then(K.1,u)else K):=by induction r with|i=>rwa[.nil]|@k p q P Q h t i=>
  rw[bV,bV];erw[.cons ?_ i];let(H,a):=h;by_cases e:p.1=k;.rw[cG e,cG (H.symm.trans e)];exact(H,R)
  .rw[dh e,dh λz=>e (H.trans z)];exact(H,a)
def KV.put{b:Ł _}{vs:Ł _}(r:KV b vs)(k:κ){y:V}{u:Ä}(R:RelV y u):KV (yG b k y) (stored vs k u):=by
 delta yG stored;rw[r.any k];by_cases e:(vs.any λK=>Đ (K.1=k))=J;.rw[cG e,cG e];rwa[r.alP k R]
 .rw[dh e,dh e];rwa[Paired.snoc r (Ŗ,R)]
theorem KV.length{b:Ł (κ×V)}{vs:Ł _}(r:KV b vs):À b=À vs:=Paired.length r
end
def Ez(r:RelV (kV k) u):(eU P w).is k u=true:=by cases k with|inl i=>let(t,e):=r;subst e;rwa[vK P w i t]|inr x=>let(t,e):=r;subst e;rwa[vM P w x t]
theorem AJ:∀{ks:Ł b6}{us:Ł _},Vals (ks.map kV) us->ItemsAre (eU P w) ks us|[],_,r=>by cases r;rwa[.nil]|k::ks,_,r=>by cases r with|k h t=>rwa[.cons (Ez h) (AJ t)]
abbrev KT(H:Hp):Ł (Ł b6×V)->Ł (Ł b6×Á×Ä)->ß:=Paired λp q=>p.1=q.1/\H q.2.1=O (.T (p.1.map kV))/\RelV p.2 q.2.2
def KT.val(r:KT H B xs)(k:Ł b6):qZ (qK B k) ((atKey xs k).map (·.2)):=by induction r with|i=>done|@k p q P Q h t i=>
  let(a,_,c):=h;by_cases e:p.1=k
  .let E:=a.symm.trans e;let b:atKey (q::Q) k=O q.2:=by simp[atKey,ku,E]
   rw[zh e,b];rwa[c]
  .let E:¬q.1=k:=λz=>e (a.trans z);let b:atKey (q::Q) k=atKey Q k:=by simp[atKey,ku,E]
   rw[zg e,b];rwa[i]
def Zc(ok:oO P w H h)(e:Rd H a u):iN P w H h a u:=e.ok ok
def x8(ok:oO P w H h)(e:Rd H a (.dK b)):À b<=Â/\(a==db)=af/\∃vs,KV b vs/\h.DictOf (eU P w) a vs:=Zc ok e
def Oe(ok:oO P w H h)(e:H a=O (.dK b)):À b<=Â/\(a==db)=af/\∃vs,KV b vs/\h.DictOf (eU P w) a vs:=x8 ok (.inl e)
def wY(ok:oO P w H h)(e:H a=O (.T (ks.map kV))):(tupleKind (eU P w)).is h ks a:=by let(_,B,r,o,b,c,n,d):=ok a _ e;exact(o,_,n,b,c,d,by simpa using AJ r)
def Eb(ok:oO P w H h)(e:Rd H a (.dT B)):À B<=Â/\(a==db)=af/\∃xs,KT H B xs/\h.DictOfH (tupleKind (eU P w)) a xs:=by
 let(z,y,xs,r,o,E,d,f,g,i,j,k):=Zc ok e;erw[(z,y,xs,r,o,E,d,f,g,i,j,λx b=>?_,k)];let all:∀{l:Ł _}{m:Ł _},KT H l m->∀x∈m,(tupleKind (eU P w)).is h x.1 x.2.1:=by intro l m q;induction q with|i=>simp|@k p q s Q c t I=>
   intro x b;rcases aJ.mp b with e|b;.subst e;rwa[wY ok (by rw[<-c.1];rwa[c.2.1])]
   .rwa[I x b]
 rwa[all r x b]
def uy(H:Hp)(a:Á)(y:V)(r:Ő V):ß:=(∃B k,Rd H a (.dK B)/\y=kV k/\r=qK B k)\/∃B k b,Rd H a (.dT B)/\y=.A b/\H b=O (.T (k.map kV))/\r=qK B k
theorem uy.k{H:Hp}{a:Á}{b:Ł _}{k:b6}(e:H a=O (.dK b)):uy H a (kV k) (qK b k):=.inl (b,k,.inl e,Ŗ,Ŗ)
def Inv.big{σ:Ç}(I:Inv X am σ H s):db<s.heap.objs.size:=by rwa[Nat.lt_trans ∅ (I.mod.glob.keeps I.bk).lt]
def LA{σ:Ç}{E:dH}{Q:dH}(hu:A.units+1<Ì)(I:Inv X am σ H s)(g:uy H a y (O v))(R:RelV y u)(h:∀W s',Inv X am σ H s'->RelV v W->Q W s'):a6 (a8 X.prog X.w) A (getItem (.ref a) u) Q E s:=by
 rcases g with ⟨B,k,e,c,l⟩|⟨B,k,b,e,c,j,l⟩;.subst c;let(z,m,q,rel,d):=x8 I.di e;let(W,f,F):=qZ.some_of (by rw[l];rwa[rel.val k]);rwa[ux (Ez R) d.mapOf f (h W _ (I.tok _) F)]
 .subst c;cases R;let(z,m,x,rel,d):=Eb I.di e;let(W,f,F):=qZ.some_of (by rw[l];rwa[rel.val k]);let(p,n,i):=Option.map_eq_some_iff.mp f;erw[wpAny_getItem_heap (Dn hu) (wY I.di j) d n ?_];rw[i];rwa[h W _ (I.tok _) F]
def ϻ{σ:Ç}{E:dH}{Q:dH}(hu:A.units+1<Ì)(I:Inv X am σ H s)(g:uy H a y o)(R:RelV y u)(h:∀s',Inv X am σ H s'->Q (.bool o.isSome) s'):a6 (a8 X.prog X.w) A (compareOp .In u (.ref a)) Q E s:=by
 rcases g with ⟨B,k,e,c,l⟩|⟨B,k,b,e,c,f,l⟩;.subst c;let(z,d,i,rel,D):=x8 I.di e;erw[wpAny_in_of (Ez R) d D.mapOf ?_];rw[<-(rel.val k).qj,<-l];rwa[h _ (I.tok _)]
 .subst c;cases R;let(z,d,x,rel,D):=Eb I.di e;erw[wpAny_in_heap (Dn hu) (wY I.di f) d D ?_];let q:=(rel.val k).qj;rw[Option.isSome_map]at q;rw[<-q,<-l];rwa[h _ (I.tok _)]
def Uq{σ:Ç}{E:dH}{Q:dH}(hu:A.units+1<Ì)(I:Inv X am σ H s)(g:uy H a y o)(R:RelV y u)(h:∀s',Inv X am σ H s'->Q (.bool !o.isSome) s'):a6 (a8 X.prog X.w) A (compareOp .NotIn u (.ref a)) Q E s:=by
 rcases g with ⟨B,k,e,c,l⟩|⟨B,k,b,e,c,f,l⟩;.subst c;let(z,d,i,rel,D):=x8 I.di e;erw[wpAny_notIn_of (Ez R) d D.mapOf ?_];rw[<-(rel.val k).qj,<-l];rwa[h _ (I.tok _)]
 .subst c;cases R;let(z,d,x,rel,D):=Eb I.di e;erw[wpAny_notIn_heap (Dn hu) (wY I.di f) d D ?_];let q:=(rel.val k).qj;rw[Option.isSome_map]at q;rw[<-q,<-l];rwa[h _ (I.tok _)]
def Jj{σ:Ç}(I:Inv X am σ H s)(m:hA (H a))(d:ã a s.heap h)(e:∃q,h.get? a=O q)(new:iN X.prog X.w (upd H a c) h a c):Inv X am σ (upd H a c) {s with heap:=h,toks:=t'}:=I.write m (.inl Ŗ) (λb q f z=>(d.2 b f).trans z) e new
def GI(z:À b<=Â)(d:(a==db)=af)(R:KV b vs)(dd:h.DictOf (eU P w) a vs):iN P w H' h a (.dK b):=(z,d,vs,R,dd)
def š{σ:Ç}{E:dH}{Q:dH}(I:Inv X am σ H s)(e:Rd H a (.dK bI))(h:∀t s',Inv X am σ H s'->Q (.int (À bI) t) s'):a6 (a8 X.prog X.w) A (call (.builtin "len") [.ref a]) Q E s:=by let(z,d,v,rel,D):=x8 I.di e;erw[call_len_dict d D (by rw[<-rel.length];rw[Na]at z;omega) ?_];rw[<-rel.length];rwa[h _ _ (I.tok _)]
def ZS(i:Å):ß:=∀o I,subscripted i af o I=operate [o,I] (getItem o I)
def XM{E:dH}{id:String}{Q:dH}(l:typeLookup (.type T) "__getitem__"=pure (O (.builtin id)))(e:ZS slice)(h:a6 (a8 prog w) A (Ê v env) (λo a=>a6 (a8 prog w) A (Ê slice env) (λi S=>S.TypeIs o T/\a6 (a8 prog w) A (getItem o i) Q E S) E a) E s):a6 (a8 prog w) A (Ê (.Subscript v slice pos) env) Q E s:=by erw[Subscript_ (d7 h (λo a b=>d7 b (λi S H=>?_) λ_ _ x=>x) λ_ _ x=>x)];let(f,H):=H;erw[ae ?_];erw[ae (wpAny_specialOf f l ?_)];first|rwa[aH (ae (by rw[e o i];rwa[wpAny_operating (d7 H (λr d c=>ae (wpAny_letTemporaryGo (aH c))) λ_ _ x=>x)]))]|rfl|rfl
def D6{p:Ł _}{σ:Ç}(I:Inv X p σ H s)(g:uy H a y o):s.TypeIs (.ref a) "dict":=by
 rcases g with ⟨B,k,e,_,_⟩|⟨B,k,b,e,_,_,_⟩;.let(_,_,v,_,d):=x8 I.di e;rwa[d.typeIs]
 .let(_,_,x,_,d):=Eb I.di e;rwa[d.typeIs]
def Ũ(t ty:TE):TE:=λσ H Q=>t σ H λx b=>ty σ b λy h=>∃a v,x=.A a/\uy h a y (O v)/\Q v h
def ame(ty t:TE):TE:=λσ H Q=>ty σ H λy b=>t σ b λx h=>∃a o,x=.A a/\uy h a y o/\Q (.B o.isSome) h
def XO(ty t:TE):TE:=λσ H Q=>ty σ H λy b=>t σ b λx h=>∃a o,x=.A a/\uy h a y o/\Q (.B !o.isSome) h
def WL{X:Cx}{o i:Å}{pos:Ð}{td ty:TE}(hu:X.A.units+1<Ì)(c:PE X o td)(d:PE X i ty)(f:autoParam (ZS i) Ē):PE X (.Subscript o i pos) (Ũ td ty):=by intro p s σ H Q I h;erw[XM jM.lookup f (oV (c _ s σ H _ I h) λu s1 x j k r q=>oV (d _ s1 σ j _ k q) λt s2 y l b R a=>?_)];let(a,v,ex,g,m):=a;subst ex;obtain rfl:u=Ö a:=r;exact(D6 b g,LA hu b g R λw S n F=>(v,l,n,F,m))
def Cp(hu:X.A.units+1<Ì)(b:PE X i ty)(c:PE X o td):PC X .In i o (ame ty td):=by intro p s σ H Q I h;erw[oV (b _ s σ H _ I h) λv s1 y d f r q=>oV (c _ s1 σ d _ f q) λu s2 x j k R a=>?_];let(a,n,ex,g,l):=a;subst ex;obtain rfl:u=Ö a:=R;rwa[ϻ hu k g r λS m=>(.B _,j,m,Ŗ,l)]
def Mu(hu:X.A.units+1<Ì)(b:PE X i ty)(c:PE X o td):PC X .NotIn i o (XO ty td):=by intro p s σ H Q I h;erw[oV (b _ s σ H _ I h) λv s1 y d f r q=>oV (c _ s1 σ d _ f q) λu s2 x j k R a=>?_];let(a,n,ex,g,l):=a;subst ex;obtain rfl:u=Ö a:=R;rwa[Uq hu k g r λS m=>(.B _,j,m,Ŗ,l)]
def Od(h:É)(b:db<h.objs.size):iN P w H (h.push {cls:=.type "dict",data:=.dict #[]}) h.objs.size (.dK []):=(bu _,cI.mpr (cj (bB b)),[],.nil,Heap.DictOf.new h)
def yZ:Ł (TE×TE)->Ç->Hp->(Ł (V×V)->Hp->ß)->ß|[],_,H,Q=>Q [] H|(t,T)::r,σ,H,Q=>t σ H λx h=>T σ h λy a=>yZ r σ a λp b=>Q ((x,y)::p) b
abbrev VV:Ł (V×V)->Ł (Ä×Ä)->ß:=Paired λp q=>RelV p.1 q.1/\RelV p.2 q.2
def im(X:Cx)(pos:Ð)(k:Ł (Ő Å))(v:Ł Å)(F:Ł (TE×TE)):ß:=∀(p:Ł _)(s:a5)(σ:Ç)(H:Hp)(Q:Ł _->Hp->ß),Inv X p σ H s->yZ F σ H Q->a6 (a8 X.prog X.w) X.A (evalPairs (pairTrees k v X.env pos)) (λa S=>∃P h,Inv X p σ h S/\VV P a/\Q P h) X.xe s
def Xa:im X pos [] [] []:=λp s σ H Q I h=>pairTrees_nil_walk ([],H,I,.nil,h)
def QM(a:PE X k t)(b:PE X v T)(c:im X pos ks vs F):im X pos (O k::ks) (v::vs) ((t,T)::F):=λp s σ H Q I h=>pairTrees_cons_walk (gP (a _ s σ H _ I h) λu s1 z=>by let(x,d,i,R,q):=z;rwa[gP (b _ s1 σ d _ i q) λw s2 z=>by let(y,e,f,g,j):=z;rwa[gP (c _ s2 σ e _ f j) λW S z=>by let(P,l,m,r,n):=z;exact(_,l,m,.cons (R,g) r,n)]])
def my(b more:Ł (b6×V)):Ł (b6×V):=more.foldl (λa k=>yG a k.1 k.2) b
def KV.merge:∀{m:Ł _}{R:Ł _}{b:Ł _}{vs:Ł _},KV m R->KV b vs->KV (my b m) (merged vs R):=by intro m R b vs r;induction r generalizing b vs with|i=>intro q;rwa[q]|@k p q P Q h t i=>
  intro a;let e:KV (yG b p.1 p.2) (stored vs q.1 q.2):=by let:=a.put p.1 h.2;rw[<-h.1];rwa[this]
  rwa[i e]
theorem jO:∀(m b:Ł _),À (my b m)<=À b+À m|[],b=>by show(À b)<=À b+0;omega|p::r,b=>by let h1:=jO r (yG b p.1 p.2);let h2:=EE b p.1 p.2;show(À (my (yG b p.1 p.2) r))<=_;rw[aq];omega
theorem xI:∀{B:Ł _}{ws:Ł _},VV (B.map λk=>(kV k.1,k.2)) ws->∃R,Carries (eU P w) ws R/\KV B R|[],_,r=>by cases r;exact([],è,.nil)|p::B,_,r=>by cases r with|@k a b A bs h t=>let(R,c,q):=xI (P:=P) (w:=w) t;let(d,b2):=b;exact((p.1,b2)::R,(Ez h.1,Ŗ,c),.cons (Ŗ,h.2) q)
def Zp(F:Ł (TE×TE)):TE:=λσ H Q=>∀p,H p=aa->yZ F σ (upd H p (.dK [])) λP h=>h p=O (.dK [])/\∃b:Ł _,P=b.map (λk=>(kV k.1,k.2))/\À b<=15/\Q (.A p) (upd h p (.dK (my [] b)))
def WM(h:im X pos keys v F)(f:keys.all (·.isSome))(l:À keys=À v)(b:keys ≠[])(a:À keys<=15):PE X (.Dict keys v pos) (Zp F):=by intro p s σ H Q I q;erw[wpAny_Dict_walk (knd:=eU _ X.w) f l b a (gP (h _ _ σ _ _ (I.laid (t':=s.toks) (λ_ _ q=>aw _ q) (au _) (Od _ I.big)) (q _ (I.di.fresh (au _)))) λW s2 P=>?_)];let(P,u,i,r,e,B,E,lk,g):=P;subst E;let(R,c,k):=xI r;let(z,j,m,n,D):=Oe i.di e;cases n;exact(R,c,D,λx d o=>(.A _,_,Jj i (by rw[e];rwa[è]) o (let (q,_,_,t,_):=d;(q,t)) (GI (by let h1:=jO B [];rw[eO]at h1;rw[Na];omega) j (k.merge .nil) d),Ŗ,g))
structure M1(X:Cx)(o:Å)(m:Ã)(bb:Ð)(e:Å)(dw:Ð):ß where
 base:dL o m X.env (Ê o X.env)=Ê o X.env
 few:((cc dw (b5 [e] X.env)).all (λx=>!x.1)&&(backToKw dw (eA [] X.env)).all (λx=>x.1.isSome)&&Đ (À ([e]:Ł Å)+À ([]:Ł c9)+(if([]:Ł c9).isEmpty then 0 else 1)<30))=J
 line:(bb.endLine==dw.line)=J
 trees:cc dw (b5 [e] X.env)=[(af,Ê e X.env)]
def fI(H:Hp)(a:Á):ß:=(∃b,Rd H a (.dK b))\/∃b,Rd H a (.dT b)
def η{p:Ł _}{σ:Ç}(I:Inv X p σ H s)(d:fI H a):s.TypeIs (.ref a) "dict"/\(∀b,Ö a=.ref b->∃o,s.heap.get? b=O o/\o.dict=aa)/\(a==db)=false:=by
 rcases d with ⟨B,e⟩|⟨B,e⟩;.let(_,h,v,_,D):=x8 I.di e;erw[(D.typeIs,λb q=>?_,h)];cases q;let(o,_,_,c,f,_):=D;exact(o,c,f.2.1)
 .let(_,h,x,_,D):=Eb I.di e;erw[(D.typeIs,λb q=>?_,h)];cases q;let(o,_,_,c,f,_):=D;exact(o,c,f.2.1)
end L2
namespace Att
open PySem.W PySem.Calls
end Att
namespace L2
def Lp:dW X (.builtin "len") λxs H Q=>∃a b,xs=[V.A a]/\H a=O (.dK b)/\Q (.I (À b)) H:=by intro p s σ H xs U Q I r h;let(a,b,rfl,c,q):=h;let(u,rfl,R):=rV r;cases R;rwa[š I (.inl c) λt S i=>(.I _,H,i,(t,Ŗ),q)]
def v9(cells:Ł (Ã×Á))(names:Ł (Ã×NameKind))(acc:Ł (Ã×Á)):Ł (Ã×Á):=match names with|[]=>acc|(n,k)::r=>v9 cells r (if k==.free then(n,(cells.lookup n).getD 0)::acc else acc)
theorem sF:∀{names:Ł _}{acc:Ł _},(∀y∈names,y.2=.free->∃c,cells.lookup y.1=O c)->(∀x c,acc.lookup x=O c->cells.lookup x=O c)->∀x c,(v9 cells names acc).lookup x=O c->cells.lookup x=O c
 |[],acc,_,h,x,c,e=>h x c e|(n,k)::r,acc,H,h,x,c,e=>by
  erw[sF (λy a=>H y (ak _ a)) ?_ x c e];intro X C E;by_cases b:k=.free;.subst b;let(d,f):=H _ ao Ŗ;cases g:X==n with|t=>grind|f=>grind
  .grind
theorem xN:∀{names:Ł _}{acc:Ł _}{x:Ã},(∃c,acc.lookup x=O c)\/(x,å)∈names->∃c,(v9 cells names acc).lookup x=O c
 |[],acc,x,h=>by
  rcases h with h|h;.rwa[h]
  .grind|(n,k)::r,acc,x,h=>by
  delta v9;erw[xN ?_];by_cases H:k=.free;.subst H;simp only[fj,rT,mR];cases a:x==n with|t=>lia|f=>grind
  .grind
theorem qP:∀{names:Ł _}{acc:Ł _},(∀y∈names,y.2=.free->∃c,env.cells.lookup y.1=O c)->(forIn names acc λ(x:Ã×NameKind)r=>if x.2==.free then(do let a<-cellOf env x.1;pure (ò ((x.1,a)::r)))else pure (ò r))=pure (v9 env.cells names acc)
 |[],acc,_=>Ŗ|(n,k)::r,acc,h=>by
  rw[kx];let i:=λA=>qP (acc:=A) λy H=>h y (ak _ H);by_cases b:k=.free;.subst b;let(c,d):=h _ ao Ŗ;simp only[fj,rT,cellOf,d,pure_bind,v9,Option.getD_some];rwa[i _]
  .let e:(k==å)=false:=()
   simp only[e,Bool.false_eq_true,if_false,pure_bind,v9];rwa[i _]
def Gj(h:∀y∈s.names,y.2=.free->∃c,env.cells.lookup y.1=O c):closureFor s env=pure (v9 env.cells s.names []):=by exact(cY (λm:Sem _=>m>>=λC=>pure C) (qP (acc:=[]) h)).trans Ŗ
def iZ(X:Cx)(N':ϐ)(s:Ï)(fp:Ł Á)(s₀:a5)(H₀:Hp):Cx:={X with N:=N',s₀:=s₀,H₀:=H₀,env:=compEnvC s (v9 X.env.cells s.names []) s₀.heap.objs.size X.env,outer:=X.stack,ex:=fp,fn:=λ_=>af,pn:=[],xe:=λ_ _=>ŧ}
structure fY(X:Cx)(N':ϐ)(scope:Ï):ß where
 kind:scope.kind=.function
 nd:N'.Nodup
 PN:∀y∈scope.names,y.2≠.cell
 loc:∀y∈scope.names,y.2=.local->scope.names.lookup y.1=O .local
 fre:∀y∈scope.names,y.2=.free->X.env.kindOf y.1=O .cell
 own:∀x,(x,å)∈scope.names->(relabel scope X.env).names.lookup x≠O .local
def Cy(H:∀y∈s.names,y.2≠.cell)(h:(relabel s env).names.lookup x=O .cell\/(relabel s env).names.lookup x=O .free):(x,å)∈s.names:=by
 let K:∀(l:Ł (Ã×NameKind)),(∀y∈l,y.2≠.cell)->∀k,k=.cell\/k=.free->(l.map λ(n,k)=>if k==å&&env.scope.kind==.function&&env.kindOf n==O .cell then(n,NameKind.cell)else(n,k)).lookup x=O k->(x,å)∈l:=by intro l;induction l with|i=>intro _ k _ e;cases e|k y r i=>
   let(n,c):=y;intro H k d e;let hr:=λy f=>H y (ak _ f);let g:=H _ ao;rw[bV]at e;by_cases q:(c==å&&env.scope.kind==.function&&env.kindOf n==O .cell)=J
   .simp only[q,rT,mR]at e;let hf:=by let:=(aM _ _▸(aM _ _▸q).1).1;simpa using this
    cases a:x==n with|t=>left|f=>rw[a]at e;rwa[ak _ (i hr k d e)]
   .let b:(c==å&&env.scope.kind==.function&&env.kindOf n==O .cell)=false:=by simpa using q
    simp only[b,Bool.false_eq_true,if_false]at e;rw[mR]at e;cases a:x==n with|t=>left|f=>rwa[ak _ (i hr k d (by rw[a]at e;rwa[e]))]
 rcases h with h|h;.rwa[K _ H _ (.inl Ŗ) h]
 .rwa[K _ H _ (.inr Ŗ) h]
def pq(X:Cx)(N':ϐ)(scope:Ï)(σ σ':Ç):ß:=À σ'=À N'/\∀(i:Ń)(x:Ã)(v:V),N'[i]?=O x->σ'[i]?=O (O v)->(x,å)∈scope.names/\∃(j:Ń),X.N[j]?=O x/\σ[j]?=O (O v)
def Uh{σ:Ç}{fp:Ł Á}(S:fY X N' scope)(I:Inv X am σ H s)(f:∀b∈fp,oX X am H b)(r:∀b∈fp,b<s.heap.objs.size):(iZ X N' scope fp s H).Ok:=by
 let sub:=sF (acc:=[]) (λy g k=>I.ok.has y.1 (.inl (S.fre y g k))) (λx c e=>by cases e);erw[(I.ok.mod,S.kind,I.ok.glob,I.ok.blt,au _,λx y c E i=>I.ok.inj x y c (sub x c E) (sub y c i),λx j=>xN (.inr (Cy S.PN j)),λx c n=>?_,I.ok.hd,I.ok.frames,.inl Ŗ,λb h=>?_,I.bs,ay I.ok.FL I.sz,λb o e h=>?_,λb h l=>?_,I.stack,I.tW)];.done
 .let(_,L,_,_,m,_):=f b h;exact(λe=>Ă (r b h) (by rw[e];rwa[dv _]),λx c e=>m x c (sub x c e))
 .let(_,_,_,a,_):=f b h;rcases a with a|a;.rwa[I.ok.yz b o e a]
  .rwa[Ă (bj (aT e) (ay I.ok.FL a)) (dv _)]
 .let(_,L,d,_):=f b h;rcases aJ.mp (I.CK b l)with z|z;.rwa[L z]
  .rwa[d z]
def N1{σ:Ç}{fp:Ł Á}(S:fY X N' scope)(I:Inv X am σ H s)(t:∀b∈fp,oX X am H b)(R:∀b∈fp,b<s.heap.objs.size)(n:pq X N' scope σ σ')(hn:d.Ns s.heap.objs.size λ_=>aa)(h:∀b o,s.heap.get? b=O o->d.get? b=O o):Inv (iZ X N' scope fp s H) [] σ' H {s with heap:=d,toks:=T}:=by
 let sub:=sF (acc:=[]) (λy w h=>I.ok.has y.1 (.inl (S.fre y w h))) (λx c e=>by cases e);erw[(Uh S I t R,Ŗ,I.bare,Un.kept h,(_,hn,λi x v A B C=>?_),λx c e=>?_,I.fresh,λx c e=>I.jd x c (sub x c e),λp D=>Ă (show p∈[]from D) ⋯,I.di.kept h,n.1)]
 .let(f,j,F,G):=n.2 i x v A B;let(m,_,K):=I.loc;let g:=S.fre _ f Ŗ;let(u,r,l):=K j x v F G (.inr (.inl g));erw[(u,r,.inr ?_)];rcases l with ⟨k,_⟩|⟨_,c,L,z⟩;.left
  .let(M,E):=xN (.inr f);let a:=sub x M E;rw[L]at a;cases a;erw[(?_,c,E,z.keeps h)];rcases C with q|q|q;.exfalso;rwa[S.own x f q]
   .rwa[.inl q]
   .rwa[.inr q]
 .let(v,z):=I.cell x c (sub x c e);exact(v,z.keeps h)
def qH(X:Cx)(i:Ł Å)(t:TT):ß:=∀(p:Ł _)(s:a5)(σ:Ç)(H:Hp)(Q:Þ->Hp->ß),Inv X p σ H s->t σ H Q->a6 (a8 X.prog X.w) X.A (forIn i J λc r=>if r=J then(do let ok<-isTrue c X.env (Ê c X.env);pure (ò ok))else pure (ò r)) (TP X p σ Q) X.xe s
def QJ:qH X [] λ_ H Q=>Q J H:=by intro p s σ H Q I h;rwa[aH (H,I,h)]
def QK(h:PT X c t):qH X [c] t:=by intro p s σ H Q I a;rw[kx];rwa[ae (ae (gP (h _ s σ H Q I a) λb s1 q=>aH (aH q)))]
def yY(w:TI)(g:TG)(t:TT)(T:TE)(e:Ç->Ç):TE:=λσ H Q=>w σ H λj f=>∀a,f a=aa->∃W:Ń->Ń->Ç->ϕ->Hp->ß,(∃m,W 0 m (e σ) [] (upd f a (.L [])))/\∀i m d Y h,W i m d Y h->h a=O (.L Y)/\(j.stop i h/\Q (.A a) h\/j.go i h/\À Y<Â/\∀x k,j.yld i h x k->g x d k λc o=>t c o λb l=>if b=J then T c l λy n=>n a=O (.L Y)/\∃M,M<m/\W (i+1) M c (Y++[y]) (upd n a (.L (Y++[y])))else ∃M,M<m/\W (i+1) M c Y l)
def wV(ok:oO P w H h)(a:H C=aa)(s:ã C h h'):oO P w H h':=λb o e=>(ok b o e).CI (λc u d q=>(s.2 c ()).trans q) (λ_ q=>q) λ_ _ q=>q
section
variable{P:bn}{w:a9}{A:bp}{E:dH}{s:a5}
def x9{Q:dH}(hd:s.heap.IsTupleIter d t k)(c:s.heap.IsTuple t b)(hu:b[k]?=O u)(e:∀h,h.IsTupleIter d t (k+1)->ã d s.heap h->Q u {s with heap:=h}):a6 (a8 P w) A (q0' (.ref d)) Q E s:=by let(o,a,p,v):=id hd;let(f,H,_,n,W):=c;erw[ae (dB hd.typeIs dJ (gU dJ hd.typeIs pj ?_ (oW _)))];show a6 _ _ (field _ 0>>=_) _ _ s;erw[ae (bU a v (x:=.ref t) Ŗ ?_)];erw[ae (bU a v (x:=.int k 0) Ŗ ?_)];erw[ae (fF H W ?_)];simp only[iV,hu];erw[ae (fG a v ⋯ (aH (u,Ŗ,aH (e _ (_,cR _ a (iT (dZ v _)),(Obj.cls_mapFields ..).trans p,?_) (gO ..)))))];rw[dZ v];simp[ci]
def sM{Q:dH}(c:A.handled=aa)(hd:s.heap.IsTupleIter d t k)(f:s.heap.IsTuple t B)(hu:B[k]?=aa)(g:∀h e,Heap.ExtBut d s.heap h->(∃o,h.get? e=O o/\o.cls=.type "StopIteration")->E (.ref e) {s with heap:=h}):a6 (a8 P w) A (q0' (.ref d)) Q E s:=by
 let(i,v,p,b):=id hd;let(j,H,_,n,W):=f;erw[ae (dB hd.typeIs dJ (gU dJ hd.typeIs pj ?_ (oW _)))];show a6 _ _ (field _ 0>>=_) _ _ s;erw[ae (bU v b (x:=.ref t) Ŗ ?_)];erw[ae (bU v b (x:=.int k 0) Ŗ ?_)];erw[ae (fF H W ?_)];simp only[iV,hu];erw[ae (mV (ae (fG v b ⋯ ?_)))];erw[ae ?_];erw[ae (gb ?_ (by size_fits))];erw[ae (Nc (a:=Ü) Ŗ ?_)];erw[gb ?_ (by size_fits)];erw[ae (wpAny_handled ?_)];first|rw[c]|rfl
 rwa[ae (aH (wf (g _ _ (((gO ..).extBut.push _).push _) (_,aV _ Ŗ,Ŗ))))]
structure ZW(z a b c d:Á):ß where
 az:a≠z
 bz:b≠z
 cz:c≠z
 dz:d≠z
 ab:a≠b
 ac:a≠c
 ad:a≠d
 bc:b≠c
 bd:b≠d
 cd:c≠d
structure Sy(h:É)(z a b c d t1 t2:Á)(k:Ń)(f0:Ä):ß where
 zip:IsZip h z a b f0
 bL:IsPair h a (.ref c) (.ref d)own:∃x y,IsPair h b x y
 i1:h.IsTupleIter c t1 k
 i2:h.IsTupleIter d t2 k
def Sk{Q:dH}(D:ZW z a b c d)(Z:Sy s.heap z a b c d t t2 k .none)(o1:t≠z/\t≠b/\t≠c/\t≠d)(B:t2≠z/\t2≠b/\t2≠c/\t2≠d)(Nm:s.heap.IsTuple t xs)(Vh:s.heap.IsTuple t2 ys)(hx:xs[k]?=O x)(hy:ys[k]?=O y)(hQ:∀H,Sy H z a b c d t t2 (k+1) (ci s.heap.objs.size)->IsPair H s.heap.objs.size x y->(∀e o,e≠z->e≠b->e≠c->e≠d->s.heap.get? e=O o->H.get? e=O o)->Q (.ref s.heap.objs.size) {s with heap:=H}):a6 (a8 P w) A (Builtin.«zip.__next__» ([.ref z],[])) (λfin s'=>∃v,fin=.done (.ret v)/\Q v s') E s:=by
 obtain⟨h,N,⟨p,q,zo⟩,z1,z2⟩:=Z;show a6 _ _ (field (.ref z) 2>>=_) _ _ _;erw[ae (bU h Ŗ (x:=.bool af) Ŗ ?_)];show a6 _ _ (field (.ref z) 3>>=_) _ _ _;erw[ae (bU h Ŗ (x:=.ref a) Ŗ ?_)];erw[ae (fF N Ŗ ?_)];show a6 _ _ (q2' (.ref z)>>=_) _ _ _;erw[ae ?_];delta q2';erw[ae (bU h Ŗ (x:=.none) Ŗ (aH ?_))];simp only[rT];erw[ae (mV ?_)];erw[ae (bU h Ŗ (x:=.ref b) Ŗ ?_)];erw[ae (iq h ⋯ λk1 C s1=>?_)];replace C:IsZip k1 z a b .ellipsis:=C;erw[ae ?_];simp only[List.zipIdx_cons,List.zipIdx_nil,kx,List.forIn_nil];erw[ae (ae (C0 ?_))];show a6 _ _ (q0' (.ref c)>>=_) _ _ _;erw[ae (x9 (z1.extBut s1.extBut D.cz) (Nm.extBut s1.extBut o1.1) hx λk2 y2 s2=>aH ?_)];let W:IsPair k2 b p q:=s2.extBut _ _ D.bc (s1.extBut _ _ D.bz zo);erw[ae (fF W Ŗ ?_)];erw[ae (zD W λk3 F S=>?_)];replace F:IsPair k3 b x q:=F;erw[ae (we (aH ?_))];erw[ae (ae (C0 ?_))];show a6 _ _ (q0' (.ref d)>>=_) _ _ _;erw[ae (x9 (((z2.extBut s1.extBut D.dz).extBut s2.extBut D.cd.symm).extBut S.extBut D.bd.symm) (((Vh.extBut s1.extBut B.1).extBut s2.extBut B.2.2.1).extBut S.extBut B.2.1) hy λk4 y4 i=>aH ?_)];let R:IsPair k4 b x q:=i.extBut _ _ D.bd F;erw[ae (fF R Ŗ ?_)];erw[ae (zD R λK Y j=>?_)];replace Y:IsPair K b x y:=Y;erw[ae (we (aH (aH ?_)))];erw[ae (fF Y Ŗ ?_)];erw[ae (wpAny_newTuple ?_)];let sz:K.objs.size=s.heap.objs.size:=by rw[j.1,i.1,S.1,s2.1,s1.1]
 let l:IsZip K z a b .ellipsis:=j.extBut _ _ D.bz.symm (i.extBut _ _ D.dz.symm (S.extBut _ _ D.bz.symm (s2.extBut _ _ D.cz.symm C)));let u:∀e o,e≠z->e≠b->e≠c->e≠d->s.heap.get? e=O o->K.get? e=O o:=λe o f n G I g=>j.extBut _ _ n (i.extBut _ _ I (S.extBut _ _ n (s2.extBut _ _ G (s1.extBut _ _ f g))));let c5:K.IsTupleIter c t (k+1):=((y2.extBut S.extBut D.bc.symm).extBut i.extBut D.cd).extBut j.extBut D.bc.symm;let d5:K.IsTupleIter d t2 (k+1):=y4.extBut j.extBut D.bd.symm;let m:z<K.objs.size:=aT l;show a6 _ _ (q1' (.ref z) (.ref K.objs.size)>>=_) _ _ _;erw[ae ?_];erw[ae (iq (aw _ l) ⋯ λk7 L T=>?_)];replace L:IsZip k7 z a b _:=L;erw[iq L ⋯ λM r U=>?_];replace r:IsZip M z a b _:=r;let up:∀e o,e≠z->K.get? e=O o->M.get? e=O o:=λe o f g=>U.extBut _ _ f (T.extBut _ _ f (aw _ g));let X:=U.extBut _ _ (jD m) (T.extBut _ _ (jD m) (aV _ Ŗ));rw[sz]at r X;erw[aH (_,Ŗ,?_)];rw[sz];rwa[hQ M (r,up _ _ D.az (u _ _ D.az D.ab D.ac D.ad N),(x,y,up _ _ D.bz Y),c5.at λo g=>up _ o D.cz g,d5.at λo g=>up _ o D.dz g) X λe o f n G I g=>up e o f (u e o f n G I g)]
def Yn(C:A.handled=aa)(D:ZW z a b c d)(Z:Sy s.heap z a b c d t t2 k .none)(o1:t≠z/\t≠b/\t≠c/\t≠d)(m:t2≠z/\t2≠b/\t2≠c/\t2≠d)(N:s.heap.IsTuple t xs)(U:s.heap.IsTuple t2 ys)(X:xs[k]?=aa\/ys[k]?=aa)(G:∀n e,(∀f o,f≠z->f≠b->f≠c->f≠d->s.heap.get? f=O o->n.get? f=O o)->(∃o,n.get? e=O o/\o.cls=.type "StopIteration")->E (.ref e) {s with heap:=n}):a6 (a8 P w) A (Builtin.«zip.__next__» ([.ref z],[])) Q E s:=by
 obtain⟨j,Y,⟨p,q,zo⟩,I,z2⟩:=Z;show a6 _ _ (field (.ref z) 2>>=_) _ _ _;erw[ae (bU j Ŗ (x:=.bool af) Ŗ ?_)];show a6 _ _ (field (.ref z) 3>>=_) _ _ _;erw[ae (bU j Ŗ (x:=.ref a) Ŗ ?_)];erw[ae (fF Y Ŗ ?_)];show a6 _ _ (q2' (.ref z)>>=_) _ _ _;erw[ae ?_];delta q2';erw[ae (bU j Ŗ (x:=.none) Ŗ (aH ?_))];simp only[rT];erw[ae (mV ?_)];erw[ae (bU j Ŗ (x:=.ref b) Ŗ ?_)];erw[ae (iq j ⋯ λk1 y s1=>?_)];replace y:IsZip k1 z a b .ellipsis:=y;erw[ae ?_];simp only[List.zipIdx_cons,List.zipIdx_nil,kx,List.forIn_nil]
 erw[ae (ae (C0 ?_))];show a6 _ _ (q0' (.ref c)>>=_) _ _ _;cases K:xs[k]? with|n=>
  erw[ae (sM C (I.extBut s1.extBut D.cz) (N.extBut s1.extBut o1.1) K λL e s2 r=>?_)];let(u,H,i):=r;let l:IsZip L z a b .ellipsis:=s2 _ _ D.cz.symm y;let ez:e≠z:=λg=>by subst g;rw[l]at H;cases H;simp at i
  erw[iq l ⋯ λM _ S=>G M e (λf o F _ v _ g=>S.extBut _ _ F (s2 _ _ v (s1.extBut _ _ F g))) (u,S.extBut _ _ ez H,i)]|s x=>
  let hy:ys[k]?=none:=by
   rcases X with h|h;.lia
   .rwa[h]
  erw[ae (x9 (I.extBut s1.extBut D.cz) (N.extBut s1.extBut o1.1) K λL y2 s2=>aH ?_)];let W:=s2.extBut _ _ D.bc (s1.extBut _ _ D.bz zo);erw[ae (fF W Ŗ ?_)];erw[ae (zD W λM y3 S=>?_)];erw[ae (we (aH ?_))];erw[ae (ae (C0 ?_))];erw[ae (sM C (((z2.extBut s1.extBut D.dz).extBut s2.extBut D.cd.symm).extBut S.extBut D.bd.symm) (((U.extBut s1.extBut m.1).extBut s2.extBut m.2.2.1).extBut S.extBut m.2.1) hy λk4 e R r=>?_)];let(u,H,i):=r;let B:IsZip k4 z a b _:=R _ _ D.dz.symm (S.extBut _ _ D.bz.symm (s2.extBut _ _ D.cz.symm y));rwa[iq B ⋯ λk5 _ T=>G k5 e (λf o F f2 v f4 g=>T.extBut _ _ F (R _ _ f4 (S.extBut _ _ f2 (s2.extBut _ _ v (s1.extBut _ _ F g))))) (u,T.extBut _ _ λg=>by lia H,i)]
def So(D:ZW z a b c d)(Z:Sy s.heap z a b c d t t2 k .none)(o1:t≠z/\t≠b/\t≠c/\t≠d)(f:t2≠z/\t2≠b/\t2≠c/\t2≠d)(N:s.heap.IsTuple t xs)(v:s.heap.IsTuple t2 ys)(g:xs[k]?=O x)(i:ys[k]?=O y)(j:∀h,Sy h z a b c d t t2 (k+1) (ci s.heap.objs.size)->IsPair h s.heap.objs.size x y->(∀e o,e≠z->e≠b->e≠c->e≠d->s.heap.get? e=O o->h.get? e=O o)->Q (O (.ref s.heap.objs.size)) {s with heap:=h}):a6 (a8 P w) A (pyNext (.ref z)) Q E s:=by let H:s.TypeIs (.ref z) _:=(_,Z.zip,Ŗ);rwa[ae (sg (dB H wD (gU wD H F.entry_zip_next (Sk D Z o1 f N v g i λh q l m=>aH (j h q l m)) (F.args_zip_next_1 _))))]
def Sq(g:A.handled=aa)(D:ZW z a b c d)(Z:Sy s.heap z a b c d t t2 k .none)(o1:t≠z/\t≠b/\t≠c/\t≠d)(i:t2≠z/\t2≠b/\t2≠c/\t2≠d)(N:s.heap.IsTuple t xs)(v:s.heap.IsTuple t2 ys)(X:xs[k]?=aa\/ys[k]?=aa)(j:∀h,(∀f o,f≠z->f≠b->f≠c->f≠d->s.heap.get? f=O o->h.get? f=O o)->Q aa {s with heap:=h}):a6 (a8 P w) A (pyNext (.ref z)) Q E s:=by let H:s.TypeIs (.ref z) _:=(_,Z.zip,Ŗ);erw[ae (sg (dB H wD (gU wD H F.entry_zip_next (Yn g D Z o1 i N v X λh e l m=>?_) (F.args_zip_next_1 _))))];let(o,n,p):=m;rwa[ae (wpAny_isInstance (o,n,p) isSubtype_stop (aH (j _ l)))]
end
def Ym(n:Ń):ZW (n+4) (n+2) (n+3) n (n+1):=by let h:∀i j:Ń,i≠j->n+i≠n+j:=λi j h e=>h (Nat.add_left_cancel e);exact(h 2 4 ∅,h 3 4 ∅,h 0 4 ∅,h 1 4 ∅,h 2 3 ∅,h 2 0 ∅,h 2 1 ∅,h 3 0 ∅,h 3 1 ∅,h 0 1 ∅)
def acg(n:Ń)(e:Á)(h:e ∈[n+4,n+2,n+3,n,n+1]):n<=e:=by
 simp only[aJ,K9,or_false]at h;rcases h with rfl|rfl|rfl|rfl|rfl;.rwa[fi _ _]
 .rwa[fi _ _]
 .rwa[fi _ _]
 .rwa[au _]
 .rwa[fi _ _]
def nT(K:Æ)(t t2:Á):It:=(λi H=>∃X Y x y,fS K H t X/\fS K H t2 Y/\X[i]?=O x/\Y[i]?=O y,λi H v h=>∃T,H T=aa/\v=.A T/\∀X Y x y,fS K H t X->fS K H t2 Y->X[i]?=O x->Y[i]?=O y->h=upd H T (.T [x,y]),λi H=>∃X Y,fS K H t X/\fS K H t2 Y/\(À X<=i\/À Y<=i))
def qt{p:Ł _}{σ:Ç}(I:Inv X p σ H s)(h:fS X.K H t xs)(f:oX X p H b):t≠b:=by
 rintro rfl;let(a,c,d,F,g,i):=f;rcases h with(h|⟨o,h⟩)|⟨o,B,n,k,_⟩;.left
 .left
 .let e:=I.ok.mod.SM t o k;rcases F with q|q;.rwa[I.ok.yz t o e q]
  .rwa[Ă (bj (aT e) (ay I.ok.FL q)) (dv _)]
section
variable{z a b c d e:Á}
def A6(h:e ∈[z,b,c,d]):e ∈[z,a,b,c,d]:=(aJ.mp h).elim (λq=>q▸.head _) λh=>.tail _ (.tail _ h)
def g7:b ∈[z,a,b,c,d]:=.tail _ (.tail _ (.head _))
def ia:c ∈[z,a,b,c,d]:=.tail _ (.tail _ (.tail _ (.head _)))
def h9:d ∈[z,a,b,c,d]:=.tail _ (.tail _ (.tail _ (.tail _ (.head _))))
def OI{P:ß}(h:e ∉[z,b,c,d])(k:e≠z->e≠b->e≠c->e≠d->P):P:=k (λq=>h (q▸.head _)) (λq=>h (q▸.tail _ (.head _))) (λq=>h (q▸.tail _ (.tail _ (.head _)))) λq=>h (q▸.tail _ (.tail _ (.tail _ (.head _))))
def ϒ{P:Á->ß}(h:e ∈[z,a,b,c,d])(H:P z)(f:P a)(g:P b)(i:P c)(j:P d):P e:=(aJ.mp h).elim (λq=>q▸H) λh=>(aJ.mp h).elim (λq=>q▸f) λh=>(aJ.mp h).elim (λq=>q▸g) λh=>(aJ.mp h).elim (λq=>q▸i) λh=>(aJ.mp h).elim (λq=>q▸j) λh=>nomatch h
def Sy.obj(st:Sy h z a b c d t t2 i .none)(H:e ∈[z,a,b,c,d]):∃o,h.get? e=O o/\∀v,o.data≠.cell v:=by obtain⟨Z,f,⟨p,q,j⟩,⟨o1,E,C,d1⟩,⟨l,k,m,d2⟩⟩:=st;rwa[ϒ (P:=λe=>∃o,h.get? e=O o/\∀v,o.data≠.cell v) H (_,Z,λv g=>ô g) (_,f,λv g=>ô g) (_,j,λv g=>ô g) (_,E,λv g=>ô (d1.symm.trans g)) (_,k,λv g=>ô (d2.symm.trans g))]
end
def Fx{K:Æ}(D:ZW z a b c d):Lg P w K (.Tuple es k pos) (nT K U t2) [z,a,b,c,d] z λi h=>Sy h z a b c d U t2 i .none where
 mem:=.head _;obj:=λi h st e j=>st.obj j;keep:=λi h h' st F=>by obtain⟨zz,Z,⟨p,q,W⟩,z1,z2⟩:=st;exact(F z (.head _) _ zz,F a (.tail _ (.head _)) _ Z,(p,q,F b g7 _ W),z1.at λo e=>F c ia o e,z2.at λo e=>F d h9 o e)
 item:=by
  intro X hP hw hK hc i N s σ H E I l st hg;subst hP hw hK;erw[cps λG k=>?_];let(xs,ys,x,y,v,C,hx,hy):=hg;let(Pa,r1,p1,l1):=I.tuple v;let(yj,r2,p2,l2):=I.tuple C;let(u1,hu1,ru1):=r1.get hx;let(u2,hu2,ru2):=r2.get hy;let L:=λ(e:Á)(j:e ∈[z,a,b,c,d])=>qt I v (l e j);let M:=λ(e:Á)(j:e ∈[z,a,b,c,d])=>qt I C (l e j);erw[k (So D st (L z (.head _),L b g7,L c ia,L d h9) (M z (.head _),M b g7,M c ia,M d h9) (show s.heap.IsTuple U Pa.toArray from p1) (show s.heap.IsTuple t2 yj.toArray from p2) (x:=u1) (y:=u2) (by simpa using hu1) (by simpa using hu2) λhp Z' pr F=>?_)];erw[(_,Ŗ,wpAny_letOwnedTupleGo_zip Z'.zip λhq zq sq=>?_)];let R:H s.heap.objs.size=none:=I.fresh;let B:∀e o,e ∉[z,b,c,d]->s.heap.get? e=O o->hq.get? e=O o:=λe o j g=>by rwa[OI j λv C h3 h4=>sq.extBut _ _ v (F e o v C h3 h4 g)]
  let Tz:s.heap.objs.size≠z:=jD (aT st.zip);let prq:IsPair hq s.heap.objs.size u1 u2:=sq.extBut _ _ Tz pr;let t:∀e u,H e=O u->e ∉[z,b,c,d]:=λe u j Q=>by let:H e=none:=(l e (A6 Q)).1;rw[this]at j;cases j
  let S':oO X.prog X.w (upd H s.heap.objs.size (.T [x,y])) hq:=λe u j=>by
   by_cases ee:e=s.heap.objs.size;.subst ee;rw[bA]at j;cases j;exact(by show 2<=Â;decide,[u1,u2],.cons ru1 (.cons ru2 .nil),(_,prq,Ŗ,_,Ŗ))
   .rw[bJ ee]at j;erw[(I.di e u j).CI (λf o Y g=>B f o ?_ g) (λf g=>by rw[bJ (bZ g R)];rwa[g]) λf zs g=>by rw[bJ (bZ g R)];rwa[g]]
    rcases Y with rfl|Y;.rwa[t f u j]
    .rwa[t f _ Y]
  let I1:Inv X N σ (upd H s.heap.objs.size (.T [x,y])) {s with heap:=hq}:=by
   erw[I.step (g':=s.gens) (d':=s.drawn) (t':=s.toks) (ch:=[z,b,c,d]) (λe j=>?_) (λe o _ _ j g _=>B e o j g) (λe o _ _ j g _=>(o.slots,B e o j g)) (λe o _ g n=>by rw[bJ (bB (aT g))];rwa[n]) (λe o j g=>(o,B e o j g)) (λe zs g=>by rw[bJ (bZ g R)];rwa[g]) (λe o u g=>by rw[bJ (bZ g R)];rwa[g]) (λe ps g=>(#[],by rw[bJ (bZ g R),g];simp)) (λm Q=>?_) S' I.bare];.let(f0,f1,f2,f3,f4,f5):=l e (A6 j);exact(f3,f1,f4,f5)
   .let(o,Om,ep,S,r):=Q;erw[(o,Om,ep,B _ o (λF'=>?_) S,r)];exact(l X.env.locals (A6 F')).2.1 Ŗ
  erw[(.A s.heap.objs.size,_,I1,Ŗ,(_,R,Ŗ,λxs' ys' x' y' g1 g2 gx gy=>?_),?_,λe j=>?_)];.let e1:=I.qx g1 v;let e2:=I.qx g2 C;subst e1;subst e2;rw[hx]at gx;rw[hy]at gy;cases gx;cases gy;rfl
  .obtain⟨_,Z,⟨p,q,W⟩,z1,z2⟩:=Z';exact(zq,sq.extBut _ _ D.az Z,(p,q,sq.extBut _ _ D.bz W),z1.extBut sq.extBut D.cz,z2.extBut sq.extBut D.dz)
  .rw[bJ];.exact(l e j).1
   .let(o,S,_):=st.obj j;rwa[bB (aT S)]
 done:=by
  intro X hP hw hK hc i N s σ H E I l st hg;subst hP hw hK;erw[cps λG k=>?_];let(xs,ys,v,C,hx):=hg;let(Pa,r1,p1,l1):=I.tuple v;let(yj,r2,p2,l2):=I.tuple C;let e1:=r1.length;let e2:=r2.length;let L:=λ(e:Á)(j:e ∈[z,a,b,c,d])=>qt I v (l e j);let M:=λ(e:Á)(j:e ∈[z,a,b,c,d])=>qt I C (l e j);erw[k (Sq (I.ok.hd hc) D st (L z (.head _),L b g7,L c ia,L d h9) (M z (.head _),M b g7,M c ia,M d h9) (show s.heap.IsTuple U Pa.toArray from p1) (show s.heap.IsTuple t2 _ from p2) nofun λhq F=>(Ŗ,?_))];let B:=λe o j g=>by rwa[OI j λv C h3 h4=>F e o v C h3 h4 g]
  let t:∀e u,H e=O u->e ∉[z,b,c,d]:=λe u j Q=>by let:=(l e (A6 Q)).1;rw[this]at j;cases j
  erw[I.step (λe j=>?_) (λe o _ _ j g _=>B e o j g) (λe o _ _ j g _=>(_,B e o j g)) (λe o _ g n=>n) (λe o j g=>(o,B e o j g)) (λe zs g=>g) (λe o u g=>g) (λe ps g=>(#[],by done)) (λm Q=>?_) (λe u j=>?_) I.bare];.let(f0,f1,f2,f3,f4,f5):=l e (A6 j);exact(f3,f1,f4,f5)
  .let(o,Om,ep,S,r):=Q;exact(o,Om,ep,B _ o (λF'=>(l _ (A6 F')).2.1 Ŗ) S,r)
  .erw[(I.di e u j).CI (λf o Y g=>B f o ?_ g) (λf g=>g) λf zs g=>g];rcases Y with rfl|Y;.rwa[t f u j]
   .rwa[t f _ Y]
 self:=λ_ _ _ _ _ st h=>wpAny_pyIter_zip st.zip h
abbrev mu(h:É)(t:Á):É:=h.push {cls:=.type "tuple_iterator",data:=.fields #[.ref t,.int 0 0]}
abbrev kT(h:É)(t t2:Á):É:=(mu h t).push {cls:=.type "tuple_iterator",data:=.fields #[.ref t2,.int 0 0]}
abbrev nb(h:É)(t t2:Á):É:=(kT h t t2).push {cls:=.type "tuple",data:=.seq #[.ref h.objs.size,.ref (mu h t).objs.size]}
abbrev md(h:É)(t t2:Á):É:=(nb h t t2).push {cls:=.type "tuple",data:=.seq #[.none,.none]}
abbrev eS(h:É)(t t2:Á):É:=(md h t t2).push {cls:=.type "zip",data:=.fields #[.none,.bool af,.bool af,.ref (kT h t t2).objs.size,.ref (nb h t t2).objs.size]}
def FE(t t2:Á)(xs ys:Array Ä):Meets (Builtin.«zip.__new__» ([.type "zip",.ref t,.ref t2],[])) λ_ R s=>s.heap.IsTuple t xs/\s.heap.IsTuple t2 ys/\R (.ok (.ret (.ref (md s.heap t t2).objs.size))) {s with heap:=eS s.heap t t2}:=.of_wp λp w A R s h=>by let(a,g,d,T,os):=s;let(N,v,h):=h;let f:=sub_zip;let H:Heap.IsTuple (Shared.heap _) t xs:=N;wp_walk using qG H,qG (Heap.IsTuple.push v _);exact(_,Ŗ,h)
def akT(K:Æ)(T:TA):TI:=λσ H R=>T σ H λv h=>∃t t2,v=[.A t,.A t2]/\(∃x,fS K h t x)/\(∃y,fS K h t2 y)/\R (nT K t t2) h
def abh(x:Gl X "zip")(B:X.mg "zip"=aa)(C:PA X [a,b] T)(E:ø (b5 [a,b] X.env=[(af,Ê a X.env),(af,Ê b X.env)]) o0)(c:ø (b5 [b] X.env=[(af,Ê b X.env)]) o0):PI X (.Tuple es k m) (.Call (.Name "zip" p) [a,b] [] pos) (akT X.K T):=by
 intro P s σ H R I h;erw[Call_ (yn I x B (show b' "zip"=O (.type "zip")from ∅) (pk (gP (C pos P s σ H _ I h) λus s1 (vs,G,i,n,Q)=>?_) (by rw[E,c]) (by rw[c];rfl)))];obtain⟨t,t2,e,⟨xs,L⟩,⟨ys,M⟩,q⟩:=Q;subst e;let(u1,u2,rfl,r,f):=n.two;cases r;cases f;let(N,n,S,l1):=i.tuple L;let(U,r2,W,l2):=i.tuple M;erw[callType_new F.called_zip ∅ (F.typeCall_zip_2 _ _) (F.newCall_zip_2 _ _) (λobj=>F.args_object_init_3 obj _ _) F.entry_zip_new (FE t t2 N.toArray U.toArray) (S,W,?_)];let z:(mu s1.heap t).objs.size=s1.heap.objs.size+1:=jr ..;let j:(kT s1.heap t t2).objs.size=s1.heap.objs.size+2:=by rw[jr,z]
 let l:(nb s1.heap t t2).objs.size=s1.heap.objs.size+3:=by rw[jr,j]
 let u:(md s1.heap t t2).objs.size=s1.heap.objs.size+4:=by rw[jr,l]
 let y:(eS s1.heap t t2).get? (md s1.heap t t2).objs.size=O _:=aV _ Ŗ;let Y:(eS s1.heap t t2).get? (nb s1.heap t t2).objs.size=O _:=aw _ (aV _ Ŗ);let v:(eS s1.heap t t2).get? (kT s1.heap t t2).objs.size=O _:=aw _ (aw _ (aV _ Ŗ));let w:(eS s1.heap t t2).get? (mu s1.heap t).objs.size=O _:=aw _ (aw _ (aw _ (aV _ Ŗ)));let y1:(eS s1.heap t t2).get? s1.heap.objs.size=O _:=aw _ (aw _ (aw _ (aw _ (aV _ Ŗ))));rw[j,l,u]at y;rw[z,j]at v;rw[l]at Y;rw[z]at w;rw[u];erw[((_,y,Ŗ),?_)];let D:ZW (s1.heap.objs.size+4) _ _ _ _:=Ym _;let Z:Sy _ _ _ _ _ _ t t2 0 _:=(y,v,(_,_,Y),(_,y1,Ŗ,Ŗ),(_,w,Ŗ,Ŗ));erw[(Fx (K:=X.K) (es:=es) (k:=k) (pos:=m) D).self X.A 0 _ _ _ Z ?_];erw[(_,_,_,_,G,Ŗ,i.kept λe o g=>aw _ (aw _ (aw _ (aw _ (aw _ g)))),Fx D,Z,λe he=>?_,q)];let d:=acg _ e he;rwa[i.LO d (i.di.fresh d)]
def wq(x:Ã):It:=(λi _=>i<x.cps.size,λi H v h=>h=H/\∃c,x.cps[i]?=O c/\v=.S ⟨#[c]⟩,λi _=>i=x.cps.size)
def za{K:Æ}(W:∀M:bp,M.handled=aa->Walks P w M a [a] [a] x.cps.size (SignAt x) λi h=>h.IsStrIter a T x t i)(U:∀(A:bp)(i:Ń)(s:a5)(Q:dH)(E:dH),s.heap.IsStrIter a T x t i->Q (.ref a) s->a6 (a8 P w) A (pyIter (.ref a)) Q E s):Lg P w K (.Name y R) (wq x) [a] a λi h=>h.IsStrIter a T x t i where
 mem:=⋯
 obj:=λi h st b f=>by
  let e:=by simpa using f
  subst e;let(o,e,c,d):=st;exact(o,e,λv z=>nofun)
 keep:=λi h N st k=>by let(o,e,r):=st;exact(o,k a ⋯ o e,r)
 item:=by intro X j l m n i p s σ H E I g st q;subst j l m;let(F,B,Y,C,D,G):=g a ⋯;erw[(W X.A (I.ok.hd n)).item i s _ E q st λv N Z hv Ih L=>?_];let(c,u,U8,rfl):=hv;exact(_,Ŗ,aH (.S _,H,I.turned (λb o f e=>L b o (by simpa using f) e) F B C D G,(u,Ŗ),(Ŗ,c,U8,Ŗ),Ih,λb f=>(g b f).1))
 done:=by intro X j l m n i p s σ H E I g st q;subst j l m;let(F,B,Y,C,D,G):=g a ⋯;let e:=q;subst e;exact(W X.A (I.ok.hd n)).done s _ E st λN Z L=>(Ŗ,I.turned (λb o f e=>L b o (by simpa using f) e) F B C D G)
 self:=U
def ũ(tl:TE):TI:=λσ H R=>tl σ H λx h=>∃z,x=.S z/\R (wq z) h
def abg(j:PE X l tl):PI X (.Name y P) l (ũ tl):=by
 intro p s σ H R I h;erw[oV (j _ s σ H _ I h) λv s1 x c a r k=>?_];let(z,rfl,q):=k;let(t,rfl):=r;let F:∀b ∈[s1.heap.objs.size],oX X _ c b:=λb m=>by
  let e:=by simpa using m
  subst e;rwa[a.LO (au _) a.fresh]
 cases g:z.cps.all _;.rwa[wpAny_pyIter_wide g (_,_,_,_,c,Ŗ,a.kept λb o e=>aw _ e,za (λn d=>Walks.strWide d _ z t) λA i s Q E st f=>wpAny_pyIter_striter_wide st f,(_,aV _ Ŗ,Ŗ,Ŗ),F,q)]
 .rwa[wpAny_pyIter_ascii g (_,_,_,_,c,Ŗ,a.kept λb o e=>aw _ e,za (λn d=>Walks.strAscii d _ z t) λA i s Q E st f=>wpAny_pyIter_striter_ascii st f,(_,aV _ Ŗ,Ŗ,Ŗ),F,q)]
def Nq(H:Hp):V->Ő String
 |.gH=>O "NoneType"|.B _=>O "bool"|.I _=>O "int"|.S _=>O "str"|.A a=>match H a with|O (.L _)=>O "list"|O (.T _)=>O "tuple"|O (.dK _)=>O "dict"|_=>aa
 |_=>aa
def zQ(t c:String):Þ:=t==c||t=="bool"&&c=="int"
def X6{K:Æ}(h:Nq H x=O t):uC K H x (.type t):=by cases x with
 |gH=>cases h;rwa[.gH]|B b=>cases h;rwa[.bl b]|I i=>cases h;rwa[.int i]|S z=>cases h;rwa[.str z]|A a=>delta Nq at h;dsimp only at h;generalize e:H a=o at h;cases o with|n=>cases h|s c=>cases c with|L _=>cases h;rwa[.lst e]|T _=>cases h;rwa[.tup e]|dK _=>cases h;rwa[.dK e]|_=>cases h
 |Ng _=>cases h|UQ _=>cases h|ty _=>cases h
def X5(h:Nq H x=O t):t ∈["NoneType","bool","int","str","list","tuple","dict"]:=by
 let k:(Nq H x).all (λt=>["NoneType","bool","int","str","list","tuple","dict"].contains t)=true:=by cases x with
  |A a=>delta Nq;dsimp only;cases H a with|n=>rfl|s c=>cases c<;>rfl
  |_=>rfl
 rw[h]at k;rwa[List.contains_iff_mem.mp k]
def kh{α:Type}{P:α->ß}{a:α}{l:Ł α}(h:P a)(k:∀x∈l,P x):∀x∈a::l,P x:=λ_ m=>(aJ.mp m).elim (λe=>e▸h) (k _)
def Pz{α:Type}{P:α->ß}:∀x∈[],P x:=λ_ m=>nomatch m
def alf{P:String->ß}(h:t ∈["NoneType","bool","int","str","list","tuple","dict"])(H:P "NoneType")(a:P "bool")(b:P "int")(c:P "str")(d:P "list")(e:P "tuple")(f:P "dict"):P t:=kh H (kh a (kh b (kh c (kh d (kh e (kh f Pz)))))) _ h
def ale{P:String->ß}(h:t ∈["str","int","bool","tuple","list"])(H:P "str")(a:P "int")(b:P "bool")(c:P "tuple")(d:P "list"):P t:=kh H (kh a (kh b (kh c (kh d Pz)))) _ h
def Pf{K:Æ}(h:t ∈["NoneType","bool","int","str","list","tuple","dict"])(H:c ∈["str","int","bool","tuple","list"]):kitOne K (.type t) (.type c)=O (zQ t c):=by erw[ale (P:=λc=>kitOne K (.type t) _=O _) H ?_ ?_ ?_ ?_ ?_]<;>erw[alf (P:=λt=>kitOne K _ _=O (zQ t _)) h ?_ ?_ ?_ ?_ ?_ ?_ ?_]<;>rfl
def NV:dW X (.builtin "isinstance") λxs H Q=>∃x c t,xs=[x,.ty c]/\Nq H x=O t/\c ∈["str","int","bool","tuple","list"]/\Q (.B (zQ t c)) H:=by intro p s σ H xs U Q I r h;let(x,c,t,rfl,a,b,q):=h;let(u,v,rfl,R,d):=r.two;obtain rfl:v=ñ c:=d;rwa[L4 I R (X6 a) (Pf (X5 a) b) λT=>(.B _,H,I.tok T,Ŗ,q)]
def DN(t:X.calm):dW X (.builtin "all") λxs H Q=>∃(l:Á)(bs:Ł _),xs=[.A l]/\ie X.K H l (bs.map V.B)/\Q (.B (bs.all id)) H:=by
 intro p s σ H xs U Q I r h;let(l,bs,rfl,w,q):=h;let(u,rfl,x):=r.one;cases x;obtain⟨y,j,⟨o,n,k,P,F,C⟩,G⟩:=I.list w;let L:s.heap.IsList l _:=(o,k,P,n,C);let len:=by let:=j.length;rw[ai]at this;rwa[this]
 erw[call_all_walk (rW L ?_)];erw[(_,_,_,_,_,_,λi=>bs[i]?.getD J,Ŗ,Walks.list (A:=X.A.in1) (I.ok.hd t) _ l (bB (aT k)) _,((_,aV _ Ŗ,Ŗ,Ŗ),L.push _),λi v S M N D f=>?_,λT W E=>?_)]
 .let m:=by simpa using D
  let hi:=(aj.mp m).1;let d:bs[i]?=O bs[i]:=aE _;let(Y,a,R):=j.get (by rw[bP,d];rfl);rw[m]at a;cases a;obtain rfl:v=é _:=R;dsimp only at f;rw[d]at f;rwa[eM f]
 .let e:((Û y.toArray.size).all λi=>bs[i]?.getD J)=bs.all id:=by
   rw[aW,<-len,cZ,aG,aG];constructor;.intro g b d;let(i,hi,e):=TD.mp d;let:=g i (qD.mpr hi);rw[aE hi,e]at this;rwa[this]
   .intro g i hi;let c:=qD.mp hi;rw[aE c];rwa[g _ (dY c)]
  rw[e];exact(.B _,H,I.kept λb o e=>E b o (λz=>by rw[aL.mp z]at e;rwa[dv _ (aT e)]) (aw _ e),Ŗ,q)
def Mp:jz X (compareOp .LtE) λx y H Q=>∃i j,x=.S i/\y=.S j/\Q (.B ! Đ (j.cps.toList<i.cps.toList)) H:=by intro p s σ H x y v u Q I r R h;let(i,j,rfl,rfl,q):=h;let(t,rfl):=r;let(T,rfl):=R;rwa[PySem.P.le_str (.B _,H,I,Ŗ,q)]
def iR(h:H p=aa)(o:HO):jF H (upd H p o):=λb u q=>by rw[bJ (bZ q h)];rwa[q]
def Gu{lo:Ő Î}(h:HT.nB (À xs) 0 lo=0/\HT.nB (À xs) (À xs) H=À xs):rh xs lo H=xs:=by delta rh;rw[h.1,h.2,Ta,Nat.sub_zero,gT]
def wc{E:dH}{lo:Ő Î}{Q:dH}(H:IsTup s.heap t be)(b:s.heap.IsSliceOf sl v u .none)(p:IsPart v lo)(c:IsPart u i)(f:HT.nB be.size 0 lo=0/\HT.nB be.size be.size i=be.size)(h:Q (.ref t) s):a6 (a8 P w) A (getItem (.ref t) (.ref sl)) Q E s:=by
 let(os,d,a,e):=id b;delta getItem;try with_reducible erw[c7 ?_]
 erw[ae (wpAny_sequenceKey H.typeIs Ŗ ?_)];erw[ae (dB H.typeIs cX (gU cX H.typeIs G2 ?_ (args_tuple_getitem _ _)))];show a6 _ _ (Builtin.Tuple.tupleItemsOf _>>=_) _ _ s;erw[ae (tupleItemsOf_ H ?_)];erw[ae (vY (os,d,a) ?_)];erw[ae (HT.nD b p c ?_)];show a6 _ _ (if((HT.nB _ 0 lo:Î)==0&&1==1&&HT.nB _ _ i-HT.nB _ 0 lo==be.size)=J then _ else _) _ _ s;rw[cG nofun];erw[ae ?_];erw[ae (vY H.typeIs (aH ?_))];first|rwa[ae (mV (aH (_,Ŗ,aH h)))]|rfl|rfl
def Ww(hu:X.A.units<Ì):jz X (compareOp .Eq) λx y H Q=>∃a b xs,x=.A a/\y=.A b/\ie X.K H a xs/\ie X.K H b []/\Q (.B xs.isEmpty) H:=by intro p s σ H x y v u Q I c d h;let(a,b,xs,rfl,rfl,f,g,q):=h;cases c;cases d;obtain⟨D,R,⟨o1,n,E,C,d1,k⟩,_⟩:=I.list f;obtain⟨Y,i,⟨o,N,m,t,d2,w⟩,_⟩:=I.list g;obtain rfl:=i.zero;let l:s.heap.IsList a _:=(o1,E,C,n,k);let L:s.heap.IsList b _:=(o,m,t,N,w);cases xs with|i=>obtain rfl:=R.zero;rwa[SeqAt.eq_listAt (e:=λ_=>J) l L rfl hu (λj z F=>Ă z ⋯) (.B _,H,I,Ŗ,q)]|k x G=>cases R with|k r M=>rwa[SeqAt.eq_list_lengthsAt l L Ŗ hu (.B _,H,I,Ŗ,q)]
structure F5(w:a9)(K:Æ)(a:Á)(tab:Ã->Ő ϐ):ß where
 ex:∃(es:Array cp)(n:Ń),K.lookup a=O (.type "dict",aa,.dict es n,#[])/\KeysLit w.params es.toList/\∀x,match tab x with|O ks=>∃b,findBy Ý es x=O (.ref b)/\∃(o:Obj)(bL:Array Ä)(m:Ń),K.lookup b=O o/\o.cls=.type "tuple"/\o.data=.seq bL m/\bL.size<=Â/\Vals (ks.map V.S) bL.toList|aa=>findBy Ý es x=aa
 lo:(a==db)=af
def ϔ(K:Æ)(t:Ã->Ő ϐ)(T:TE):TE:=λσ H Q=>T σ H λy h=>∃x,y=.S x/\match t x with|O k=>∀b,fS K h b (k.map V.S)->Q (.A b) h|aa=>Q .gH h
def MB(T:F5 X.w X.K a c)(L:Gl X n)(M:X.mg n=O (.ref a))(U:PE X e g)(W:ø ((n==("__debug__":Ã))=af) P3)(Z:ø (dL (.Name n p) "get" X.env (Ê (.Name n p) X.env)=Ê (.Name n p) X.env) o0)(Y:ø (((cc D (b5 [e] X.env)).all (λx=>!x.1)&&(backToKw D (eA [] X.env)).all (λx=>x.1.isSome)&&Đ (À [e]+À ([]:Ł c9)+(if([]:Ł c9).isEmpty then 0 else 1)<30))=J) o0)(pR:ø ((bb.endLine==D.line)=J) o0)(z:ø (b5 [e] X.env=[(af,Ê e X.env)]) o0):PE X (.Call (.Attribute (.Name n p) "get" bb) [e] [] D) (ϔ X.K c g):=by intro P s σ H Q I h;let(es,k,lk,d,look):=T.ex;let f:=kA (prog:=X.prog) (w:=X.w) I.oR lk d;erw[vW Z Y pR Ŗ (ma I L M ?_ W)];erw[("dict","dict.get",FN,B1,PySem.F.type_dict_get,f.typeIs,f.noDict,?_)];let i:PA X [e] (Fp g CM):=J1 U fw (by rw[z];rfl);let B:=i D P s σ H (λv j=>match v with|[y]=>∃x,y=.S x/\(match c x with|O C=>∀b,fS X.K j b (C.map V.S)->Q (.A b) j|aa=>Q .gH j)|_=>ŧ) I h;rw[z]at B⊢;erw[ig Ŗ (jq ?_)];erw[gP B λus s2 v=>?_];let(v,E,r,R,q2):=v;let N:=kA (prog:=X.prog) r.oR lk d;match v,R,q2 with|[y],R,(x,ey,q)=>subst ey;let(u,rfl,t,rfl):=R.one;erw[call_meetsIn B1 N.typeIs PySem.F.entry_dict_get (PySem.F.args_dict_get_2 _ _) (meets_dict_get _ a (mT _ X.w x t) T.lo) (_,N,?_)];let l:=look x;cases G:c x with|s C=>rw[G]at l q;let(b,fb,o,bL,m,l1,l2,l3,l4,l5):=l;rw[fb];exact(.A b,E,r.tok _,Ŗ,q b (.inr (o,bL,m,l1,l2,l3,l4,l5)))|n=>rw[G]at l q;rw[l];exact(.gH,E,r.tok _,Ŗ,q)
structure Src(K:Æ)(mg:b1)(x:Ã)(st:È)(ps:ϐ):ß where ex:∃(f:Á)(fd:b7),Nd K x x st f fd/\mg x=O (.ref f)/\Binds K fd ps []
def cA:Å->Þ|.Starred _ _=>af|_=>J
def cW(h:cA e):b5 (e::es) env=(af,Ê e env)::b5 es env:=by cases e<;>first|rfl|cases h
theorem gJ:∀{es:Ł _},es.all cA=J->(cc pos (b5 es env)).any (·.1)=af|[],_=>Ŗ|e::es,h=>by rw[bC,aM]at h;rw[cW h.1];show(af||(cc pos _).any _)=af;rw[gJ (env:=env) (pos:=pos) h.2];rfl
def o8(H:PE X e T)(r:PA X es t)(h:ø (cA e=J) o0):PA X (e::es) (Fp T t):=J1 H r (cW h)
def agN(t:TT):TT:=λσ H Q=>∃M:Þ->Hp->ß,t σ H M/\∀v h,M v h->Q v h
def abn(h:PT X e t):PT X e (agN t):=by intro p s σ H Q I d;let(M,a,b):=d;rwa[gP (h _ s σ H M I a) λu s1 (c,i,q)=>(c,i,b u c q)]
def ϫ(sp:Sp)(t:TA):TE:=λσ H Q=>t σ H λv h=>sp v h Q E0
def J3{id:String}(h:dW X (.builtin id) r)(H:Gl X x)(m:X.mg x=aa)(v:b' x=O (.builtin id))(a:PA X (e::es) t)(hn:ø (x≠"__name__") P3)(k:ø ((x==("__debug__":Ã))=af) P3)(E:ø ((e::es).all cA=J) o0):PE X (.Call (.Name x p) (e::es) [] pos) (j1 r t):=Qm h H m v a hn k (cW (by rw[bC,aM]at E;rwa[E.1])) (gJ (by rw[bC,aM]at E;rwa[E.2]))
def Y3{id:String}(h:dW X (.type id) r)(H:Gl X x)(m:X.mg x=aa)(v:b' x=O (.type id))(a:PA X (e::es) t)(hn:ø (x≠"__name__") P3)(k:ø ((x==("__debug__":Ã))=af) P3)(E:ø ((e::es).all cA=J) o0):PE X (.Call (.Name x p) (e::es) [] pos) (j1 r t):=Mx h H m v a hn k (cW (by rw[bC,aM]at E;rwa[E.1])) (gJ (by rw[bC,aM]at E;rwa[E.2]))
def sE(k:Ń)(s:Ϙ)(σ:Ç):Ç:=Ó k aa++s.map λj=>σ[j]?.join
def ajw(k:Ń)(a:Ϙ)(d:k+À a=À N')(hn:a.map (λj=>X.N[j]?)=(N'.drop k).map O)(f:∀x∈N'.drop k,(x,å)∈s.names):∀σ:Ç,À σ=À X.N->pq X N' s σ (sE k a σ):=by
 intro σ _;erw[(by delta sE;rw[ah,cH,ai];rwa[d],λi x v g h=>?_)];delta sE at h;by_cases H:i<k;.rw[aY (by simpa using H),gS,cG H]at h;cases h
 .rw[aK (by simpa using H),cH,bP]at h;cases b:a[i-k]? with|n=>left|s j=>
   rw[b]at h;let h3:=by simpa using h
   let e:(N'.drop k)[i-k]?=O x:=by grind
   let e2:=cY (λl=>l[i-k]?) hn;simp only[bP,b,e,Option.map_some]at e2;erw[(f x (aZ e),j,c0 e2,?_)];cases c:σ[j]? with|n=>rw[c]at h3;cases h3|s o=>rw[c]at h3;let:o=O v:=h3;rw[this]
def Gr{X:Cx}{N':ϐ}{scope:Ï}(s:Ï)(h:ø (X.env.scope=s) o0)(a:ø (scope.kind=.function) gA)(b:ø N'.Nodup gA)(c:ø (∀y∈scope.names,y.2≠.cell) gA)(d:ø (∀y∈scope.names,y.2=.local->scope.names.lookup y.1=O .local) gA)(e:ø (∀y∈scope.names,y.2=.free->s.names.lookup y.1=O .cell) gA)(f:ø (∀y∈scope.names,y.2=.free->(scope.names.map λ(n,k)=>if k==.free&&s.kind==.function&&s.names.lookup n==O .cell then(n,NameKind.cell)else(n,k)).lookup y.1≠O .local) gA):fY X N' scope:=by subst h;exact(a,b,c,d,e,λx H=>f _ H Ŗ)
def NM:b' "len"=O (.builtin "len"):=PySem.boot_len
def mn:b' "isinstance"=O (.builtin "isinstance"):=by rfl
def c_:b' "all"=O (.builtin "all"):=by rfl
def IS:b' "list"=O (.type "list"):=by rfl
def DG:b' "tuple"=O (.type "tuple"):=by rfl
def NN:b' "str"=O (.type "str"):=by rfl
def Gd:b' "int"=O (.type "int"):=by rfl
def TL:b' "bool"=O (.type "bool"):=by rfl
def Y4(h:X.mg x=aa)(H:b' x=O (.type n))(g:Gl X x)(hn:ø (x≠"__name__") P3)(d:ø ((x==("__debug__":Ã))=af) P3):PE X (.Name x pos) (tC (.ty n)):=WH g h H rfl hn d
def GP(C t:Á)(tb:Ä):Obj:={cls:=.ref C,data:=.fields #[.ref t,tb,.none,.none,.bool af,.none]}
def Ex(h:É)(a C T:Á)(f:Ä):ß:=(∃t,h.get? a=O (GP C t (.ref T)))/\T≠a/\∃o s,h.get? T=O o/\o.data=.fields s/\s[3]?=O f
structure Mv(fs:Ł Á)(a T:Á)(h h':É):ß where
 keep:∀b o,h.get? b=O o->b∉fs->b≠a->b≠T->h'.get? b=O o
 slot:∀b o,h.get? b=O o->b∈fs->b≠a->b≠T->∃sl,h'.get? b=O {o with slots:=sl}
def Mv.any(m:Mv fs a T h H)(e:h.get? b=O o)(c:b≠a)(d:b≠T):∃sl,H.get? b=O {o with slots:=sl}:=by
 by_cases f:b∈fs;.rwa[m.slot b o e f c d]
 .exact(_,m.keep b o e f c d)
def yc{E:dH}{s:a5}(w:A.frames=O (env::outer))(l:s.heap.FunFrames base (env::outer))(y:env.frame=O L)(m:s.heap.get? a=O (GP C t tb))(h:∀f g,s.heap.get? g=aa->s.heap.objs.size<=g->Ex f a C g (ci L)->Mv ((env::outer).filterMap (·.frame)) a a s.heap f->Q ⟨⟩ {s with heap:=f}):a6 M A (do let x<-frameOf env;let p<-entryPlaceOf L U;let b<-EntryCells.newEntry head x .none (ci L) .none p;setField (.ref a) 1 b) Q E s:=by
 erw[ae (wpAny_frameOf_fun w l y λn H=>?_)];erw[ae (wpAny_entryPlaceOf λp F=>?_)];erw[ae (gb ?_ (F.sizeOk5 _ _ _ _ _))];let c:=(H.2.1 a λz=>by let(_,o,r,hn):=l.mem z;rw[m]at r;cases r;rwa[hn _ Ŗ]).trans m;let d:=aw {cls:=.type "traceback",dict:=aa,data:=.fields ([head,.ref L,.none,ci L,.none]++if p.isEmpty then Ó 6 Ü else p).toArray} c;erw[fG d Ŗ (Nat.lt_of_sub_pos (Nat.succ_pos 4)) ?_];let v:=jD (aT c);let i:∀b o,s.heap.get? b=O o->b≠n.objs.size:=λb o e=>by let(sl,j):=H.2.2 b o e;rwa[bB (aT j)]
 erw[h _ _ (by cases q:s.heap.get? _ with|n=>rfl|s o=>rwa[Ă Ŗ (i _ o q)]) (su H.1.symm) ((t,cR _ d Ŗ),v,{cls:=.type "traceback",dict:=aa,data:=.fields ([head,.ref L,.none,ci L,.none]++if p.isEmpty then Ó 6 Ü else p).toArray},_,?_,Ŗ,?_) (λb o e u k _=>?_,λb o e u k _=>?_)];.rw[cb _ _ (cj v)];rwa[aV n Ŗ]
 .rfl
 .rw[cb _ _ (cj k)];rwa[aw _ ((H.2.1 b u).trans e)]
 .let(sl,j):=H.2.2 b o e;erw[(sl,?_)];rw[cb _ _ (cj k)];rwa[aw _ j]
def afr{E:dH}{s:a5}(w:A.frames=O (env::outer))(l:s.heap.FunFrames base (env::outer))(f:env.frame=O L)(e:s.heap.get? a=O (GP C t .none))(h:∀H b,s.heap.get? b=aa->s.heap.objs.size<=b->Ex H a C b (ci L)->Mv ((env::outer).filterMap (·.frame)) a a s.heap H->Q ⟨⟩ {s with heap:=H}):a6 M A (dV (.ref a) env) Q E s:=by delta dV;simp only[f];rwa[ae (bU e Ŗ (x:=.none) Ŗ (yc w l f e h))]
def YT{E:dH}{s:a5}(w:A.frames=O (env::outer))(u:s.heap.FunFrames base (env::outer))(m:env.frame=O L)(v:Ex s.heap a C T .none)(h:∀d c,s.heap.get? c=aa->s.heap.objs.size<=c->Ex d a C c (ci L)->Mv ((env::outer).filterMap (·.frame)) a T s.heap d->Q ⟨⟩ {s with heap:=d}):a6 M A (dV (.ref a) env) Q E s:=by
 obtain⟨⟨t,n⟩,y,G,I,j,k,p⟩:=v;delta dV;simp only[m];erw[ae (bU n Ŗ (x:=.ref T) Ŗ ?_)];erw[ae (bU j k p ?_)];erw[ae (fG j k (fD.mp p).1 ?_)];let F:∀b,b≠T->(s.heap.update T (ë (·.setIfInBounds 3 Ü))).get? b=s.heap.get? b:=λb H=>cb _ _ (cj H);erw[yc w (u.of_keeps λb o H f=>(o,(F b (λb o H f q=>by left b o H f)).trans H,Ŗ)) m ((F a (cj y)).trans n) λd c i B D r=>?_];erw[h d c ?_ ?_ D (λb o e H g l=>r.keep b o ((F b l).trans e) H g g,λb o e H g l=>r.slot b o ((F b l).trans e) H g g)]
 .by_cases q:c=T;.rw[q]at i;let z:=cR (ë (·.setIfInBounds 3 Ü)) j (iT (dZ k _));rw[z]at i;cases i
  .exact(F c q).symm.trans i
 .left
def ϓ{E:dH}{L:Á}(H:env.frame=O L)(e:Ex s.heap a C T (ci L))(h:Q ⟨⟩ s):a6 M A (dV (.ref a) env) Q E s:=by obtain⟨⟨t,b⟩,v,o,g,c,d,f⟩:=e;delta dV;simp only[H];erw[ae (bU b Ŗ (x:=.ref T) Ŗ ?_)];erw[ae (bU c d f ?_)];rw[cG ⋯];rwa[aH h]
def UO{E:dH}(e:Ex s.heap a C T f)(h:∀H,Ex H a C T .none->ã T s.heap H->Q ⟨⟩ {s with heap:=H}):a6 M A (setFlight (.ref a) aa) Q E s:=by obtain⟨⟨t,b⟩,v,o,i,c,d,g⟩:=e;let hz:=(fD.mp g).1;rwa[ae (bU b Ŗ (x:=.ref T) Ŗ (fG c d hz (h _ ((t,(cb _ _ v).trans b),v,_,_,cR _ c (iT (dZ d _)),dZ d _,nofun) (gO ..))))]
def zM:entryFor table "proto.unchain"=O Builtin.«proto.unchain»:=entryFor_of_tree Ŗ
def Iw{E:dH}{Q:dH}(H:s.heap.get? e=O (GP C t tb))(h:Q .none s):a6 (a8 prog w) A (runValue (.builtin "proto.unchain" ([x,.ref e,.ref e,.bool af],[]))) Q E s:=by rwa[wpAny_runValue (iH zM (ae (bU H Ŗ (x:=.none) Ŗ (aH h))))]
def Q2{E:dH}{Q:α->a5->ß}(H:A.handled=O (.ref e))(a:s.heap.get? e=O (GP C t tb))(b:s.heap.get? x=O o)(d:o.data=.fields vs)(z:2<vs.size)(v:e≠x)(h:E (.ref x) {s with heap:=s.heap.update x (ë (·.setIfInBounds 2 (.ref e)))}):a6 (a8 prog w) A (raiseNew (.ref x)) Q E s:=by erw[ae (wpAny_handled ?_)];rw[H];show a6 _ _ (if(Ö e !=Ö x)=J then _ else _) _ _ _;rw[cG (by simp[v])];rwa[ae (c7 (Iw a (ae (fG b d z (wf h)))))]
def Iq{E:dH}{I}(m:A.handled=O (.ref e))(n:s.heap.get? e=O (GP C t tb))(v:e≠c)(hit:s.heap.IsTupleIter c T i)(p:s.heap.IsTuple T I)(r:I[i]?=aa)(u:∀f,Heap.ExtBut c s.heap f->Q aa {s with heap:=f}):a6 (a8 prog w) A (pyNext (.ref c)) Q E s:=by let(o,h,D,H):=id hit;let(F,l,_,N,d):=p;delta pyNext;erw[ae (sg (dB (name:=ú "__next__") hit.typeIs dJ (gU dJ hit.typeIs pj ?_ (oW _))))];show a6 _ _ (field (.ref c) 0>>=_) _ _ s;erw[ae (bU h H (x:=.ref T) Ŗ ?_)];show a6 _ _ (if(Ö T==Ü)=J then _ else _) _ _ s;rw[dh (show ¬(Ö T==Ü)=J from aD)];show a6 _ _ (field (.ref c) 1>>=_) _ _ s;erw[ae (bU h H (x:=.int i 0) Ŗ ?_)];show a6 _ _ (seqItems? (.ref T)>>=_) _ _ s;erw[ae (fF l d ?_)];simp only[iV,r];erw[ae (mV (ae (fG h H ⋯ ?_)))];show a6 _ _ (newExc (.type "StopIteration") []>>=_) _ _ _;erw[ae ?_];erw[ae (gb ?_ (by size_fits))];erw[ae (Nc (a:=Ü) Ŗ ?_)];erw[gb ?_ (by size_fits)];let k:∀{g:É}{y:Obj},g.get? e=O (GP C t tb)->(g.push y).get? e=O _:=λq=>aw _ q;let K:(s.heap.update c (ë (·.setIfInBounds 0 Ü))).get? e=O _:=(cb _ _ (cj v)).trans n;erw[Q2 m (k (k K)) (aV _ Ŗ) rfl (by rw[rQ];rwa[bj (show 2<6 by ext) (fi 6 _)]) (bB (aT (k K))) ?_];erw[ae (wpAny_isInstance (_,cR _ (aV _ Ŗ) Ŗ,Ŗ) isSubtype_stop ?_)];erw[aH (u _ ?_)];intro b o z q;let B:(s.heap.update c (ë (·.setIfInBounds 0 Ü))).get? b=O o:=(cb _ _ (cj z)).trans q;let j:=aw {cls:=.type "tuple",data:=.seq #[]} B;exact(cb _ _ (cj (bB (aT j)))).trans (aw _ j)
def iN.there(x:iN P w H h a o):∃ob,h.get? a=O ob:=by cases o with|L X=>let(_,_,_,_,e):=x;exact(_,e)|T X=>let(_,_,_,o,e,_):=x;exact(_,e)|dK b=>let(_,_,_,_,o,_,_,e,_):=x;exact(_,e)|dT b=>let(_,_,_,_,o,_,_,e,_):=x;exact(_,e)|set S n=>let(o,_,_,_,e,_):=x;exact(_,e)|ins C d fs=>let(_,_,_,e,_):=x;exact(_,e)|own y=>rwa[x]|xd fs=>obtain⟨_,⟨o,_,_,e,_⟩,_⟩:=x;exact(_,e)|rng lo i=>let(_,_,_,e):=x;exact(_,e)|JA ob u=>let(e,_):=x;exact(_,e)|Zw p=>exact(_,x)|met f y=>exact(_,x)|ext φ=>rwa[x.2.1]
def oO.none_of(x:oO P w H h)(e:h.get? a=aa):H a=none:=by cases q:H a with|n=>rfl|s o=>let(b,z):=(x a o q).there;rw[e]at z;cases z
def oO.keep(x:oO P w H h)(k:∀b u o,H b=O u->h.get? b=O o->h'.get? b=O o):oO P w H h':=λa o e=>(x a o e).CI (λb u c q=>by
  rcases c with rfl|c;.rwa[k _ _ _ e q]
  .rwa[k _ _ _ c q]) (λ_ q=>q) λ_ _ q=>q
structure Fl(P:bn)(w:a9)(l:Ł à)(H:Hp)(s:a5)(H':Hp)(a C:Á)(fl:Ä)(s':a5):ß where
 os:s'.os=s.os
 bare:AllBare s'.gens
 un:Un (vt l) [] H H' s.heap s'.heap
 di:oO P w H' s'.heap
 na:H' a=aa
 new:s.heap.get? a=aa
 ex:∃T,Ex s'.heap a C T fl/\H' T=aa/\s.heap.get? T=aa
def rX(P:bn)(w:a9):Ag:=λl H s E e S=>∃a C h,e=.ref a/\Fl P w l H s h a C .none S/\E (.ref C) aa h
def Fl.inv{σ:Ç}(I:Inv X am σ H s)(f:Fl X.prog X.w X.stack H s H' a C fl s'):Inv X am σ H' s':=I.IZ f.os f.un f.di f.bare λb h=>Ă h ⋯
def Fl.frF{σ:Ç}(I:Inv X am σ H s)(f:Fl X.prog X.w X.stack H s H' a C fl s'):∀b∈vt X.stack,H' b=none:=λb h=>by let(_,o,c,_):=I.stack.mem h;rwa[f.un.free b o c (I.tW b h) ⋯]
def Fl.move{X:Cx}(f:Fl X.prog X.w l H s H' a C fl s')(W:∀b∈vt l,H' b=aa)(i:H' T=aa)(U:s.heap.get? T=aa)(m:Mv (vt l) a T s'.heap c)(e:Ex c a C t Y)(d:H' t=aa)(A:s.heap.get? t=aa):Fl X.prog X.w l H s H' a C Y {s' with heap:=c}where
 os:=f.os;bare:=f.bare;un:=by
  let na:∀b o,s.heap.get? b=O o->b≠a:=λb o q z=>by rw[z,f.new]at q;cases q
  let N:∀b o,s.heap.get? b=O o->b≠T:=λb o q z=>()
  erw[(λb o q n h x=>m.keep b o (f.un.keep b o q n h x) h (na b o q) (N b o q),λb o q n h x=>?_,f.un.free,λb o q x=>?_,f.un.ue,f.un.rq,f.un.ua)];.let(sl,Q):=f.un.slot b o q n h x;let(S,g):=m.slot b _ Q h (na b o q) (N b o q);exact(S,g)
  .let(j,Q):=f.un.there b o q x;let(sl,g):=m.any Q (na b o q) (N b o q);exact(_,g)
 di:=f.di.keep λb u o e q=>m.keep b o q λz=>by left (λz=>by rw[z,f.na]at e;cases e) (λz=>nofun);na:=f.na;new:=f.new;ex:=(t,e,d,A)
theorem Fl.fresh{X:Cx}(f:Fl X.prog X.w l H s H' a C fl s')(hn:s'.heap.get? T=aa)(h:s'.heap.objs.size<=T):H' T=aa/\s.heap.get? T=none:=by erw[(f.di.fresh h,?_)];cases q:s.heap.get? T with|n=>rfl|s o=>let(b,z):=f.un.there T o q ⋯;rw[hn]at z;cases z
def Fl.mx{σ:Ç}(I:Inv X am σ H s)(f:Fl X.prog X.w X.stack H s H' a C fl s'):s'.heap.FunFrames X.base X.stack:=(f.inv I).stack
def Fl.note{σ:Ç}{E:dH}(I:Inv X am σ H s)(v:X.stack=X.env::o)(b:X.env.frame=O X.env.locals)(W:A.frames=O X.stack)(f:Fl X.prog X.w X.stack H s H' a C .none s')(h:∀R,Fl X.prog X.w X.stack H s H' a C (ci X.env.locals) R->Q ⟨⟩ R):a6 M A (dV (.ref a) X.env) Q E s':=by let(T,e,c,U):=f.ex;let hl:=f.mx I;rw[v]at W hl;erw[YT W hl b e λi t n N d m=>h _ ?_];let(g,G):=f.fresh n N;rwa[f.move (f.frF I) c U (by rw[v];rwa[m]) d g G]
def Fl.land{X:Cx}{E:dH}(f:Fl X.prog X.w l H s H' a C fl s')(W:∀b∈vt l,H' b=aa)(h:∀m,Fl X.prog X.w l H s H' a C .none m->Q ⟨⟩ m):a6 M A (setFlight (.ref a) aa) Q E s':=by let(T,e,d,U):=f.ex;rwa[UO e λi g S=>h _ (f.move W d U (λb o q _ _ c=>(S.2 b c).trans q,λb o q _ _ c=>(_,(S.2 b c).trans q)) g d U)]
def Fl.out{σ:Ç}(I:Inv X am σ H s)(h:X.ex=[])(f:Fl X.prog X.w X.stack H s H' a C fl s'):Fl X.prog X.w X.outer X.H₀ X.s₀ H' a C fl s':=by
 let j:=f.inv I;let d:∀b,s.heap.get? b=aa->X.s₀.heap.get? b=none:=λb q=>by cases z:X.s₀.heap.get? b with|n=>rfl|s o=>let(g,y):=I.base.there b o z nofun;rw[q]at y;cases y
 let(T,e,c,U):=f.ex;let un:=j.base;rw[h]at un;exact(j.os,j.bare,un,j.di,f.na,d _ f.new,T,e,c,d _ U)
structure Su(X:Cx):ß where
 st:X.stack=X.env::X.outer
 fr:X.env.frame=O X.env.locals
 ex:X.ex=[]
def lY(X:Cx)(E:XK):ß:=∀e s,a6 (a8 X.prog X.w) X.A (leaving X.env e) (λ_ M=>rX X.prog X.w X.outer X.H₀ X.s₀ E e M) (λa M=>rX X.prog X.w X.outer X.H₀ X.s₀ E a M) s->X.xe e s
def lY.pass(fr:Su X)(o:lY X E):eX (rX X.prog X.w) X E:=by intro p σ H s e S I h;let(a,C,b,rfl,f,q):=h;rwa[o _ _ (ae (f.note I fr.st fr.fr I.ok.frames λs2 f2=>f2.land (f2.frF I) λc F=>(a,C,b,Ŗ,F.out I fr.ex,q)))]
def lY.made{p:Ł _}{σ:Ç}(fr:Su X)(o:lY X E)(I:Inv X p σ H s)(m:Heap.MadeExcOf s.heap h a (.ref C) vs)(q:E (.ref C) aa H):X.xe (.ref a) {s with heap:=h}:=by
 erw[o _ _ ?_];let(t,d,i,v):=m.there;let j:Inv X _ σ H {s with heap:=h}:=I.kept m.keeps;let F:=j.tW;let hl:=j.stack;let W:=j.ok.frames;rw[fr.st]at hl W;let hn:=I.di.none_of m.new;let g:∀b,h.get? b=aa->s.heap.get? b=none:=λb q=>by cases z:s.heap.get? b with|n=>rfl|s o=>rw[m.keeps b o z]at q;cases q
 erw[ae (afr W hl fr.fr d λh2 T k l e mv=>?_)];let f:Fl X.prog X.w X.stack H s H a C (ci X.env.locals) {s with heap:=h2}:=by
  let N:∀b o,s.heap.get? b=O o->b≠a:=λb o q z=>by rw[z,m.new]at q;cases q
  let M:Mv (vt X.stack) a a h h2:=by rw[fr.st];rwa[mv]
  erw[(Ŗ,j.bare,(λb o q n c x=>M.keep b o (m.keeps b o q) c (N b o q) (N b o q),λb o q n c x=>M.slot b o (m.keeps b o q) c (N b o q) (N b o q),λb o _ n _=>n,λb o q _=>?_,λ_ _ q=>q,λ_ _ _ q=>q,λ_ P q=>(#[],by done)),(j.di.keep λb u o e q=>M.keep b o q λz=>by left (λz=>by rw[z,hn]at e;cases e) λz=>by rw[z,hn]at e;cases e),hn,m.new,T,e,j.di.fresh l,g T k)];.let(sl,Q):=M.any (m.keeps b o q) (N b o q) (N b o q);exact(_,Q)
 rwa[f.land F λS r=>(a,C,H,Ŗ,r.out I fr.ex,q)]
nonrec abbrev PD:Ł Ä:=[.type "ValueError",.type "Exception",.type "BaseException",.type "object"]
def Lb(K:Æ)(C:Á):ß:=excIn K C PD "ValueError.__new__"=J
def ł{P:Ő Obj->ß}(k:∀d c s,f d c s=J->P (O (.type "type",d,.cls c,s)))(q:excIn.match_6 (λ_=>Þ) o f (λ_=>af)):P o:=by
 cases o with|n=>exact(aD q).elim|s o=>let(ty,d,D,s):=o;cases ty with|type t=>
  by_cases h:t="type";.subst h;cases D with|cls c=>rwa[k _ _ _ q]|_=>exact(aD q).elim
  .delta excIn.match_6 nsOkIn._sparseCasesOn_4 excIn._sparseCasesOn_6 at q;dsimp only at q;rw[dif_neg h]at q;exact(aD q).elim|_=>exact(aD q).elim
def ajQ{P:Ł Ä->Ł (Ő Ä)->ß}(k:∀C m k0 k1 k2 k3 n k5,f C m k0 k1 k2 k3 n k5=J->P (.ref C::m) [k0,k1,k2,k3,O (.builtin n),k5])(q:excIn.match_1 (λ_ _=>Þ) a b f (λ_ _=>af)):P a b:=by
 obtain _|⟨a,m⟩:=a;.exact(aD q).elim
 cases a with
 |ref C=>
  obtain _|⟨k0,b⟩:=b;.exact(aD q).elim
  obtain _|⟨k1,b⟩:=b;.exact(aD q).elim
  obtain _|⟨k2,b⟩:=b;.exact(aD q).elim
  obtain _|⟨k3,b⟩:=b;.exact(aD q).elim
  obtain _|⟨k4,b⟩:=b;.exact(aD q).elim
  obtain _|k4:=k4;.exact(aD q).elim
  cases k4 with|builtin n=>
   obtain _|⟨k5,b⟩:=b;.exact(aD q).elim
   obtain _|_:=b;.rwa[k _ _ _ _ _ _ _ _ q]
   .exact(aD q).elim|_=>exact(aD q).elim
 |_=>exact(aD q).elim
inductive Th(h:É)(C:Á):ß|mk(bm N nm qn bs hdct sn sub ab col dd k0 k1 k2 k3 k5 mN):h.get? C=O (excClassObj nm qn C N bs bm hdct sn sub ab col dd k0 k1 k2 k3 k5 "ValueError.__new__")->h.Ns N mN->mN "__init__"=aa->OwnTail h PD bm->Th h C
def UL{K:Æ}(X:K.In h)(q:Lb K C):Th h C:=by erw[ł (P:=λo=>K.lookup C=o->Th h C) (λd c s q H=>?_) q Ŗ];let(N,bs,mro,e,Q,f,S,sub,g,a,D):=c;revert H;erw[ajQ (P:=λm l=>K.lookup C=O (_,d,.cls (N,bs,m,e,Q,f,S,sub,g,a,D),⟨l⟩)->Th h C) (λj m k p r u n v q H=>?_) q];simp only[aM,Te,Bool.not_eq_true']at q;obtain⟨⟨⟨⟨⟨rfl,rfl⟩,A⟩,t⟩,b⟩,i⟩:=q;cases A;rwa[.mk _ _ _ _ _ _ _ _ _ _ _ _ _ _ _ _ _ (X _ _ H) (.of_isNs (PySem.W.isNs_of_in X b)) (PySem.W.nsMap_none_of_in X b i) (PySem.W.tail_of_in X t)]
def RH(E:XK)(C:Á)(t:TE):TS:=λ_ σ H=>t σ H λ_ h=>E (.ref C) aa h
def QQ(fr:Su X)(o:lY X E)(c:X.calm)(g:Gl X x)(b:X.mg x=O (.ref C))(f:Lb X.K C)(j:PE X e0 t)(k:ø (cA e0=J) o0)(l:ø ((x==("__debug__":Ã))=af) P3):PS X (.Raise (O (.Call (.Name x n) [e0] [] d)) aa pos) (RH E C t):=by intro p s σ H D I h;let(B,N,nm,Q,bs,hdct,sn,sub,ab,col,dd,k0,k1,k2,k3,k5,M,u,w,a,T):=UL I.mod.SM f;let hs:=cW (es:=[]) (env:=X.env) k;erw[wpAny_Raise_call_subT (nm:=nm) (q:=Q) (N:=N) (bs:=bs) (hdct:=hdct) (sn:=sn) (sub:=sub) (ab:=ab) (col:=col) (dd:=dd) (k0:=k0) (k1:=k1) (k2:=k2) (k3:=k3) (k5:=k5) PySem.F.excBase_ValueError (T.hasType (by rfl)) (I.ok.hd c) (by rw[hs];rfl) a (ma I g b (Ŗ,?_) l)];rw[hs];rwa[jq (qA (oV (j _ s σ H _ I h) λv s2 y z i r q=>rR (Ŗ,by show 1<=Â;decide,i.bk _ _ u,w.keeps i.bk,T.keeps i.bk,λA e m=>o.made fr i m q)))]
structure qY(P:bn)(w:a9)(K:Æ)(mg:b1)(base:É)(k:Ń)(x:Ã)(ps:ϐ)(sp:Sp):ß where ex:∃(f:Á)(fd:b7),jT P w K mg base (rX P w) k f fd ps sp/\mg x=O (.ref f)/\keepIn K (.ref f)/\Binds K fd ps []
def Src.okX{K:Æ}{st:È}(S:Src K mg x st ps)(F:dR N ps (aU st))(len:∀vs H Q E,sp vs H Q E->À vs=À ps)(p:∀(f:Á)(R:Ä)(A:bp)(o:Ł à)(s:a5)(H:Hp)(vs:ϕ)(Q:VK)(E:XK),eE k (A.deeper (envOfC x (aU st) s.heap.objs.size f R))->sp vs H Q E->∃t,ph (uJ (rX P w) P w K mg base N x (aU st) f R A o s H E) (cB st) t/\t {nx:=λ_ H'=>Q .gH H',rt:=Q} (start N vs) H):qY P w K mg base (k+1) x ps sp:=by let(f,d,a,h,b):=S.ex;let(oc,c,kV,doc,m,n,R,ct,D,rfl,lk,e):=a.ex;exact(f,_,Ot lk e F len λA o s H vs Q E r z=>p f R A _ s H vs Q E r z,h,a.kp,b)
theorem qY.mono{K:Æ}(D:qY P w K mg base j x ps sp)(h:j<=k):qY P w K mg base k x ps sp:=by let(f,d,F,r):=D.ex;exact(f,d,F.mono h,r)
theorem qY.imp{K:Æ}(D:qY P w K mg base k x ps sp)(h:∀vs H Q E,sp' vs H Q E->sp vs H Q E):qY P w K mg base k x ps sp':=by let(f,d,F,r):=D.ex;exact(f,d,F.imp h,r)
def uO{K:Æ}:Su (uJ CX P w K mg base N x S f F A o s H E):=(Ŗ,Ŗ,Ŗ)
def Cn{K:Æ}:lY (uJ (rX P w) P w K mg base N x S f F A o s H E) E:=λ_ _ h=>h
def Rz(sp:Sp)(E:XK)(t:TA):TE:=λσ H Q=>t σ H λv h=>sp v h Q E
def xf(D:qY X.prog X.w X.K X.mg X.base k x ps sp)(r:eE k X.A)(b:eX (rX X.prog X.w) X E)(g:Gl X x)(c:PA X (e::es) t)(d:ø ((x==("__debug__":Ã))=af) P3)(a:ø ((e::es).all cA=J) o0):PE X (.Call (.Name x p) (e::es) [] pos) (Rz sp E t):=by
 let(f,n,F,m,i,j):=D.ex;intro P s σ H Q I h;rw[bC,aM]at a;erw[(WI (p:=p) (pos:=pos) F r g m i j .nil b c d (cW a.1) (gJ a.2) _ s σ H Q I) ?_];let l:Rw sp [] E t=Rz sp E t:=by delta Rw Rz;simp only[aQ]
 rw[l];rwa[h]
def Hv(h:env.frame=env'.frame):dV e env=dV e env':=by delta dV PySem.frameOf;rw[h]
def aft{E:dH}{L:Á}{Q:Unit->a5->ß}(W:A.frames=O (env::outer))(y:s.heap.FunFrames base (env::outer))(k:env.frame=O L)(p:Ex s.heap a C T l)(d:l=ci L->Q ⟨⟩ s)(h:∀f c,s.heap.get? c=aa->s.heap.objs.size<=c->Ex f a C c (ci L)->Mv ((env::outer).filterMap (·.frame)) a T s.heap f->Q ⟨⟩ {s with heap:=f}):a6 M A (dV (.ref a) env) Q E s:=by
 by_cases r:l=ci L;.subst r;rwa[ϓ k p (d Ŗ)]
 obtain⟨⟨t,u⟩,B,I,K,m,n,v⟩:=p;delta dV;simp only[k];erw[ae (bU u Ŗ (x:=.ref T) Ŗ ?_)];erw[ae (bU m n v ?_)];rw[dh λz=>r (kR z)];erw[ae (fG m n (fD.mp v).1 ?_)];let F:∀b,b≠T->(s.heap.update T (ë (·.setIfInBounds 3 Ü))).get? b=s.heap.get? b:=λb H=>cb _ _ (cj H);erw[yc W (y.of_keeps λb o H g=>(o,(F b (λb o H g q=>by grind b o H g)).trans H,Ŗ)) k ((F a (cj B)).trans u) λf c j D G w=>?_];erw[h f c ?_ ?_ G (λb o e H i d=>w.keep b o ((F b d).trans e) H i i,λb o e H i d=>w.slot b o ((F b d).trans e) H i i)]
 .by_cases q:c=T;.rw[q]at j;let z:=cR (ë (·.setIfInBounds 3 Ü)) m (iT (dZ n _));rw[z]at j;cases j
  .exact(F c q).symm.trans j
 .left
def UP{E:dH}(e:Ex s.heap a C T F)(h:∀H Y,Ex H a C T Y->ã T s.heap H->Q ⟨⟩ {s with heap:=H}):a6 M A (setFlight (.ref a) fr) Q E s:=by obtain⟨⟨t,b⟩,v,o,i,c,d,g⟩:=e;let hz:=(fD.mp g).1;rwa[ae (bU b Ŗ (x:=.ref T) Ŗ (fG c d hz (h _ (fr.elim .none λf=>ci f) ((t,(cb _ _ v).trans b),v,_,_,cR _ c (iT (dZ d _)),dZ d _,nofun) (gO ..))))]
def WC{E:dH}{q:α->a5->ß}(d:Ex s.heap a C T f)(h:∀H Y,Ex H a C T Y->ã T s.heap H->E (.ref a) {s with heap:=H}):a6 M A (PySem.passOn b (.ref a) G) q E s:=by let c:=d;obtain⟨⟨t,g⟩,_⟩:=c;rwa[ae (bU g Ŗ (x:=.ref T) Ŗ (ae (UP d λH Y e S=>wf (h H Y e S))))]
def Inv.toX{p:Ł _}{σ:Ç}(I:Inv X p σ H s):Inv {X with xe:=E} p σ H s:=((I.ok.mod,I.ok.kind,I.ok.glob,I.ok.blt,I.ok.above,I.ok.inj,I.ok.has,I.ok.SD,I.ok.hd,I.ok.frames,I.ok.XI,I.ok.UM,I.ok.bs,I.ok.FL,I.ok.yz,I.ok.zN,I.ok.mx,I.ok.LP),I.os,I.bare,I.base,I.loc,I.cell,I.free,I.jd,I.pin,I.di,I.len)
def Inv.ofX{p:Ł _}{σ:Ç}(I:Inv {X with xe:=E} p σ H s):Inv X p σ H s:=((I.ok.mod,I.ok.kind,I.ok.glob,I.ok.blt,I.ok.above,I.ok.inj,I.ok.has,I.ok.SD,I.ok.hd,I.ok.frames,I.ok.XI,I.ok.UM,I.ok.bs,I.ok.FL,I.ok.yz,I.ok.zN,I.ok.mx,I.ok.LP),I.os,I.bare,I.base,I.loc,I.cell,I.free,I.jd,I.pin,I.di,I.len)
def dM(X:Cx)(N':ϐ)(S:Ï)(fp:Ł Á)(a:a5)(h:Hp)(E1:XK):Cx:={iZ X N' S fp a h with xe:=λe b=>∃p σ H s,Inv (iZ X N' S fp a h) p σ H s/\rX X.prog X.w X.stack H s E1 e b}
def Gq:eX (rX X.prog X.w) (dM X N' S fp a b E1) E1:=λp σ H s e c I h=>(_,σ,H,s,I.ofX,h)
def Ac{Ee:dH}(I:Ń->a5->ß)(B:∀e s',Ee e s'->notedBy (a8 prog w) A env (λe s'=>R (.error e) s') e s')(l:∀n s,I n s->a6 (a8 prog w) A (pyNext z) (λr S=>r=aa/\R (.ok .next) S\/∃v,r=O v/\a6 (a8 prog w) A (letOwnedTupleGo T z v) (λ_ b=>a6 (a8 prog w) A (assign T env v) (λ_ d=>a6 (a8 prog w) A (forIn k J λc r=>if r=J then(do let ok<-isTrue c env (Ê c env);pure (ò ok))else pure (ò r)) (λok a=>if ok=J then a6 (a8 prog w) A (Ê E env) (λx f=>a6 (a8 prog w) A (call (.builtin "list.append") [acc,x]) (λ_ g=>∃m,m<n/\I m g) Ee f) Ee a else ∃m,m<n/\I m a) Ee d) Ee b) Ee S) Ee s)(n:Ń)(h:I n s):dr (a8 prog w) A (.compLoop (.ListComp E [(T,iter,k,0)] j pos) 0 z acc env) R s:=by
 let no:∀{α:Type}{t:Sem α}{Q:α->a5->ß}{s:a5},a6 (a8 prog w) A t Q Ee s->a6 _ A t Q _ s:=λh=>d7 h (λ_ _ q=>q) B;erw[codeAny_loop Ŗ I (λn s C=>?_) n h];show a6 _ A _ _ _ s;erw[wpAny_noted ?_];rw[compTurn_list];erw[ae (ZJ (ae (no (gP (l n s C) λr S H=>?_))))];rcases H with ⟨rfl,H⟩|⟨v,rfl,H⟩;.rwa[aH H]
 .erw[ae (no (gP H λ_ b o=>ae (no (gP o λ_ d p=>ae (no (gP p λok a i=>?_))))))];cases ok with|f=>rwa[aH (Ŗ,i)]|t=>rwa[ae (ae (no (gP i λx f u=>ae (no (gP u λ_ g y=>aH (aH (Ŗ,y)))))))]
def Fy{X:Cx}(v:X.stack=X.env::X.outer)(f:X.env.frame=O X.env.locals)(ab:X.s₀.heap.objs.size<=X.env.locals):Un (vt X.outer) [] X.H₀ H' X.s₀.heap h↔Un (vt X.stack) [] X.H₀ H' X.s₀.heap h:=by
 let m:∀b o,X.s₀.heap.get? b=O o->(b∈vt X.stack↔b∈vt X.outer):=λb o e=>by rw[v];delta vt;rw[jR,f];simp only[aJ];exact(λh=>h.resolve_left λz=>by let:=aT e;rw[z]at this;rwa[Ă this (Nat.not_lt.mpr ab)],.inr)
 constructor;.intro u;exact(λb o e n H x=>u.keep b o e n (λz=>H ((m b o e).mpr z)) x,λb o e n H x=>u.slot b o e n ((m b o e).mp H) x,u.free,u.there,u.ue,u.rq,u.ua)
 .intro u;exact(λb o e n H x=>u.keep b o e n (λz=>H ((m b o e).mp z)) x,λb o e n H x=>u.slot b o e n ((m b o e).mpr H) x,u.free,u.there,u.ue,u.rq,u.ua)
def lY.marked{p:Ł _}{σ:Ç}(fr:Su X)(o:lY X E)(I:Inv X p σ H s)(h:Ex s.heap a C T l)(d:H a=aa)(n:H T=aa)(g:X.s₀.heap.get? a=aa)(b:X.s₀.heap.get? T=aa)(q:E (.ref C) aa H):X.xe (.ref a) s:=by
 erw[o _ _ ?_];let F:=I.tW;let hl:=I.stack;let W:=I.ok.frames;rw[fr.st]at hl W;let u:=I.base;rw[fr.ex]at u;let c:Fl _ X.w _ _ _ H a C l s:=(I.os,I.bare,(Fy fr.st fr.fr I.ok.above).mp u,I.di,d,g,T,h,n,b);let out:∀s',Fl X.prog X.w _ _ _ H a C _ s'->rX _ X.w _ _ _ E _ s':=λs' f=>by exact(a,C,H,Ŗ,(f.os,f.bare,(Fy fr.st fr.fr I.ok.above).mpr f.un,f.di,f.na,f.new,f.ex),q)
 rwa[ae (aft W hl fr.fr h (λ_=>c.land F λs' f=>out s' f) λi t j N e m=>(c.move F n b (by rw[fr.st];rwa[m]) e (I.di.fresh N) (by cases z:X.s₀.heap.get? t with|n=>rfl|s k=>rwa[Ă (bj (aT z) (ay I.sz N)) (dv _)])).land F λs' f=>out s' f)]
def fe(n:Ń)(X:Cx)(e:Å)(t:TE):ß:=∀(p:Ł _)(s:a5)(σ:Ç)(H:Hp)(Q:VK),Inv X p σ H s->n<=s.toks->t σ H Q->a6 (a8 X.prog X.w) X.A (Ê e X.env) (EP X p σ Q) X.xe s
def wB{R:α->a5->ß}{E:dH}(H:n<=s.toks)(h:a6 M A t Q E s)(k:∀v s',n<=s'.toks->Q v s'->R v s'):a6 M A t R E s:=wpAny_with_toks H (d7 h (λv s' q t=>k v s' t q) λ_ _ e _=>e)
theorem PE.n(h:PE X e t)(n:Ń):fe n X e t:=λp s σ H Q I _ q=>h _ s σ H Q I q
def BD{R:dH}{σ:Ç}(S:fY X N' a)(tj:X.calm)(hσ:∀σ:Ç,À σ=À X.N->pq X N' a σ (Y σ))(hi:PI X tg iter wi)(hg:∀fp m t,PG (dM X N' a fp m t E1) tg g)(hc:∀fp m t,qH (dM X N' a fp m t E1) D tc)(he:∀fp m t,fe nt (dM X N' a fp m t E1) E te)(hs:∀x,eo iter X.env x=pure x)(fin:∀{fp:Ł Á}{s3 s':a5}{σ':Ç}{Z H':Hp}{acc:Á},Inv X P σ Z s3->(∀b∈fp,oX X P Z b)->Inv (dM X N' a fp s3 Z E1) [] σ' H' s'->Q (.A acc) H'->compPost (a8 X.prog X.w) X.A X.xe use R (.ref acc) s3.heap.objs.size (.ok .next) s')(bad:∀{fp:Ł Á}{s3:a5}{Z:Hp}{acc:Á},Inv X P σ Z s3->(∀b∈fp,oX X P Z b)->∀e s',(dM X N' a fp s3 Z E1).xe e s'->notedBy (a8 X.prog X.w) X.A (compEnvC a (v9 X.env.cells a.names []) s3.heap.objs.size X.env) (λe s'=>compPost (a8 X.prog X.w) X.A X.xe use R (.ref acc) s3.heap.objs.size (.error e) s') e s')(I:Inv X P σ H s)(ht:nt<=s.toks)(h:yY wi g tc te Y σ H Q):a6 (a8 X.prog X.w) X.A (comprehension (.ListComp E [(tg,iter,D,0)] a pos) a X.env p' (newList []) af (Ê iter X.env) use) R X.xe s:=by
 let Ek:∀y∈a.names,y.2=.free->∃c,X.env.cells.lookup y.1=O c:=λy hy hk=>I.ok.has y.1 (.inl (S.fre y hy hk));let sub:=sF (cells:=X.env.cells) (names:=a.names) (acc:=[]) Ek (λx c e=>by cases e);erw[wpAny_comprehension_free (use:=use) rfl hs (Gj Ek) S.kind S.loc (wB ht (hi P s σ H _ I h) λv s1 t1 h1=>wB t1 h1 λitv s2 t2 h2=>cps λG k=>?_)];let(it,fp,tn,j,H2,rfl,I2,T,st2,f2,h2):=h2;obtain⟨W,⟨m0,w0⟩,turn⟩:=h2 s2.heap.objs.size I2.fresh;let lt2:∀b∈fp,b<s2.heap.objs.size:=λb l=>by let(o,ho,_):=T.obj _ _ st2 b l;rwa[aT ho]
 erw[k (gb (wpAny_newFunctionEnv S.PN (by intro y hy;simp at hy) (λh₁ G1 G3=>?_) S.kind))];dsimp only at G1 G3⊢;let I3:Inv X P σ (upd H2 s2.heap.objs.size (.L [])) {s2 with heap:=s2.heap.push {cls:=.type "list",data:=.seq ([]:Ł Ä).toArray}}:=I2.aaj (t':=s2.toks) (ys:=[]) .nil (bu _);generalize OL:({s2 with heap:=s2.heap.push {cls:=.type "list",data:=.seq ([]:Ł Ä).toArray}}:a5)=s3 at I3;let e3:s2.heap.push {cls:=.type "list",data:=.seq ([]:Ł Ä).toArray}=s3.heap:=by rw[<-OL]
 let sz3:s3.heap.objs.size=s2.heap.objs.size+1:=by rw[<-e3,jr]
 let amu:∀b o,s2.heap.get? b=O o->s3.heap.get? b=O o:=λb o e=>by rw[<-e3];rwa[aw _ e]
 let f3:∀b∈fp,oX X P (upd H2 s2.heap.objs.size (.L [])) b:=λb l=>by let(q1,q2):=f2 b l;exact(by rw[bJ (bB (lt2 b l))];rwa[q1],q2)
 let lt3:∀b∈fp,b<s3.heap.objs.size:=λb l=>by rw[sz3];rwa[FV (lt2 b l)]
 rw[e3]at G1 G3⊢;let up1:∀b o,s3.heap.get? b=O o->h₁.get? b=O o:=λb o e=>G3.extBut b o (bB (aT e)) (aw _ e);let akA:h₁.Ns s3.heap.objs.size λ_=>aa:=by let q:=G1;simpa using q
 let I4:Inv (dM X N' a fp s3 (upd H2 s2.heap.objs.size (.L [])) E1) [] (Y σ) (upd H2 s2.heap.objs.size (.L [])) {s3 with heap:=h₁,toks:=s2.toks}:=(N1 S I3 f3 lt3 (hσ σ I.len) akA up1).toX;let st4:tn 0 h₁:=T.keep _ _ _ st2 λb l o e=>up1 b o (amu b o e);let ad5:=λ{s' σ' H'}=>fin (s':=s') (σ':=σ') (H':=H') (acc:=s2.heap.objs.size) I3 f3;let hE:=bad (acc:=s2.heap.objs.size) I3 f3;generalize B:dM X N' a fp s3 (upd H2 s2.heap.objs.size (.L [])) E1=f at I4 ad5 hE;let xP:f.prog=X.prog:=by rw[<-B];rfl
 let xw:f.w=X.w:=by rw[<-B];rfl
 let xK:f.K=X.K:=by rw[<-B];rfl
 let xA:f.A=X.A:=by rw[<-B];rfl
 let xc:f.calm=true:=by rw[<-B];rwa[tj]
 let xe:f.env=compEnvC a (v9 X.env.cells a.names []) s3.heap.objs.size X.env:=by rw[<-B];rfl
 let Z_:PG f tg g:=by rw[<-B];rwa[hg _ _ _]
 let U8:qH f D tc:=by rw[<-B];rwa[hc _ _ _]
 let he':fe nt f E te:=by rw[<-B];rwa[he _ _ _]
 let F:f.ex=fp:=by rw[<-B];rfl
 let fs0:f.fs=vt X.stack:=by rw[<-B];rfl
 let pn0:f.pn=[]:=by rw[<-B];rfl
 let s00:f.s₀=s3:=by rw[<-B];rfl
 let H00:f.H₀=upd H2 s2.heap.objs.size (.L []):=by rw[<-B];rfl
 let ok4:=I4.ok;let Ij:∀{H':Hp},(∀b∈fp,H' b=aa)->∀b∈fp,oX f [] H' b:=λ{H'}hn b l=>by let(_,q1,q2,q3,q4,q5):=f3 b l;erw[(hn b l,(ok4.UM b (by rw[F];rwa[l])).1,ok4.zN b (by rw[F];rwa[l]),.inl (by rw[F];rwa[l]),(ok4.UM b (by rw[F];rwa[l])).2,λp hp=>?_)];rw[pn0]at hp;rwa[Ă (show p∈([]:b4)from hp) ⋯]
 let U:dr (a8 X.prog X.w) X.A (.compLoop (.ListComp E [(tg,iter,D,0)] a pos) 0 (.ref it) (.ref s2.heap.objs.size) (compEnvC a (v9 X.env.cells a.names []) s3.heap.objs.size X.env)) (compPost (a8 X.prog X.w) X.A X.xe use R (.ref s2.heap.objs.size) s3.heap.objs.size) {s3 with heap:=h₁,toks:=s2.toks}:=by
  erw[Ac (Ee:=f.xe) (λn s'=>nt<=s'.toks/\∃i σ' ys H',Inv f [] σ' H' s'/\tn i s'.heap/\(∀b∈fp,H' b=aa)/\W i n σ' ys H') hE ?_ m0 (t2,0,_,[],_,I4,st4,λb l=>(f3 b l).1,w0)];erw[λn s5 z=>cps λG k=>?_];let(t5,i,M,ys,H5,I5,st5,fr5,w5):=z;let(pO,hh):=turn i n M ys H5 w5;rcases hh with ⟨stop,q⟩|⟨go,Vg,step⟩;.let d:=T.done f xP xw xK xc i [] s5 M H5 f.xe I5 (Ij fr5) st5 stop;rw[xA]at d;rwa[k (gP d λr s6 (hr,I6)=>.inl (hr,ad5 I6 q))]
  .let d:=T.item f xP xw xK xc i [] s5 M H5 f.xe I5 (Ij fr5) st5 go;rw[xA]at d;erw[k (wB t5 d λr s6 t6 (u,hr,h6)=>.inr (u,hr,wB t6 h6 λ_ s7 t7 x=>?_))];let(x,H7,I7,r7,y7,st7,fr7):=x;let I7':=I7.pinned (Ij fr7) (T.obj _ _ st7);let a1:=Z_ _ s7 M H7 x u _ I7' r7 (step x H7 y7);rw[xP,xw,xA,xe]at a1;erw[wB t7 a1 λ_ s8 t8 C=>?_];let(C,H8,I8,q8):=C;let a2:=U8 _ s8 C H8 _ I8 q8;rw[xP,xw,xA,xe]at a2;erw[wB t8 a2 λok s9 t9 (H9,I9,q9)=>?_];let back:∀{σz:Ç}{Hz:Hp}{sz:a5},Inv f ([]++u7 fp s7.heap) σz Hz sz->tn (i+1) sz.heap/\∀b∈fp,Hz b=none:=λ{σz Hz sz}Iz=>by erw[(T.keep _ _ _ st7 λb l o e=>(Iz.pin (b,o) (aS _ (aS _ (jK l e)))).1,λb l=>?_)];let(o,e,_):=T.obj _ _ st7 b l;exact(Iz.pin (b,o) (aS _ (aS _ (jK l e)))).2.1
   cases ok with|f=>let(m',hm,w'):=q9;rw[dh aD];exact(m',hm,t9,i+1,C,ys,H9,I9.jm,(back I9).1,(back I9).2,w')|t=>rw[cG Ŗ]at q9⊢;let a3:=he' _ s9 C H9 _ I9 t9 q9;rw[xP,xw,xA,xe]at a3;erw[wB t9 a3 λy sa ta yv=>?_];let(yv,Ha,Ia,ra,ael,m',hm,w'):=yv;let a4:=nr _ sa C Ha (.A _) _ _ [y] (λv H'=>H'=upd Ha _ _) Ia rfl (.cons ra .nil) (_,ys,yv,Ŗ,Ŗ,ael,Vg,Ŗ);rw[xP,xw,xA]at a4;erw[wB ta a4 λ_ sb tb Hb=>?_];let(_,Hb,Ib,_,eb):=Hb;subst eb;exact(m',hm,tb,_,C,_,_,Ib.jm,(back Ib).1,(back Ib).2,w')
 let es:{s2 with heap:=h₁,toks:=s2.toks+À ([]:Ł (Ã×Ä))}={s3 with heap:=h₁,toks:=s2.toks}:=by rw[<-OL];rfl
 rwa[codeAny_compStart_list (es▸U) (T.self _ 0 _ _ _ st4 (es▸U))]
def DS{p:Ł _}{σ:Ç}{σ':Ç}(i:Inv X p σ H S)(f:∀b∈fp,oX X p H b)(I:Inv (dM X N' s fp S H E1) [] σ' H' s')(q:Q (.A acc) H'):compPost (a8 X.prog X.w) X.A X.xe aa (EP X p σ Q) (.ref acc) S.heap.objs.size (.ok .next) s':=by let(m,a,_):=id I.loc;erw[(m,a,λh' L=>(.A acc,H',?_,Ŗ,q))];let un:Un (vt X.stack) fp H H' S.heap _:=I.base;let Y:∀b o,S.heap.get? b=O o->b≠S.heap.objs.size:=λb o e=>bB (aT e);let u:Un _ fp H H' _ h':=(λb o e n h x=>(L.2 b (Y b o e)).trans (un.keep b o e n h x),λb o e n h x=>let (sl,z):=un.slot b o e n h x;(sl,(L.2 b (Y b o e)).trans z),un.free,λb o e x=>let (c,z):=un.there b o e x;(c,(L.2 b (Y b o e)).trans z),un.ue,un.rq,un.ua);erw[i.IZ I.os u (wV I.di I.free L) I.bare λb h=>?_];.let(_,d,l,g,j,k):=f b h;exact(g,d,j,k)
def My(fr:Su X)(o:lY X E1)(S:fY X N' c)(tj:X.calm)(L:∀σ:Ç,À σ=À X.N->pq X N' c σ (u σ))(hi:PI X tg iter wi)(hg:∀fp d i,PG (dM X N' c fp d i E1) tg g)(hc:∀fp d i,qH (dM X N' c fp d i E1) r tc)(he:∀fp d i,fe nt (dM X N' c fp d i E1) E te)(hs:∀x,eo iter X.env x=pure x):fe nt X (.ListComp E [(tg,iter,r,0)] c pos) (yY wi g tc te u):=by
 intro am s σ H Q I ht h;erw[BD S tj L hi hg hc he hs DS (λ{fp p M acc}P f3=>?_) I ht h];intro e G h5;let(QL,σ',H5,s4,v,a,C,H',rfl,f,q):=h5;let w:=Fl.inv v f;let(T,e1,hT,U6):=f.ex;let hl:G.heap.FunFrames X.base X.stack:=w.stack;let wg:=I.ok.frames;let Ve:=fr.st;rw[Ve]at hl wg;show a6 _ _ _ _ _ G;rw[Hv (env:=compEnvC _ _ _ _) (env':=X.env) Ŗ];erw[YT wg hl fr.fr e1 λh6 R n1 y e6 m6=>?_];let(U,g2):=f.fresh n1 y;let K:=Fl.inv v (f.move (λb j=>Fl.frF v f b j) hT U6 (by rw[Ve];rwa[m6]) e6 U g2);let W:(iZ X N' c fp p M).env.locals=p.heap.objs.size:=Ŗ;let(m,hm,_):=id K.loc;erw[(m,hm,λh7 k adG anw=>?_)];let aC:a≠p.heap.objs.size:=λz=>by obtain⟨m4,⟨o4,es4,ep4,A,_⟩,_⟩:=id v.loc;rw[W]at A;let nw:=f.new;rw[z,A]at nw;cases nw
 let B:p.heap.objs.size<=G.heap.objs.size:=w.sz;let e7:Ex h7 a C R (ci X.env.locals):=by obtain⟨⟨t,ha⟩,vw,oT,ts,Y,hd,h3⟩:=e6;exact((t,(k.2 a aC).trans ha),vw,oT,ts,(k.2 R λz=>by rw[z]at y;rwa[Ă w.lt (Nat.not_lt.mpr y)]).trans Y,hd,h3)
 erw[WC (s:={G with heap:=h7}) e7 λh8 fl8 e8 D=>?_];let Z:∀b o,p.heap.get? b=O o->h8.get? b=h6.get? b:=λb o e=>(D.2 b ((λb o e=>bB (bj (aT e) (ay B y))) b o e)).trans (k.2 b ((λb o e=>bB (aT e)) b o e));let un:Un (vt X.stack) fp M H' p.heap h6:=K.base;let un8:Un _ fp M H' _ h8:=(λb o e n j F=>(Z b o e).trans (un.keep b o e n j F),λb o e n j F=>let (sl,z):=un.slot b o e n j F;(sl,(Z b o e).trans z),un.free,λb o e F=>let (o',z):=un.there b o e F;(o',(Z b o e).trans z),un.ue,un.rq,un.ua);erw[o.marked fr (by erw[P.IZ w.os un8 (wV (wV K.di (by rwa[K.free]) k) U D) w.bare λb j=>?_];let(_,q1,q2,l,q4,q5):=f3 b j;exact(l,q1,q4,q5)) e8 f.na U ?_ ?_ q];.cases z:X.s₀.heap.get? a with
  |n=>rfl|s ob=>let(o',z'):=P.base.there a ob z (by rw[fr.ex];simp);let(o'',z''):=v.base.there a o' z' (λj=>by
    let(_,q1,q2,l,q4,q5):=f3 a j;rcases l with l|l;.rw[fr.ex]at l;simp at l
    .rwa[Ă (aT z) (Nat.not_lt.mpr l)]);let nw:=f.new;rw[z'']at nw;cases nw
 .cases z:X.s₀.heap.get? R with|n=>rfl|s ob=>rwa[Ă (bj (aT z) (ay P.sz (ay B y))) (dv _)]
def yE(fr:Su X)(o:lY X E1)(S:fY X N' e)(j:X.calm)(d:∀σ:Ç,À σ=À X.N->pq X N' e σ (c σ))(f:PI X tg iter w)(k:∀fp a b,PG (dM X N' e fp a b E1) tg g)(l:∀fp a b,qH (dM X N' e fp a b E1) i t)(m:∀fp a b,PE (dM X N' e fp a b E1) E T)(q:ø (∀x,eo iter X.env x=pure x) eC):PE X (.ListComp E [(tg,iter,i,0)] e pos) (yY w g t T c):=λp s σ H Q I h=>My fr o S j d f k l (λfp a b=>(m fp _ _).n 0) q _ s σ H Q I (bu _) h
def Cx.Ok.pnx{X:Cx}(ok:X.Ok)(p:Ł _)(E:dH):Cx.Ok {X with pn:=p,xe:=E}:=(ok.mod,ok.kind,ok.glob,ok.blt,ok.above,ok.inj,ok.has,ok.SD,ok.hd,ok.frames,ok.XI,ok.UM,ok.bs,ok.FL,ok.yz,ok.zN,ok.mx,ok.LP)
abbrev Cx.tr(X:Cx)(pn:b4)(E1:XK):Cx:={X with pn:=pn,xe:=λe S=>∃σ H s,Inv {X with pn:=pn} [] σ H s/\rX X.prog X.w X.stack H s E1 e S}
def KO{X:Cx}{P:Ł _}:eX (rX X.prog X.w) (X.tr P E1) E1:=by intro a σ H s e S I h;erw[(σ,H,s,?_,h)];let j:Inv _ [] σ H s:=I.Cr λp b=>Ă b ⋯;exact(j.ok.pnx P _,j.os,j.bare,j.base,j.loc,j.cell,j.free,j.jd,j.pin,j.di,j.len)
abbrev Cx.hn(X:Cx)(pn:b4)(a:Á):Cx:={X with A:=X.A.mark (O (.ref a)),calm:=af,pn:=pn,xe:=λ_ _=>ŧ}
structure Hd(X:Cx)(a C:Á):ß where hd:X.A.handled=O (.ref a)pn:∃t tb,(a,GP C t tb)∈X.pn
def Inv.amr{σ:Ç}(I:Inv X am σ H s)(E:dH):Inv {X with pn:=X.pn++am,xe:=E} [] σ H s:=(I.ok.pnx _ _,I.os,I.bare,I.base,I.loc,I.cell,I.free,I.jd,λp h=>I.pin p (by simpa using h),I.di,I.len)
def Inv.Hx{σ:Ç}(ok:X.Ok)(I:Inv {X with pn:=X.pn++am,xe:=E} [] σ H s):Inv X am σ H s:=(ok,I.os,I.bare,I.base,I.loc,I.cell,I.free,I.jd,λp h=>I.pin p (by simpa using h),I.di,I.len)
def Inv.amq{X:Cx}{σ:Ç}(I:Inv {X with pn:=pn} [] σ H s)(c:s.heap.get? a=O o)(hn:H a=aa)(l:a≠X.env.locals)(f:a∉X.fs)(d:∀v,o.data≠.cell v):Inv (X.hn ((a,o)::pn) a) [] σ H s:=by
 erw[((I.ok.mod,I.ok.kind,I.ok.glob,I.ok.blt,I.ok.above,I.ok.inj,I.ok.has,I.ok.SD,λz=>(aD z).elim,I.ok.frames,I.ok.XI,I.ok.UM,I.ok.bs,I.ok.FL,I.ok.yz,I.ok.zN,I.ok.mx,I.ok.LP),I.os,I.bare,I.base,I.loc,I.cell,I.free,I.jd,λp b=>?_,I.di,I.len)];let h:p∈(a,o)::pn:=by simpa using b
 rcases aJ.mp h with rfl|h;.done
 .rwa[I.pin p (by simpa using h)]
def Inv.alE{X:Cx}{σ:Ç}(ok:Cx.Ok {X with pn:=pn})(I:Inv (X.hn ((a,o)::pn) a) [] σ H s):Inv {X with pn:=pn} [] σ H s:=(ok,I.os,I.bare,I.base,I.loc,I.cell,I.free,I.jd,λp h=>I.pin p (by simpa using Or.inr (by simpa using h)),I.di,I.len)
def Inv.aj1{σ:Ç}(I:Inv X am σ H s)(K:X.N.Nodup)(L:X.N[i]?=O n)(hl:X.env.kindOf n=O .local)(hn:s.heap.Ns X.env.locals m)(f:e.Ns X.env.locals λx=>if x=n then v else m x)(h:ã X.env.locals s.heap e):Inv X am (σ.set i aa) H {s with heap:=e,toks:=T}:=by
 let(M,W,P):=id I.loc;let R:M=m:=by funext x;let(o,es,ep,S,U,_,Y):=W;let(B,Om,ep',D,E,_,g):=hn;rw[S]at D;cases D;rw[U]at E;cases E;rw[<-Y,<-g]
 subst R;let ln:∀{b:Á}{o:Obj},X.s₀.heap.get? b=O o->b≠X.env.locals:=λq=>bB (bj (aT q) I.ok.above);erw[(I.ok,I.os,I.bare,(λb o q n l d=>(h.2 b (ln q)).trans (I.base.keep b o q n l d),λb o q n l d=>?_,I.base.free,λb o q d=>?_,I.base.ue,I.base.rq,I.base.ua),(_,f,λj y t F Q q3=>?_),λy c q=>?_,I.free,I.jd,λp hp=>?_,I.di.keep λb u o q z=>(h.2 b λy=>by rw[y,I.free]at q;cases q).trans z,by simpa using I.len)];.let(sl,z):=I.base.slot b o q n l d;exact(sl,(h.2 b (ln q)).trans z)
 .let(B,z):=I.base.there b o q d;exact(B,(h.2 b (ln q)).trans z)
 .by_cases w:j=i
  .subst w;rw[List.getElem?_set]at Q;split at Q;.lia
   .done
  .rw[aA (cj w)]at Q;let(u,r,z):=P j y t F Q q3;erw[(u,r,?_)];rcases z with ⟨k,z⟩|⟨k,c,Z,A⟩;.let:y≠n:=λz=>w (yy K F (z▸L));rwa[.inl (k,by simp[this,z])]
   .rwa[.inr (k,c,Z,A.sameBut h (I.Ug y c Z))]
 .let(t,z):=I.cell y c q;exact(t,z.sameBut h (I.Ug y c q))
 .let(Z,A,G,z4,z5):=I.pin p hp;exact((h.2 p.1 G).trans Z,A,G,z4,z5)
structure ZP(K:Æ)(R:Á):ß where
 ty:typeIn K (.ref R)=O (.type "type")cl:(clsIn K R).isSome=J
 ba:subIn K (.ref R) (.type "BaseException")=O J
def AI{K:Æ}(X:K.In h)(q:(clsIn K R).isSome):Looks M h (isType (.ref R)) true:=by
 delta clsIn at q;split at q;.ext C d c s H;intro A Q E S k z;rwa[ae (wpAny_loadPart (k _ _ (X _ _ H)) (aH z))]
 .cases q
def UK{K:Æ}{E:dH}(X:K.In s.heap)(hR:ZP K R)(H:s.heap.get? a=O o)(c:o.cls=.ref C)(b:subIn K (.ref C) (.ref R)=O J)(q:Q J s):a6 M A (excMatches (.ref a) (.ref R)) Q E s:=by let(h,g,d,t,os):=s;let L:Looks M h (typeOf (.ref R)) _:=PySem.W.looks_typeIn X hR.ty;let l:Looks M h (typeOf (.ref a)) (.ref C):=c▸(Looks.ld H).andThen .now;erw[ae ((L.andThen (Looks.of_pure tc_notTuple)).at ?_)];erw[ae (aH ?_)];erw[ae ?_];rw[kx];erw[ae (ae (((AI X hR.cl).andThen (RO X hR.ba)).at ?_))];erw[aH ?_];erw[aH ?_];erw[ae (l.at ?_)];erw[ae ?_];rw[kx];rwa[ae (ae ((RO X b).at (aH (aH (aH q)))))]
structure uB(K:Æ)(C:Á)(x b8:Ã)(st:È)(ps:ϐ):ß where ex:∃(f:Á)(fd:b7),Nd K x b8 st f fd/\Tn K C x f/\Binds K fd ps []
structure uA(K:Æ)(C:Á)(b8:Ã)(st:È)(ps:ϐ):ß where ex:∃(f:Á)(fd:b7),Nd K "__init__" b8 st f fd/\Mk K C f/\Binds K fd ps []
structure zE(P:bn)(w:a9)(K:Æ)(mg:b1)(base:É)(CX:Ag)(k:Ń)(C:Á)(x:Ã)(ps:ϐ)(sp:Sp):ß where ex:∃(f:Á)(fd:b7),jT P w K mg base CX k f fd ps sp/\Tn K C x f/\Binds K fd ps []
structure vZ(P:bn)(w:a9)(K:Æ)(mg:b1)(base:É)(k:Ń)(x:Ã)(C:Á)(ps:ϐ)(sp:Sp):ß where ex:∃(f:Á)(fd:b7),jT P w K mg base IE k f fd ps sp/\Mk K C f/\Binds K fd ps []/\mg x=O (.ref C)
def uB.okX{K:Æ}{st:È}(S:uB K C x b8 st ps)(F:dR N ps (aU st))(len:∀vs H Q E,sp vs H Q E->À vs=À ps)(p:∀(f:Á)(R:Ä)(A:bp)(o:Ł à)(s:a5)(H:Hp)(vs:ϕ)(Q:VK)(E:XK),eE k (A.deeper (envOfC b8 (aU st) s.heap.objs.size f R))->sp vs H Q E->∃t,ph (uJ (rX P w) P w K mg base N b8 (aU st) f R A o s H E) (cB st) t/\t {nx:=λ_ H'=>Q .gH H',rt:=Q} (start N vs) H):zE P w K mg base (rX P w) (k+1) C x ps sp:=by let(f,d,a,h,b):=S.ex;let(oc,c,kV,doc,m,n,R,ct,D,rfl,lk,e):=a.ex;exact(f,_,Ot lk e F len λA o s H vs Q E r z=>p f R A _ s H vs Q E r z,h,b)
theorem uA.ok{K:Æ}{mg:b1}{base:É}{x b8:Ã}{st:È}{ps N:ϐ}{k:Ń}{sp:Sp}{C:Á}(S:uA K C b8 st ps)(h:mg x=O (.ref C))(F:dR N ps (aU st))(len:∀vs H Q E,sp vs H Q E->À vs=À ps)(p:∀(f:Á)(R:Ä)(A:bp)(o:Ł à)(s:a5)(H:Hp)(vs:ϕ)(Q:VK)(E:XK),eE k (A.deeper (envOfC b8 (aU st) s.heap.objs.size f R))->sp vs H Q E->∃t,ph (uJ IE P w K mg base N b8 (aU st) f R A o s H E).nox (cB st) t/\t {nx:=λ_ H'=>Q .gH H',rt:=Q} (start N vs) H):vZ P w K mg base (k+1) x C ps sp:=by let(f,d,a,m,b):=S.ex;exact(f,d,a.ok F len (p f),m,b,h)
theorem zE.mono{K:Æ}(D:zE P w K mg base CX j C x ps sp)(h:j<=k):zE P w K mg base CX k C x ps sp:=by let(f,d,F,r):=D.ex;exact(f,d,F.mono h,r)
theorem vZ.mono{K:Æ}(D:vZ P w K mg base j x C ps sp)(h:j<=k):vZ P w K mg base k x C ps sp:=by let(f,d,F,r):=D.ex;exact(f,d,F.mono h,r)
def MA{X:Cx}{k:Ń}{C:Á}{ps:ϐ}{sp:Sp}{CX:Ag}{E:XK}{m:Ã}{pos bb:Ð}{o:Å}{ta:TE}{P:Sem Þ}(D:zE X.prog X.w X.K X.mg X.base CX k C m ps sp)(h:PE X o ta)(c:IF X.K C)(H:eE k X.A)(a:eX CX X E)(b:ø (Ê (.Call (.Attribute o m bb) [] [] pos) X.env=do
   let v<-Ê o X.env
   standAt bb.atName let(f,first)<-dc [v] (getMethod v m P)callWith pos f first (cc pos (b5 [] X.env)) (backToKw pos (eA [] X.env))) o0):PE X (.Call (.Attribute o m bb) [] [] pos) (RB C m sp [] E ta CM):=by let(f,i,F,d,g):=D.ex;rwa[Qr h c d F H g .nil a b]
def ES(D:vZ X.prog X.w X.K X.mg X.base k x C ps sp)(h:eE (k+1) X.A)(H:Gl X x)(b:PA X (e::es) t)(g:ø ((x==("__debug__":Ã))=af) P3)(a:ø ((e::es).all cA=J) o0):PE X (.Call (.Name x p) (e::es) [] pos) (KL C sp [] E0 t):=by let(f,i,F,M,c,d):=D.ex;rw[bC,aM]at a;rwa[WO M F h H d c .nil Y2 b g (cW a.1) (gJ a.2)]
def B6(e:Î×Ä):Ã:=strOf e.2
def rb(P:bn)(w:a9)(h:É)(a:Á)(ws:ϐ):ß:=∃(o:Obj)(e:Array _)(E:Ń)(t:SetTable),h.get? a=O o/\o.ExactSet/\o.data=.set e E t/\ElemsOf (â P w) e.toList/\(e.toList.map B6).Perm ws/\ws.Nodup/\e.size<scanBound/\t.fits e.size=J/\(w.params.followText "set-order"=af->t.led=J/\(e.size≠0->t.plain=af))
def rF(ws:ϐ)(x:Ã):ϐ:=if x∈ws then ws else ws++[x]
def MT(t:SetTable)(n:Ń):(t.orStandIn n).led=t.led:=by delta SetTable.orStandIn;split<;>rfl
def Hi(t:SetTable)(es:Array _)(h:Î)(x:Ä):(layNew t es h x).2.1.led=t.led:=by
 delta layNew;split;.rw[MT];rfl
 .rfl
def HY{t:SetTable}{os:Array Ń}(h:t.relaid H n=O (t',os)):t'.led=t.led/\t'.plain=t.plain:=by delta SetTable.relaid SetTable.laid at h;cases c:SetTable.layClean _ H with|n=>rw[c]at h;cases h|s o=>rw[c]at h;cases h;exact(Ŗ,Ŗ)
def MQ(t:SetTable)(es:Array _)(n:Ń):(relayAll t es n).2.1.led=t.led/\(t.plain=af->(relayAll t es n).2.1.plain=af):=by
 delta relayAll;split
 .ext T os e;let:=HY e;dsimp only;split;.exact(this.1,λh=>this.2.trans h)
  .exact(Ŗ,λ_=>Ŗ)
 .exact(Ŗ,λ_=>Ŗ)
def Ξ(N:ElemsOf (â P w) es)(h:e∈es):∃t,e.2=.str (B6 e) t:=by obtain⟨⟨k,H,_⟩,_⟩:=N e h;let(t,a):=Ba H;exact(t,by delta B6;rw[a];rfl)
def AE(N:ElemsOf (â P w) es)(x:Ã):(∃e∈es,(â P w).is x e.2=J)↔x∈es.map B6:=by
 constructor;.rintro⟨e,H,p⟩;let(t,a):=Ba p;erw[bf.mpr (e,H,?_)];delta B6;rw[a];rfl
 .intro h;let(e,H,rfl):=bf.mp h;let(t,a):=Ξ N H;exact(e,H,by rw[a];rwa[mT P w _ t])
def stored{s:a5}(H:s.heap.get? a=O o)(hex:o.ExactSet)(h:o.data=.set es e t)(N:ElemsOf (â P w) Q.toList)(p:(Q.toList.map B6).Perm ws)(nd:ws.Nodup)(b:Q.size<scanBound)(f:T.fits Q.size)(l:w.params.followText "set-order"=af->T.led/\(Q.size≠0->T.plain=af)):(s.heap.update a (Ā Q T)).get? a=O {o with data:=.set Q (e+1) T}/\rb P w (s.heap.update a (Ā Q T)) a ws:=by
 let hg:=by let q:=cR (Ā Q T) H (by rw[putSet_of Q T h];rfl);rw[putSet_of Q T h]at q;rwa[q]
 exact(hg,_,Q,_,T,hg,hex,Ŗ,N,p,nd,b,f,l)
def ND{E:dH}(hS:rb P w s.heap a ws)(anM:À ws+1<scanBound)(h:∀(b:Þ)(H:É),ã a s.heap H->rb P w H a (rF ws x)->Q b {s with heap:=H}):a6 (a8 P w) A (setAddHashed a (.str x T) ((â P w).hash x)) Q E s:=by
 let(o,g,ep,t,m,hex,n,N,p,nd,hb,W,X):=hS;let LV:=mT P w x T;let hlen:g.size=À ws:=by rw[<-p.length_eq,ai,aX]
 delta setAddHashed setAddHashedIn;erw[c7 (ae (wpAny_setState_of m n W ?_))];dsimp only;rw[byScan_of (x:=.str x T) Ŗ hb N];simp only[↓reduceIte];delta setAddByScan;erw[ae (ae (mV (ae (wpAny_setScan_of LV m n W N ?_))))];cases hr:List.findIdx? (λe=>(â P w).is x e.2) g.toList with|s j=>dsimp only;let(hj,Y,_):=List.findIdx?_eq_some_iff_getElem.mp hr;let k:x∈ws:=p.mem_iff.mp ((AE N x).mp (_,dY hj,Y));erw[aH (aH ?_)];let q:=h af s.heap (Heap.SameBut.refl a s.heap) (o,g,ep,t,m,hex,n,N,by delta rF;rw[cG k];rwa[p],by delta rF;rw[cG k];rwa[nd],hb,W,X);rwa[q]|n=>
  dsimp only;let k:x∉ws:=λk=>by let(e,he,hp):=(AE N x).mpr (p.mem_iff.mpr k);let:=List.findIdx?_eq_none_iff.mp hr e he;rw[hp]at this;cases this
  let ei:rF ws x=ws++[x]:=by delta rF;rw[dh k]
  rw[ei]at h;let u:(ws++[x]).Nodup:=f7.mpr (nd,⋯,λy hy z hz=>by rw[aL]at hz;subst hz;rwa[λe=>k (e▸hy)]);let c:=layNew_perm t g ((â P w).hash x) (.str x T);let M:=layNew_fits t g ((â P w).hash x) (.str x T);let U:=Hi t g ((â P w).hash x) (.str x T);generalize layNew t g ((â P w).hash x) (.str x T)=L at c M U⊢;let(i,t1,R9,apY):=L;dsimp only at c M U⊢;rw[Array.toList_push]at c;let v:ElemsOf (â P w) i.toList:=(N.push LV Ŗ).perm c;let Z:(i.toList.map B6).Perm (ws++[x]):=(c.map B6).trans (by rw[aR];rwa[p.append (List.Perm.refl _)]);let aqL:i.size=À ws+1:=by rw[<-aX,<-ai (f:=B6),Z.length_eq,ah];rfl
  let B:i.size<scanBound:=()
  let gw:∀(b:Þ){s₁:a5}{Q':Unit->a5->ß},Q' ⟨⟩ s₁->a6 (a8 P w) A (match b with|J=>rule "set.scan.the-table-gave-way"|af=>pure ⟨⟩) Q' E s₁:=λb s₁ Q' hq=>by
   cases b;.rwa[aH hq]
   .rwa[mV hq]
  erw[ae (gw _ ?_)];let tail:∀t2:SetTable,t2.fits i.size=J->t2.led=t.led->t2.plain=af->a6 (a8 P w) A (do storeSet a i t2 if(!R9&&t2.tooFull)=J then do(match(relayAll t2 i (í i.size)).2.2 with|J=>rule "set.scan.the-table-gave-way"|af=>pure ⟨⟩)storeSet a (relayAll t2 i (í i.size)).1 (relayAll t2 i (í i.size)).2.1pure (O J)else pure (O J)) (λr S=>∃H,r=O J/\S={s with heap:=H}/\ã a s.heap H/\rb P w H a (ws++[x])) E s:=by
   intro t2 hf2 C D;erw[ae (wpAny_storeSet_of m n ?_ (fits_of_scanBound B))];let(F,hS1):=stored m hex n v Z u B hf2 λz=>(C.trans (X z).1,λ_=>D);let G:=gO s.heap a (Ā i t2);split
   .let d:=relayAll_perm t2 i (í i.size);let wg:=relayAll_fits t2 i (í i.size);let l:=MQ t2 i (í i.size);generalize relayAll t2 i _=R at d wg l⊢;let(I,t3,ani):=R;let Vg:I.size=i.size:=by rw[<-aX,d.length_eq,aX]
    let K:I.size<scanBound:=()
    erw[ae (gw _ ?_)];erw[ae (wpAny_storeSet_of F Ŗ ?_ (fits_of_scanBound K))];let(_,hS2):=stored (s:={s with heap:=s.heap.update a _}) F hex rfl (v.perm d) ((d.map _).trans Z) u K wg λz=>(l.1.trans (C.trans (X z).1),λ_=>l.2 D);rwa[aH (_,Ŗ,Ŗ,G.trans (gO _ a _),hS2)]
   .rwa[aH (_,Ŗ,Ŗ,G,hS1)]
  let fin:∀(r:Ő _)(S:a5),(∃H,r=O J/\S={s with heap:=H}/\ã a _ H/\rb P w H a _)->∃H,r=O _/\S={s with heap:=H}/\Q J _:=λr S zz=>(by let(H,e1,e2,e3,e4):=zz;exact(H,e1,e2,h _ H e3 e4));split;.erw[ae ?_];erw[aH (d7 (tail _ (SetTable.fits_plain_off M) U Ŗ) (λr S z=>?_) λ_ _ e=>e)];let(H,rfl,rfl,q):=fin r S z;rwa[aH q]
  .ext eF;erw[d7 (tail t1 M U (bg.mpr eF)) (λr S z=>?_) λ_ _ e=>e];let(H,rfl,rfl,q):=fin r S z;rwa[aH q]
def eQ(l:ϐ):ϐ:=l.foldl rF []
def GR(l:ϐ)(x:Ã):eQ (l++[x])=rF (eQ l) x:=by delta eQ;rw[List.foldl_append];rfl
def G7(h:ws.Nodup)(x:Ã):(rF ws x).Nodup:=by
 delta rF;split;.rwa[h]
 .ext a;rwa[f7.mpr (h,⋯,λy b z H=>by rw[aL]at H;subst H;rwa[λe=>a (e▸b)])]
def OQ:y∈rF ws x↔y∈ws\/y=x:=by
 delta rF;split;.left
 .rw[bt,aL]
def vq(l:ϐ):(eQ l).Nodup/\∀y,y∈eQ l↔y∈l:=by
 suffices h:∀(l:ϐ)(w:ϐ),w.Nodup->(l.foldl _ w).Nodup/\∀y,y∈l.foldl _ w↔y∈w\/y∈l by let(a,b):=h l [] jv;exact(a,λy=>(b y).trans ⋯)
 intro l;induction l with|i=>intro w h;exact(h,λy=>⋯)|k x r i=>intro w h;let(a,b):=i _ (G7 h x);exact(a,λy=>(b y).trans (by rw[OQ,aJ,or_assoc]))
def rb.at(H:rb P w h a ws)(k:∀o,h.get? a=O o->b.get? a=O o):rb P w b a ws:=by let(o,e,E,t,c,r):=H;exact(o,e,E,t,k o c,r)
def LL{R:Result->a5->ß}{I S l:Á}{B:Array Ä}{xs:ϐ}(W:Walks P w A.in1 I [I,l] [I] B.size (λi v=>B[i]?=O v) λi h=>h.IsListIter I l i/\h.IsList l B)(a:S≠I)(F:S≠l)(G:∀(i:Ń)(v:Ä),B[i]?=O v->∃x t,xs[i]?=O x/\v=.str x t)(hn:À xs=B.size)(L:∀i,À (eQ (xs.take i))+1<scanBound):∀(k i:Ń)(s:a5),B.size-i=k->i<=B.size->s.heap.IsListIter I l i/\s.heap.IsList l B->rb P w s.heap S (eQ (xs.take i))->(∀(H:É)(T:Ń),(∀b o,b≠S->b≠I->s.heap.get? b=O o->H.get? b=O o)->rb P w H S (eQ xs)->R (.ok (.ret .none)) {s with heap:=H,toks:=T})->dr (a8 P w) A (.builtin "set.update.loop" ([.ref S,.ref I],[])) R s:=by
 intro k;induction k with|z=>
  intro i s M N st j q;obtain rfl:i=B.size:=()
  erw[iH K1 ?_];rw[nH uk _];show a6 _ A.in1 (pyNext (.ref I)>>=_) _ _ s;erw[ae (W.done s _ _ st λH T K=>?_)];show a6 _ A.in1 (ret Ü) _ _ _;let e:eQ (xs.take B.size)=eQ xs:=by rw[<-hn,gT]
  rwa[aH (q H T (λb o _ m g=>K b o (by simp[m]) g) (e▸j.at λo g=>K S o (by simp[a]) g))]|v k Q=>
  intro i s M N st j q;let C:i<B.size:=()
  erw[iH K1 ?_];rw[nH uk _];show a6 _ A.in1 (pyNext (.ref I)>>=_) _ _ s;erw[ae (W.item i s _ _ C st λv H T U X K=>?_)];let(x,t,n,rfl):=G i v U;let p:rb P w H S (eQ (xs.take i)):=j.at λo g=>K S o (by simp[a]) g;show a6 _ A.in1 (dc [Value.str x t] (setAdd S (.str x t))>>=_) _ _ _;erw[ae (c7 ?_)];delta setAdd;erw[c7 (ae ((â P w).pyHash (k:=x) (mT _ _ _ _) ?_))];erw[ND (s:={s with heap:=H,toks:=T+1}) p (L i) λb Z D r=>?_];let e:eQ (xs.take (i+1))=rF (eQ (xs.take i)) x:=by rw[List.take_add_one,n];rwa[GR _ _]
  erw[aH (CZ uk _,Q (i+1) _ () C (W.frame _ _ _ X λc hc o g=>?_) (e▸r) λY u y z=>?_)];.rw[D.2 c (by grind)];rwa[g]
  .erw[q Y u (λc o d f g=>y c o d f ?_) z];rw[D.2 c d];rwa[K c o (by simp[f]) g]
def Wf{E:dH}(a:Ä){Q₁:dH}(h:Q₁ (.ref s.heap.objs.size) {s with heap:=s.heap.push {cls:=.type "set",dict:=aa,data:=.set #[] 0 (.fresh 0 0 !w.params.followText "set-order")}}):dr (a8 P w) A (.call (.builtin "set.__new__") ([.type "set",a],[])) (wants Q₁ E) s:=by erw[codeAny_of_tree ?_];show a6 _ A.in1 (do checkBuiltinCall "set.__new__" ([.type "set",a],[]);again (.builtin "set.__new__" ([.type "set",a],[]))) _ _ s;erw[ae (Nc (F.newCall_set_1 a) (aH (CZ F.plain_set_new _,iH F.entry_set_new ?_)))];let v:=sub_set_self;wp_walk;rwa[wpAny_askSetting (aH (ae (wpAny_alloc (aH (aH h)))))]
def Rm{P:bn}{w:a9}{A:bp}{E:dH}{s:a5}{x:Ä}{Q:dH}(b:a6 (a8 P w) A.in1.in1 (Builtin.«set.__init__» ([.ref s.heap.objs.size,x],[])) (λfin s'=>match fin with|.done f=>wants (λr S=>r=.none/\Q (.ref s.heap.objs.size) S) E (.ok f) s'|.again C=>C.quiet=J/\dr (a8 P w) A.in1 C (wants (λr S=>r=.none/\Q (.ref s.heap.objs.size) S) E) s') (λe s'=>wants (λr S=>r=.none/\Q (.ref s.heap.objs.size) S) E (.error e) s') {s with heap:=s.heap.push {cls:=.type "set",dict:=aa,data:=.set #[] 0 (.fresh 0 0 !w.params.followText "set-order")}}):a6 (a8 P w) A (call (.type "set") [x]) Q E s:=by
 let t:=F.called_set;let(c,tl,D):=t.mro;let I:=t.made;let v:=t.sub;let h1:=t.notType;let h2:=t.canCreate;let H:=F.typeCall_set_1 x;erw[vX (codeAny_of_tree (show a6 _ _ (callAny (.type "set") _) _ _ _ from aH (Code.quiet_builtin _ ∅,iH F.entry_type_call ?_)))];rw[Around.under_plain (weight_type_call_type "set" [x] []) Ŗ];repeat(any_goals(first|assumption|wp_step))
 erw[lR (Wf (P:=P) (w:=w) x (E:=E) (Q₁:=λobj a=>obj=.ref s.heap.objs.size/\a={s with heap:=s.heap.push {cls:=.type "set",dict:=aa,data:=.set #[] 0 (.fresh 0 0 !w.params.followText "set-order")}}) (Ŗ,Ŗ)) λr a h=>?_];match r,h with
 |.error e,h=>rwa[h]|.ok (.ret obj),h=>
  let(rfl,rfl):=h;let T:Shared.TypeIs {s with heap:=s.heap.push {cls:=.type "set",dict:=aa,data:=.set #[] 0 (.fresh 0 0 !w.params.followText "set-order")}} (.ref s.heap.objs.size) "set":=(_,aV _ Ŗ,Ŗ);let i:=t.init.lookup;let d:=t.init.bind (.ref s.heap.objs.size);repeat(any_goals(first|assumption|wp_step))
  erw[lR (ZB t.init.plain F.entry_set_init (check_set_init_1 T b)) λR S p=>?_];match R,p with|.error e,p=>rwa[p]|.ok (.ret u),p=>let(rfl,q):=p;repeat(any_goals(first|assumption|wp_step))|.ok .next,p=>rwa[p.elim]|.ok .brk,p=>rwa[p.elim]|.ok .cont,p=>rwa[p.elim]
 |.ok .next,h=>rwa[h.elim]|.ok .brk,h=>rwa[h.elim]|.ok .cont,h=>rwa[h.elim]
def CF{E:dH}{Q:dH}(u:A.handled=aa)(B:s.heap.IsList l bL)(C:∀(i:Ń)(v:Ä),bL[i]?=O v->∃x t,xs[i]?=O x/\v=.str x t)(hn:À xs=bL.size)(K:∀i,À (eQ (xs.take i))+1<scanBound)(h:∀(d:É)(T:Ń),rb P w d s.heap.objs.size (eQ xs)->(∀b o,s.heap.get? b=O o->d.get? b=O o)->Q (.ref s.heap.objs.size) {s with heap:=d,toks:=T}):a6 (a8 P w) A (call (.type "set") [.ref l]) Q E s:=by
 erw[Rm ?_];generalize j:({cls:=.type "set",dict:=aa,data:=.set #[] 0 (.fresh 0 0 !w.params.followText "set-order")}:Obj)=o;let L:(s.heap.push o).get? s.heap.objs.size=O o:=aV _ (by rw[<-j];rfl);let k:rb P w (s.heap.push o) s.heap.objs.size (eQ (xs.take 0)):=by
  erw[(o,#[],0,.fresh 0 0 !w.params.followText "set-order",L,by rw[<-j];exact(Ŗ,Ŗ,Ŗ),by rw[<-j],λe M=>by simp at M,?_,?_,∅,by rfl,λz=>(?_,λy=>Ă Ŗ y))];.rwa[List.Perm.refl _]
  .rwa[jv]
  .show(!w.params.followText "set-order")=J;rw[z];rfl
 let(N,f,H,R,a):=B;let D:=aw o f;let q:(s.heap.push o).IsList l bL:=(_,D,H,R,a);let S:l<s.heap.objs.size:=aT f;let m:(s.heap.push o).objs.size=s.heap.objs.size+1:=size_push' _ _;let(oc,Z,U,Dg):=N;simp only at H a;subst H;subst a;let e1:=F.sub_list_set;let e2:=F.sub_list_frozenset;let e3:(ñ "list"==ñ "dict")=false:=∅
 let W:l≠(s.heap.push o).objs.size:=by rw[m];rwa[bB (FV S)]
 let X:s.heap.objs.size≠(s.heap.push o).objs.size:=by rw[m];rwa[bB (cK _)]
 subst j;delta Builtin.«set.__init__» noKeywords Builtin.Frozenset.updateFrom;generalize I:pyIter=PI;wp_walk;subst I;erw[rW q ?_];erw[ae (wpAny_runValue ?_)];let n:A.in1.in1.in1.handled=none:=by simp[u]
 erw[LL (P:=P) (w:=w) (A:=A.in1.in1) (xs:=xs) (Walks.list n _ l W bL) X (jD S) C hn K (bL.size-0) 0 _ () (bu _) ((_,aV _ Ŗ,Ŗ,Ŗ),q.push _) (k.at λr g=>aw _ g) λd T Y p=>?_];show a6 _ _ _ _ _ _;erw[aH ?_];show a6 _ _ (ret Ü) _ _ _;erw[aH (Ŗ,h d T p λc r g=>?_)];let G:=aT g;rwa[Y c r (bB G) (by rw[m];rwa[bB (FV G)]) (aw _ (aw _ g))]
theorem A0:∀{ws:ϐ}{us:Ł _},Vals (ws.map V.S) us->StrsAre us ws|[],us,h=>by cases h;rwa[.nil]|x::r,us,h=>by cases h with|k a b=>let(t,rfl):=a;rwa[.cons x t (A0 b)]
theorem ye:∀(l ws:ϐ),À ws<=À (l.foldl rF ws)
 |[],ws=>au _|x::r,ws=>by
  erw[ay ?_ (ye r _)];delta rF;split;.lia
  .grind
def GS(ws:ϐ)(i:Ń):À (eQ (ws.take i))<=À (eQ ws):=by
 let e:eQ ws=(ws.drop i).foldl rF (eQ (ws.take i)):=by delta eQ;rw[<-List.foldl_append,cS]
 rw[e];rwa[ye _ _]
def xH(d:X.calm):dW X (.type "set") λxs H Q=>∃(l:Á)(ws:ϐ),xs=[.A l]/\ie X.K H l (ws.map V.S)/\À (eQ ws)<64/\∀a,H a=aa->Q (.A a) (upd H a (.ext λh=>rb X.prog X.w h a (eQ ws))):=by
 intro p s σ H xs U Q I r h;let(l,ws,rfl,e,f,q):=h;let(u,rfl,g):=r.one;cases g;let(B,R,P,E):=I.list e;let m:64<scanBound:=∅
 let n:À ws=B.toArray.size:=by rw[aW,<-R.length,ai]
 erw[CF (I.ok.hd d) P.isList (λi v b=>?_) n λi=>by let:=GS ws i;lia λx T j y=>(.A _,_,I.laid y (au _) (show iN _ X.w _ x _ (.ext _)from(j,let (o,_,_,_,C,_):=j;(o,C),λF G z k=>z.at k)),Ŗ,q _ I.fresh)]
 .rw[LS]at b;let c:i<À ws:=by rw[n];exact(aj.mp b).1
  let(t,D):=(A0 R).at (aE c);rw[D]at b;exact(_,t,aE c,by injection b with b;rwa[b.symm])
end L2
namespace L2
open PySem.SeqAt
def Wz(hu:X.A.units<Ì):jz X (compareOp .NotEq) λx y H Q=>∃a b xs,x=.A a/\y=.A b/\ie X.K H a xs/\ie X.K H b []/\Q (.B !xs.isEmpty) H:=by intro am s σ H x y v u Q I c d h;let(a,b,xs,rfl,rfl,f,g,q):=h;cases c;cases d;let(L,R,p,_):=I.list f;let(Y,i,P,_):=I.list g;obtain rfl:=i.zero;cases xs with|i=>obtain rfl:=R.zero;rwa[RcNeAt.lists (e:=λ_=>J) p.isList P.isList rfl hu (λj k l=>Ă k ⋯) _ X.w _ _ (.B _,H,I,Ŗ,q)]|k x m=>cases R with|k r n=>rwa[RcNeAt.lists_lengths p.isList P.isList rfl hu _ X.w _ _ (.B _,H,I,Ŗ,q)]
end L2
namespace L2
def alO(K:Æ)(a:Á)(t:Ã->Ő ϐ):R2:=λx y H Q=>x=.A a/\∃k s,y=.S k/\t k=O s/\∀b,fS K H b (s.map V.S)->Q (.A b) H
def Θ(T:F5 X.w X.K a c):Ah X (alO X.K a c):=by intro e slice p s σ H x y v u Q I r R h f;let(rfl,k,j,rfl,g,q):=h;cases r;let(t,rfl):=R;let(E,m,lk,d,look):=T.ex;let hm:=kA (prog:=X.prog) I.oR lk d;let l:=look k;rw[g]at l;let(b,F,o,B,M,l1,l2,L,l4,i):=l;rwa[ik hm.typeIs jM.lookup (ux (mT _ X.w k t) hm F (Ŗ,(.A b,H,I.tok _,Ŗ,q b (.inr (o,B,M,l1,l2,L,l4,i))))) f]
end L2
namespace L2
open PySem.SeqAt PySem.MeetsSeq PySem.Builtin PySem.Builtin.Tuple
theorem yV:∀{ys:ϐ}{us:Ł _},Vals (ys.map V.S) us->PyProof.Rows.StrsAre us ys|[],_,.nil=>.nil|y::ys,_,.cons r R=>by let(t,rfl):=r;rwa[.cons y t (yV R)]
def Wb:To X "str.join" (λx xs H Q=>∃(z:Ã)(l:Á)(ys:ϐ),x=.S z/\xs=[.A l]/\H l=O (.L (ys.map V.S))/\(ys.map (·.length)).sum+À ys*z.length<=16777216/\Q (.S (ê z ys)) H):=by intro p s σ H x xs v U Q I R r h;let(z,l,ys,rfl,rfl,a,d,q):=h;let(t,rfl):=R;let(u,rfl,b):=r.one;cases b;let(B,c,P,_):=I.list (ie.of a);rwa[PyProof.Rows.join_list P.isList (yV c) d λT k=>(.S _,H,I.tok k,(_,Ŗ),q)]
def BA:dW X (.type "str") λxs H Q=>∃z,xs=[.S z]/\Q (.S z) H:=by intro p s σ H xs U Q I r h;let(z,rfl,q):=h;let(u,rfl,t,rfl):=rV r;rwa[PySem.P.str_of_str (.S _,H,I,(_,Ŗ),q)]
def By:dW X (.type "str") λxs H Q=>(∃z,xs=[.S z]/\Q (.S z) H)\/∃i,xs=[.I i]/\i.natAbs.log2<1920/\Q (.S (toString i)) H:=by
 intro p s σ H xs u Q I r h;rcases h with h|h;.rwa[BA _ s σ H xs u Q I r h]
 .rwa[Bz _ s σ H xs u Q I r h]
def y9(l:Á)(x:Ä):Builtin.«tuple.index» ([.ref l,x],[])=(do
  let xs<-tupleItemsOf (.ref l)for i in[0:min xs.size xs.size]do if let O y:=xs[i]? then if<-eqBool y x then return<-retInt i
  rule "tuple.index.not-found"raiseError"ValueError""tuple.index(x): x not in tuple"):=rfl
def Fw(l:Á)(be:Array _)(n:Ń)(dd:Ő _)(sl:Array _)(x:Ä)(e:Ä->Þ)(f:∀y,y∈be->MeetsSeq.EqGives y x (e y))(j:Ń)(v:j<be.size)(t:e be[j])(o:∀m(z:m<be.size),m<j->e be[m]=af):Meets (Builtin.«tuple.index» ([.ref l,x],[])) λ_ R s=>s.heap.get? l=O {cls:=.type "tuple",dict:=dd,data:=.seq be n,slots:=sl}/\R (.ok (.ret (.int j s.toks))) {s with toks:=s.toks+1}:=by
 intro p w A R s h;let(g,h):=h;rw[y9];erw[ae (wpAny_tupleItemsOf g Ŗ ?_)];erw[ae ?_];rw[Std.Legacy.Range.forIn_eq_forIn_range'];erw[wpAny_forIn_list _ (λr b S=>S=s/\b.1=aa/\∃i,r=List.range' i (be.size-i)/\i<=j) _ ?_ ?_ _ _ (Ŗ,Ŗ,0,⋯,bu _)]
 .rintro a r b S ⟨rfl,k,i,H,d⟩;let E:i<be.size:=()
  rw[show be.size-i=be.size-(i+1)+1 by lia]at H;injection H with q u;subst q;rw[Array.getElem?_eq_getElem E];erw[ae (f _ (Array.getElem_mem E) _ w _ _ _ _ ?_)];by_cases c:a=j;.subst c;rw[t];erw[ae ?_];wp_walk;rwa[h]
  .rw[o a E ()];rwa[aH (Ŗ,Ŗ,_,u,())]
 .rintro b S ⟨rfl,k,i,H,d⟩;exfalso;let:=cY À H;simp at this;lia
def r8(z:Ã):Ä->Þ|.str y _=>y==z|_=>af
def Mi:To X "tuple.index" λx xs H Q=>∃(l:Á)(ys:ϐ)(z:Ã)(j:Ń),x=.A l/\xs=[.S z]/\fS X.K H l (ys.map V.S)/\ys[j]?=O z/\(∀m,m<j->ys[m]?≠O z)/\Q (.I j) H:=by
 intro P s σ H x xs v us Q I L r h;let(l,ys,z,j,rfl,rfl,M,w,o,q):=h;cases L;let(u,rfl,t,rfl):=rV r;let(b,R,N,_):=I.tuple M;obtain⟨⟨cls,T,data,sl⟩,B,C,n,D⟩:=N;simp only at C D;subst C D;let d:∀(ys:ϐ)(b:Ł _),Vals (ys.map V.S) b->∀(m:Ń)(y:Ä),b[m]?=O y->∃Y t',ys[m]?=O Y/\y=.str Y t':=by intro ys;induction ys with|i=>intro b r m y f;cases r;simp at f|k a as U=>intro b r m y f;cases r with|k W Z=>cases m with|z=>let(t',e):=W;simp at f;exact(a,t',Ŗ,by rw[<-f];rwa[e])|v m=>rwa[U _ Z m y (by done)]
 let(i,_):=aj.mp w;let g:=by let:=R.length;simpa using this.symm
 erw[gB ZH (_,B,Ŗ) PySem.F.entry_tuple_index (PySem.F.args_tuple_index_2 _ _) (Fw l _ n T sl _ (r8 z) (λy f=>?_) j (by simpa[g]using i) ?_ λm G k=>?_) (B,(.I _,H,I.tok _,(_,Ŗ),q))];.let(m,G,rfl):=TD.mp (by simpa using f);let(Y,t',_,e):=d ys b R m _ (aE G);rw[e];rwa[PyProof.Rows.eqGives_str Y z t' t]
 .let(Y,t',E,p):=d ys b R j _ (aE _);rw[w]at E;injection E with E;subst E;show r8 z b[j]=J;rw[p];rwa[fj z]
 .let(Y,t',E,p):=d ys b R m _ (aE (by done));show r8 z b[m]=af;rw[p];rwa[cI.mpr λc=>o m k (by rw[E,c])]
end L2
namespace L2
def Zb(K:Æ):V->Ő Î->Ő Î->Hp->VK->ß:=λx lo i H Q=>∃a X,x=.A a/\fS K H a X/\∀p h,jF H h->fS K h p (rh X lo i)->Q (.A p) h
def Kw:IG X (Zb X.K):=by
 intro P s σ H x v e f lo i sl Q I R d l u h;let(a,b,rfl,c,q):=h;by_cases w:HT.nB (À b) 0 lo=0/\HT.nB (À b) (À b) i=À b
 .cases R;let(B,r,t,z):=I.tuple c;let n:B.toArray.size=À b:=by rwa[r.length.symm]
  exact(_,_,cX.lookup,t.typeIs,wc t d l u (by rw[n];rwa[w]) (.A a,H,I,Ŗ,q a H (jF.refl H) (by rw[Gu w];rwa[c])))
 .rwa[abH _ s σ H _ v e f lo i sl Q I R d l u (a,b,Ŗ,c,w,λp g=>q p _ (iR g _) (fS.of bA))]
def Q0(K:Æ):R2:=λx y H Q=>∃a b X Y,x=.A a/\y=.A b/\fS K H a X/\fS K H b Y/\À X+À Y<=Â/\∀p h,jF H h->fS K h p (X++Y)->Q (.A p) h
def Qc:jz X (binaryOp .Add) (Q0 X.K):=by
 intro P s σ H x y v u Q I r R h;let(a,b,g,Y,rfl,rfl,i,f,z,q):=h;by_cases j:g=[];.cases r;cases R;subst j;let(L,m,t,_):=I.tuple i;let(F,G,w,_):=I.tuple f;obtain⟨⟨cls,B,data,sl⟩,o,k,n,l⟩:=id t;obtain⟨⟨C,D,data2,S⟩,U,c,N,d⟩:=id w;simp only at k l c d;subst k l c d;obtain rfl:=m.zero;rwa[ul (_,o,Ŗ) (_,U,Ŗ) La ZI vU uu (sf _ _) (tuple_addW0 a b #[] _ n N B D sl S rfl) (o,U,(.A b,H,I.tok _,Ŗ,q b H (jF.refl H) f))]
 .rwa[Wv _ s σ H _ _ v u Q I r R (a,b,g,Y,Ŗ,Ŗ,i,f,j,z,λe=>q a H (jF.refl H) nofun,λ_ p E=>q p _ (iR E _) (fS.of bA))]
def XC:IG X λx lo c H Q=>∃z:Ã,x=.S z/\z.length<=Â/\Q (.S (á z lo c)) H:=by intro p s σ H x v f g lo c sl Q I r a e P h;let(z,rfl,b,q):=h;let(t,rfl):=r;erw[("str",_,F.slot_str_getitem.lookup,mU _ _ _,?_)];cases e with
 |n=>cases P with|n=>rwa[kS (l:=aa) (u:=aa) (st:=aa) a rfl (wI (ay (FW z aa aa) b,λT k=>(.S _,H,I.tok k,(T,Ŗ),q)))]|int j u=>rwa[kS (l:=aa) (u:=O (j,u)) (st:=aa) a rfl (wI (ay (FW z aa (O j)) b,λT k=>(.S _,H,I.tok k,(T,Ŗ),q)))]
 |int i d=>cases P with|n=>rwa[kS (l:=O (i,d)) (u:=aa) (st:=aa) a rfl (wI (ay (FW z (O i) aa) b,λT k=>(.S _,H,I.tok k,(T,Ŗ),q)))]|int j u=>rwa[kS (l:=O (i,d)) (u:=O (j,u)) (st:=aa) a rfl (wI (ay (FW z (O i) (O j)) b,λT k=>(.S _,H,I.tok k,(T,Ŗ),q)))]
def L9:typeLookup (.type "list") "keys"=pure none:=by kernel_rfl
def yb:entryFor table "dict.update.loop"=O Builtin.«dict.update.loop»:=entryFor_of_tree Ŗ
def EH{E:dH}(x:s.heap.get? a=O o)(j:o.cls=.type "list")(f:o.data=.seq xs k)(l:o.dict=aa)(p:A.handled=aa)(h:∀i T,(∀b m,s.heap.get? b=O m->i.get? b=O m)->Q aa {s with heap:=i,toks:=T}):a6 (a8 prog w) A (getAttr? (.ref a) "keys") Q E s:=by
 let(c,D,qh,sl):=o;simp only at j f l;subst j f l;let(q,g,d,T,os):=s;let n:∀t,((q,g,d,t,os):a5).TypeIs (.ref a) "list":=λ_=>(_,x,Ŗ);let r:=sub_AttributeError;let u:=sd.lookup;let v:=sd.bind (.ref a);let y:=am_list_getattr_none;delta getAttr? getAttrBy? getAttrBy;repeat(any_goals(first|assumption|rwa[n _]|((with_reducible show a6 _ _ (call (Value.builtin "list.__getattribute__") _ _) _ _ _);erw[gB sd (n _) am_entry_list_getattribute (F.args_list_getattribute_2 _ _) (meets_getattribute_miss_list a xs k sl "keys" _ L9 ∅ (by size_fits)) (x,p,λi t e H=>?_)])|wp_step))
 let(z,U,B):=H.there;show a6 _ _ (getattributeRaised _ _ _ _ _ _ _) _ _ _;delta getattributeRaised;repeat(any_goals(first|rfl|wp_step))
 rwa[h _ _ H.keeps]
def oy:plainId "dict.update.loop"=true:=∅
def Bf{P:bn}{w:a9}{κ:Type}[DecidableEq κ](knd:KeyKind P w κ)(h:É)(u:Ä)(p:κ×Ä):ß:=∃t k,u=Ö t/\h.IsTuple t #[k,p.2]/\knd.is p.1 k=J
section
variable{P:bn}{w:a9}{κ:Type}[DecidableEq κ]{knd:KeyKind P w κ}{A:bp}
def yf{h:É}(e:h.get? a=O o)(E:h.get? b=O o')(n:¬o.data=o'.data):a≠b:=λz=>by rw[z,E]at e;rwa[n (cY _ (c0 e).symm)]
section
variable{h:É}{d it l t:Á}{bL xs:Array Ä}{bI:Ł (κ×Ä)}{i:Ń}
def Ix(H:h.IsListIter it l i)(a:h.DictOf knd d bI):d≠it:=by let(o,e,c,qh):=H;let(b,s,p,E,C,D,_):=a;rwa[yf E e nofun]
def ϯ(H:h.IsList l bL)(a:h.DictOf knd d bI):d≠l:=by let(o,e,c,n,qh):=H;let(b,s,p,E,C,D,_):=a;rwa[yf E e nofun]
def t_d(H:h.IsTuple t xs)(a:h.DictOf knd d bI):t≠d:=by let(o,e,c,n,qh):=H;let(b,s,p,E,C,D,_):=a;rwa[yf e E nofun]
def ak7(a:h.IsList j xs)(H:h.IsListIter it l i):j≠it:=by let(o,e,c,n,qh):=a;let(b,E,C,D):=H;rwa[yf e E nofun]
def ň(x:h.IsTuple t xs)(H:h.IsListIter it l i):t≠it:=by let(o,e,c,n,qh):=x;let(a,E,C,D):=H;rwa[yf e E nofun]
end
theorem Hl{it l:Á}{B:Array Ä}{ps:Ł (κ×Ä)}{R:Result->a5->ß}(hh:A.handled=aa)(X:∀i:Ń,B[i]?=aa↔ps[i]?=aa)(hz:À ps<=1000):∀(m i:Ń)(bI:Ł (κ×Ä))(s:a5),À ps-i=m->s.heap.IsListIter it l i->s.heap.IsList l B->s.heap.DictOf knd d bI->À bI<=i->(∀(j:Ń)(u:Ä)(p:κ×Ä),B[j]?=O u->ps[j]?=O p->Bf knd s.heap u p)->(∀f T,f.DictOf knd d (merged bI (ps.drop i))->(∀b o,b≠d->b≠it->s.heap.get? b=O o->f.get? b=O o)->R (.ok (.ret .none)) {s with heap:=f,toks:=T})->
   dr (a8 P w) A (.builtin "dict.update.loop" ([.ref d,.ref it,ci i,.none],[])) R s:=by intro m;induction m with|z=>
  intro i bI s hm h k hd hk g hR;erw[iH yb ?_];rw[nH oy];delta Builtin.«dict.update.loop»;let hn:ps[i]?=none:=by rw[List.getElem?_eq_none_iff];lia
  let hx:=(X i).mpr hn;let D:d≠it:=Ix h hd;erw[ae (V' hh h k hx λf E=>?_)];show a6 _ _ (Builtin.Dict.addKeywords d []>>=_) _ _ _;erw[ae (aH (aH ?_))];erw[hR f s.toks ?_ λb o y C e=>E b o C e];rw[Ī ()];rwa[hd.extBut E D]|v m ih=>
  intro i bI s hm h k hd hk g hR;erw[iH yb ?_];rw[nH oy];delta Builtin.«dict.update.loop»;let F:i<À ps:=()
  obtain⟨p,H⟩:∃p,ps[i]?=O p:=(_,aE F);let G:B[i]?≠none:=λz=>by rw[X i,H]at z;cases z
  let(u,q):=Option.ne_none_iff_exists'.mp G;let(t,key,rfl,hT,LV):=g i u p q H;let D:d≠it:=Ix h hd;let dl:d≠l:=ϯ k hd;let I:ps.drop i=p::ps.drop (i+1):=by rw[List.drop_eq_getElem_cons F];congr 1;rw[aE F]at H;injection H
  erw[ae (U1 h k q λy K S=>?_)];let Y:∀{t:Á}{xs:Array Ä},s.heap.IsTuple t xs->y.IsTuple t xs:=λhx=>by let ne:=ň hx h;let(o,e,r):=hx;exact(o,(S.2 _ ne).trans e,r)
  let L:y.DictOf knd d bI:=hd.extBut S.extBut D;let v:=Y hT;let M:Shared.TypeIs {s with heap:=y} (.ref t) "tuple":=by let(o,e,c,_):=v;exact(o,e,c)
  erw[ae (c7 (ae (wpAny_tryCatch ?_)))];delta Builtin.Dict.pairItems;erw[ae (vY M ?_)];rw[cG ∅];let(o,e,c,n,qh):=id v;erw[ae ?_];delta seqItems?;erw[ae (wpAny_load e ?_)];rw[qh];erw[aH (aH ?_)];let l3:(1000:Ń)<=Â:=∅
  erw[c7 (wpAny_dictSet_pairs LV L (λC N a=>?_) ())];erw[aH (CZ oy _,?_)];let e1:ci ((i:Î)+1)=ci ((i+1:Ń):Î):=Ŗ;erw[ih (i+1) (PySem.stored bI p.1 p.2) {s with heap:=C,toks:=s.toks+1} () ?_ ?_ N ?_ ?_ λf T Ni k'=>?_];.let(o,e,r):=K;exact(o,(a.2 _ (cj D)).trans e,r)
  .exact(k.extBut S.extBut (ak7 k h)).extBut a.extBut (cj dl)
  .delta PySem.stored;split;.rw[ai];lia
   .left
  .intro j u' p' Q U;let(t',aq6,rfl,x,W):=g j u' p' Q U;let(o',e',r'):=Y x;exact(t',_,Ŗ,(o',(a.2 _ (t_d x hd)).trans e',r'),W)
  .erw[hR f T ?_ λb ob Z SH E=>k' b ob Z SH ((a.2 _ Z).trans ((S.2 _ SH).trans E))];rw[I];rwa[Ni]
def GH{Q:dH}{E:dH}{s:a5}(D:A.handled=aa)(G:PlainL s.heap l bL)(I:∀i:Ń,bL[i]?=aa↔ps[i]?=aa)(L:À ps<=1000)(d:∀(j:Ń)(u:Ä)(p:κ×Ä),bL[j]?=O u->ps[j]?=O p->Bf knd s.heap u p)(h:∀H T,H.DictOf knd s.heap.objs.size (merged [] ps)->(∀b o,s.heap.get? b=O o->H.get? b=O o)->Q (.ref s.heap.objs.size) {s with heap:=H,toks:=T}):a6 (a8 P w) A (call (.type "dict") [.ref l]) Q E s:=by
 erw[callType_codes (Q₁:=λobj S=>obj=.ref s.heap.objs.size/\S={s with heap:=s.heap.push {cls:=.type "dict",data:=.dict #[]}}) F.kt_called_dict (F.kt_typeCall_dict_1 _) F.entry_dict_init (kt_code_dict_new _ (Ŗ,Ŗ)) ?_];rintro obj S ⟨rfl,rfl⟩;let f:(s.heap.push {cls:=.type "dict",data:=.dict #[]}).DictOf knd s.heap.objs.size []:=Heap.DictOf.new s.heap;erw[(f.typeIs,F.args_dict_init_2 _ _,?_)];delta Builtin.«dict.__init__»;erw[ae ?_];delta Builtin.Dict.selfAndRest;erw[ae (wpAny_notOrdered_dict f.typeIs ?_)];show a6 _ _ (pure (Prod.mk s.heap.objs.size ([Ö l]))) _ _ _;erw[aH ?_];show a6 _ _ (Builtin.Dict.updateFrom "dict.__init__" s.heap.objs.size (.ref l) [] .none) _ _ _;delta Builtin.Dict.updateFrom;let(o,n,e,c,dn,qh):=id G;let g:(s.heap.push {cls:=.type "dict",data:=.dict #[]}).get? l=O o:=aw _ e;let M:Shared.TypeIs {s with heap:=s.heap.push _} (.ref l) _:=(o,g,c);erw[ae (vY M ?_)];erw[ae (EH g c qh dn D λa m k=>?_)];erw[ae (mV ?_)];let N:PlainL a l bL:=(o,n,k _ _ g,c,dn,qh);let v:a.DictOf knd s.heap.objs.size []:=by let(x,R,U,y,r):=f;exact(x,R,U,k _ _ y,r)
 erw[ae (rW N.isList ?_)];erw[aH (CZ oy _,?_)];let K:∀b o,s.heap.get? b=O o->(a.push {cls:=.type "list_iterator",data:=.fields #[.ref l,.int 0 0]}).get? b=O o:=λb o q=>aw _ (k _ _ (aw _ q));erw[Hl (A:=A.in1) D I L _ 0 [] {s with heap:=a.push _,toks:=m} rfl (_,aV _ Ŗ,Ŗ,Ŗ) (o,K _ _ e,c,n,qh) (v.push _) (au _) (λj u p hu B=>?_) λH T W X=>(Ŗ,?_)];.obtain⟨t,C,rfl,⟨x,y,Y⟩,Z⟩:=d j u p hu B;exact(t,C,Ŗ,(x,K _ _ y,Y),Z)
 .erw[h H T W λb ob q=>X b ob (λz=>?_) (λz=>?_) (K _ _ q)];.let:=aT q;rw[z]at this;rwa[dv _ this]
  .let:=aT (k _ _ (aw _ q));rw[z]at this;rwa[dv _ this]
end
def Paired.at'(p:Paired F xs ys):∀{i:Ń},xs[i]?=O x->ys[i]?=O y->F x y:=by induction p with|i=>intro i e;cases e|k h _ I=>intro i E a;cases i with|z=>cases E;cases a;rwa[h]|v i=>rwa[I E a]
def Lq:dW X (.builtin "len") λxs H Q=>∃(a:Á)(ws:ϐ),xs=[.A a]/\H a=O (.ext λh=>rb X.prog X.w h a ws)/\Q (.I (À ws)) H:=by
 intro p s σ H xs U Q I r h;let(a,ws,rfl,b,q):=h;let(u,rfl,R):=rV r;cases R;let(o,E,i,t,e,ex,d,_,c,_,j,f,_):=(I.di a _ b).1;let hl:=by let:=c.length_eq;simpa using this
 let g:(scanBound:Î)<2^63:=∅
 rwa[call_len_set e ex d f () (.I _,H,I.tok _,(_,by rw[hl]),q)]
end L2
namespace L2
open PySem.SeqAt PySem.MeetsSeq PySem.Builtin PySem.Builtin.Str
def zR:To X "str.startswith" λx xs H Q=>∃(z y:Ã),x=.S z/\xs=[.S y]/\Q (.B (ð z y)) H:=by intro p s σ H x xs v U Q I R r h;let(z,y,rfl,rfl,q):=h;let(t,rfl):=R;let(u,rfl,T,rfl):=rV r;rwa[SC.startswith (.B _,H,I,Ŗ,q)]
theorem A1:∀(l:Ł _),Vals ((l.map (·.1)).map V.S) (strValues l)|[]=>.nil|p::l=>.cons (p.2,Ŗ) (A1 l)
def PH:To X "str.split" λx xs H Q=>∃(z y:Ã),x=.S z/\xs=[.S y]/\(y.length==0)=af/\z.length<=Â/\À (partsBetween z (occurrences z y 0 z.length (z.length+1)) y.length)<=Â/\À (Ø z y)<=Â/\∀l,H l=aa->Q (.A l) (upd H l (.L ((Ø z y).map V.S))):=by
 intro p s σ H x xs v U Q I R r h;let(z,y,rfl,rfl,i,j,c,d,q):=h;let(t,rfl):=R;let(w,rfl,u,rfl):=rV r;let fin:∀(l:Ł _)(k:Ń),l.map _=Ø z y->EP X _ σ Q _ {s with heap:=s.heap.push {cls:=.type _,data:=.seq _},toks:=k}:=λl k e=>by exact(.A _,_,I.laid (o:=.L _) (λb m g=>aw _ g) (au _) (by rw[ai];rwa[d],_,_,by rw[<-e];rwa[A1 l],aV _ Ŗ),Ŗ,q _ I.fresh)
 cases a:Đ (z.length<y.length)||Đ (strKind z<strKind y)
 .cases f:(occurrences z y 0 _ _).isEmpty;.erw[gB lQ (mU _ _ _) ur (se _ _) (meets_str_split_sep z y t u a i f j c) ?_];rw[strsFrom_eq];rwa[fin _ _ ((numbered_texts _ _).trans ((dh (Bb a)).trans (dh (Bb f))).symm)]
  .rwa[gB lQ (mU _ _ _) ur (se _ _) (meets_str_split_not_found z y t u a i f) (fin [(z,t)] _ ((dh (Bb a)).trans (cG f)).symm)]
 .rwa[gB lQ (mU _ _ _) ur (se _ _) (meets_str_split_cannot_occur z y t u a) (fin [(z,t)] _ (cG a).symm)]
def zJ:dW X (.type "int") λxs H Q=>∃(z:Ã)(n:Î),xs=[.S z]/\Ú z=O n/\z.length<=640/\Q (.I n) H:=by intro p s σ H xs U Q I r h;let(z,n,rfl,hn,l,q):=h;let(u,rfl,t,rfl):=rV r;rwa[PySem.W.KIN.call_text hn l (.I _,H,I.tok _,(_,Ŗ),q)]
end L2
namespace L2
def N9{σ:Ç}{E:dH}{Q:dH}(I:Inv X am σ H s)(e:H a=O (.dK B))(g:H b=O (.dK m))(i:a≠b)(l:À B+À m<=Â)(h:∀s',Inv X am σ (upd H a (.dK (my B m))) s'->Q .none s'):a6 (a8 X.prog X.w) A (call (.builtin "dict.update") [.ref a,.ref b]) Q E s:=by let(z,j,n,rel,f):=Oe I.di e;let(Z,c,v,k,D):=Oe I.di g;erw[call_meetsIn ZG f.typeIs PySem.F.entry_dict_update (PySem.F.args_dict_update_2 _ _) (meets_dict_update _ a b i c) (n,v,f,D,by rw[<-rel.length,<-k.length];rwa[l],λt d _ o=>h _ ?_)];let p:=jO m B;rwa[Jj I (by rw[e];rwa[è]) o (let (q,_,_,r,_):=d;(q,r)) (GI () j (KV.merge k rel) d)]
def Zo(t ty:TE):TE:=λσ H Q=>t σ H λx c=>∃a,x=.A a/\fI c a/\ty σ c λy h=>∃b B m,y=.A b/\a≠b/\h a=O (.dK B)/\h b=O (.dK m)/\À B+À m<=Â/\Q .gH (upd h a (.dK (my B m)))
def WN(c:PE X o t)(f:PE X e ty)(m:M1 X o "update" A e D):PE X (.Call (.Attribute o "update" A) [e] [] D) (Zo t ty):=by intro p s σ H Q I h;erw[wpAny_Call_method m.base m.few m.line FN ZG PySem.F.type_dict_update (oV (c _ s σ H _ I h) λu s1 x g i r a=>?_)];let(a,ex,d,q):=a;subst ex;obtain rfl:u=Ö a:=r;let(T,t2,_):=η i d;erw[(T,t2,?_)];rw[m.trees];erw[ig Ŗ (jq (qA (oV (f _ s1 σ g _ i q) λB s2 y C j R (b,G,M,E,v,k,l,n,w)=>rR ?_)))];subst E;cases R;rwa[N9 j k l v n λS z=>(.gH,_,z,Ŗ,w)]
def Lf(K:Æ)(b:Á)(ks:ϐ):ß:=∃(o:Obj)(B:Array _)(m:Ń),K.lookup b=O o/\o.cls=.type "tuple"/\o.dict=aa/\o.data=.seq B m/\B.size<=Â/\Vals (ks.map V.S) B.toList
structure Dz(w:a9)(K:Æ)(a:Á)(tab:Ã->Ő ϐ):ß where
 ex:∃(es:Array cp)(n:Ń),K.lookup a=O (.type "dict",aa,.dict es n,#[])/\KeysLit w.params es.toList/\∀x,match tab x with|O ks=>∃b,findBy Ý es x=O (.ref b)/\Lf K b ks|aa=>findBy Ý es x=aa
 lo:(a==db)=af
def Lf.sq{K:Æ}(h:Lf K b ks):fS K H b (ks.map V.S):=let (o,B,m,a,b,_,c,d,e):=h;.inr (o,B,m,a,b,c,d,e)
def Lf.ty{K:Æ}(h:Lf K b ks):hF K "tuple" (.A b) H:=let (o,B,m,a,b,n,_):=h;.inr (.inl (Ŗ,o,a,b,n))
def agj(K:Æ)(a:Á)(t:Ã->Ő ϐ):R2:=λx y H Q=>x=.A a/\∃k s,y=.S k/\t k=O s/\∀b,Lf K b s->Q (.A b) H
def VL(T:Dz X.w X.K a c):Ah X (agj X.K a c):=by intro e slice p s σ H x y v u Q I r R h f;let(rfl,k,j,rfl,g,q):=h;cases r;let(t,rfl):=R;let(E,m,lk,d,look):=T.ex;let hm:=kA (prog:=X.prog) I.oR lk d;let l:=look k;rw[g]at l;let(b,F,i):=l;rwa[ik hm.typeIs jM.lookup (ux (mT _ X.w k t) hm F (Ŗ,(.A b,H,I.tok _,Ŗ,q b i))) f]
def Qe{p:Ł _}{σ:Ç}(I:Inv X p σ H s)(h:fS X.K H b [kV k,v]):∃r,RelV v r/\Bf (eU X.prog X.w) s.heap (.ref b) (k,r):=by let(B,a,c,_):=I.tuple h;let(u,r,rfl,R,d):=a.two;erw[(r,d,b,u,Ŗ,c,?_)];cases k with|inl i=>let(t,rfl):=R;rwa[vK _ X.w i t]|inr x=>let(t,rfl):=R;rwa[vM _ X.w x t]
def Mr{P:Ł _}{s:a5}{σ:Ç}{H:Hp}(I:Inv X P σ H s):∀{T:ϕ}{B:Ł _}{L:Ł _},Vals T L->Paired (λt k=>∃b,t=V.A b/\fS X.K H b [kV k.1,k.2]) T B->∃ps:Ł _,KV B ps/\Paired (Bf (eU X.prog X.w) s.heap) L ps:=by intro T B L a;induction a generalizing B with|i=>intro b;cases b;exact([],.nil,.nil)|k r R i=>intro b;cases b with|k p pp=>let(ps,a,b):=i pp;let(c,rfl,h):=p;cases r;let(w,F,d):=Qe I h;exact(_,.cons (Ŗ,F) a,.cons d b)
def uG(g:X.calm):dW X (.type "dict") λxs H Q=>∃(l:Á)(T:ϕ)(B:Ł _),xs=[.A l]/\ie X.K H l T/\À B<=100/\Paired (λt v=>∃b,t=V.A b/\fS X.K H b [kV v.1,v.2]) T B/\∀a,H a=aa->Q (.A a) (upd H a (.dK (my [] B))):=by
 intro P s σ H xs U Q I r h;let(l,T,B,rfl,m,z,f,q):=h;let(u,rfl,o):=rV r;cases o;let(L,R,x,_):=I.list m;let n:À L=À B:=by rw[<-R.length,f.length]
 let(ps,k,c):=Mr I R f;let E:=k.length.symm;let C:1000<=Â:=∅
 erw[GH (knd:=eU _ X.w) (ps:=ps) (I.ok.hd g) x (λi=>?_) () (λj u p hu d=>?_) λD F N y=>?_];.left
 .rw[LS]at hu;rwa[Paired.at' c hu d]
 .let e:=jO B [];exact(.A _,_,I.laid y (au _) (GI (by simp at e;lia) (cI.mpr (cj (bB I.big))) (KV.merge k .nil) N),Ŗ,q _ (I.di.fresh (au _)))
def Oz(i:Ń)(D:Ò):Ò:={nx:=λσ H=>D.nx (σ.set i aa) H,rt:=D.rt,bk:=λσ H=>D.bk (σ.set i aa) H,ct:=λσ H=>D.ct (σ.set i aa) H}
def amk(K:Æ)(R:Á)(L i:Ń)(tb:XK->TS)(t:Á->Á->TS):TS:=λD σ H=>∃E1:XK,tb E1 D σ H/\∀(C:Á)(o:Ő _)(h:Hp)(a:Á)(b:Ç),E1 (.ref C) o h->À b=L->subIn K (.ref C) (.ref R)=O J/\t a C (Oz i D) (b.set i (O (.A a))) h
theorem SP.Hx(ok:X.Ok)(h:SP {X with pn:=X.pn++am,xe:=E} [] D f s):SP X am D f s:=by cases f with|next=>let(a,H,I,q):=h;exact(a,H,I.Hx ok,q)|brk=>let(a,H,I,q):=h;exact(a,H,I.Hx ok,q)|cont=>let(a,H,I,q):=h;exact(a,H,I.Hx ok,q)|ret u=>let(v,a,H,I,r,q):=h;exact(v,a,H,I.Hx ok,r,q)
def QS(fr:Su X)(hN:X.N.Nodup)(hi:X.N[i]?=O n)(P:X.env.scope.names.lookup n=O .local)(hf:X.fn n)(hg:Gl X x)(hm:X.mg x=O (.ref R))(hR:ZP X.K R)(hb:∀pn E1,ph (X.tr pn E1) B (tb E1))(hs:∀pn a C,Hd (X.hn pn a) a C->ph (X.hn pn a) (b0::Zk) (ts a C))(hd:ø ((x==("__debug__":Ã))=af) P3):PS X (.Try B [.ExceptHandler (O (.Name x np)) (O n) (b0::Zk) y] [] [] pos) (amk X.K R (À X.N) i tb ts):=by
 intro p s σ H D I h;let(E1,U,hh):=h;let ok:=I.ok;erw[wpAny_Try_except (d7 (hb (X.pn++p) E1 [] s σ H D (I.amr _) U) (λf s1 q=>?_) λe s1 q=>cps λR k0=>?_)];.let q':=SP.Hx ok q;cases f with|next=>rwa[iJ q']|brk=>rwa[q']|cont=>rwa[q']|ret u=>rwa[q']
 let(E,H0,s0,j,a,C,G,rfl,W,hE):=q;let(Vf,Y):=hh C aa G a E hE j.len;let Z:∀{b:Á},s0.heap.get? b=aa->b≠X.env.locals:=λz e=>by obtain⟨m,⟨o,_,_,F,_⟩,_⟩:=j.loc;rw[e]at z;rw[z]at F;cases F
 let hand:∀{L:Ä}{s2:a5}(f2:Fl X.prog X.w _ H0 s0 G a C L s2),∃t T,s2.heap.get? a=O _/\Inv _ [] E G s2:=λ{L s2}f2=>by obtain⟨T,⟨⟨t,ha⟩,_⟩,_⟩:=f2.ex;exact(t,T,ha,(f2.inv j).amq ha f2.na (Z f2.new) ((λz e=>by let(_,o,F,_):=j.mx.mem e;rw[z]at F;cases F) f2.new) (by intro v z;cases z))
 erw[k0 (W.note (X:={X with pn:=X.pn++p}) j fr.st fr.fr ok.frames λs2 f2=>?_)];erw[f2.land (f2.frF j) λs3 f3=>cps λR k1=>?_];let(t3,T3,ha3,I3):=hand f3;erw[k1 (wpAny_handleBy_cons (codeAny_handlers_test ?_) (by intro z;cases z))];erw[ma I3 hg hm ?_ hd];erw[UK I3.oR hR ha3 rfl Vf ?_];erw[codeAny_handlers_suite_as ?_];erw[f3.land (f3.frF j) λs4 f4=>cps λR k2=>?_];let(t4,T4,ha4,I4):=hand f4;erw[k2 (tX (X:=X.hn _ a) (v:=.A a) I4 hN hi (.inl P) rfl (λs5 I5=>?_) (.inl hf))];erw[d7 (hs _ a C (Ŗ,t4,_,ao) [] s5 _ G _ I5 Y) (λL s6 M=>?_) λ_ _ z=>z.elim];let go:∀{c:Ç}{g:Hp}{Q:Unit->a5->ß},Inv (X.hn ((a,GP C t4 (.ref T4))::(X.pn++p)) a) [] c g s6->(∀S,Inv X _ _ g S->Q ⟨⟩ S)->a6 (a8 X.prog X.w) X.A (do bindName _ n _;unbindBehindTheSuite _ n y) Q X.xe s6:=λ{c g Q}d k=>by let J6:=Inv.Hx ok (d.alE (ok.pnx _ _));let(m,hn,_):=id J6.loc;rwa[wpAny_nameGoes_keeps P hn (by rw[ok.kind];rfl) λh' v hn' LY=>k _ (J6.aj1 hN hi P hn hn' LY)]
 cases L with|next=>let(c,g,d,q):=M;rwa[go d λS l=>(_,_,l,q)]|brk=>let(c,g,d,q):=M;rwa[go d λS l=>(_,_,l,q)]|cont=>let(c,g,d,q):=M;rwa[go d λS l=>(_,_,l,q)]|ret u=>let(v,c,g,d,r,q):=M;rwa[go d λS l=>(v,_,_,l,r,q)]
structure xC(k:Ń)(A:bp)(a:Á):ß where
 hd:A.handled=O (.ref a)dp:A.depth+3*k+5<recursionLimit
 un:A.units+16*k+200<Ì
def eE.hand(r:eE k A)(a:Á):xC k (A.mark (O (.ref a))) a:=(Ŗ,r.dp,r.un)
theorem xC.deeper(r:xC (k+1) A a)(env:à):xC k (A.deeper env) a:=(r.hd,by let:=r.dp;show A.depth+1+3*k+5<_;lia,by let:=r.un;show A.units+3+16*k+200<_;lia)
abbrev wp(P:bn)(w:a9)(K:Æ)(m:b1)(base:É)(N:ϐ)(q:Ã)(S:Ï)(f:Á)(c:Ä)(A:bp)(o:Ł à)(s:a5)(H:Hp)(a:Á)(e:Obj):Cx:={(uJ IE P w K m base N q S f c A o s H E0).nox with calm:=af,pn:=[(a,e)]}
structure Dr(P:bn)(w:a9)(K:Æ)(mg:b1)(base:É)(k:Ń)(x:Ã)(ps:ϐ)(sp:Á->Á->Sp):ß where ex:∃(f:Á)(fd:b7),(∀(A:bp)(outer:Ł à)(s:a5)(H:Hp)(args:Args)(us:Ł Ä)(vs:ϕ)(Q:VK)(a C t:Á)(tb:Ä),xC k A a->Ds P w K mg base A outer s H->s.heap.get? a=O (GP C t tb)->H a=aa->a∉vt outer->BindsTo s fd args (ps.zip us)->Vals vs us->sp a C vs H Q E0->dr (a8 P w) A (.call (.ref f) args) (CR IE outer P w H s Q E0) s)/\(∀a C vs H Q E,sp a C vs H Q E->À vs=À ps)/\mg x=O (.ref f)/\keepIn K (.ref f)/\Binds K fd ps []
def Src.okH{K:Æ}{st:È}(S:Src K mg x st ps)(F:dR N ps (aU st))(len:∀a C vs H Q E,sp a C vs H Q E->À vs=À ps)(L:∀(f:Á)(R:Ä)(A:bp)(d:Ł à)(s:a5)(H:Hp)(vs:ϕ)(Q:VK)(a C t:Á)(tb:Ä),xC k (A.deeper (envOfC x (aU st) s.heap.objs.size f R)) a->sp a C vs H Q E0->Hd (wp P w K mg base N x (aU st) f R A d s H a (GP C t tb)) a C->∃T,ph (wp P w K mg base N x (aU st) f R A d s H a (GP C t tb)) (cB st) T/\T {nx:=λ_ H'=>Q .gH H',rt:=Q} (start N vs) H):Dr P w K mg base (k+1) x ps sp:=by
 let(f,fd,G,M,U):=S.ex;let(oc,od,kV,doc,pm,an,R,ct,Dg,rfl,lk,Y):=G.ex;erw[(f,_,λA d s H args us vs Q a C t tb i e0 g l m B r Z=>?_,len,M,G.kp,U)];let X:=e0.mod.SM.keeps λb o e=>(e0.bs b o e).1;erw[YO (by let:=i.dp;lia) (X _ _ lk) rfl F.co F.gen rfl (PySem.W.codeRec_of X Y) (B _ _ _ _ ?_)];erw[Tf F.kind (λ(n,v) hy=>by
  rcases F.par n (wG hy).1 with q|q;.rwa[.inl q]
  .rwa[.inr (q,vV _ _ _ (.inl q))]) λenv he s1 y=>?_];subst he;erw[((e0.mod.nolimit.keeps λb o e=>(e0.bs b o e).1).keeps y.toInCall.keep,codeAny_func ?_)];let c:Inv (uJ IE P w K mg _ N x _ f R {A with handled:=aa} _ s H E0) [] _ H s1:=AG F rfl (e0.frames,e0.mod,e0.bs,e0.FL,e0.mx,e0.LP,e0.di,e0.bare) (len _ _ _ _ _ _ Z) r y;let I:Inv (wp P w K mg base N x (aU st) f R A d s H a (GP C t tb)) [] (start N vs) H s1:=by
  erw[((c.ok.mod,c.ok.kind,c.ok.glob,c.ok.blt,c.ok.above,c.ok.inj,c.ok.has,c.ok.SD,λz=>(aD z).elim,c.ok.frames,c.ok.XI,c.ok.UM,c.ok.bs,c.ok.FL,c.ok.yz,c.ok.zN,c.ok.mx,c.ok.LP),c.os,c.bare,c.base,c.loc,c.cell,c.free,c.jd,λp hp=>?_,c.di,c.len)];let e:=by simpa using hp
  subst e;exact(y.toInCall.keep _ _ g,l,bB (bj (aT g) c.ok.above),m,by intro v z;cases z)
 let(T,ht,hq):=L f R A _ s H vs Q a C t tb (i.deeper _) Z (i.hd,t,tb,⋯);erw[d7 (ht [] s1 _ H _ I hq) (λfl s' h=>?_) λe s' h=>h.elim];cases fl with|ret u=>let(v,D,H',j,rv,q):=h;exact(v,H',j.os,j.bare,j.base,j.di,rv,q)|next=>let(D,H',j,q):=h;exact(.gH,H',j.os,j.bare,j.base,j.di,Ŗ,q)|brk=>let(_,_,_,q):=h;rwa[ç q]|cont=>let(_,_,_,q):=h;rwa[ç q]
def Dr.mono{K:Æ}{m:Ã->Ő _}(D:Dr P w K m base j x ps sp)(h:j<=k):Dr P w K m base k x ps sp:=by let(f,F,run,r):=D.ex;exact(f,F,λA o s H args u v Q a C t T b=>run A _ s H _ u v Q a C t T (b.hd,by let:=b.dp;lia,by let:=b.un;lia),r)
def J4(D:Dr X.prog X.w X.K X.mg X.base k x ps sp)(c:Hd X a C)(d:xC k X.A a)(g:Gl X x)(j:PA X (e::es) t)(l:ø ((x==("__debug__":Ã))=af) P3)(E:ø ((e::es).all cA=J) o0):PE X (.Call (.Name x p) (e::es) [] pos) (ϫ (sp a C) t):=by
 let(f,S,run,len,m,o,v):=D.ex;intro P s σ H Q I h;rw[bC,aM]at E;erw[fE (ma I g m ?_ l)];erw[kB I.ok.mod.SM o (hY (j pos _ s σ H _ I h) λU s1 y B i r q=>(i.oR,?_)) (cW E.1) (gJ E.2)];let(T,F,n):=c.pn;let(Z,G,L,M,_):=i.pin _ (cx _ n);erw[vX (lR (run X.A _ s1 B (U,[]) U y Q a C T F d i.J_ Z G (λz=>by
  rcases aJ.mp (i.CK a z)with e|e;.rwa[L e]
  .rwa[M e]) (by simpa using v s1 U i.oR (by simpa using by rw[<-r.length];rwa[len _ _ _ _ _ _ q])) r q) λR W b=>?_)];cases R with|error e=>rwa[b.elim]|ok N=>cases N with|ret u=>rwa[i.after b]|next=>assumption|brk=>assumption|cont=>assumption
def Ke(hh:Hd X a0 C)(T:PassesOwn (a8 X.prog X.w) X.A X.env X.xe)(hl:PE X l tl)(hg:PG X tg g)(t:ph X E tb)(hs:ø (∀x,eo l X.env x=pure x) eC):PS X (.For tg l E [] pos) (XQ (ϲ X.K tl) g tb):=by
 intro am s σ H D I h;erw[wpAny_For (gP (hl am s σ H _ I h) λv s1 z=>cps λR k0=>?_) hs];obtain⟨x,H1,I1,r1,a,e,⟨xs,hq⟩,q⟩:=z;subst e;cases r1;let(bL,rv,p,hz):=I1.tuple hq;obtain⟨W,⟨m0,w0⟩,U⟩:=q;erw[k0 (qG (show s1.heap.IsTuple a bL.toArray from p) ?_)];let fp:oX X am H1 s1.heap.objs.size:=I1.LO (au _) (I1.di.fresh (au _));generalize hit:s1.heap.objs.size=it at fp⊢;erw[Ġ (λn s'=>∃i d H',Inv X am d H' s'/\s'.heap.IsTupleIter it a i/\H' it=aa/\W i n d H') ?_ m0 (0,σ,H1,I1.kept (t':=s1.toks) λb o e=>aw _ e,(_,by rw[<-hit];rwa[aV _ Ŗ],Ŗ,Ŗ),fp.1,w0)];erw[λn S z=>cps λG k=>?_];let(i,y,M,P,Y,fr3,w3):=z;let f3:oX X am M it:=(fr3,fp.2);let(f0,f1,f2,f4,f5,f6):=id f3;rcases U i n y M w3 with ⟨stop,qn⟩|⟨go,N,hN,step⟩;.let(xs3,B,F):=stop;let(ψ,L,p3,_):=P.tuple B;let hl3:=L.length;let(t0,Z,hpn):=hh.pn;let aeN:(a0,GP C t0 Z)∈X.pn++am:=cx _ hpn;let(z1,_):=P.pin (a0,GP C t0 Z) aeN;erw[k (c8 T (Iq hh.hd z1 (f6 _ aeN) Y (show S.heap.IsTuple a ψ.toArray from p3) (by simp;lia) λh' eb=>?_))];rwa[iJ (y,M,P.turned (t':=S.toks) (λb o t e=>eb b o t e) f0 f1 f4 f5 f6,qn)]
 .let(xs3,x3,B,F):=go;let(ψ,L,p3,_):=P.tuple B;let(u,hu,ru):=L.get F;erw[k (c8 T (T1 Y (show S.heap.IsTuple a ψ.toArray from p3) (x:=u) (by simpa using hu) λh' Ih sb=>cps λG k=>?_))];let I4:Inv X am y M {S with heap:=h'}:=P.turned (t':=S.toks) (λb o t e=>(sb.2 b t).trans e) f0 f1 f4 f5 f6;let(ot,et,ct,dt):=id Ih;erw[k (c8 T (JC (s:={S with heap:=h'}) et ct dt ∅ ?_))];let I5:=I4.pinned (fp:=[it]) (λb t=>by rw[aL.mp t];rwa[f3]) (λb t=>by rw[aL.mp t];exact(ot,et,λv z=>nofun));erw[c8 T (gP (hg _ _ y M x3 u _ I5 ru (step x3 M (Ŗ,λys hy=>by rw[P.qx hy B];rwa[F]))) λ_ s6 H6=>?_)];let(σ6,H6,I6,q6):=H6;erw[c8 T (gP (t _ s6 σ6 H6 _ I6 q6) λf s7 Q=>?_)];let again:∀{c:Ç}{j:Hp},Inv X _ c j s7->N c j->∃m,m<n/\∃i d H',Inv X _ d H' s7/\s7.heap.IsTupleIter it a i/\H' it=aa/\W i m d H':=λ{c j}r n7=>by let(m',LW,w7):=hN c j n7;let pm:(it,ot)∈X.pn++(am++u7 _ h'):=aS _ (aS _ (jK (aL.mpr Ŗ) et));exact(m',LW,_,c,j,r.jm,Ih.at λo e=>by rw[et]at e;cases e;exact(r.pin _ pm).1,(r.pin _ pm).2.1,w7)
  cases f with|next=>let(c,j,r,n7):=Q;rwa[again r n7]|cont=>let(c,j,r,n7):=Q;rwa[again r n7]|brk=>let(c,j,r,Q):=Q;exact(c,j,r.jm,Q)|ret v=>let(x7,c,j,r,r7,Q):=Q;exact(x7,c,j,r.jm,r7,Q)
end L2
namespace L2
open PySem.W
structure Du(K:Æ)(C:Á):ß where
 ga:findIn K (.ref C) "__getattribute__"=O (O (.builtin "BaseException.__getattribute__"))gr:findIn K (.ref C) "__getattr__"=O aa
 fo:findObj K C aa "__class__"=O (.bind (.builtin "getset_descriptor.__get__") (.builtin "object.__class__"))mo:mroIn K C (.type "object")=O J
 ba:subIn K (.ref C) (.type "BaseException")=O J
def LH{E:dH}{K:Æ}(X:K.In s.heap)(I:InstAt s.heap a o C aa)(F:Du K C)(h:Q (O (.ref C)) {s with toks:=s.toks+1}):a6 (a8 prog w) A (getAttr? (.ref a) "__class__") Q E s:=by
 let(H,g,d,t,os):=s;let L:=I.type (M:=a8 prog w);let l:=looks_findIn (M:=a8 prog w) X F.ga;let L2:=looks_findIn (M:=a8 prog w) X F.gr;let L3:=looks_find (M:=a8 prog w) X I F.fo;delta getAttr? getAttrBy? getAttrBy;erw[ae (wpAny_mkText (ae (sg (c7 (ae (L.at (ae (l.at ?_))))))))];show a6 _ _ (getAttrByItsOwn _ _ _ _ _ _) _ _ _;delta getAttrByItsOwn hookBefore;erw[ae ?_];show a6 _ _ (typeLookup (.ref C) "__getattr__") _ _ _;erw[L2.at ?_];erw[ae (sg (c7 ?_))];show a6 _ _ (boundAndCalled (.builtin "BaseException.__getattribute__") (.ref a) _) _ _ _;delta boundAndCalled;rw[x4.ga.bind (.ref a)];erw[ae (aH ?_)];show a6 _ _ (call (.builtin "BaseException.__getattribute__") [.ref a,.str "__class__" t]) _ _ _;erw[vX (ZB x4.ga.plain PySem.F.entry_bexc_ga ?_)];let k:builtinKind "BaseException.__getattribute__"=O .slot:=∅
 let b:splitId "BaseException.__getattribute__"=O ("BaseException","__getattribute__"):=∅
 let m:=PySem.F.args_bexc_ga (.ref a) (.str "__class__" t);let c:Looks (a8 prog w) H (isInstance (.ref a) _) _:=L.andThen (looks_subIn X F.ba);rwa[ae (c.at (Nc m (ae (aH (ae (aH (ae (L.at (ae (L3.at (ae (c7 (vX (class_get X I F.mo (aH (aH (aH h)))))))))))))))))]
end L2
namespace L2
open PySem.SeqAt
def Ph{K:Æ}(F:Du K C)(H:(clsIn K C).isSome):KitX K (.ref a) (.ref C) λh=>PySem.W.InstAt h a o C aa where
 ty:=λ_ _ _ I=>I.type;it:=λ_ _ X _=>AI X H;ne:=λh t d B n sl X p=>by
  erw[bg.mpr λq=>?_];let e:=Value.ref.inj (Te.mp q);subst e;delta clsIn at H;split at H;.ext f D c s b;let z:=(X _ _ b).symm.trans p;cases z
  .done
 ca:=λX I k=>LH X I F k
def Au(f:Hd X a C)(F:Du X.K C)(g:(clsIn X.K C).isSome):dW X (.builtin "isinstance") λxs H Q=>∃(c:V)(cv:Ä)(b:Þ),xs=[.A a,c]/\((∃D,c=.A D/\cv=.ref D)\/∃n,c=.ty n/\cv=.type n)/\kitOne X.K (.ref C) cv=O b/\Q (.B b) H:=by
 intro p s σ H xs U Q I r h;let(c,cv,b,rfl,d,k,q):=h;let(u,v,rfl,R,i):=r.two;cases R;let E:v=cv:=by
  rcases d with ⟨D,rfl,rfl⟩|⟨n,rfl,rfl⟩;.done
  .done
 subst E;let(T,j,e):=f.pn;let(Z,_):=I.pin _ (cx _ e);rwa[cP (Ph F g) I.oR (Z,Ŗ,Ŗ,Ť) k (λz=>nomatch z) λt=>(.B b,H,I.tok t,Ŗ,q)]
def DF{bs:Ł _}(r:Vals (bs.map V.B) us):us=bs.map é:=by induction bs generalizing us with|i=>cases r;rfl|k b t i=>cases r with|k R a=>rw[i a,R];rfl
def wX:Ä->Þ|.bool b=>b|_=>af
def Ol(b:Þ):EqAt A s (.bool b) (.bool J) b:=by
 let r:RelV (.B b) _:=Ŗ;let R:RelV (.B J) _:=Ŗ;let q:=Oi (A:=A) (s:=s) r R rfl rfl;let e:SG (.B b) (.B J)=b:=by cases b<;>rfl
 rw[e]at q;rwa[q]
theorem xT:∀(bs:Ł _),(bs.map é).countP wX=bs.count J|[]=>Ŗ|b::t=>by rw[bV,uo,xT t,Nt];cases b<;>rfl
def Mg:To X "list.count" λx xs H Q=>∃(l:Á)(bs:Ł _),x=.A l/\xs=[.B J]/\H l=O (.L (bs.map V.B))/\Q (.I (bs.count J)) H:=by
 intro p s σ H x xs v U Q I R r h;let(l,bs,rfl,rfl,c,q):=h;cases R;let(u,rfl,d):=r.one;obtain rfl:u=é _:=d;let(_,g,n,e,o):=I.di l _ c;obtain rfl:=DF e;erw[gB w1 (_,o,Ŗ) PySem.F.entry_list_count (PySem.F.args_list_count_2 _ _) (list_countAt l _ n _ #[] _ wX) (o,λy f=>?_,(.I _,H,I.tok _,(_,Ŗ),?_))]
 .let a:y∈bs.map é:=by simpa using f
  let(b,_,rfl):=bf.mp a;rwa[Ol b]
 .rw[xT];rwa[q]
def Mh:To X "list.index" λx xs H Q=>∃(l:Á)(bs:Ł _)(j:Ń),x=.A l/\xs=[.B J]/\H l=O (.L (bs.map V.B))/\j<1000/\bs[j]?=O J/\(∀m,m<j->bs[m]?=O af)/\Q (.I j) H:=by
 intro p s σ H x xs v U Q I R r h;let(l,bs,j,rfl,rfl,f,g,i,o,q):=h;cases R;let(u,rfl,k):=r.one;obtain rfl:u=é _:=k;let(_,N,n,C,e):=I.di l _ f;obtain rfl:=DF C;let(a,t):=aj.mp i;erw[gB Y_ (_,e,Ŗ) PySem.F.entry_list_index (PySem.F.args_list_index_2 _ _) (PySem.MeetsSeq.list_index l _ n _ wX (λy D=>?_) j (by simpa using a) () ?_ λm G c=>?_) (e,(.I _,H,I.tok _,(_,Ŗ),q))]
 .let d:y∈bs.map é:=by simpa using D
  let(b,_,rfl):=bf.mp d;intro P w A E S K M;rwa[Ol b _ w E K M]
 .simp[t,wX]
 .let z:=o m c;rw[aE (by simpa using G)]at z;simp[c0 z,wX]
def d_:b' "set"=O (.type "set"):=by rfl
end L2
namespace L2
def rj:dM X N' s fp S H₀ (λ_ _ _=>ŧ)=iZ X N' s fp S H₀:=by
 let e:(dM X N' s fp S H₀ λ_ _ _=>ŧ).xe=λ_ _=>ŧ:=by funext e a;erw[propext (λh=>?_,ç)];let(_,_,_,_,_,_,_,_,_,_,q):=h;rwa[q]
 show{iZ X N' _ fp _ _ with xe:=(dM X N' s fp S H₀ λ_ _ _=>ŧ).xe}=_;rw[e];rfl
def PK{P:ß}(h:(dM X N' s fp S H λ_ _ _=>ŧ).xe e s'):P:=by rw[rj]at h;rwa[h.elim]
def WK(S:fY X N' a)(j:X.calm)(f:∀σ:Ç,À σ=À X.N->pq X N' a σ (d σ))(k:PI X tg iter w)(l:∀fp b c,PG (iZ X N' a fp b c) tg g)(m:∀fp b c,qH (iZ X N' a fp b c) i t)(o:∀fp b c,PE (iZ X N' a fp b c) E T)(q:ø (∀x,eo iter X.env x=pure x) eC):PE X (.ListComp E [(tg,iter,i,0)] a pos) (yY w g t T d):=by intro p s σ H Q I h;rwa[BD S j f k (λ_ _ _=>by rw[rj];rwa[l _ _ _]) (λ_ _ _=>by rw[rj];rwa[m _ _ _]) (λ_ _ _=>by rw[rj];exact(o _ _ _).n 0) q DS (λ_ _ e r h=>PK h) I (bu _) h]
def Kd(p:X.N.Nodup)(r:X.N[Z]?=O y)(t:Loc X.env.scope y)(S:fY X N' a)(tj:X.calm)(u:∀σ:Ç,À σ=À X.N->pq X N' a σ (k σ))(hi:PI X tg iter W)(hg:∀fp c d,PG (iZ X N' a fp c d) tg g)(hc:∀fp c d,qH (iZ X N' a fp c d) i U)(he:∀fp c d,PE (iZ X N' a fp c d) E Y)(hs:ø (∀x,eo iter X.env x=pure x) eC)(w:ø (el (.ListComp E [(tg,iter,i,0)] a pos) (O (.Name y T)) F.line X.env=pure J) o0)(z:ø (X.fn y=J\/X.env.scope.names.lookup y=O .local) gf):PS X (.Assign [.Name y T] (.ListComp E [(tg,iter,i,0)] a pos) F) (Fo (yY W g U Y k) (oQ Z)):=by
 intro am s σ H D I h;rw[exec_Assign_Name_used _ _ _ _ w];erw[ae (ZJ (ae ?_))];erw[ae (d7 (BD S tj u hi (λ_ _ _=>by rw[rj];rwa[hg _ _ _]) (λ_ _ _=>by rw[rj];rwa[hc _ _ _]) (λ_ _ _=>by rw[rj];exact(he _ _ _).n 0) hs (λ{fp s3 B σ' H3 H' G}I3 f3 j q=>?_) (λ_ _ e B h=>PK h) I (bu _) h) (λ_ B hq=>aH (aH hq)) λ_ _ e=>e)];let(m,l,_):=id j.loc;let l:B.heap.Ns s3.heap.objs.size m:=l;let IX:=by erw[I3.IZ j.os j.base j.di j.bare λb f=>?_];.let(_,Q,q2,K,L,M):=f3 b f;exact(K,Q,L,M)
 let cok:=I3.LO (au _) j.free;let(oC,esC,epC,C,hrC):=id l;erw[wpAny_assign_Name (tX (IX.pinned (λb f=>by rw[aL.mp f];rwa[cok]) λb f=>by rw[aL.mp f];exact(oC,C,λv g=>nofun)) p r t (v:=.A G) rfl (λsa Ia=>?_) z)];erw[(m,l.at' λo e=>?_,λh' LY=>(_,H',?_,q))];.rw[C]at e;rwa[e▸(Ia.pin _ (aS _ (aS _ (jK ⋯ C)))).1]
 .let(q0,Q,q2,K,L,M):=cok;let P:=Ia.jm;let R:∀b o,b ∉[s3.heap.objs.size]->sa.heap.get? b=O o->h'.get? b=O o:=λb o f e=>(LY.2 b (by simpa using f)).trans e;erw[P.step (λb f=>?_) (λb o _ _ f e _=>R b o f e) (λb o _ _ f e _=>(_,R b o f e)) (λb o _ _ n=>n) (λb o f e=>(o,R b o f e)) (λ_ _ e=>e) (λ_ _ _ e=>e) (λb ps e=>(#[],by done)) (λm' LW=>LW.at' λo e=>R _ o (by simpa using cj Q) e) (wV P.di q0 LY) P.bare];rw[aL.mp f];exact(K,Q,L,M)
end L2
namespace PySem
open Builtin Builtin.Str
def xS(m:Ń)(c:Tok):countLimit "str.replace" (O (.int 1 c)) m=pure 1:=rfl
def rB(x y z:Ã)(t u v c:Tok)(a:(u==0||v==0)=af)(h:(u==v)=af)(H:(y==z)=af)(b:tooLong (x.length+À (occurrences x y 0 x.length 1)*z.length)=af):Gives («str.replace» ([.str x t,.str y u,.str z v,.int 1 c],[])) (if((occurrences x y 0 x.length 1).isEmpty||y.length==0&&z.length==0)=J then .val (.str x t)else .str (glued z (partsBetween x (occurrences x y 0 x.length 1) y.length))):=by
 show Gives (countLimit "str.replace" _ _>>=λl=>if((occurrences x y 0 _ l).isEmpty||y.length==0&&z.length==0)=J then(rule _>>=λ_=>ret _)else(isSame _ _>>=λsame=>if same=J then(rule _>>=λ_=>ret _)else if tooLong (x.length+À (occurrences x y 0 _ l)*z.length)=J then unsupported _ else retStr (glued z (partsBetween x (occurrences x y 0 _ l) _)))) _;rw[xS];show Gives (if((occurrences x y 0 _ 1).isEmpty||y.length==0&&z.length==0)=J then(rule _>>=λ_=>ret _)else(isSame _ _>>=λsame=>if same=J then(rule _>>=λ_=>ret _)else if tooLong _=J then unsupported _ else retStr _)) _;cases d:(occurrences x y 0 _ 1).isEmpty||y.length==0&&z.length==0;.rw[isSame_str_other y z u v a h H,b];rwa[.of_eq Ŗ]
 .rwa[.rule (.of_eq Ŗ)]
end PySem
namespace L2
open PySem.SeqAt PySem.MeetsSeq PySem.Builtin PySem.Builtin.Str
def tS{E:dH}(H:cA e)(h:a6 M A (PySem.eval e env) (λv S=>a6 M A (spliced (cc pos (b5 es env))) (λvs a=>Q (v::vs) a) E S) E s):a6 M A (spliced (cc pos (b5 (e::es) env))) Q E s:=by rw[cW H];show a6 _ _ (spliced ((af,PySem.eval e env)::cc pos _)) _ _ s;rwa[qA h]
def Ky{E:dH}(h:Q [] s):a6 M A (spliced (cc pos (b5 [] env))) Q E s:=rR h
def PT1(X:Cx)(e:Å)(t:TT):ß:=∀(p:Ł _)(s:a5)(σ:Ç)(H:Hp)(Q:Þ->Hp->ß),Inv X p σ H s->t σ H Q->a6 (a8 X.prog X.w) X.A (isTrue e X.env (Ê e X.env)) (λb S=>1<=S.toks/\TP X p σ Q b S) X.xe s
abbrev Nf(X:Cx)(e:Å)(t:TE):ß:=fe 1 X e t
def PV(X:Cx)(e:Å)(t:TE):ß:=∀(p:Ł _)(s:a5)(σ:Ç)(H:Hp)(Q:VK)(n:Ń),Inv X p σ H s->n<s.toks->t σ H Q->a6 (a8 X.prog X.w) X.A (Ê e X.env) (λu a=>∃z T,u=.str z T/\n<T/\∃h,Inv X p σ h a/\Q (.S z) h) X.xe s
def ϵ:PV X (.Constant (.str x) j pos) (tC (.S x)):=by intro p s σ H Q n I hn h;rwa[qz (x,_,Ŗ,hn,H,I.tok _,h)]
end L2
namespace L2
def Nf.imp(h:Nf X e t)(i:∀σ H Q,t' σ H Q->t σ H Q):Nf X e t':=λp s σ H Q I a q=>h _ s σ H Q I a (i _ _ _ q)
def PT1.imp(h:PT1 X e t)(i:∀σ H Q,t' σ H Q->t σ H Q):PT1 X e t':=λp s σ H Q I q=>h _ s σ H Q I (i _ _ _ q)
theorem N3:∀{a b X Y:Ϙ},c∉a->c∉b->a++c::X=b++c::Y->a=b/\X=Y|[],[],X,Y,_,_,h=>(Ŗ,by grind)|[],y::b,X,Y,_,H,h=>by grind|x::a,[],X,Y,d,_,h=>by grind|x::a,y::b,X,Y,d,H,h=>by simp only[mP,List.cons.injEq]at h;let(E,e):=N3 (λz=>d (ak _ z)) (λz=>H (ak _ z)) h.2;exact((),e)
def xm{y:Ã}(h:x.cps.toList=y.cps.toList):x=y:=by apply Str.ext';rwa[K7.mp h]
def gG(c:Ń)(x y:Ã)(r:ϐ):(Ñ ⟨#[c]⟩ (x::y::r)).cps.toList=x.cps.toList++c::(Ñ ⟨#[c]⟩ (y::r)).cps.toList:=by show(x++⟨_⟩++Ñ _ _).cps.toList=_;rw[qE,qE];simp
theorem Eu:∀{as bs:ϐ},as ≠[]->bs ≠[]->(∀x∈as,c∉x.cps.toList)->(∀x∈bs,c∉x.cps.toList)->Ñ ⟨#[c]⟩ as=Ñ ⟨#[c]⟩ bs->as=bs|[],_,h,_,_,_,_=>Ă Ŗ h|_,[],_,h,_,_,_=>Ă Ŗ h|[a],[b],_,_,_,_,h=>by let e:a=b:=h;rw[e]|[a],b::B::r,_,_,H,_,h=>by exfalso;let e:a=Ñ _ _:=h;erw[H a ao ?_];rw[e,gG];simp|a::A::r,[b],_,_,_,d,h=>by exfalso;let e:b=Ñ _ _:=h.symm;erw[d b ao ?_];rw[e,gG];simp|a::A::r,b::B::R,_,_,H,d,h=>by let e:=cY (λs:Ã=>s.cps.toList) h;simp only[gG]at e;let(E,g):=N3 (H a ao) (d b ao) e;rw[xm E,Eu () () (λx f=>H x (ak _ f)) (λx f=>d x (ak _ f)) (xm g)]
def yU(h:as ≠[])(H:∀x∈as,c∉x.cps.toList):Ø (Ñ ⟨#[c]⟩ as) ⟨#[c]⟩=as:=by erw[Eu ?_ h (StrLaws.split_free _ c) H (StrLaws.join_split _ _)];intro e;let:=split_pos (Ñ ⟨#[c]⟩ as) ⟨#[c]⟩;rw[e]at this;simp at this
def zc(z:Ã)(ws:ϐ):ê z ws=Ñ z ws:=StrLaws.glued_eq_join z ws
theorem ym(c:Ń):∀(ls:ϐ),Ñ ⟨#[]⟩ (ls.map λl=>l++⟨#[c]⟩)=Ñ ⟨#[c]⟩ (ls++[⟨#[]⟩])|[]=>Ŗ|[x]=>Ŗ|x::y::r=>by apply xm;rw[show(x::y::r++[⟨#[]⟩])=x::y::(r++[⟨#[]⟩])from Ŗ,gG,show(y::(r++[⟨#[]⟩]))=y::r++[⟨#[]⟩]from Ŗ,<-ym c (y::r)];show(x++⟨_⟩++⟨#[]⟩++Ñ _ _).cps.toList=_;rw[qE,qE,qE];simp
end L2
namespace F
open L2
inductive Pv where|N|B(b:Þ)|I(i:Î)|S(x:Ã)|T(xs:ϑ)|L(xs:ϑ)|scr(xs:ϑ)|dct(ks vs:ϑ)|obj(C:Ń)(fs:ϑ)|fn(i:Ń)|ty(c:Ń)
inductive Dv where|p(x:Pv)|r(i:Ń)
inductive Ob where|L(xs:ϑ)|D(xs:Ł Dv)|C(ks vs:ϑ)|I(C:Ń)(fs:Ł Dv)
def lW:Ń->String|0=>"str"|1=>"int"|2=>"bool"|3=>"tuple"|_=>"list"
abbrev Hs:=Ł Ob
abbrev Es:=Ł (Ő Dv)
structure Tx where
 K:Æ
 mg:b1
 hW:Ń->Ã
 ca:Ń->Á
 fl:Ń->ϐ
 G:Ł Á
def Rk{K:Æ}(s:P/\Rd H a (.L vs)\/ie K (λ_=>aa) a vs):ie K H a vs:=s.elim (λh=>.inl h.2) λh=>h.elim (λz=>by rcases z with z|⟨_,z⟩<;>cases z) .inr
variable(Z:Tx)(M:Ł Á)(H:Hp)
mutual
def eG:Pv->V->ß|.N,v=>v=.gH|.B b,v=>v=.B b|.I i,v=>v=.I i|.S x,v=>v=.S x|.T xs,v=>∃a vs,v=.A a/\fS Z.K H a vs/\bh xs vs|.L xs,v=>∃a vs,v=.A a/\(a∉M/\a∉Z.G)/\H a=O (.L vs)/\bh xs vs|.scr xs,v=>∃a vs,v=.A a/\((a∉M/\a∉Z.G)/\Rd H a (.L vs)\/ie Z.K (λ_=>aa) a vs)/\bh xs vs|.dct ks us,v=>∃a d,v=.A a/\(a∉M/\a∉Z.G)/\H a=O (.dK d)/\bh ks (d.map λp=>kV p.1)/\bh us (d.map (·.2))|.obj C fs,v=>∃a D f,v=.A a/\(a∉M/\a∉Z.G)/\H a=O (.ins (Z.ca C) D f)/\f.map (·.1)=(Z.fl C).take (À fs)/\bh fs (f.map (·.2))|.fn i,v=>∃a,Z.mg (Z.hW i)=O (.ref a)/\v=.A a|.ty c,v=>v=.ty (lW c)def bh:ϑ->ϕ->ß|[],[]=>æ|x::xs,v::vs=>eG x v/\bh xs vs|_,_=>ŧ
end
def fI:Dv->V->ß|.p x,v=>eG Z M H x v|.r i,v=>∃a,M[i]?=O a/\v=.A a
def cD:Ł Dv->ϕ->ß|[],[]=>æ|x::X,v::s=>fI Z M H x v/\cD X s|_,_=>ŧ
def zk(a:Á):Ob->ß|.L x=>∃v,H a=O (.L v)/\bh Z M H x v|.D ds=>∃v,H a=O (.L v)/\cD Z M H ds v|.C k u=>∃b,H a=O (.dK b)/\bh Z M H k (b.map λp=>kV p.1)/\bh Z M H u (b.map (·.2))|.I C fs=>∃d f,H a=O (.ins (Z.ca C) d f)/\H d=O (.own a)/\f.map (·.1)=(Z.fl C).take (À fs)/\cD Z M H fs (f.map (·.2))
structure bw(h:Hs):ß where
 nd:M.Nodup
 dj:∀a∈M,a∉Z.G
 ln:À M=(À h)gs:∀b∈Z.G,∃o,H b=O o
 ob:∀(i:Ń)a o,M[i]?=O a->h[i]?=O o->zk Z M H a o
structure dG(σ:Es)(τ:Ç):ß where ln:À σ=(À τ)at':∀(i:Ń)d,σ[i]?=O (O d)->∃v,τ[i]?=O (O v)/\fI Z M H d v
structure Ext(M:Ł Á)(H:Hp)(M':Ł Á)(H':Hp):ß where
 pre:∃l,M'=M++l
 keep:∀b o,b∉M->H b=O o->H' b=O o
 new:∀b∈M',b∉M->H b=aa
section
variable{Z:Tx}{M M' M₂:Ł Á}{H H' H₂:Hp}{h h':Hs}
def Ext.refl:Ext M H M H:=(([],(aQ M).symm),λ_ _ _ h=>h,λ_ h n=>Ă h n)
def Ext.trans(a:Ext M H M' H')(b:Ext M' H' M₂ H₂):Ext M H M₂ H₂:=by
 let(l,rfl):=a.pre;let(L,rfl):=b.pre;let k:∀c o,c∉M->H c=O o->c∉M++l:=λc o d h z=>by rw[a.new c z d]at h;cases h
 erw[((_,by rw[aN]),λc o d h=>b.keep c o (k c o d h) (a.keep c o d h),λc d hn=>?_)];by_cases z:c∈M++l;.rwa[a.new c z hn]
 .cases e:H c with|n=>rfl|s o=>let:=b.new c d z;rw[a.keep c o hn e]at this;cases this
def Cb:HO->Þ|.L _=>J|.dK _=>J|.ins _ _ _=>J|_=>af
def bw.there(r:bw Z M H h)(d:a∈M):∃o,H a=O o/\Cb o=true:=by
 let(i,c):=zB d;let l:i<À h:=by rw[<-r.ln];exact(aj.mp c).1
 let ho:=r.ob i a h[i] c (aE l);cases b:h[i]with|L x=>rw[b]at ho;let(_,e,_):=ho;exact(_,e,Ŗ)|D x=>rw[b]at ho;let(_,e,_):=ho;exact(_,e,Ŗ)|C k v=>rw[b]at ho;let(_,e,_):=ho;exact(_,e,Ŗ)|I C fs=>rw[b]at ho;let(_,_,e,_):=ho;exact(_,e,Ŗ)
def bw.no(r:bw Z M H h){a:Á}{o:HO}(e:H a=O o)(n:Cb o=af):a∉M:=λz=>by let(u,b,c):=r.there z;rw[e]at b;cases b;rw[n]at c;cases c
def bw.fresh(r:bw Z M H h)(a:H p=aa):p∉M:=λz=>by let(o,e,_):=r.there z;rw[a]at e;cases e
def bw.rp(r:bw Z M H h)(a:H p=aa):p∉M/\p∉Z.G:=(r.fresh a,λz=>by let(o,e):=r.gs p z;rw[a]at e;cases e)
def bw.PL(r:bw Z M H h)(b:a∈M):¬Rd H a (.T vs):=λz=>by
 rcases z with z|⟨q,z⟩;.rwa[r.no z Ŗ b]
 .rwa[r.no z Ŗ b]
structure Mv(M:Ł Á)(H:Hp)(M':Ł Á)(H':Hp):ß where
 nt:∀a∈M,∀vs,¬Rd H a (.T vs)keep:∀b o,b∉M->H b=O o->H' b=O o
 new:∀b∈M',b∉M->H b=aa
def Mv.rd(m:Mv M H M' H')(b:a∉M)(r:Rd H a u):Rd H' a u:=by
 rcases r with r|⟨q,r⟩;.rwa[.inl (m.keep _ _ b r)]
 .rwa[.inr (q,m.keep _ _ b r)]
def Mv.sqT(m:Mv M H M' H'){K:Æ}(s:fS K H a vs):fS K H' a vs:=by
 rcases s with r|r;.rwa[.inl (m.rd (λz=>m.nt a z vs r) r)]
 .rwa[.inr r]
def Mv.ni(m:Mv M H M' H')(b:a∉M)(r:H a=O o):a∉M':=λz=>by rw[m.new a z b]at r;cases r
mutual
theorem eG.mv(m:Mv M H M' H'):∀{x:Pv}{v:V},eG Z M H x v->eG Z M' H' x v
 |.N,_,h=>h|.B _,_,h=>h|.I _,_,h=>h|.S _,_,h=>h|.fn _,_,h=>h|.ty _,_,h=>h|.T xs,_,h=>by let(a,vs,e,s,q):=h;exact(a,vs,e,m.sqT s,bh.mv m q)|.L xs,_,h=>by let(a,vs,e,n,s,q):=h;exact(a,vs,e,(m.ni n.1 s,n.2),m.keep _ _ n.1 s,bh.mv m q)|.scr xs,_,h=>by
  let(a,vs,e,s,q):=h;rcases s with ⟨n,s⟩|s;.exact(a,vs,e,.inl ((s.elim (m.ni n.1) λ(_,r)=>m.ni n.1 r,n.2),m.rd n.1 s),bh.mv m q)
  .exact(a,vs,e,.inr s,bh.mv m q)|.dct ks us,_,h=>by let(a,b,e,n,s,q,Q):=h;exact(a,b,e,(m.ni n.1 s,n.2),m.keep _ _ n.1 s,bh.mv m q,bh.mv m Q)|.obj C fs,_,h=>by let(a,d,f,e,n,s,l,q):=h;exact(a,d,f,e,(m.ni n.1 s,n.2),m.keep _ _ n.1 s,l,bh.mv m q)theorem bh.mv(m:Mv M H M' H'):∀{xs:ϑ}{vs:ϕ},bh Z M H xs vs->bh Z M' H' xs vs|[],[],h=>Ť|[],_::_,h=>h|_::_,[],h=>h|x::xs,v::vs,h=>by exact(eG.mv m h.1,bh.mv m h.2)end
theorem Ext.mv(e:Ext M H M' H')(r:bw Z M H h):Mv M H M' H':=(λ_ a _=>r.PL a,e.keep,e.new)
theorem Ext.at(e:Ext M H M' H'){i:Ń}(h:M[i]?=O a):M'[i]?=O a:=by let(l,rfl):=e.pre;rw[aY (aj.mp h).1];rwa[h]
theorem fI.mv(m:Mv M H M' H')(at':∀(i:Ń)a,M[i]?=O a->M'[i]?=O a)(h:fI Z M H d v):fI Z M' H' d v:=by cases d with|p x=>rwa[eG.mv m h]|r i=>let(a,b,c):=h;exact(a,at' i a b,c)
theorem cD.mv(m:Mv M H M' H')(at':∀(i:Ń)a,M[i]?=O a->M'[i]?=O a):∀{ds:Ł Dv}{vs:ϕ},cD Z M H ds vs->cD Z M' H' ds vs|[],[],_=>Ť|[],_::_,h=>h|_::_,[],h=>h|_::_,_::_,h=>(fI.mv m at' h.1,cD.mv m at' h.2)
theorem fI.ext(r:bw Z M H h)(e:Ext M H M' H')(q:fI Z M H d v):fI Z M' H' d v:=fI.mv (e.mv r) (λ_ _=>e.at) q
theorem cD.ext(r:bw Z M H h)(e:Ext M H M' H')(q:cD Z M H d v):cD Z M' H' d v:=cD.mv (e.mv r) (λ_ _=>e.at) q
theorem eG.ext(r:bw Z M H h)(e:Ext M H M' H')(q:eG Z M H d v):eG Z M' H' d v:=eG.mv (e.mv r) q
theorem bh.ext(r:bw Z M H h)(e:Ext M H M' H')(q:bh Z M H d v):bh Z M' H' d v:=bh.mv (e.mv r) q
theorem dG.ext(q:dG Z M H σ τ)(r:bw Z M H h)(e:Ext M H M' H'):dG Z M' H' σ τ:=(q.ln,λi d a=>let (v,b,q):=q.at' i d a;(v,b,q.ext r e))
theorem dG.set(q:dG Z M H σ τ)(c:fI Z M H d v):dG Z M H (σ.set i (O d)) (τ.set i (O v)):=(by rw[bT,bT];rwa[q.ln],λj e a=>by
 by_cases b:i=j
 .subst b;by_cases l:i<À σ;.rw[cL l]at a;cases a;exact(v,by rw[cL (by rw[<-q.ln];rwa[l])],c)
  .left
 .rw[aA b]at a⊢;rwa[q.at' j e a])
theorem zk.mv(m:Mv M H M' H')(at':∀(i:Ń)a,M[i]?=O a->M'[i]?=O a)(k:∀u,H a=O u->H' a=O u)(x:∀d,H d=O (.own a)->H' d=O (.own a))(h:zk Z M H a o):zk Z M' H' a o:=by cases o with|L X=>let(v,e,q):=h;exact(v,k _ e,bh.mv m q)|D X=>let(v,e,q):=h;exact(v,k _ e,cD.mv m at' q)|C K U=>let(b,e,q,Q):=h;exact(b,k _ e,bh.mv m q,bh.mv m Q)|I C fs=>let(d,f,e,n,c,q):=h;exact(d,f,k _ e,x _ n,c,cD.mv m at' q)
theorem Ext.add(a:H p=aa):Ext M H M (upd H p o):=(([],(aQ M).symm),λb u _ h=>by rw[bJ (bZ h a)];rwa[h],λb h n=>Ă h n)
theorem uf(h:∃q,H b=O q):∃q,upd H p o b=O q:=by
 by_cases e:b=p;.subst e;exact(o,bA)
 .rw[bJ e];rwa[h]
theorem bw.add(r:bw Z M H h)(c:H p=aa):bw Z M (upd H p o) h:=(r.nd,r.dj,r.ln,λb d=>uf (r.gs b d),λi a u f g=>zk.mv ((Ext.add c).mv r) (λ_ _ z=>z) (λq e=>by rw[bJ (bZ e c)];rwa[e]) (λD e=>by rw[bJ (bZ e c)];rwa[e]) (r.ob i a u f g))
theorem Ext.push(r:bw Z M H h)(a:H p=aa):Ext M H (M++[p]) (upd H p u):=(([p],Ŗ),λb o _ e=>by rw[bJ (bZ e a)];rwa[e],λb c n=>by
 rcases bt.mp c with z|z;.done
 .rw[aL.mp z];rwa[a])
theorem bw.push(r:bw Z M H h)(c:H p=aa)(n:zk Z (M++[p]) (upd H p u) p o):bw Z (M++[p]) (upd H p u) (h++[o]):=by
 erw[(f7.mpr (r.nd,⋯,λa f b g z=>?_),λa f=>(bt.mp f).elim (r.dj a) λz=>by rw[aL.mp z];exact(r.rp c).2,by rw[ah,ah,r.ln];rfl,λb g=>uf (r.gs b g),λi a q d j=>?_)];.rw[aL.mp g]at z;subst z;rwa[r.fresh c f]
 .by_cases l:i<À M;.rw[aY l]at d;rw[aY (by rw[<-r.ln];rwa[l])]at j;rwa[zk.mv ((Ext.push r c).mv r) (λ_ _=>(Ext.push (u:=u) r c).at) (λq e=>by rw[bJ (bZ e c)];rwa[e]) (λD e=>by rw[bJ (bZ e c)];rwa[e]) (r.ob i a q d j)]
  .rw[aK ()]at d;rw[aK (by rw[<-r.ln];lia),<-r.ln]at j;cases m:i-À M with|z=>left|v k=>rw[m]at d;cases d
theorem Ext.put(c:a∈M):Ext M H M (upd H a u):=(([],(aQ M).symm),λb o n e=>by rw[bJ λz=>n (by rw[z];rwa[c])];rwa[e],λb h n=>Ă h n)
theorem bw.put(r:bw Z M H h)(c:M[i]?=O a)(l:zk Z M (upd H a u) a o):bw Z M (upd H a u) (h.set i o):=by
 let ha:=aZ c;erw[(r.nd,r.dj,by rw[bT];rwa[r.ln],λb g=>uf (r.gs b g),λj b q d f=>?_)];by_cases k:j=i
 .subst k;rw[c]at d;cases d;let m:j<À h:=by rw[<-r.ln];exact(aj.mp c).1
  rw[cL m]at f;cases f;rwa[l]
 .rw[aA (cj k)]at f;let g:b≠a:=λz=>k (by let(L,E):=aj.mp d;let(l4,n):=aj.mp c;exact(jB r.nd).mp (by rw[E,n,z]));rwa[zk.mv ((Ext.put ha).mv r) (λ_ _ z=>z) (λq e=>by rw[bJ g];rwa[e]) (λD e=>by rw[bJ λz=>by rw[z]at e;rwa[r.no e Ŗ ha]];rwa[e]) (r.ob j b q d f)]
def bD(k:Ń):Dv->Þ|.p _=>J|.r i=>Đ (i<k)
def io(k:Ń):Ł Dv->Þ|[]=>J|d::r=>bD k d&&io k r
def bO(k:Ń):Ob->Þ|.L _=>J|.D ds=>io k ds|.C _ _=>J|.I _ fs=>io k fs
def bH(k:Ń):Hs->Þ|[]=>J|o::r=>bO k o&&bH k r
def Į(k:Ń):Ő Dv->Ő Dv|O d=>if bD k d then O d else aa|aa=>aa
def Ud(k:Ń):Es->Es|[]=>[]|d::r=>Į k d::Ud k r
theorem NH:∀{h:Hs},bH k h=J->∀o∈h,bO k o=J
 |[],_,o,a=>by grind|q::r,e,o,a=>by
  simp only[bH,aM]at e;rcases aJ.mp a with z|z;.lia
  .rwa[NH e.2 o z]
theorem Mv.cut(r:bw Z M H h)(k:Ń):Mv M H (M.take k) H:=(λ_ a _=>r.PL a,λ_ _ _ e=>e,λb c n=>Ă (nO c) n)
theorem fI.cut(r:bw Z M H h)(q:fI Z M H d v)(b:bD k d):fI Z (M.take k) H d v:=by cases d with|p x=>rwa[eG.mv (Mv.cut r k) q]|r i=>let(a,c,e):=q;exact(a,by rw[j8 (aO b)];rwa[c],e)
theorem cD.cut(r:bw Z M H h){k:Ń}:∀{ds:Ł Dv}{vs:ϕ},cD Z M H ds vs->io k ds->cD Z (M.take k) H ds vs|[],[],_,_=>Ť|[],_::_,q,_=>q|_::_,[],q,_=>q|_::_,_::_,q,b=>by simp only[io,aM]at b;exact(q.1.cut r b.1,cD.cut r q.2 b.2)
theorem bw.cut(r:bw Z M H h)(k:Ń)(b:bH k (h.take k)):bw Z (M.take k) H (h.take k):=by
 erw[(r.nd.sublist (List.take_sublist k M),λa g=>r.dj a (nO g),by rw[bX,bX,r.ln],r.gs,λi a o d c=>?_)];let f:=NH b o (aZ c);let j:i<k:=by let:=(aj.mp c).1;rw[bX]at this;lia
 rw[j8 j]at d c;let q:=r.ob i a o d c;cases o with|L x=>let(v,e,q):=q;exact(v,e,bh.mv (Mv.cut r k) q)|D x=>let(v,e,q):=q;exact(v,e,q.cut r f)|C K u=>let(B,e,q,Q):=q;exact(B,e,bh.mv (Mv.cut r k) q,bh.mv (Mv.cut r k) Q)|I C fs=>let(m,F,e,n,l,q):=q;exact(m,F,e,n,l,q.cut r f)
theorem Ja:∀{σ:Es}{i:Ń},(Ud k σ)[i]?=O (O d)->σ[i]?=O (O d)/\bD k d=J
 |[],i,e=>by done|q::r,0,e=>by simp only[Ud,List.getElem?_cons_zero,Option.some.injEq]at e;cases q with|n=>cases e|s q=>
   simp only[Į]at e;split at e;.grind
   .lia
 |q::r,i+1,e=>by simp only[Ud,ğ]at e⊢;rwa[Ja e]
theorem Jb(k:Ń):∀σ:Es,À (Ud k σ)=À σ|[]=>Ŗ|_::r=>by simp only[Ud,aq,Jb k r]
theorem dG.cut(q:dG Z M H σ τ)(r:bw Z M H h)(k:Ń):dG Z (M.take k) H (Ud k σ) τ:=((Jb k σ).trans q.ln,λi d a=>by let(b,c):=Ja a;let(v,e,q):=q.at' i d b;exact(v,e,q.cut r c))
theorem Ext.cut(e:Ext M H M' H')(a:À M<=k):Ext M H (M'.take k) H':=by let(l,rfl):=e.pre;exact((_,by rw[List.take_append,vT a]),e.keep,λb c n=>e.new b (nO c) n)
end
end F
namespace F
open L2
abbrev XP:=Ń->Hs->ß
abbrev KP:=Ł Dv->Hs->ß
abbrev Sm:=XP->Es->Hs->KP->ß
structure En where
 nx:Es->Hs->ß
 rt:Dv->Hs->ß
 bk:Es->Hs->ß
 ct:Es->Hs->ß
 xc:XP
abbrev Ss:=En->Es->Hs->ß
abbrev En.sq(N:En)(n:Ss):En:={N with nx:=λσ h=>n N σ h}
abbrev En.cu(N:En)(R:Es->Hs->ß):En:={N with nx:=R}
abbrev En.lp(N:En)(A B:Es->Hs->ß):En:={N with nx:=A,ct:=A,bk:=B}
structure Tb where
 hW:Ń->Ã
 ca:Ń->Á
 fl:Ń->ϐ
structure T0 where
 K:Æ
 mg:b1
 t:Tb
abbrev T0.z(Y:T0)(G:Ł Á):Tx:=(Y.K,Y.mg,Y.t.hW,Y.t.ca,Y.t.fl,G)
abbrev yx(t:Tb)(X:Cx):T0:=(X.K,X.mg,t)
section
variable(Z:Tx)
structure Kn(E:XK)(τ:Ç)(H:Hp)(QV:VK)(M:Ł Á)(σ:Es)(h:Hs)(xc:XP)(Q:KP):ß where
 rel:bw Z M H h
 env:dG Z M H σ τ
 out:∀d h' M' H' v,Ext M H M' H'->bw Z M' H' h'->fI Z M' H' d v->Q [d] h'->QV v H'
 exc:∀C h' M' H',Ext M H M' H'->bw Z M' H' h'->xc C h'->E (.ref (Z.ca C)) aa H'
structure KnA(E:XK)(τ:Ç)(H:Hp)(QV:ϕ->Hp->ß)(M:Ł Á)(σ:Es)(h:Hs)(xc:XP)(Q:KP):ß where
 rel:bw Z M H h
 env:dG Z M H σ τ
 out:∀d h' M' H' v,Ext M H M' H'->bw Z M' H' h'->cD Z M' H' d v->Q d h'->QV v H'
 exc:∀C h' M' H',Ext M H M' H'->bw Z M' H' h'->xc C h'->E (.ref (Z.ca C)) aa H'
structure ŷ(E:XK)(τ:Ç)(H:Hp)(QV:Þ->Hp->ß)(M:Ł Á)(σ:Es)(h:Hs)(xc:XP)(Q:KP):ß where
 rel:bw Z M H h
 env:dG Z M H σ τ
 out:∀d h' M' H',Ext M H M' H'->bw Z M' H' h'->Q [d] h'->∃b,d=.p (.B b)/\QV b H'
 exc:∀C h' M' H',Ext M H M' H'->bw Z M' H' h'->xc C h'->E (.ref (Z.ca C)) aa H'
structure ZR(E:XK)(τ:Ç)(H:Hp)(D:Ò)(M:Ł Á)(σ:Es)(h:Hs)(N:En):ß where
 rel:bw Z M H h
 env:dG Z M H σ τ
 nx:∀σ' h' M' H' τ',Ext M H M' H'->bw Z M' H' h'->dG Z M' H' σ' τ'->N.nx σ' h'->D.nx τ' H'
 rt:∀d h' M' H' v,Ext M H M' H'->bw Z M' H' h'->fI Z M' H' d v->N.rt d h'->D.rt v H'
 bk:∀σ' h' M' H' τ',Ext M H M' H'->bw Z M' H' h'->dG Z M' H' σ' τ'->N.bk σ' h'->D.bk τ' H'
 ct:∀σ' h' M' H' τ',Ext M H M' H'->bw Z M' H' h'->dG Z M' H' σ' τ'->N.ct σ' h'->D.ct τ' H'
 exc:∀C h' M' H',Ext M H M' H'->bw Z M' H' h'->N.xc C h'->E (.ref (Z.ca C)) aa H'
inductive cQ(Y:T0)(E:XK)(m:Sm)(τ:Ç)(H:Hp)(QV:VK):ß|mk(G M:Ł Á)(σ:Es)(h:Hs)(xc:XP)(Q:KP)(k:Kn (Y.z G) E τ H QV M σ h xc Q)(q:m xc σ h Q):cQ Y E m τ H QV
inductive ic(Y:T0)(E:XK)(m:Sm)(τ:Ç)(H:Hp)(QV:ϕ->Hp->ß):ß|mk(G M:Ł Á)(σ:Es)(h:Hs)(xc:XP)(Q:KP)(k:KnA (Y.z G) E τ H QV M σ h xc Q)(q:m xc σ h Q):ic Y E m τ H QV
inductive kP(Y:T0)(E:XK)(m:Sm)(τ:Ç)(H:Hp)(QV:Þ->Hp->ß):ß|mk(G M:Ł Á)(σ:Es)(h:Hs)(xc:XP)(Q:KP)(k:ŷ (Y.z G) E τ H QV M σ h xc Q)(q:m xc σ h Q):kP Y E m τ H QV
inductive gK(Y:T0)(E:XK)(m:Ss)(D:Ò)(τ:Ç)(H:Hp):ß|mk(G M:Ł Á)(σ:Es)(h:Hs)(N:En)(k:ZR (Y.z G) E τ H D M σ h N)(q:m N σ h):gK Y E m D τ H
end
section
variable{Z:Tx}{E:XK}{τ:Ç}{H H':Hp}{M M':Ł Á}{σ:Es}{h h':Hs}{xc:XP}{Q:KP}
def Kn.UJ(k:Kn Z E τ H b M σ h xc Q)(e:Ext M H M' H'):∀C a M1 H1,Ext M' H' M1 H1->bw Z M1 H1 a->xc C a->E (.ref (Z.ca C)) aa H1:=λC a M1 H1 x r q=>k.exc C a M1 H1 (e.trans x) r q
def Kn.on(k:Kn Z E τ H c M σ h xc Q)(e:Ext M H M' H')(r:bw Z M' H' h')(o:∀d b M1 a v,Ext M' H' M1 a->bw Z M1 a b->fI Z M1 a d v->Q' [d] b->q v a):Kn Z E τ H' q M' σ h' xc Q':=(r,k.env.ext k.rel e,o,k.UJ e)
def Kn.go(k:Kn Z E τ H q M σ h xc Q)(e:Ext M H M' H')(r:bw Z M' H' h'):Kn Z E τ H' q M' σ h' xc Q:=(r,k.env.ext k.rel e,λd a M1 b v x=>k.out d a M1 b v (e.trans x),k.UJ e)
end
def _root_.L2.PE.imp{X:Cx}{e:Å}{t t':TE}(h:PE X e t')(i:∀σ H Q,t σ H Q->t' σ H Q):PE X e t:=λp s σ H Q I q=>h _ s σ H Q I (i σ H Q q)
def _root_.L2.PT.imp{X:Cx}{e:Å}{t t':TT}(h:PT X e t')(i:∀σ H Q,t σ H Q->t' σ H Q):PT X e t:=λp s σ H Q I q=>h _ s σ H Q I (i σ H Q q)
def _root_.L2.PW.imp{X:Cx}{e:Å}{t t':TT}(h:PW X e t')(i:∀σ H Q,t σ H Q->t' σ H Q):PW X e t:=λw p s σ H Q I q=>h w _ s σ H Q I (i σ H Q q)
def _root_.L2.PA.imp{X:Cx}{e:Ł _}{t t':TA}(h:PA X e t')(i:∀σ H Q,t σ H Q->t' σ H Q):PA X e t:=λpos p s σ H Q I q=>h pos _ s σ H Q I (i σ H Q q)
def _root_.L2.PS.imp{X:Cx}{e:È}{t t':TS}(h:PS X e t')(i:∀D σ H,t D σ H->t' D σ H):PS X e t:=λp s σ H D I q=>h _ s σ H D I (i D σ H q)
def _root_.L2.ph.imp{X:Cx}{e:Ł _}{t t':TS}(h:ph X e t')(i:∀D σ H,t D σ H->t' D σ H):ph X e t:=λp s σ H D I q=>h _ s σ H D I (i D σ H q)
def gd(c:Þ)(A:ß):ß:=match c with|J=>A|af=>ŧ
def aB{c:Þ}(h:c)(a:A):gd c A:=by subst h;rwa[a]
def bG(h:gd c A):c/\A:=by cases c with|t=>exact(Ŗ,h)|f=>rwa[h.elim]
def br(c:Þ)(A B:ß):ß:=match c with|J=>A|af=>B
def bE{c:Þ}(a:c->A)(b:c=af->B):br c A B:=by cases c with|t=>rwa[a Ŗ]|f=>rwa[b Ŗ]
def eZ{α:Type}(o:Ő α)(A:α->ß)(B:ß):ß:=match o with|O x=>A x|aa=>B
def Cj(a:∀x,o=O x->A x)(b:o=aa->B):eZ o A B:=by cases o with|s x=>rwa[a x Ŗ]|n=>rwa[b Ŗ]
def bW{x:α}(e:o=O x)(a:A x):eZ o A B:=by subst e;rwa[a]
def de(h:eZ o A ŧ):∃x,o=O x/\A x:=by cases o with|s x=>exact(x,Ŗ,h)|n=>rwa[h.elim]
def vP:Ł Dv->Ő ϑ
 |[]=>O []|.p x::r=>match vP r with|O X=>O (x::X)|aa=>aa
 |.r _::_=>aa
abbrev O1:=Dv->Hs->(Dv->Hs->ß)->ß
abbrev O2:=Dv->Dv->Hs->(Dv->Hs->ß)->ß
abbrev ON:=Ł Dv->Hs->(Dv->Hs->ß)->ß
def sV(i:Ń):Sm:=λ_ σ h Q=>match σ[i]? with|O (O d)=>Q [d] h|_=>ŧ
def sC(x:Pv):Sm:=λ_ _ h Q=>Q [.p x] h
def s1(o:O1)(A:Sm):Sm:=λX σ h Q=>A X σ h λs H=>match s with|[x]=>o x H λd a=>Q [d] a|_=>ŧ
def s2(o:O2)(A B:Sm):Sm:=λX σ h Q=>A X σ h λs H=>match s with
 |[x]=>B X σ H λY a=>match Y with|[y]=>o x y a λd b=>Q [d] b|_=>ŧ
 |_=>ŧ
def sN(o:ON)(A:Sm):Sm:=λx σ h Q=>A x σ h λX H=>o X H λd a=>Q [d] a
def CB:Sm:=λ_ _ h Q=>Q [] h
def qU(A R:Sm):Sm:=λX σ h Q=>A X σ h λs H=>match s with|[x]=>R X σ H λy a=>Q (x::y) a|_=>ŧ
def mB(xs:Ł Dv)(k:Þ->ß):ß:=match xs with|[.p (.B b)]=>k b|_=>ŧ
def Mf(q:mB [d] k):∃b,d=.p (.B b)/\k b:=by cases d with|r _=>rwa[q.elim]|p x=>cases x<;>first|exact(_,Ŗ,q)|rwa[q.elim]
def Iu(A B:Sm):Sm:=λx σ h Q=>A x σ h λX H=>mB X λb=>br b (B x σ H λy a=>mB y λc=>Q [.p (.B c)] a) (Q [.p (.B af)] H)
def Rs(A B:Sm):Sm:=λx σ h Q=>A x σ h λX H=>mB X λb=>br b (Q [.p (.B J)] H) (B x σ H λy a=>mB y λc=>Q [.p (.B c)] a)
def al0(A:Sm):Sm:=λx σ h Q=>A x σ h λX H=>mB X λb=>Q [.p (.B !b)] H
def FM(T A B:Sm):Sm:=λx σ h Q=>T x σ h λX H=>mB X λb=>br b (A x σ H Q) (B x σ H Q)
def ZL(h:PE X e (Il i)):PE X e (cQ 'X' E (sV i)):=h.imp λτ H j z=>by
 let(G,M,σ,s,x,Q,k,q):=z;delta sV at q;split at q;.ext d c;let(v,f,g):=k.env.at' i d c;exact(v,f,k.out d s M H v Ext.refl k.rel g q)
 .left
def HE(h:PE X e (tC v))(c:∀G M H,eG ('X'.z G) M H x v):PE X e (cQ 'X' E (sC x)):=h.imp λτ H d Z=>by let(G,M,σ,s,f,Q,k,q):=Z;rwa[k.out (.p x) s M H v Ext.refl k.rel (c G M H) q]
def ZQ(Y:T0)(r:V->Hp->VK->ß)(o:O1):ß:=∀G M h H x v Q q,bw (Y.z G) M H h->fI (Y.z G) M H x v->o x h Q->(∀d f m c w,Ext M H m c->bw (Y.z G) m c f->fI (Y.z G) m c d w->Q d f->q w c)->r v H q
def jE(Y:T0)(r:R2)(o:O2):ß:=∀G M h H x y v u Q q,bw (Y.z G) M H h->fI (Y.z G) M H x v->fI (Y.z G) M H y u->o x y h Q->(∀d f m c w,Ext M H m c->bw (Y.z G) m c f->fI (Y.z G) m c d w->Q d f->q w c)->r v u H q
def v8(Y:T0)(r:ϕ->Hp->VK->ß)(o:ON):ß:=∀G M h H x v Q q,bw (Y.z G) M H h->cD (Y.z G) M H x v->o x h Q->(∀d f m c w,Ext M H m c->bw (Y.z G) m c f->fI (Y.z G) m c d w->Q d f->q w c)->r v H q
def agI(c:ZQ 'X' r o)(h:cQ 'X' E (s1 o A) τ H QV):AT r (cQ 'X' E A) τ H QV:=by let(G,M,σ,s,x,Q,k,q):=h;erw[(G,M,σ,s,x,_,(k.rel,k.env,λd f m g v e R i j=>?_,k.exc),q)];rwa[c G m f g d v _ _ R i j λd2 l n p w u y I z=>k.out d2 l n p w (e.trans u) y I z]
def qV(f:jE 'X' r o)(h:cQ 'X' E (s2 o A B) τ H QV):Zt r (cQ 'X' E A) (cQ 'X' E B) τ H QV:=by let(G,M,σ,s,x,Q,k,q):=h;erw[(G,M,σ,s,x,_,(k.rel,k.env,λd g m U v e R i j=>?_,k.exc),q)];erw[(G,m,σ,g,x,_,k.on e R λd2 l n p w c u I y=>?_,j)];rwa[f G n l p d d2 v w _ _ u (i.ext R c) I y λD C F K z L N P S=>k.out D C F K z (e.trans (c.trans L)) N P S]
def Ŝ(h:jz X (binaryOp p) r)(H:jE 'X' r o)(c:PE X a (cQ 'X' E A))(d:PE X b (cQ 'X' E B)):PE X (.BinOp a p b pos) (cQ 'X' E (s2 o A B)):=(afR h c d).imp λ_ _ _=>qV H
def Œ(h:Ys X (unaryOp p) r)(H:ZQ 'X' r o)(c:PE X a (cQ 'X' E A)):PE X (.UnaryOp p a pos) (cQ 'X' E (s1 o A)):=(Ű h c).imp λ_ _ _=>agI H
def aaZ(h:jz X (compareOp p) r)(H:jE 'X' r o)(c:PE X a (cQ 'X' E A))(d:PE X b (cQ 'X' E B))(m:dg p b=af):PE X (.Compare a [p] [b] pos) (cQ 'X' E (s2 o A B)):=(WJ h c d m).imp λ_ _ _=>qV H
def Fu(h:kP 'X' E m τ H f):cQ 'X' E m τ H λx H'=>∃k,x=.B k/\f k H':=by let(G,M,σ,s,g,Q,k,q):=h;erw[(G,M,σ,s,g,Q,(k.rel,k.env,λd j l H' v e r i n=>?_,k.exc),q)];let(c,rfl,o):=k.out d j l H' e r n;exact(c,i,o)
def W6(H:jz X (compareOp p) r)(c:jE 'X' r o)(d:PE X a (cQ 'X' E A))(f:PE X b (cQ 'X' E B))(m:dg p b=af):PT X (.Compare a [p] [b] pos) (kP 'X' E (s2 o A B)):=(xi H d f m).imp λ_ _ _ h=>qV c (Fu h)
def W7(h:PE X e (cQ 'X' E A))(H:∀qW,isTrue e X.env qW=do let v<-qW;standAt e.pos;dc [v] (truthy v)):PT X e (kP 'X' E A):=(QW h H).imp λ_ _ _ h=>Fu h
def RD(h:kP 'X' E (Iu A B) τ H QB):L5 (kP 'X' E A) (kP 'X' E B) τ H QB:=by let(G,M,σ,s,m,Q,k,q):=h;erw[(G,M,σ,s,m,_,(k.rel,k.env,λd n o p e R i=>?_,k.exc),q)];let(b,j,i):=Mf i;erw[(b,j,?_)];cases b with|f=>let(c,f,g):=k.out _ n o p e R i;injection f with f;injection f with f;subst f;rwa[g]|t=>erw[(G,o,σ,n,m,_,(R,k.env.ext k.rel e,λd2 g u v w y l=>?_,λC f M1 z x r q=>k.exc C f M1 z (e.trans x) r q),i)];let(c,j,l):=Mf l;let(D,f,g):=k.out _ g u v (e.trans w) y l;injection f with f;injection f with f;subst f;exact(c,j,g)
def XU(h:kP 'X' E (Rs A B) τ H QB):x0 (kP 'X' E A) (kP 'X' E B) τ H QB:=by let(G,M,σ,s,m,Q,k,q):=h;erw[(G,M,σ,s,m,_,(k.rel,k.env,λd n o p e R i=>?_,k.exc),q)];let(b,j,i):=Mf i;erw[(b,j,?_)];cases b with|t=>let(c,f,g):=k.out _ n o p e R i;injection f with f;injection f with f;subst f;rwa[g]|f=>erw[(G,o,σ,n,m,_,(R,k.env.ext k.rel e,λd2 g u v w y l=>?_,λC f M1 z x r q=>k.exc C f M1 z (e.trans x) r q),i)];let(c,j,l):=Mf l;let(D,f,g):=k.out _ g u v (e.trans w) y l;injection f with f;injection f with f;subst f;exact(c,j,g)
def RE(h:kP 'X' E (al0 A) τ H QB):Va (kP 'X' E A) τ H QB:=by let(G,M,σ,s,x,Q,k,q):=h;erw[(G,M,σ,s,x,_,(k.rel,k.env,λd i m j e r g=>?_,k.exc),q)];let(b,l,g):=Mf g;let(c,f,n):=k.out _ i m j e r g;injection f with f;injection f with f;subst f;exact(b,l,n)
def XW(h:cQ 'X' E (Iu A B) τ H QV):Zn (cQ 'X' E A) (cQ 'X' E B) τ H QV:=by let(G,M,σ,s,x,Q,k,q):=h;erw[(G,M,σ,s,x,_,(k.rel,k.env,λd l m n v e r i f=>?_,k.exc),q)];let(b,g,f):=Mf f;subst g;erw[(b,i,?_)];cases b with|f=>rwa[k.out _ l m n _ e r (by rfl) f]|t=>erw[(G,m,σ,l,x,_,k.on e r λd2 o p u w y R I j=>?_,f)];let(c,g,j):=Mf j;subst g;rwa[k.out _ o p u w (e.trans y) R I j]
def ŭ(h:cQ 'X' E (Rs A B) τ H QV):J' (cQ 'X' E A) (cQ 'X' E B) τ H QV:=by let(G,M,σ,s,x,Q,k,q):=h;erw[(G,M,σ,s,x,_,(k.rel,k.env,λd l m n v e r i f=>?_,k.exc),q)];let(b,g,f):=Mf f;subst g;erw[(b,i,?_)];cases b with|t=>rwa[k.out _ l m n _ e r (by rfl) f]|f=>erw[(G,m,σ,l,x,_,k.on e r λd2 o p u w y R I j=>?_,f)];let(c,g,j):=Mf j;subst g;rwa[k.out _ o p u w (e.trans y) R I j]
def XX(h:cQ 'X' E (FM T A B) τ H QV):Wp (kP 'X' E T) (cQ 'X' E A) (cQ 'X' E B) τ H QV:=by let(G,M,σ,s,x,Q,k,q):=h;erw[(G,M,σ,s,x,_,(k.rel,k.env,λd g m j e r f=>?_,k.exc),q)];let(b,i,f):=Mf f;erw[(b,i,?_)];cases b with|t=>exact(G,m,σ,g,x,_,k.go e r,f)|f=>exact(G,m,σ,g,x,_,k.go e r,f)
def aa2(h:PT X c (kP 'X' E T))(H:PE X a (cQ 'X' E A))(d:PE X b (cQ 'X' E B)):PE X (.IfExp c a b pos) (cQ 'X' E (FM T A B)):=(Qp h H d).imp λ_ _ _=>XX
def WT:PA X [] (ic 'X' E CB):=fw.imp λτ H d (G,M,σ,h,x,Q,k,q)=>k.out [] h M H [] Ext.refl k.rel Ť q
def Qz(h:PE X a (cQ 'X' E A))(j:PA X a7 (ic 'X' E B))(p:cA a):PA X (a::a7) (ic 'X' E (qU A B)):=(o8 h j p).imp λτ H L z=>by let(G,M,σ,s,f,Q,k,q):=z;exact(G,M,σ,s,f,_,(k.rel,k.env,λd l m N v e R i n=>(G,m,σ,l,f,_,(R,k.env.ext k.rel e,λds o u w W g y I D=>k.out (d::ds) o u w _ (e.trans g) y (i.ext R g,I) D,λC F M1 K x r q=>k.exc C F M1 K (e.trans x) r q),n),k.exc),q)
def Zs(f:v8 'X' r o)(h:cQ 'X' E (sN o A) τ H QV):ic 'X' E A τ H λvs g=>r vs g QV:=by let(G,M,σ,s,x,Q,k,q):=h;exact(G,M,σ,s,x,_,(k.rel,k.env,λd j m l v e R i n=>f G m j l d v _ _ R i n λd2 p u y w z C I D=>k.out d2 p u y w (e.trans z) C I D,k.exc),q)
def Qw{id:String}(h:dW X (.builtin id) r)(H:v8 'X' r o)(g:Gl X x)(m:X.mg x=aa)(v:b' x=O (.builtin id))(d:PA X (a::a7) (ic 'X' E A))(hn:x≠"__name__")(k:(x=="__debug__")=af)(F:(a::a7).all cA):PE X (.Call (.Name x p) (a::a7) [] pos) (cQ 'X' E (sN o A)):=(J3 h g m v d hn k F).imp λ_ _ _=>Zs H
def AS{id:String}(h:dW X (.type id) r)(H:v8 'X' r o)(g:Gl X x)(m:X.mg x=aa)(v:b' x=O (.type id))(d:PA X (a::a7) (ic 'X' E A))(hn:x≠"__name__")(k:(x=="__debug__")=af)(F:(a::a7).all cA):PE X (.Call (.Name x p) (a::a7) [] pos) (cQ 'X' E (sN o A)):=(Y3 h g m v d hn k F).imp λ_ _ _=>Zs H
abbrev Ct:=Ł Dv->Hs->(Dv->Hs->ß)->XP->ß
inductive jy(Y:T0)(C:Ct)(vs:ϕ)(H:Hp)(QV:VK)(EV:XK):ß|mk(G M:Ł Á)(h:Hs)(ds:Ł Dv)(Q:Dv->Hs->ß)(xc:XP)(r:bw (Y.z G) M H h)(i:cD (Y.z G) M H ds vs)(c:C ds h Q xc)(out:∀d h' M' H' v,Ext M H M' H'->bw (Y.z G) M' H' h'->fI (Y.z G) M' H' d v->Q d h'->QV v H')(exc:∀c h' M' H',Ext M H M' H'->bw (Y.z G) M' H' h'->xc c h'->EV (.ref (Y.t.ca c)) aa H'):jy Y C vs H QV EV
def jX(i:Ń):Ϙ->Þ|[]=>af|j::r=>Ë i j||jX i r
def lX:Ϙ->Þ|[]=>J|i::r=>!jX i r&&lX r
def VH(i:Ń):Ϙ->Ń|[]=>0|j::r=>match Ë i j with|J=>0|af=>VH i r+1
def ħ(ρ:Ϙ):Dv->Þ|.p _=>J|.r i=>jX i ρ
def LZ(ρ:Ϙ):Ł Dv->Þ|[]=>J|d::r=>ħ ρ d&&LZ ρ r
def zn(ρ:Ϙ):Ob->Þ|.L _=>J|.D ds=>LZ ρ ds|.C _ _=>J|.I _ fs=>LZ ρ fs
def j0(ρ:Ϙ):Dv->Dv|.p x=>.p x|.r i=>.r (VH i ρ)
def H4(ρ:Ϙ):Ob->Ob|.L x=>.L x|.D ds=>.D (ds.map (j0 ρ))|.C k v=>.C k v|.I C fs=>.I C (fs.map (j0 ρ))
def lh(ρ:Ϙ)(h:Hs):Ϙ->Ő Hs|[]=>O []|i::r=>match h[i]? with|aa=>aa|O o=>match zn ρ o with|af=>aa|J=>match lh ρ h r with|aa=>aa|O l=>O (H4 ρ o::l)
def Yt(ρ:Ϙ)(n:Ń):Dv->Dv|.p x=>.p x|.r k=>match ρ[k]? with|O i=>.r i|aa=>.r (n+(k-À ρ))
def IJ(ρ:Ϙ)(n:Ń):Ob->Ob|.L x=>.L x|.D ds=>.D (ds.map (Yt ρ n))|.C k v=>.C k v|.I C fs=>.I C (fs.map (Yt ρ n))
def V8(ρ:Ϙ)(n:Ń):Ϙ->Hs->Hs->Hs|[],[],h=>h|[],o::os,h=>h++(o::os).map (IJ ρ n)|_::_,[],h=>h|i::r,o::os,h=>V8 ρ n r os (h.set i (IJ ρ n o))
def vb(ρ:Ϙ)(C:Ct):Ct:=λds h Q x=>gd (lX ρ&&LZ ρ ds) (match lh ρ h ρ with|aa=>ŧ|O l=>C (ds.map (j0 ρ)) l (λd L=>Q (Yt ρ (À h) d) (V8 ρ (À h) ρ L h)) λc L=>x c (V8 ρ (À h) ρ L h))
theorem cN:∀{l:Ϙ},jX i l=J↔i∈l|[]=>by simp[jX]|j::r=>by simp only[jX,bF,aJ,cN,jx]
theorem JO:∀{l:Ϙ},lX l=J->l.Nodup|[],_=>jv|i::r,h=>by simp only[lX,aM,Bool.not_eq_true']at h;erw[cO.mpr (λz=>?_,JO h.2)];rw[cN.mpr z]at h;cases h.1
theorem JI:∀{l:Ϙ},i∈l->l[VH i l]?=O i
 |[],h=>by grind|j::r,h=>by
  delta VH;split;.ext e;rw[aP e];rfl
  .rwa[JI ((aJ.mp h).resolve_left λz=>nofun)]
section
variable{Y:T0}{G M M':Ł Á}{H H':Hp}{h l l':Hs}{ρ:Ϙ}
def mL(ρ:Ϙ)(M:Ł Á):Ł Á:=ρ.filterMap λi=>M[i]?
theorem Pk:∀{ρ:Ϙ}{l:Hs},lh c h ρ=O l->À l=À ρ/\∀(k:Ń)i,ρ[k]?=O i->∃o,h[i]?=O o/\zn c o/\l[k]?=O (H4 c o)
 |[],l,e=>by cases e;exact(Ŗ,λk i h=>by grind)|i::r,l,e=>by
  delta lh at e;split at e;.lia
  .split at e;.lia
   .split at e;.lia
    .ext l1 d;cases e;let(a,b):=Pk d;erw[(by grind,λk j f=>?_)];cases k with|z=>grind|v k=>rwa[b k j f]
def yq(f:∀i∈ρ,i<À M):À (mL ρ M)=À ρ/\∀(k:Ń),(mL ρ M)[k]?=ρ[k]?.bind λi=>M[i]?:=by induction ρ with|i=>exact(Ŗ,λk=>Ŗ)|k i r I=>
  let(a,b):=I λj c=>f j (ak _ c);let e:M[i]?=O (M[i]'(f i ao)):=aE _;let E:mL (i::r) M=M[i]'(f i ao)::mL r M:=by delta mL;rw[jR,e]
  rw[E];erw[(nofun,λk=>?_)];cases k with|z=>rwa[e.symm]|v k=>left
def Ca(h:a∈mL ρ M):a∈M:=by let(i,_,e):=qC.mp h;rwa[aZ e]
def aff(e:M.Nodup)(a:ρ.Nodup):(mL ρ M).Nodup:=by erw[List.Pairwise.filterMap _ ?_ a];intro i j d b f c g z;subst z;erw[d ?_];let(l1,E):=aj.mp f;let(l2,k):=aj.mp g;exact(jB e).mp (E.trans k.symm)
mutual
theorem eG.fr{G' M':Ł Á}(n:∀a,a∈M'\/a∈G'->a∈M\/a∈G\/H a=aa):∀{x:Pv}{v:V},eG (Y.z G) M H x v->eG (Y.z G') M' H x v
 |.N,_,h=>h|.B _,_,h=>h|.I _,_,h=>h|.S _,_,h=>h|.fn _,_,h=>h|.ty _,_,h=>h|.T xs,_,h=>by let(a,vs,e,s,q):=h;exact(a,vs,e,s,bh.fr n q)|.L xs,_,h=>by
  let(a,vs,e,k,s,q):=h;let z:∀z,(a∈M'\/a∈G')=z->¬z:=λ_ e z=>by subst e;rcases n a z with z|z|z;rwa[k.1 z];rwa[k.2 z];rw[z]at s;cases s
  exact(a,vs,e,(λy=>z _ Ŗ (.inl y),λy=>z _ Ŗ (.inr y)),s,bh.fr n q)|.scr xs,_,h=>by
  let(a,vs,e,s,q):=h;rcases s with ⟨k,s⟩|s
  .let z:∀z,(a∈M'\/a∈G')=z->¬z:=λ_ e z=>by subst e;rcases n a z with z|z|z;rwa[k.1 z];rwa[k.2 z];rcases s with s|⟨_,s⟩<;>rw[z]at s<;>cases s
   exact(a,vs,e,.inl ((λy=>z _ Ŗ (.inl y),λy=>z _ Ŗ (.inr y)),s),bh.fr n q)
  .exact(a,vs,e,.inr s,bh.fr n q)|.dct ks us,_,h=>by
  let(a,b,e,k,s,q,Q):=h;let z:∀z,(a∈M'\/a∈G')=z->¬z:=λ_ e z=>by subst e;rcases n a z with z|z|z;rwa[k.1 z];rwa[k.2 z];rw[z]at s;cases s
  exact(a,b,e,(λy=>z _ Ŗ (.inl y),λy=>z _ Ŗ (.inr y)),s,bh.fr n q,bh.fr n Q)|.obj C fs,_,h=>by
  let(a,d,f,e,k,s,l,q):=h;let z:∀z,(a∈M'\/a∈G')=z->¬z:=λ_ e z=>by subst e;rcases n a z with z|z|z;rwa[k.1 z];rwa[k.2 z];rw[z]at s;cases s
  exact(a,d,f,e,(λy=>z _ Ŗ (.inl y),λy=>z _ Ŗ (.inr y)),s,l,bh.fr n q)theorem bh.fr{G' M':Ł Á}(n:∀a,a∈M'\/a∈G'->a∈M\/a∈G\/H a=aa):∀{xs:ϑ}{vs:ϕ},bh (Y.z G) M H xs vs->bh (Y.z G') M' H xs vs|[],[],h=>Ť|[],_::_,h=>h|_::_,[],h=>h|x::xs,v::vs,h=>by exact(eG.fr n h.1,bh.fr n h.2)end
theorem eG.up(n:∀a,a∉M'->a∉G'->a∉M/\a∉G)(h:eG (Y.z G') M' H x v):eG (Y.z G) M H x v:=eG.fr (λa b=>by
 by_cases z:a∈M';.rwa[.inl z]
 .by_cases y:a∈G';.rwa[.inr (.inl y)]
  .let(p,q):=n a z y;exact(b.elim p q).elim) h
theorem bh.up(n:∀a,a∉M'->a∉G'->a∉M/\a∉G)(h:bh (Y.z G') M' H x v):bh (Y.z G) M H x v:=bh.fr (λa b=>by
 by_cases z:a∈M';.rwa[.inl z]
 .by_cases y:a∈G';.rwa[.inr (.inl y)]
  .let(p,q):=n a z y;exact(b.elim p q).elim) h
def gL(ρ:Ϙ)(M G:Ł Á):Ł Á:=G++M.filter λa=>!(mL ρ M).contains a
theorem rA:a∈gL ρ M G↔a∈G\/a∈M/\a∉mL ρ M:=by delta gL;simp
theorem Js:∀a,a∈mL ρ M\/a∈gL ρ M G->a∈M\/a∈G\/H a=none:=λa h=>h.elim (λz=>.inl (Ca z)) λz=>(rA.mp z).elim (λz=>.inr (.inl z)) λz=>.inl z.1
theorem fI.dn(f:∀i∈ρ,i<À M)(b:ħ ρ d)(q:fI (Y.z G) M H d v):fI (Y.z (gL ρ M G)) (mL ρ M) H (j0 ρ d) v:=by cases d with|p x=>rwa[eG.fr Js q]|r i=>let(a,c,e):=q;erw[(a,?_,e)];rw[(yq f).2,JI (cN.mp b)];rwa[c]
theorem cD.dn(f:∀i∈ρ,i<À M):∀{ds:Ł Dv}{vs:ϕ},LZ ρ ds=J->cD (Y.z G) M H ds vs->cD (Y.z (gL ρ M G)) (mL ρ M) H (ds.map (j0 ρ)) vs|[],[],_,_=>Ť|[],_::_,_,q=>q|_::_,[],_,q=>q|_::_,_::_,hd,q=>by simp only[LZ,aM]at hd;exact(q.1.dn f hd.1,cD.dn f hd.2 q.2)
theorem bw.dn(r:bw (Y.z G) M H h)(g:ρ.Nodup)(e:lh ρ h ρ=O l):bw (Y.z (gL ρ M G)) (mL ρ M) H l/\∀i∈ρ,i<À M:=by
 let(x,s):=Pk e;let f:∀i∈ρ,i<À M:=λi d=>by let(k,e):=zB d;let(o,j,_):=s k i e;rw[r.ln];exact(aj.mp j).1
 erw[((aff r.nd g,λa t z=>(rA.mp z).elim (r.dj a (Ca t)) λz=>z.2 t,by rw[(yq f).1,x],λb y=>?_,λk a o m u=>?_),f)]
 .rcases rA.mp y with z|z;.rwa[r.gs b z]
  .let(o,e,_):=r.there z.1;exact(o,e)
 .rw[(yq f).2]at m;cases d:ρ[k]? with|n=>left|s i=>rw[d]at m;let(w,j,c,p):=s k i d;rw[p]at u;cases u;let q:=r.ob i a w m j;cases w with|L X=>let(v,e,q):=q;exact(v,e,bh.fr Js q)|D X=>let(v,e,q):=q;exact(v,e,q.dn f c)|C K U=>let(B,e,q,Q):=q;exact(B,e,bh.fr Js q,bh.fr Js Q)|I C fs=>let(A,F,e,n,E,q):=q;exact(A,F,e,n,by rw[ai];rwa[E],q.dn f c)
theorem KQ:∀a,a∉mL ρ M++L->a∉gL ρ M G->a∉M++L/\a∉G:=λa b c=>(λz=>(bt.mp z).elim (λz=>c (rA.mpr (.inr (z,λy=>b (cx _ y))))) λz=>b (aS _ z),λz=>c (rA.mpr (.inl z)))
theorem fI.up(f:∀i∈ρ,i<À M)(q:fI (Y.z (gL ρ M G)) (mL ρ M++L) H d v):fI (Y.z G) (M++L) H (Yt ρ (À M) d) v:=by cases d with|p x=>rwa[eG.up KQ q]|r k=>
  let(a,b,c):=q;let ml:=yq f;let e:Yt ρ (À M) (.r k)=match ρ[k]? with|O i=>.r i|aa=>.r _:=Ŗ;rw[e];by_cases j:k<À ρ;.rw[aY nofun,ml.2]at b;cases g:ρ[k]? with|n=>left|s i=>rw[g]at b;exact(a,by rw[aY (aj.mp b).1];rwa[b],c)
  .rw[aK (by rw[ml.1];lia),ml.1]at b;rw[Tk ()];erw[(a,?_,c)];rw[aK (),show(À M)+(k-À ρ)-À M=k-À ρ by lia];rwa[b]
theorem cD.up(f:∀i∈ρ,i<À M):∀{ds:Ł Dv}{vs:ϕ},cD (Y.z (gL ρ M G)) (mL ρ M++L) H ds vs->cD (Y.z G) (M++L) H (ds.map (Yt ρ (À M))) vs|[],[],_=>Ť|[],_::_,q=>q|_::_,[],q=>q|_::_,_::_,q=>(q.1.up f,cD.up f q.2)
theorem zk.up(f:∀i∈ρ,i<À M)(q:zk (Y.z (gL ρ M G)) (mL ρ M++L) H a o):zk (Y.z G) (M++L) H a (IJ ρ (À M) o):=by cases o with|L x=>let(v,e,q):=q;exact(v,e,bh.up KQ q)|D x=>let(v,e,q):=q;exact(v,e,q.up f)|C k u=>let(b,e,q,Q):=q;exact(b,e,bh.up KQ q,bh.up KQ Q)|I C fs=>let(d,F,e,n,c,q):=q;exact(d,F,e,n,by rw[ai];rwa[c],q.up f)
theorem V9{ρ:Ϙ}:∀{os h:Hs},ρ.Nodup->À ρ<=À os->(∀i∈ρ,i<À h)->À (V8 c n ρ os h)=À h+(À os-À ρ)/\∀(j:Ń)o,(V8 c n ρ os h)[j]?=O o->(∃(k:Ń)(o':Ob),ρ[k]?=O j/\os[k]?=O o'/\o=IJ c n o')\/j∉ρ/\h[j]?=O o\/∃o':Ob,À h<=j/\os[À ρ+(j-À h)]?=O o'/\o=IJ c n o':=by induction ρ with
 |i=>
  intro os h _ _ _;let s:V8 c n [] os h=h++os.map (IJ c n):=by cases os with|i=>rw[List.map_nil,aQ];rfl|k _ _=>rfl
  rw[s];erw[(by rw[ah,ai];rfl,λj o e=>?_)];by_cases f:j<À h;.rw[aY f]at e;rwa[.inr (.inl (K9,e))]
  .rw[aK (),bP]at e;cases q:os[j-À h]? with|n=>rw[q]at e;cases e|s o'=>rw[q]at e;cases e;rwa[.inr (.inr (o',(),by rw[eO,Nat.zero_add];rwa[q],Ŗ))]
 |k i r I=>intro os h hn p F;cases os with|i=>exact(Nat.not_succ_le_zero _ p).elim|k o1 os=>
   rw[cO]at hn;let(a,b):=I (os:=os) (h:=h.set i (IJ c n o1)) hn.2 (YP p) (λj f=>by rw[bT];rwa[F j (ak _ f)]);rw[bT]at a b;erw[(a.trans (by rw[aq,aq,Nat.add_sub_add_right]),λj o e=>?_)];rcases b j o e with ⟨k,o',g,d,m⟩|⟨g,d⟩|⟨o',g,d,m⟩;.rwa[.inl (k+1,o',g,d,m)]
   .by_cases f:i=j;.subst f;rw[cL (F i ao)]at d;cases d;rwa[.inl (0,o1,Ŗ,Ŗ,Ŗ)]
    .rw[aA f]at d;rwa[.inr (.inl (λz=>(aJ.mp z).elim (λz=>f z.symm) g,d))]
   .rwa[.inr (.inr (o',g,by rw[aq,Nat.add_right_comm];rwa[d],m))]
theorem bw.up(r:bw (Y.z G) M H h)(p:ρ.Nodup)(f:∀i∈ρ,i<À M)(e:Ext (mL ρ M) H (mL ρ M++L) H')(r':bw (Y.z (gL ρ M G)) (mL ρ M++L) H' l'):Ext M H (M++L) H'/\bw (Y.z G) (M++L) H' (V8 ρ (À M) ρ l' h):=by
 let ml:=yq f;let q:À (mL ρ M++L)=À l':=r'.ln;rw[ah,ml.1]at q;let ex:Ext M H (M++L) H':=by
  erw[((L,Ŗ),λb o n s=>e.keep b o (λz=>n (Ca z)) s,λb s n=>?_)];rcases bt.mp s with z|z;.rwa[Ă z n]
  .rwa[e.new b (aS _ z) λz=>n (Ca z)]
 let N:=λa w B=>by
  by_cases z:a∈mL ρ M;.exact(f7.mp r'.nd).2.2 a z a w Ŗ
  .let h1:=e.new a (aS _ w) z;let(o,m,_):=r.there B;rw[h1]at m;cases m
 let(a,b):=V9 (os:=l') p () (λi t=>by rw[<-r.ln];rwa[f i t]);erw[(ex,(f7.mpr (r.nd,(f7.mp r'.nd).2.1,λx g y C z=>N y C (z▸g)),λx g=>(bt.mp g).elim (r.dj x) λy z=>r'.dj x (aS _ y) (rA.mpr (.inl z)),by rw[a,ah,<-r.ln];lia,λx g=>r'.gs x (rA.mpr (.inl g)),λj c o h1 m=>?_))];rcases b j o m with ⟨k,v,K,d,rfl⟩|⟨K,d⟩|⟨v,K,d,rfl⟩;.rw[aY (f j (aZ K))]at h1;exact(r'.ob k c v (by rw[aY (by rw[ml.1];exact(aj.mp K).1),ml.2,K];rwa[h1]) d).up f
 .let D:j<À M:=by rw[r.ln];exact(aj.mp d).1
  rw[aY D]at h1;rwa[zk.mv (ex.mv r) (λ_ _=>ex.at) (λu hu=>e.keep c u (λz=>by let(i,t,E):=qC.mp z;let(l1,F):=aj.mp h1;let(l2,E):=aj.mp E;let:=(jB r.nd).mp (F.trans E.symm);rwa[K (this▸t)]) hu) (λI A=>ex.keep I _ (r.no A Ŗ) A) (r.ob j c o h1 d)]
 .rw[aK (by rw[r.ln];rwa[K])]at h1;erw[(r'.ob _ c v ?_ d).up f];rw[aK nofun,ml.1,show(À ρ)+(j-À h)-À ρ=j-À M by rw[r.ln];lia];rwa[h1]
end
def AZ(r:bw (Y.z G) M H h)(i:cD (Y.z G) M H ds vs)(q:vb ρ C ds h Q x)(out:∀d a M' H' v,Ext M H M' H'->bw (Y.z G) M' H' a->fI (Y.z G) M' H' d v->Q d a->m v H')(E:∀c a M' H',Ext M H M' H'->bw (Y.z G) M' H' a->x c a->EV (.ref (Y.t.ca c)) aa H'):jy Y C vs H m EV:=by
 let(c,q):=bG q;rw[aM]at c;let b:=JO c.1;split at q;.left
 .ext l n;let(o,f):=r.dn b n;erw[(_,_,l,_,_,_,o,i.dn f c.2,q,λd a M' H' v e g I j=>?_,λc a M' H' e g j=>?_)];.let(L,rfl):=e.pre;let(k,R):=r.up b f e g;rw[r.ln]at R;let i2:=I.up f;rw[r.ln]at i2;rwa[out _ _ _ _ v k R i2 j]
  .let(L,rfl):=e.pre;let(k,R):=r.up b f e g;rw[r.ln]at R;rwa[E _ _ _ _ k R j]
def Ra(ρ:Ϙ)(C:Ct)(A:Sm):Sm:=λx σ h Q=>A x σ h λds H=>vb ρ C ds H (λd a=>Q [d] a) x
def Rx(h:cQ 'X' E (Ra ρ C A) τ H n):ic 'X' E A τ H λvs o=>jy 'X' C vs o n E:=by let(G,M,σ,s,u,Q,k,q):=h;exact(G,M,σ,s,u,_,(k.rel,k.env,λd z D F v e R i y=>AZ R i y (λd2 f m g w j r I l=>k.out d2 f m g w (e.trans j) r I l) λc f m g j r l=>k.exc c f m g (e.trans j) r l,k.exc),q)
def WQ(D:qY X.prog X.w X.K X.mg X.base k x ps (jy 'X' C))(h:eE k X.A)(H:eX (rX X.prog X.w) X E)(g:Gl X x)(d:PA X (a::a7) (ic 'X' E A))(f:(x=="__debug__")=af)(F:(a::a7).all cA):PE X (.Call (.Name x p) (a::a7) [] pos) (cQ 'X' E (Ra ρ C A)):=(xf D h H g d f F).imp λ_ _ _=>Rx
def lv:Ss:=λN σ h=>N.nx σ h
def Xs(m n:Ss):Ss:=λN σ h=>m (N.sq n) σ h
def ϸ(m n:Ss):Ss:=λN σ h=>∃R:Es->Hs->ß,m (N.cu R) σ h/\∀a H,R a H->n N a H
def At:Ss:=λN σ h=>N.ct σ h
def sEx(A:Sm):Ss:=λN σ h=>A N.xc σ h λ_ H=>N.nx σ H
def Xr(A:Sm):Ss:=λN σ h=>A N.xc σ h λx H=>match x with|[d]=>N.rt d H|_=>ŧ
def oe(T:Sm)(m n:Ss):Ss:=λN σ h=>T N.xc σ h λx H=>mB x λb=>br b (m N σ H) (n N σ H)
def Rf(i:Ń)(A:Sm):Ss:=λN σ h=>A N.xc σ h λx H=>match x with|[d]=>N.nx (σ.set i (O d)) H|_=>ŧ
def vc:Ϙ->ϑ->Es->Ő Es|[],[],σ=>O σ|i::I,x::X,σ=>vc I X (σ.set i (O (.p x)))|_,_,_=>aa
def al2(is:Ϙ)(A:Sm):Ss:=λN σ h=>A N.xc σ h λx H=>match x with
 |[.p (.T y)]=>match vc is y σ with|O a=>N.nx a H|aa=>ŧ
 |_=>ŧ
def abF(C:Ń)(A:Sm):Ss:=λN σ h=>A N.xc σ h λ_ H=>N.xc C H
def ZR.UJ{Z:Tx}{τ:Ç}{H H':Hp}{D:Ò}{M M':Ł _}{σ:Es}{h:Hs}{N:En}(k:ZR Z E τ H D M σ h N)(e:Ext M H M' H'):∀C d M1 H1,Ext M' H' M1 H1->bw Z M1 H1 d->N.xc C d->E (.ref (Z.ca C)) aa H1:=λC d M1 H1 x r q=>k.exc C d M1 H1 (e.trans x) r q
def ZR.go{Z:Tx}{τ d:Ç}{H H':Hp}{D:Ò}{M M':Ł _}{σ σ':Es}{h f:Hs}{N:En}(k:ZR Z E τ H D M σ h N)(e:Ext M H M' H')(r:bw Z M' H' f)(v:dG Z M' H' σ' d):ZR Z E d H' D M' σ' f N:=(r,v,λ_ _ _ _ _ x=>k.nx _ _ _ _ _ (e.trans x),λ_ _ _ _ _ x=>k.rt _ _ _ _ _ (e.trans x),λ_ _ _ _ _ x=>k.bk _ _ _ _ _ (e.trans x),λ_ _ _ _ _ x=>k.ct _ _ _ _ _ (e.trans x),k.UJ e)
def WZ:ph X [] (gK 'X' E lv):=Cu.imp λD τ H (G,M,σ,h,N,k,q)=>k.nx σ h M H τ Ext.refl k.rel k.env q
def Rl(h:gK 'X' E (Xs m n) D τ H):wv (gK 'X' E m) (gK 'X' E n) D τ H:=by let(G,M,σ,h,N,k,q):=h;exact(G,M,σ,h,N.sq n,(k.rel,k.env,λd f g j i e r v q=>(G,g,d,f,N,k.go e r v,q),k.rt,k.bk,k.ct,k.exc),q)
def QD{st:È}(h:PS X st (gK 'X' E m))(H:ph X a7 (gK 'X' E n)):ph X (st::a7) (gK 'X' E (Xs m n)):=(jk h H).imp λ_ _ _=>Rl
def WY{st:È}(f:PS X st (gK 'X' E m))(g:ph X a7 (gK 'X' E n)):ph X (st::a7) (gK 'X' E (ϸ m n)):=(jk f g).imp λD τ H z=>by let(G,M,σ,h,N,k,R,q,i):=z;exact(G,M,σ,h,N.cu R,(k.rel,k.env,λd j l s o e r v q=>(G,l,d,j,N,k.go e r v,i _ _ q),k.rt,k.bk,k.ct,k.exc),q)
def W0{st:È}(h:PS X st (gK 'X' E m)):ph X [st] (gK 'X' E m):=g8 h
def ť:PS X (.Continue pos) (gK 'X' E At):=EW.imp λD τ H (G,M,σ,h,N,k,q)=>k.ct σ h M H τ Ext.refl k.rel k.env q
def ţ(f:PE X e (cQ 'X' E A))(s:el e aa pos.line X.env=pure af):PS X (.Expr e pos) (gK 'X' E (sEx A)):=(xh f s).imp λD τ H (G,M,σ,h,N,k,q)=>(G,M,σ,h,_,_,(k.rel,k.env,λd g j l v e r i q=>k.nx σ g j l τ e r (k.env.ext k.rel e) q,k.exc),q)
def W3(f:PE X e (cQ 'X' E A)):PS X (.Return (O e) pos) (gK 'X' E (Xr A)):=(oA f).imp λD τ H (G,M,σ,h,N,k,q)=>(G,M,σ,h,_,_,(k.rel,k.env,λd g j l v e r i q=>k.rt d g j l v e r i q,k.exc),q)
def abd(i:PT X c (kP 'X' E T))(j:ph X sa (gK 'X' E m))(l:ph X sb (gK 'X' E n)):PS X (.If c sa sb pos) (gK 'X' E (oe T m n)):=(QP i j l).imp λD τ H z=>by let(G,M,σ,h,N,k,q):=z;erw[(G,M,σ,h,_,_,(k.rel,k.env,λd f g s e r Q=>?_,k.exc),q)];let(b,o,Q):=Mf Q;erw[(b,o,?_)];cases b with|t=>exact(G,g,σ,f,N,k.go e r (k.env.ext k.rel e),Q)|f=>exact(G,g,σ,f,N,k.go e r (k.env.ext k.rel e),Q)
def W4{st:È}(s:∀f,PE X e f->PS X st (Fo f (oQ i)))(g:PE X e (cQ 'X' E A)):PS X st (gK 'X' E (Rf i A)):=(s _ g).imp λD τ H z=>by let(G,M,σ,h,N,k,q):=z;exact(G,M,σ,h,_,_,(k.rel,k.env,λd j l o v e r i q=>k.nx _ j l o _ e r ((k.env.ext k.rel e).set i) q,k.exc),q)
def Ox:Ϙ->Yr|[]=>YB|i::I=>YC (oQ i) (Ox I)
theorem F7:∀{is:Ϙ}{ys:ϑ}{vs:ϕ}{σ σ':Es}{τ:Ç},vc is ys σ=O σ'->bh Z M H ys vs->dG Z M H σ τ->(∀d,dG Z M H σ' d->R d H)->Ox is vs τ H R|[],[],[],σ,σ',τ,e,_,v,q=>by cases e;exact(Ŗ,q τ v)|[],[],_::_,_,_,_,_,h,_,_=>by done|[],_::_,_,_,_,_,e,_,_,_=>by cases e|_::_,[],_,_,_,_,e,_,_,_=>by cases e|_::_,_::_,[],_,_,_,_,h,_,_=>by done|i::is,y::ys,w::vs,σ,σ',τ,e,h,v,q=>by exact(w,vs,Ŗ,F7 e h.2 (v.set h.1) q)
theorem bh.len:∀{ys:ϑ}{vs:ϕ},bh Z M H ys vs->À ys=À vs|[],[],_=>Ŗ|[],_::_,h=>by done|_::_,[],h=>by done|_::_,_::_,h=>by rw[aq,aq,bh.len h.2]
theorem rP:∀{is:Ϙ}{ys:ϑ}{σ σ':Es},vc is ys σ=O σ'->À ys=À is|[],[],_,_,_=>Ŗ|[],_::_,_,_,e=>by cases e|_::_,[],_,_,e=>by cases e|_::is,_::ys,_,_,e=>by rw[aq,aq,rP (is:=is) e]
def W5{st:È}(u:∀o,PE X e o->PS X st (Fo o (T_ X.K (À is) (Ox is))))(w:PE X e (cQ 'X' E A)):PS X st (gK 'X' E (al2 is A)):=(u _ w).imp λD τ H z=>by
 let(G,M,σ,h,N,k,q):=z;erw[(G,M,σ,h,_,_,(k.rel,k.env,λd x y C v e r i q=>?_,k.exc),q)];split at q
 .ext Y g;injection g with g;subst g;split at q;.ext j f;let(a,F,rfl,s,i):=i;exact(a,F,Ŗ,s,by rw[<-i.len];rwa[rP f],F7 f i (k.env.ext k.rel e) λl v=>k.nx j x y C l e r v q)
  .left
 .left
def MC{st:È}(s:∀f,PE X e f->PS X st (RH E (t.ca C) f))(g:PE X e (cQ 'X' E A)):PS X st (gK 'X' E (abF C A)):=(s _ g).imp λD τ H z=>by let(G,M,σ,h,N,k,q):=z;exact(G,M,σ,h,_,_,(k.rel,k.env,λd j l o v e r i q=>k.exc C j l o e r q,k.exc),q)
abbrev Im:=XP->Es->Hs->(ϑ->Hs->ß)->ß
inductive Tg where|one(i:Ń)|many(is:Ϙ)
def j3:Tg->Pv->Es->Ő Es|.one i,x,σ=>O (σ.set i (O (.p x)))|.many I,.T y,σ=>vc I y σ|.many _,_,_=>aa
def hD(K:Æ):Tg->TG|.one i=>oQ i|.many I=>T_ K (À I) (Ox I)
def LI(e:j3 tg x σ=O σ')(i:eG Z M H x v)(r:dG Z M H σ τ)(q:∀b,dG Z M H σ' b->R b H):hD Z.K tg v τ H R:=by cases tg with|one j=>cases e;rwa[q _ (r.set i)]|many I=>cases x with|T y=>let(a,c,rfl,s,i):=i;exact(a,c,Ŗ,s,by rw[<-i.len];rwa[rP e],F7 e i r q)|_=>cases e
def Yp(Y:T0)(G:Ł Á)(M:Ł Á)(H:Hp)(j:It)(xs:ϑ):ß:=∀g m h a,(∀b∈g,b∈G\/H b=aa)->Ext M H m h->bw (Y.z g) m h a->(∀(i:Ń)x,xs[i]?=O x->j.go i h/\∀v q,j.yld i h v q->Ext m h m q/\bw (Y.z g) m q a/\eG (Y.z g) m q x v)/\j.stop (À xs) h
structure KnI(Y:T0)(G:Ł Á)(E:XK)(τ:Ç)(H:Hp)(R:It->Hp->ß)(M:Ł Á)(σ:Es)(h:Hs)(xc:XP)(Q:ϑ->Hs->ß):ß where
 rel:bw (Y.z G) M H h
 env:dG (Y.z G) M H σ τ
 out:∀xs h' M' H' a,Ext M H M' H'->bw (Y.z G) M' H' h'->Yp Y G M' H' a xs->À xs<=Â->Q xs h'->R a H'
 exc:∀C h' M' H',Ext M H M' H'->bw (Y.z G) M' H' h'->xc C h'->E (.ref (Y.t.ca C)) aa H'
inductive CN(Y:T0)(E:XK)(m:Im)(τ:Ç)(H:Hp)(R:It->Hp->ß):ß|mk(G M:Ł Á)(σ:Es)(h:Hs)(xc:XP)(Q:_)(k:KnI Y G E τ H R M σ h xc Q)(q:m xc σ h Q):CN Y E m τ H R
def Gs(k:Ń)(R:Es->Hs->ß):Es->Hs->ß:=λσ h=>gd (bH k (h.take k)) (R (Ud k σ) (h.take k))
@[irreducible]def UT(k:Ń)(xs:ϑ)(a:Pv->Es->Ő Es)(b:Ss)(N:En)(σ:Es)(h:Hs):ß:=∃W:Ń->Es->Hs->ß,W 0 σ h/\(∀(i:Ń)x c H,xs[i]?=O x->W i c H->match a x c with|O d=>b (N.lp (Gs k (W (i+1))) (Gs k N.nx)) d H|aa=>ŧ)/\∀c H,W (À xs) c H->N.nx c H
def Ϭ(tg:Tg)(I:Im)(b:Ss):Ss:=λN σ h=>I N.xc σ h λx H=>UT (À H) x (j3 tg) b N σ H
section
variable{t:Tb}{X:Cx}{E:XK}{st:È}{A T:Sm}{I:Im}{b:Ss}{tg:Tg}
def Gv(f:bw Z M H h)(e:Ext M H M' H')(r:bw Z M' H' d)(v:dG Z M' H' σ τ)(q:Gs (À h) R σ d):∃h2 a,Ext M H M H'/\bw Z M H' h2/\dG Z M H' a τ/\R a h2:=by
 let(c,q):=bG q;let g:M'.take (À h)=M:=by let(l,rfl):=e.pre;rw[<-f.ln,Td]
 let e2:=e.cut (by rw[f.ln];rwa[au _]);let r2:=r.cut _ c;let v2:=v.cut r (À h);rw[g]at e2 r2 v2;exact(_,_,e2,r2,v2,q)
def R_(h:gK 'X' E (Ϭ tg I b) D τ H):XQ (CN 'X' E I) (hD X.K tg) (gK 'X' E b) D τ H:=by
 let(G,M,σ,h0,N,k,q):=h;erw[(G,M,σ,h0,N.xc,_,(k.rel,k.env,λx h1 M1 H1 j F r1 jo hz q=>?_,k.exc),q)];delta UT at q;erw[cps λR k0=>?_];let(W,w0,L,fin):=q;erw[k0 (λi m l s=>m=À x-i/\i<=À x/\∃a c,Ext M1 H1 M1 s/\bw ('X'.z G) M1 s c/\dG ('X'.z G) M1 s a l/\W i a c,(_,Ŗ,bu _,σ,h1,Ext.refl,r1,k.env.ext k.rel F,w0),?_)];erw[λi m l s z=>cps λR k1=>?_];let(rfl,hi,a,c,e2,r2,v2,w):=z;let(ja,jb):=jo G M1 s c (λ_ z=>.inl z) e2 r2;by_cases rE:i<À x
 .let(g,y):=ja i x[i] (aE rE);erw[k1 (.inr (g,λn H2=>∃m',m'<À x-i/\m'=À x-(i+1)/\i+1<=À x/\∃a c,Ext M1 H1 M1 H2/\bw _ M1 H2 c/\dG _ M1 H2 a n/\W _ a c,λn H2 zz=>by let(m',hm,z):=zz;exact(m',hm,z),λv qN yl=>cps λR k2=>?_))];let(e3,r3,ip):=y v qN yl;let q:=L i _ a c (aE rE) w;split at q
  .ext σ2 hσ;erw[k2 (LI hσ ip (v2.ext r2 e3) λn v4=>?_)];let S:=e2.trans e3;erw[(G,M1,σ2,c,_,(r3,v4,?_,?_,?_,?_,?_),q)];.intro P u B o p f r U Q;let(Y,e,Z,r6,v6,q6):=Gv r1 (S.trans f) r U Q;exact(_,(),Ŗ,(),e,Y,Z,r6,v6,q6)
   .rwa[λd u B o v f r i5 Q=>k.rt d u B o v (F.trans (S.trans f)) r i5 Q]
   .intro P u B o p f r U Q;let(Y,e,Z,r6,v6,q6):=Gv r1 (S.trans f) r U Q;rwa[k.nx e Y M1 o p (F.trans Z) r6 v6 q6]
   .intro P u B o p f r U Q;let(Y,e,Z,r6,v6,q6):=Gv r1 (S.trans f) r U Q;exact(_,(),Ŗ,(),e,Y,Z,r6,v6,q6)
   .rwa[λC u B o f r Q=>k.exc C u B o (F.trans (S.trans f)) r Q]
  .left
 .let hx:i=À x:=()
  subst hx;rwa[k1 (.inl (jb,k.nx a c M1 s l (F.trans e2) r2 v2 (fin a c w)))]
theorem bh.get:∀{xs:ϑ}{vs:ϕ}{i:Ń}{x:Pv},bh Z M H xs vs->xs[i]?=O x->∃v,vs[i]?=O v/\eG Z M H x v|[],_,_,_,_,e=>by grind|_::_,[],_,_,h,_=>by done|_::_,v::_,0,_,h,e=>by cases e;exact(v,Ŗ,h.1)|_::_,_::_,i+1,_,h,e=>by let(w,c,a):=bh.get h.2 (by done);exact(w,by done,a)
def ZC{G M:Ł Á}{H:Hp}{G':Ł _}(g:∀b∈G',b∈G\/H b=aa):∀a,a∈M\/a∈G'->a∈M\/a∈G\/H a=none:=λa h=>h.elim .inl λz=>.inr (g a z)
def eG.wk{Y:T0}(g:∀b∈G',b∈G\/H b=aa)(h:eG (Y.z G) M H x v):eG (Y.z G') M H x v:=eG.fr (ZC g) h
def bh.wk{Y:T0}(g:∀b∈G',b∈G\/H b=aa)(h:bh (Y.z G) M H x v):bh (Y.z G') M H x v:=bh.fr (ZC g) h
def ņ(r:bw (Y.z G) M H h)(n:a∉M)(s:Rd H a (.L vs))(q:bh (Y.z G) M H xs vs):Yp Y G M H (mF Y.K a) xs:=λl m d o g e R=>by let S:ie Y.K d a vs:=.inl ((e.mv r).rd n s);erw[(λi x f=>?_,(vs,S,by rw[q.len];rwa[au _]))];let(v,c,j):=(bh.mv (e.mv r) (bh.wk g q)).get f;erw[((vs,v,S,c),λw Q (k,y)=>?_)];subst k;let hw:=y vs S;rw[c]at hw;cases hw;exact(Ext.refl,R,j)
def ae6(r:bw (Y.z G) M H h)(s:fS Y.K H a vs)(q:bh (Y.z G) M H xs vs):Yp Y G M H (Sv Y.K a) xs:=λk m l n g e R=>by let s':=(e.mv r).sqT s;erw[(λi x d=>?_,(vs,s',by rw[q.len];rwa[au _]))];let(v,c,f):=(bh.mv (e.mv r) (bh.wk g q)).get d;erw[((vs,v,s',c),λw Q (j,y)=>?_)];subst j;let hw:=y vs s';rw[c]at hw;cases hw;exact(Ext.refl,R,f)
def lC(lo:Î)(n:Ń):ϑ:=(Û n).map λ(i:Ń)=>.I (lo+i)
def Ľ{lo:Î}:Yp Y G M H (lw lo n) (lC lo n):=λg m d f j e r=>by
 erw[(λi x h=>?_,show n<=À (lC lo n)by delta lC;rw[ai,dk];rwa[au _])];delta lC at h;rw[bP]at h;by_cases a:i<n;.rw[A7 a]at h;cases h;erw[(a,λw q (c,y)=>?_)];subst c y;exact(Ext.refl,r,by rfl)
 .left
def iP(n:Ń)(s:Ϙ)(σ:Es):Es:=Ó n aa++s.map λj=>σ[j]?.join
def o_(k:Ń)(R:Hs->ß):Hs->ß:=λh=>gd (bH k (h.take k)) (R (h.take k))
def X0(n:Ń):Tg->Þ|.one i=>Đ (i<n)|.many is=>is.all λi=>Đ (i<n)
@[irreducible]def Ls(H:Hs)(xs:ϑ)(e:Pv->Ő Es)(T A:Es->Hs->KP->ß)(Q:ϑ->Hs->ß):ß:=∃W:Ń->ϑ->Hs->ß,W 0 [] H/\(∀(i:Ń)y a h,xs[i]?=O y->W i a h->match e y with
  |O c=>T c h λbs d=>match bs with|[.p (.B b)]=>br b (A c d λY f=>match Y with|[.p y]=>o_ (À H) (W (i+1) (a++[y])) f|_=>ŧ) (o_ (À H) (W (i+1) a) d)|_=>ŧ
  |aa=>ŧ)/\∀a h,W (À xs) a h->Q a h
def Kq(n:Ń)(j:Ϙ)(tg:Tg)(I:Im)(T A:Sm)(x:Þ):Sm:=λa σ h Q=>I a σ h λs H=>Ls H s (λy=>j3 tg y (iP n j σ)) (T λc h=>x=J/\a c h) (A λc h=>x=J/\a c h) λd e=>Q [.p (.L d)] e
theorem AV:∀{is:Ϙ}{ys:ϑ}{σ σ':Es},(is.all λi=>Đ (i<n))=J->vc is ys σ=O σ'->À σ'=À σ/\∀i,n<=i->σ'[i]?=σ[i]?|[],[],_,_,_,e=>by cases e;exact(Ŗ,λ_ _=>Ŗ)|[],_::_,_,_,_,e=>by cases e|_::_,[],_,_,_,e=>by cases e|j::is,y::ys,σ,σ',h,e=>by rw[bC,aM]at h;let(a,b):=AV h.2 e;erw[(by grind,λi H=>?_)];rw[b i H,aA ()]
def ZY(h:X0 n tg)(e:j3 tg x σ=O σ'):À σ'=À σ/\∀i,n<=i->σ'[i]?=σ[i]?:=by cases tg with|one j=>cases e;let hj:=aO h;exact(by rw[bT],λi H=>by rw[aA ()])|many s=>cases x with|T y=>rwa[AV h e]|_=>cases e
def DO(v:dG Z M H σ τ)(n:Ń)(s:Ϙ):dG Z M H (iP n s σ) (sE n s τ):=by
 erw[(by delta iP sE;rw[ah,ah,ai,ai,cH,cH],λi d h=>?_)];delta iP at h;delta sE;by_cases c:i<n;.rw[aY nofun,gS,cG c]at h;cases h
 .rw[aK (by rw[cH];lia),cH,bP]at h⊢;cases e:s[i-n]? with|n=>left|s j=>rw[e]at h;cases a:σ[j]? with|n=>left|s o=>
    rw[Option.map_some,a]at h;let ho:=by simpa using h
    subst ho;let(w,g,f):=v.at' j d a;exact(w,nofun,f)
def uH{a:Es}(l:À a=À (iP n j σ))(g:∀i,n<=i->a[i]?=(iP n j σ)[i]?)(v:dG Z M H a τ2):dG Z M H (iP n j σ) τ2:=by
 erw[(l▸v.ln,λi d h=>?_)];by_cases c:i<n;.delta iP at h;rw[aY nofun,gS,cG c]at h;cases h
 .rwa[v.at' i d (by rw[g i ()];rwa[h])]
section
variable{Y:T0}{G M:Ł Á}{H:Hp}{a:Á}{h:Hs}
def Q5{b:Á}(d:H a=O o)(c:b≠a)(r:Rd H b u):Rd (upd H a o') b u:=by
 rcases r with r|⟨q,r⟩;.rwa[.inl (by rw[bJ c];rwa[r])]
 .rwa[.inr (q,by rw[bJ c];rwa[r])]
def XF{K:Æ}{b:Á}(d:Cb o)(c:H a=O o)(s:fS K H b vs):fS K (upd H a o') b vs:=by
 rcases s with r|r;.erw[.inl (Q5 c (λz=>?_) r)];subst z;rcases r with r|⟨o,r⟩<;>rw[c]at r<;>cases r<;>cases d
 .rwa[.inr r]
mutual
theorem eG.chg{o o':HO}(f:Cb o)(c:a∈G)(d:H a=O o):∀{x:Pv}{v:V},eG (Y.z G) M H x v->eG (Y.z G) M (upd H a o') x v
 |.N,_,h=>h|.B _,_,h=>h|.I _,_,h=>h|.S _,_,h=>h|.fn _,_,h=>h|.ty _,_,h=>h|.T xs,_,h=>by let(b,vs,e,s,q):=h;exact(b,vs,e,XF f d s,bh.chg f c d q)|.L xs,_,h=>by let(b,vs,e,n,s,q):=h;exact(b,vs,e,n,by rw[bJ λz:b=a=>n.2 (z▸c)];rwa[s],bh.chg f c d q)|.scr xs,_,h=>by
  let(b,vs,e,s,q):=h;rcases s with ⟨n,s⟩|s;.exact(b,vs,e,.inl (n,Q5 d (λz=>n.2 (z▸c)) s),bh.chg f c d q)
  .exact(b,vs,e,.inr s,bh.chg f c d q)|.dct ks us,_,h=>by let(b,g,e,n,s,q,Q):=h;exact(b,g,e,n,by rw[bJ λz:b=a=>n.2 (z▸c)];rwa[s],bh.chg f c d q,bh.chg f c d Q)|.obj C fs,_,h=>by let(b,D,F,e,n,s,l,q):=h;exact(b,D,F,e,n,by rw[bJ λz:b=a=>n.2 (z▸c)];rwa[s],l,bh.chg f c d q)theorem bh.chg{o o':HO}(f:Cb o)(c:a∈G)(d:H a=O o):∀{xs:ϑ}{vs:ϕ},bh (Y.z G) M H xs vs->bh (Y.z G) M (upd H a o') xs vs|[],[],h=>Ť|[],_::_,h=>h|_::_,[],h=>h|x::xs,v::vs,h=>by exact(eG.chg f c d h.1,bh.chg f c d h.2)end
theorem fI.chg(c:Cb o)(e:a∈G)(f:H a=O o)(q:fI (Y.z G) M H d v):fI (Y.z G) M (upd H a o') d v:=by cases d with|p x=>rwa[eG.chg c e f q]|r i=>rwa[q]
theorem cD.chg(c:Cb o)(d:a∈G)(e:H a=O o):∀{ds:Ł Dv}{vs:ϕ},cD (Y.z G) M H ds vs->cD (Y.z G) M (upd H a o') ds vs|[],[],_=>Ť|[],_::_,q=>q|_::_,[],q=>q|_::_,_::_,q=>(q.1.chg c d e,cD.chg c d e q.2)
theorem dG.chg(c:Cb o)(e:a∈G)(f:H a=O o)(q:dG (Y.z G) M H σ τ):dG (Y.z G) M (upd H a o') σ τ:=(q.ln,λi d g=>let (v,j,q):=q.at' i d g;(v,j,q.chg c e f))
theorem bw.chg(c:Cb o)(g:a∈G)(d:H a=O o)(N:a∉M)(r:bw (Y.z G) M H h):bw (Y.z G) M (upd H a o') h:=by erw[(r.nd,r.dj,r.ln,λb f=>uf (r.gs b f),λi b Q j k=>?_)];let f:b≠a:=λz=>N (z▸aZ j);let q:=r.ob i b Q j k;cases Q with|L x=>let(v,e,q):=q;exact(v,by rw[bJ f];rwa[e],bh.chg c g d q)|D x=>let(v,e,q):=q;exact(v,by rw[bJ f];rwa[e],q.chg c g d)|C K u=>let(B,e,q,m):=q;exact(B,by rw[bJ f];rwa[e],bh.chg c g d q,bh.chg c g d m)|I C fs=>let(p,F,e,n,l,q):=q;exact(p,F,by rw[bJ f];rwa[e],by rw[bJ λz=>by rw[z,d]at n;cases n;cases c];rwa[n],l,q.chg c g d)
theorem fI.wk(g:∀b∈G',b∈G\/H b=aa)(q:fI (Y.z G) M H d v):fI (Y.z G') M H d v:=by cases d with|p x=>rwa[eG.wk g q]|r i=>rwa[q]
theorem cD.wk(g:∀b∈G',b∈G\/H b=aa):∀{ds:Ł Dv}{vs:ϕ},cD (Y.z G) M H ds vs->cD (Y.z G') M H ds vs|[],[],_=>Ť|[],_::_,q=>q|_::_,[],q=>q|_::_,_::_,q=>(q.1.wk g,cD.wk g q.2)
theorem zk.wk(g:∀b∈G',b∈G\/H b=aa){b:Á}(z:zk (Y.z G) M H b o):zk (Y.z G') M H b o:=by cases o with|L x=>let(v,e,q):=z;exact(v,e,bh.wk g q)|D x=>let(v,e,q):=z;exact(v,e,q.wk g)|C k u=>let(B,e,q,Q):=z;exact(B,e,bh.wk g q,bh.wk g Q)|I C fs=>let(d,f,e,n,l,q):=z;exact(d,f,e,n,l,q.wk g)
theorem B3(hn:H a=aa):∀b∈a::G,b∈G\/H b=none:=λb c=>(aJ.mp c).elim (λz=>.inr (z▸hn)) .inl
theorem G4:∀b∈G,b∈a::G\/H b=none:=λb c=>.inl (ak _ c)
theorem dG.beg(hn:H a=aa)(r:bw (Y.z G) M H h)(q:dG (Y.z G) M H σ τ):dG (Y.z (a::G)) M (upd H a o) σ τ:=(q.ln,λi d c=>let (v,e,q):=q.at' i d c;(v,e,(q.wk (B3 hn)).mv ((Ext.add hn).mv r) λ_ _ z=>z))
theorem bw.beg(hn:H a=aa)(r:bw (Y.z G) M H h):bw (Y.z (a::G)) M (upd H a o) h:=by
 erw[(r.nd,λb c z=>(aJ.mp z).elim (λz=>r.fresh hn (z▸c)) (r.dj b c),r.ln,λb c=>?_,λi b q d f=>?_)]
 .rcases aJ.mp c with z|z;.subst z;exact(o,bA)
  .exact(r.add (o:=o) hn).gs b z
 .let k:∀{b u},H b=O u->upd H a o b=O u:=λe=>by rw[bJ (bZ e hn)];rwa[e]
  rwa[zk.mv ((Ext.add hn).mv r) (λ_ _ z=>z) (λ_=>k) (λ_=>k) ((r.ob i b q d f).wk (B3 hn))]
theorem bw.dun(r:bw (Y.z (a::G)) M H h):bw (Y.z G) M H h:=(r.nd,λb c z=>r.dj b c (ak _ z),r.ln,λb c=>r.gs b (ak _ c),λi b q d e=>(r.ob i b q d e).wk G4)
theorem bh.app:∀{xs ys:ϑ}{vs ws:ϕ},bh Z M H xs vs->bh Z M H ys ws->bh Z M H (xs++ys) (vs++ws)|[],_,[],_,_,q=>q|[],_,_::_,_,h,_=>by done|_::_,_,[],_,h,_=>by done|_::_,_,_::_,_,h,q=>by exact(h.1,bh.app h.2 q)
theorem bh.one(h:eG Z M H x v):bh Z M H [x] [v]:=by done
end
def Av{M1:Ł _}(g:dG Z M1 e (iP n s σ) c)(l:dG Z M H a τ4)(G:À a=À (iP n s σ))(m:∀i,n<=i->a[i]?=(iP n s σ)[i]?)(R:bw Z M H f)(o:k=À M1)(q:M.take k=M1):dG Z M1 H (iP n s σ) τ4:=by let v:=uH G m l;erw[(v.ln,λi d h=>?_)];let(w,y,B):=v.at' i d h;erw[(w,y,?_)];let(u,_,C):=g.at' i d h;let z:=B.cut R (by cases d with|p x=>rfl|r j=>let(b,D,_):=C;rwa[bR (o▸(aj.mp D).1)]);rw[q]at z;rwa[z]
def BE{E1:XK}(hE:∀c H,x=J->E (.ref c) aa H->E1 (.ref c) aa H)(ht:X0 n tg)(h:cQ 'X' E (Kq n js tg I T A x) τ H QV):yY (CN 'X' E I) (hD X.K tg) (kP 'X' E1 T) (cQ 'X' E1 A) (sE n js) τ H QV:=by
 let(G,M,σ,h0,xc,Q,k,q):=h;erw[(G,M,σ,h0,xc,_,(k.rel,k.env,λs e M1 H1 j e1 p jo hz q=>?_,k.exc),q)];delta Ls at q;erw[λa U=>cps λR k0=>?_];let(W,w0,turn,fin):=q;let(N,naG):=p.rp U;let ea:Ext M1 H1 M1 (upd H1 a (.L [])):=Ext.add U;let v1:=k.env.ext k.rel e1;let Z:Tx:='X'.z (a::G);let YG:a∈a::G:=ao;erw[k0 (λi m τ2 ys u=>m=À s-i/\i<=À s/\u a=O (.L ys)/\À ys<=i/\∃P B,Ext M1 H1 M1 u/\bw Z M1 u B/\dG Z M1 u (iP n js σ) τ2/\bh Z M1 u P ys/\W i P B,(_,Ŗ,bu _,bA,bu _,[],e,ea,p.beg U,(DO v1 n js).beg U p,Ť,w0),?_)];erw[λi m τ2 ys u z=>cps λR k1=>?_];let(rfl,hi,ha,hly,P,B,e2,r2,v2,p2,w):=z;let(ja,jb):=jo (a::G) M1 u B (B3 U) e2 r2;by_cases rE:i<À s
 .let(g,y):=ja i s[i] (aE rE);erw[k1 (ha,.inr (g,(),λv qN yl=>cps λR k2=>?_))];let(Y,r3,ip):=y v qN yl;let q:=turn i s[i] P B (aE rE) w;split at q
  .ext σ2 hσ;let(gl,gg):=ZY ht hσ;erw[k2 (LI (Z:=Z) hσ ip (v2.ext r2 Y) λτ4 v4=>?_)];let ex:∀{D F},Ext M1 qN D F->∀C AF Tj Ny,Ext D F Tj Ny->bw Z Tj Ny AF->x/\xc C AF->E1 (.ref (t.ca C)) aa Ny:=λf C AF Tj Ny x' r q=>hE _ _ q.1 (k.exc C AF Tj Ny ((e1.trans (e2.trans Y)).trans (f.trans x')) r.dun q.2);let ka:∀{D F},Ext M1 qN D F->F a=O (.L ys):=λf=>f.keep a _ N (Y.keep a _ N ha);let p3:=p2.ext r2 Y;erw[(a::G,M1,σ2,B,_,_,(r3,v4,λd h5 D F f r5 q5=>?_,ex Ext.refl),q)];split at q5
   .ext b S;injection S with S;erw[(b,S,?_)]
    cases b with
     |t=>
     rw[cG Ŗ];erw[(a::G,D,σ2,h5,_,_,(r5,v4.ext r3 f,λd6 h6 M6 H6 v6 e6 r6 i6 q6=>?_,ex f),q5)];split at q6
     .ext y hy;injection hy with hy;subst hy;let UC:=f.trans e6;let VM:=ka UC;erw[(VM,À s-(i+1),(),Ŗ,(),bA,by rw[ah];simp;lia,?_)];let UB:=(e2.trans Y).trans UC;let(c,q7):=bG q6;let hM:M6.take (À e)=M1:=by let(l,rfl):=UB.pre;rw[<-p.ln,Td]
      let r7:=r6.cut (À e) c;let i7:eG Z (M6.take (À e)) H6 y v6:=eG.mv (Mv.cut r6 (À e)) i6;let v7:=Av v2 (v4.ext r3 UC) gl gg r6 p.ln.symm hM;let p7:bh Z (M6.take (À e)) H6 P ys:=bh.mv (Mv.cut r6 (À e)) (p3.ext r3 UC);rw[hM]at r7 i7 p7;let e7:=UB.cut (k:=À e) (by rw[p.ln];rwa[au _]);rw[hM]at e7;erw[(P++[y],_,(([],(aQ M1).symm),λb o S ho=>?_,λb S hn=>Ă S hn),r7.chg Ŗ YG VM N,?_,(p7.app (bh.one i7)).chg Ŗ YG VM,q7)];.rw[bJ (bZ ho U)];rwa[e7.keep b o S ho]
      .rwa[v7.chg Ŗ YG VM]
     .rwa[q6.elim]|f=>
     rw[dh aD];erw[(À s-(i+1),(),Ŗ,(),ka f,(),?_)];let UB:=(e2.trans Y).trans f;let(c,q7):=bG q5;let hM:D.take (À e)=M1:=by let(l,rfl):=UB.pre;rw[<-p.ln,Td]
     let r7:=r5.cut (À e) c;let v7:=Av v2 (v4.ext r3 f) gl gg r5 p.ln.symm hM;let p7:bh Z (D.take (À e)) F P ys:=bh.mv (Mv.cut r5 (À e)) (p3.ext r3 f);let e7:=UB.cut (k:=À e) (by rw[p.ln];rwa[au _]);rw[hM]at r7 p7 e7;exact(P,_,e7,r7,v7,p7,q7)
   .rwa[q5.elim]
  .left
 .let hx:i=À s:=()
  subst hx;erw[k1 (ha,.inl (jb,k.out _ B M1 u _ (e1.trans e2) r2.dun ?_ (fin P B w)))];exact(a,ys,Ŗ,(N,naG),ha,bh.wk G4 p2)
end
end F
namespace F
open L2 PySem.SeqAt
def yr:Ϙ->Ϙ->Þ|[],[]=>J|a::x,b::y=>Ë a b&&yr x y|_,_=>af
def ax(a b:Ã):Þ:=yr a.cps.toList b.cps.toList
theorem rH:∀{x y:Ϙ},yr x y=J↔x=y|[],[]=>(λ_=>Ŗ,λ_=>Ŗ)|[],_::_=>(λh=>(aD h).elim,λh=>nomatch h)|_::_,[]=>(λh=>(aD h).elim,λh=>nomatch h)|a::x,b::y=>by show(Ë a b&&yr x y)=J↔_;rw[aM,jx,rH,List.cons.injEq]
def aI:ax a b=J↔a=b:=by
 delta ax;rw[rH];constructor;.intro h;cases a with|mk a=>left
 .intro h;rw[h]
def qv(a b:Ã):(a==b)=ax a b:=by
 by_cases h:a=b;.rw[aI.mpr h,h];rwa[fj b]
 .rw[bg.mpr λz=>h (aI.mp z)];rwa[cI.mpr h]
def Cd(neg b:Þ):Þ:=match neg with|J=>!b|af=>b
def Ht(neg b:Þ):Cd neg b=(neg !=b):=by cases neg<;>cases b<;>rfl
def lH:Î->Î->Þ|.ofNat a,.ofNat b=>Ë a b|.negSucc a,.negSucc b=>Ë a b|_,_=>af
def ED:Î->Î->Þ|.ofNat a,.ofNat b=>Í a b|.negSucc _,.ofNat _=>J|.negSucc a,.negSucc b=>Í b a|.ofNat _,.negSucc _=>af
def iQ:Î->Î->Þ|.ofNat a,.ofNat b=>Í (a+1) b|.negSucc _,.ofNat _=>J|.negSucc a,.negSucc b=>Í (b+1) a|.ofNat _,.negSucc _=>af
def ap{a b:Ń}:Í a b=J↔a<=b:=(bx,mK)
def dm:lH i j=J↔i=j:=by
 cases i<;>cases j;.exact(λh=>by rw[aP h],λh=>by rw[h];rwa[f9 _])
 .exact(λh=>(by cases h),λh=>by cases h)
 .exact(λh=>(by cases h),λh=>by cases h)
 .exact(λh=>by rw[aP h],λh=>by rw[h];rwa[f9 _])
def kJ:ED i j=J↔i<=j:=by
 cases i<;>cases j;.rwa[ap.trans ⋯]
 .exact(λh=>(by cases h),λh=>by simp only[nJ]at h;lia)
 .exact(λ_=>by simp only[nJ];lia,λ_=>Ŗ)
 .rwa[ap.trans ()]
def dE:iQ i j=J↔i<j:=by
 cases i<;>cases j;.rwa[ap.trans (by simp only[nJ];lia)]
 .exact(λh=>(by cases h),λh=>by done)
 .exact(λ_=>by simp only[nJ];lia,λ_=>Ŗ)
 .rwa[ap.trans ()]
def yd(i j:Î):lH i j=Đ (i=j):=cZ.mpr (by rw[iW];rwa[dm])
def aae(i j:Î):ED i j=Đ (i<=j):=cZ.mpr (by rw[iW];rwa[kJ])
def Pt(i j:Î):iQ i j=Đ (i<j):=cZ.mpr (by rw[iW];rwa[dE])
def b2(b:Þ):Î:=match b with|J=>1|af=>0
def LG:Pv->Pv->Þ|.N,.N=>J|.B a,.B b=>a==b|.B a,.I b=>lH (b2 a) b|.I a,.B b=>lH a (b2 b)|.I a,.I b=>lH a b|.S a,.S b=>ax a b|_,_=>af
def nc:ϑ->ϑ->Þ|[],[]=>J|a::x,b::y=>LG a b&&nc x y|_,_=>af
def Ed(p q:Pv):Þ:=match p with|.T a=>(match q with|.T b=>nc a b|_=>af)|.L a=>(match q with|.L b=>nc a b|_=>af)|_=>LG p q
def BR:Pv->Þ|.N=>J|.B _=>J|.I _=>J|.S _=>J|_=>af
def X2:Pv->Þ|.T x=>x.all BR|_=>af
def Jx(xs ys:ϑ)(j:Ń):Þ:=match xs[j]?,ys[j]? with|O a,O b=>LG a b|_,_=>J
theorem rm:∀{xs ys:ϑ},À xs=À ys->nc xs ys=(Û (À xs)).all (Jx xs ys)|[],[],_=>Ŗ|a::x,b::y,h=>by show(LG a b&&nc x y)=_;rw[rm (xs:=x) (ys:=y) (by grind),aq,List.range_succ_eq_map,bC,lM];rfl|[],_::_,h=>by grind|_::_,[],h=>by grind
theorem sT:∀{xs ys:ϑ},nc xs ys=J->À xs=À ys|[],[],_=>Ŗ|a::x,b::y,h=>by let h:(LG a b&&nc x y)=true:=h;rw[aM]at h;rw[aq,aq,sT h.2]|[],_::_,h=>by cases h|_::_,[],h=>by cases h
def sR(h:BR x):LG x x=true:=by cases x with|N=>rfl|B b=>rwa[fj b]|I i=>rwa[dm.mpr Ŗ]|S z=>rwa[aI.mpr Ŗ]|_=>cases h
theorem AD:∀{xs:ϑ},xs.all BR=J->nc xs xs=J|[],_=>Ŗ|x::xs,h=>by rw[bC,aM]at h;show(LG x x&&nc xs xs)=J;rw[sR h.1,AD h.2];rfl
section
variable{X:Cx}{am:b4}{σ:Ç}{s:a5}{Y:T0}{G M:Ł Á}{H:Hp}
def Er(r:Vals vs us)(R:Vals ws Z)(ix:bh (Y.z G) M H xs vs)(i:bh (Y.z G) M H ys ws)(I:∀{p q:Pv}{v u:V}{b U:Ä},p∈xs->q∈ys->eG (Y.z G) M H p v->eG (Y.z G) M H q u->RelV v b->RelV u U->EqAt A s b U (LG p q)):∀j(h:j<us.toArray.size)(a:j<Z.toArray.size),EqAt A s us.toArray[j] Z.toArray[j] (Jx xs ys j):=by
 intro j h a;let l1:=r.length;let l2:=R.length;let L:=ix.len;let l4:=i.len;simp only[aW]at h a;let e:xs[j]?=O (xs[j]'()):=aE _;let E:ys[j]?=O (ys[j]'()):=aE _;let(v,d,pv):=ix.get e;let(w,f,P):=i.get E;let(u,hu,g):=r.get d;let(z,c,F):=R.get f;let k:us.toArray[j]=u:=by rw[aE h]at hu;simpa using hu
 let l:Z.toArray[j]=z:=by rw[aE a]at c;simpa using c
 rw[k,l];delta Jx;rw[e,E];rwa[I (dY _) (dY _) pv P g F]
def Kv{A:bp}(I:Inv X am σ H s)(S:fS X.K H a vs)(d:fS X.K H b ws)(ix:bh (Y.z G) M H xs vs)(i:bh (Y.z G) M H ys ws)(f:∀{p q:Pv}{v u:V}{c U:Ä},p∈xs->q∈ys->eG (Y.z G) M H p v->eG (Y.z G) M H q u->RelV v c->RelV u U->EqAt A.in1 s c U (LG p q))(hu:A.units<Ì):∃(B F:Array _)(e:Ń->Þ),s.heap.IsTuple a B/\s.heap.IsTuple b F/\(∀j(k:j<B.size)(l:j<F.size),EqAt A.in1 s B[j] F[j] (e j))/\((Û (min B.size F.size)).all e&&B.size==F.size)=nc xs ys:=by
 let(B,r,t,_):=I.tuple S;let(F,R,t2,_):=I.tuple d;erw[(_,_,_,t,t2,Er r R ix i f,?_)];rw[aW,aW,<-r.length,<-R.length,<-ix.len,<-i.len];by_cases h:À xs=À ys;.rw[<-h,Nat.min_self,rm h,fj,iM]
 .rw[cI.mpr h,lJ];cases g:nc xs ys with|f=>rfl|t=>rwa[Ă (sT g) h]
inductive Kf:Pv->Ä->ß|gH:Kf .N .none|bl(b:Þ):Kf (.B b) (.bool b)|int(i:Î)(t:Tok):Kf (.I i) (.int i t)|str(z:Ã)(t:Tok):Kf (.S z) (.str z t)
def qT(k:BR p)(h:eG (Y.z G) M H p v)(r:RelV v v'):Kf p v':=by cases p with|N=>subst h;cases r;rwa[.gH]|B b=>subst h;cases r;rwa[.bl b]|I i=>subst h;let(t,rfl):=r;rwa[.int i t]|S z=>subst h;let(t,rfl):=r;rwa[.str z t]|_=>cases k
def Fb(b:Kf p v)(h:Kf q u):(RcAt A s v u (LG p q)/\RcNeAt A s v u !LG p q)/\EqAt A s v u (LG p q):=by cases b with
 |gH=>cases h with|gH=>exact((RcAt.none_none,RcNeAt.none_none),EqAt.same _)|bl d=>exact((RcAt.none_bool d,RcNeAt.none_bool d),EqAt.none_bool d)|int d t=>exact((RcAt.none_int d t,RcNeAt.none_int d t),EqAt.none_int d t)|str d t=>exact((RcAt.none_str d t,RcNeAt.none_str d t),EqAt.none_str d t)
 |bl c=>cases h with|gH=>exact((RcAt.bool_none c,RcNeAt.bool_none c),EqAt.bool_none c)|bl d=>exact((RcAt.bool_bool c d,RcNeAt.bool_bool c d),EqAt.bool_bool c d)|int d t=>show(RcAt A s _ _ (lH (b2 c) d)/\RcNeAt A s _ _ !lH (b2 c) d)/\EqAt A s _ _ (lH (b2 c) d);rw[yd];let z:=RcAt.bool_int (A:=A) (s:=s) c d t;let Z:=RcNeAt.bool_int (A:=A) (s:=s) c d t;let a:=EqAt.bool_int (A:=A) (s:=s) c d t;rw[mI]at z Z a;cases c<;>exact((z,Z),a)|str d t=>exact((RcAt.bool_str c d t,RcNeAt.bool_str c d t),EqAt.bool_str c d t)
 |int c T=>cases h with|gH=>exact((RcAt.int_none c T,RcNeAt.int_none c T),EqAt.int_none c T)|bl d=>show(RcAt A s _ _ (lH c (b2 d))/\RcNeAt A s _ _ !lH c (b2 d))/\EqAt A s _ _ (lH c (b2 d));rw[yd];let z:=RcAt.int_bool (A:=A) (s:=s) c T d;let Z:=RcNeAt.int_bool (A:=A) (s:=s) c T d;let a:=EqAt.int_bool (A:=A) (s:=s) c T d;rw[mI]at z Z a;cases d<;>exact((z,Z),a)|int d t=>show(RcAt A s _ _ (lH c d)/\RcNeAt A s _ _ !lH c d)/\EqAt A s _ _ (lH c d);rw[yd,<-mI];exact((RcAt.int_int c T d t,RcNeAt.int_int c T d t),EqAt.int_int c T d t)|str d t=>exact((RcAt.int_str c T d t,RcNeAt.int_str c T d t),EqAt.int_str c T d t)
 |str c T=>cases h with|gH=>exact((RcAt.str_none c T,RcNeAt.str_none c T),EqAt.str_none c T)|bl d=>exact((RcAt.str_bool c T d,RcNeAt.str_bool c T d),EqAt.str_bool c T d)|int d t=>exact((RcAt.str_int c T d t,RcNeAt.str_int c T d t),EqAt.str_int c T d t)|str d t=>show(RcAt A s _ _ (ax c d)/\RcNeAt A s _ _ !ax c d)/\EqAt A s _ _ (ax c d);rw[<-qv];exact((RcAt.str_str c T d t,RcNeAt.str_str c T d t),EqAt.str_str c T d t)
def RS:Pv->Pv->Þ|.T _,.T []=>J|.L _,.L []=>J|_,_=>af
def Ų(m:Y.K=X.K)(I:Inv X am σ H s)(k:RS p q)(n:eG (Y.z G) M H p v)(o:eG (Y.z G) M H q u)(r:RelV v g)(R:RelV u U)(hu:A.units<Ì):RcAt A s g U (Ed p q)/\RcNeAt A s g U !Ed p q:=by
 delta RS at k;split at k;.ext x;let(a,w,rfl,S,i):=n;let(b,W,rfl,j,d):=o;cases r;cases R;let(L,N,e,y,t2,C,D):=Kv I (show fS X.K H a w from m▸S) (show fS X.K H b W from m▸j) i d λ_ E=>by done hu;show RcAt A s _ _ (nc x [])/\RcNeAt A s _ _ !nc x [];rw[<-D];exact(RcAt.tuples y t2 hu C,RcNeAt.tuples y t2 hu C)
 .ext x;let(a,w,rfl,_,S,i):=n;let(b,W,rfl,_,j,d):=o;cases r;cases R;let(B,f,T,_):=I.list (.inl (.inl S));let(F,c,t,_):=I.list (.inl (.inl j));show RcAt A s _ _ (nc x [])/\RcNeAt A s _ _ !nc x [];by_cases h:À x=À ([]:ϑ)
  .let l:B.toArray.size=F.toArray.size:=by rw[aW,aW,<-f.length,<-c.length,<-i.len,<-d.len,h]
   let e:(Û B.toArray.size).all (Jx x [])=nc x []:=by rw[aW,<-f.length,<-i.len,<-rm h]
   rw[<-e];let z:=Er (s:=s) (A:=A.in1) f c i d (λ_ E=>by done);exact(RcAt.lists T.isList t.isList l hu z,RcNeAt.lists T.isList t.isList l hu z)
  .let l:(B.toArray.size !=F.toArray.size)=true:=by rw[aW,aW,<-f.length,<-c.length,<-i.len,<-d.len];rwa[bne_iff_ne.mpr h]
   let e:=bg.mpr λz=>h (sT z);rw[e];exact(RcAt.lists_lengths T.isList t.isList l hu,RcNeAt.lists_lengths T.isList t.isList l hu)
 .cases k
end
def jp(p q:Pv):Þ:=RS p q||(BR p&&BR q||X2 p&&X2 q)
def K_(h:BR p):Ed p q=LG p q:=by cases p<;>first|rfl|cases h
def Xg(Y:T0)(ne:Þ):R2:=λv u H Q=>∃G M p q,eG (Y.z G) M H p v/\eG (Y.z G) M H q u/\jp p q=J/\Q (.B (ne !=Ed p q)) H
def Q4{P:Ł _}{σ:Ç}{Y:T0}(h:Y.K=X.K)(I:Inv X P σ H s)(k:jp p q)(d:eG (Y.z G) M H p v)(f:eG (Y.z G) M H q u)(r:RelV v c)(R:RelV u U)(hu:A.units+64<Ì):RcAt A s c U (Ed p q)/\RcNeAt A s c U !Ed p q:=by
 rcases(bF _ _).mp k with k|k;.rwa[Ų h I k d f r R ()]
 rcases(bF _ _).mp k with k|k;.rw[aM]at k;rw[K_ k.1];exact(Fb (qT k.1 d r) (qT k.2 f R)).1
 .rw[aM]at k;cases p with
  |T x=>cases q with|T y=>let(a,m,rfl,S,n):=d;let(b,w,rfl,o,B):=f;cases r;cases R;let(F,L,e,g,t2,l,C):=Kv (A:=A) I (show fS X.K H a m from h▸S) (show fS X.K H b w from h▸o) n B (λD E i j r R=>(Fb (qT (aG.mp k.1 _ D) i r) (qT (aG.mp k.2 _ E) j R)).2) ();show RcAt A s _ _ (nc x y)/\RcNeAt A s _ _ !nc x y;rw[<-C];exact(RcAt.tuples g t2 () l,RcNeAt.tuples g t2 () l)|_=>cases k.2
  |_=>cases k.1
def Ϩ(hu:X.A.units+64<Ì):jz X (compareOp .Eq) (Xg 'X' af):=by intro P s σ H x y v u Q I r R h;let(G,M,p,q,a,b,k,h):=h;erw[(Q4 rfl I k a b r R hu).1 _ X.w _ _ (.B _,H,I,Ŗ,?_)];rw[lK]at h;rwa[h]
def aaK(hu:X.A.units+64<Ì):jz X (compareOp .NotEq) (Xg 'X' J):=by intro P s σ H x y v u Q I r R h;let(G,M,p,q,a,b,k,h):=h;erw[(Q4 rfl I k a b r R hu).2 _ X.w _ _ (.B _,H,I,Ŗ,?_)];rw[nF]at h;rwa[h]
def pS:O2:=λx y h Q=>match x,y with|.p a,.p b=>gd (jp a b) (Q (.p (.B (Ed a b))) h)|_,_=>ŧ
def wS:O2:=λx y h Q=>match x,y with|.p a,.p b=>gd (jp a b) (Q (.p (.B !Ed a b)) h)|_,_=>ŧ
def ι:jE Y (Xg Y af) pS:=λG M h H x y v u Q d r i j q out=>by cases x with|r _=>rwa[q.elim]|p a=>cases y with|r _=>rwa[q.elim]|p b=>let(c,q):=bG q;exact(G,M,a,b,i,j,c,by rw[lK];rwa[out _ h M H _ Ext.refl r (by rfl) q])
def π:jE Y (Xg Y J) wS:=λG M h H x y v u Q d r i j q out=>by cases x with|r _=>rwa[q.elim]|p a=>cases y with|r _=>rwa[q.elim]|p b=>let(c,q):=bG q;exact(G,M,a,b,i,j,c,by rw[nF];rwa[out _ h M H _ Ext.refl r (by rfl) q])
end F
namespace F
open L2
section
variable{Y:T0}{G M:Ł Á}{H:Hp}{h:Hs}{x y:Dv}{v u:V}
def jJ(h:Hs):Dv->Ő ϑ
 |.p (.L X)=>O X|.r i=>match h[i]? with|O (.L X)=>O X|_=>aa
 |_=>aa
def bw.at'(r:bw Z M H h){i:Ń}(b:M[i]?=O a)(c:h[i]?=O o):zk Z M H a o:=r.ob i a o b c
def gZ(r:bw (Y.z G) M H h)(i:fI (Y.z G) M H x v)(e:jJ h x=O xs):∃a vs,v=.A a/\H a=O (.L vs)/\bh (Y.z G) M H xs vs:=by
 delta jJ at e;split at e;.cases e;let(a,vs,b,_,c,d):=i;exact(a,vs,b,c,d)
 .split at e;.ext o;cases e;let(a,b,c):=i;let(vs,d,f):=r.at' b o;exact(a,vs,c,d,f)
  .cases e
 .cases e
def nh(r:bw (Y.z G) M H h)(a:H p=aa)(i:bh (Y.z G) M H xs vs):fI (Y.z G) M (upd H p (.L vs)) (.p (.L xs)) (.A p):=by exact(p,vs,Ŗ,r.rp a,bA,i.ext r (Ext.add a))
def yi(r:bw (Y.z G) M H h)(a:H p=aa)(i:bh (Y.z G) M H xs vs):fI (Y.z G) M (upd H p (.T vs)) (.p (.T xs)) (.A p):=by exact(p,vs,Ŗ,fS.of bA,i.ext r (Ext.add a))
def iu(s:jF H H'):Ext M H M H':=(([],(aQ M).symm),λb o _ e=>s b o e,λb h n=>Ă h n)
def lA(r:bw (Y.z G) M H h)(s:jF H H'):bw (Y.z G) M H' h:=(r.nd,r.dj,r.ln,λb c=>let (o,e):=r.gs b c;(o,s _ _ e),λi a o d f=>zk.mv ((iu s).mv r) (λ_ _ z=>z) (λ_ e=>s _ _ e) (λ_ e=>s _ _ e) (r.ob i a o d f))
def e9:fI (Y.z G) M H (.p (.I i)) (.I i):=rfl
def iK:fI (Y.z G) M H (.p (.B b)) (.B b):=rfl
def kI:fI (Y.z G) M H (.p (.S z)) (.S z):=rfl
def tu:fI (Y.z G) M H (.p .N) .gH:=rfl
def fk(q:fI (Y.z G) M H (.p (.I i)) v):v=.I i:=by done
def Nw(q:fI (Y.z G) M H (.p (.B b)) v):v=.B b:=by done
def fq(q:fI (Y.z G) M H (.p (.S z)) v):v=.S z:=by done
def Nx(q:fI (Y.z G) M H (.p .N) v):v=.gH:=by done
def qM(q:fI (Y.z G) M H (.p (.T xs)) v):∃a vs,v=.A a/\fS Y.K H a vs/\bh (Y.z G) M H xs vs:=by done
def iO:Dv->Ő Î|.p (.I i)=>O i|_=>aa
def sO:Dv->Ő Ã|.p (.S i)=>O i|_=>aa
def tO:Dv->Ő ϑ|.p (.T i)=>O i|_=>aa
def vA(e:iO x=O i):x=.p (.I i):=by cases x with
 |p a=>cases a<;>first|(cases e;rfl)|cases e
 |r _=>cases e
def tM(e:sO x=O i):x=.p (.S i):=by cases x with
 |p a=>cases a<;>first|(cases e;rfl)|cases e
 |r _=>cases e
def KN(e:tO x=O i):x=.p (.T i):=by cases x with
 |p a=>cases a<;>first|(cases e;rfl)|cases e
 |r _=>cases e
def d2(ds:Ł Dv)(k:Dv->Dv->ß):ß:=match ds with|[x,y]=>k x y|_=>ŧ
def Ļ(q:d2 ds k):∃x y,ds=[x,y]/\k x y:=by rcases ds with _|⟨x,_|⟨y,_|_⟩⟩<;>first|exact(x,y,Ŗ,q)|rwa[q.elim]
def d1(ds:Ł Dv)(k:Dv->ß):ß:=match ds with|[x]=>k x|_=>ŧ
def Jh(q:d1 ds k):∃x,ds=[x]/\k x:=by rcases ds with _|⟨x,_|_⟩<;>first|exact(x,Ŗ,q)|rwa[q.elim]
def uZ(h:eZ o A B):(∃x,o=O x/\A x)\/B:=by cases o with|s x=>rwa[.inl (x,Ŗ,h)]|n=>rwa[.inr h]
def iI(x y:Dv)(k:Î->Î->ß):ß:=eZ (iO x) (λi=>eZ (iO y) (k i) ŧ) ŧ
def JE(q:iI x y k):∃i j,x=.p (.I i)/\y=.p (.I j)/\k i j:=by let(i,e,q):=de q;let(j,f,q):=de q;exact(i,j,vA e,vA f,q)
def oI(c:Î->Î->Þ)(g:Î->Î->Î):O2:=λx y h Q=>iI x y λi j=>gd (c i j) (Q (.p (.I (g i j))) h)
def oB(g:Î->Î->Þ):O2:=λx y h Q=>iI x y λi j=>Q (.p (.B (g i j))) h
def YK(d:∀i j,c i j=J->C i j):jE Y (rI C λi j=>.I (g i j)) (oI c g):=λG M h H x y v u Q e r i j q out=>by let(a,b,rfl,rfl,q):=JE q;let(k,q):=bG q;exact(_,_,fk i,fk j,d _ _ k,out _ h M H _ Ext.refl r e9 q)
def YJ:jE Y (MO λi j=>.B (g i j)) (oB g):=λG M h H x y v u Q c r i j q out=>by let(a,b,rfl,rfl,q):=JE q;exact(_,_,fk i,fk j,out _ h M H _ Ext.refl r iK q)
def cT:Î->Î->Þ:=λ_ _=>J
def Ž:O2:=oI cT λi j=>i-j
def VA:jE Y (MO λi j=>.I (i-j)) Ž:=λG M h H x y v u Q c r i j q out=>by let(a,b,rfl,rfl,q):=JE q;exact(_,_,fk i,fk j,out _ h M H _ Ext.refl r e9 q)
def i0(i:Î):Þ:=Đ (-18446744073709551616<i)&&Đ (i<18446744073709551616)
def Gg(i j:Î):Þ:=i0 j||i0 i
def TU(h:Gg i j):Nv i j:=by
 delta Gg i0 at h;simp only[bF,aM,iW]at h;rcases h with h|h;.rwa[.inr ((),())]
 .rwa[.inl ((),())]
def w4(_ j:Î):Þ:=Đ (0<j)&&Đ (j<1073741824)
def ss:O2:=oI w4 λi j=>i/j
def Vn:jE Y (rI y8 λi j=>.I (i/j)) ss:=YK λi j h=>by delta w4 at h;simp only[aM,iW]at h;rwa[h]
def ϧ(_ j:Î):Þ:=Đ (0<j)
def tz:O2:=oI ϧ λi j=>i%j
def Vt:jE Y (rI (λ_ j=>0<j) λi j=>.I (i%j)) tz:=YK λi j h=>aO h
def El:O1:=λx h Q=>match x with|.p (.I i)=>Q (.p (.I (-i))) h|_=>ŧ
def Vv:ZQ Y (rU λi=>.I (-i)) El:=λG M h H x v Q a r i q out=>by
 delta El at q;split at q;.exact(_,fk i,out _ h M H _ Ext.refl r e9 q)
 .left
def jL(n:Ń):Þ:=Í n Â
def dO(h:jL n):n<=Â:=bx h
def dI(h:n<=Â):jL n=true:=mK h
def oj:O2:=λx y h Q=>eZ (iO x) (λi=>eZ (iO y) (λj=>Q (.p (.I (i+j))) h) ŧ) (eZ (sO x) (λa=>eZ (sO y) (λb=>gd (jL (a.length+b.length)) (Q (.p (.S (a++b))) h)) ŧ) (eZ (tO x) (λa=>eZ (tO y) (λb=>gd (jL (À a+À b)) (Q (.p (.T (a++b))) h)) ŧ) (eZ (jJ h x) (λa=>eZ (jJ h y) (λb=>gd (jL (À a+À b)) (Q (.p (.L (a++b))) h)) ŧ) ŧ)))
def Y7(K:Æ):R2:=λx y H Q=>MO (λi j=>.I (i+j)) x y H Q\/(∃i j,x=.S i/\y=.S j/\i.length+j.length<=Â/\Q (.S (i++j)) H)\/Q0 K x y H Q\/Xf x y H Q
def Wu:jz X (binaryOp .Add) (Y7 X.K):=aaB.or (Hy.or (Qc.or HA))
def Vj:jE Y (Y7 Y.K) oj:=λG M h H x y v u Q C r i j q out=>by
 rcases uZ q with ⟨n,e,q⟩|q;.let(o,f,q):=de q;cases vA e;cases vA f;rwa[.inl (_,_,fk i,fk j,out _ h M H _ Ext.refl r e9 q)]
 rcases uZ q with ⟨n,e,q⟩|q;.let(o,f,q):=de q;cases tM e;cases tM f;let(k,q):=bG q;rwa[.inr (.inl (_,_,fq i,fq j,dO k,out _ h M H _ Ext.refl r kI q))]
 rcases uZ q with ⟨n,e,q⟩|q;.let(o,f,q):=de q;cases KN e;cases KN f;let(k,q):=bG q;let(a,s,E,s1,I):=qM i;let(b,w,l,s2,g):=qM j;erw[.inr (.inr (.inl (a,b,s,w,E,l,s1,s2,by rw[<-I.len,<-g.len];rwa[dO k],λp t S z=>?_)))];erw[out _ h M t _ (iu S) (lA r S) ?_ q];exact(p,_,Ŗ,z,(I.app g).ext r (iu S))
 .let(a,A,q):=de q;let(b,B,q):=de q;let(k,q):=bG q;let(c,s,E,s1,I):=gZ r i A;let(d,w,l,s2,g):=gZ r j B;rwa[.inr (.inr (.inr (c,d,s,w,E,l,s1,s2,by rw[<-I.len,<-g.len];rwa[dO k],λp m=>out _ h M _ _ (Ext.add m) (r.add m) (nh r m (I.app g)) q)))]
def ĭ:O2:=oB iQ
def FS:O2:=oB λi j=>iQ j i
def ο:jE Y (MO λi j=>.B (Đ (i<j))) ĭ:=by rw[show(λi j:Î=>V.B _)=λi j=>.B (iQ i j)by funext i j;rw[Pt]];rwa[YJ]
def μ:jE Y (MO λi j=>.B (Đ (j<i))) FS:=by rw[show(λi j:Î=>V.B _)=λi j=>.B (iQ j i)by funext i j;rw[Pt]];rwa[YJ]
def Ĝ:O2:=λx y h Q=>eZ (sO x) (λa=>eZ (sO y) (λb=>Q (.p (.B ! Đ (b.cps.toList<a.cps.toList))) h) ŧ) (iI x y λi j=>Q (.p (.B (ED i j))) h)
def YF:R2:=λx y H Q=>MO (λi j=>.B (Đ (i<=j))) x y H Q\/∃i j,x=.S i/\y=.S j/\Q (.B ! Đ (j.cps.toList<i.cps.toList)) H
def aaG:jz X (compareOp .LtE) YF:=afK.or Mp
def ξ:jE Y YF Ĝ:=λG M h H x y v u Q d r i j q out=>by
 rcases uZ q with ⟨a,e,q⟩|q;.let(b,f,q):=de q;cases tM e;cases tM f;rwa[.inr (_,_,fq i,fq j,out _ h M H _ Ext.refl r iK q)]
 .let(a,b,rfl,rfl,c):=JE q;rw[aae]at c;rwa[.inl (_,_,fk i,fk j,out _ h M H _ Ext.refl r iK c)]
def YI:Pv->Þ|.N=>J|_=>af
def sU:Pv->Þ|.N=>J|.B _=>J|.I _=>J|.S _=>J|_=>af
def uQ(x:Pv):ϑ->Þ|[]=>af|y::r=>Ed y x||uQ x r
def fT:ϑ->Þ|[]=>J|x::r=>sU x&&fT r
def Ie(h:Hs):Dv->Ő ϑ|.p (.T X)=>O X|d=>jJ h d
def tV(r:bw (Y.z G) M H h)(i:fI (Y.z G) M H x v)(e:Ie h x=O xs):∃a vs,v=.A a/\(ie Y.K H a vs\/fS Y.K H a vs)/\bh (Y.z G) M H xs vs:=by
 delta Ie at e;split at e;.cases e;let(a,vs,E,s1,I):=qM i;exact(a,vs,E,.inr s1,I)
 .let(a,vs,E,s1,I):=gZ r i e;exact(a,vs,E,.inl (ie.of s1),I)
def Z2(a b:Î):(a==b)=lH a b:=by rw[yd];rwa[mI ..]
def GQ(f:sU p)(i:eG (Y.z G) M H p v):pK v/\∀{q:Pv}{u:V},sU q=J->eG (Y.z G) M H q u->SG u v=Ed q p:=by
 cases p<;>first|done|skip
 all_goals(subst i;erw[(Ŗ,λ{q u}g j=>?_)])
 all_goals(cases q<;>first|done|(subst j;first|rfl|rwa[qv _ _]|(rwa[Z2 _ _])|(ext b;cases b<;>rwa[Z2 _ _])|(ext b _;cases b<;>rwa[Z2 _ _])))
theorem IN{v:V}(f:sU p)(i:eG (Y.z G) M H p v):∀{xs:ϑ}{vs:ϕ},fT xs=J->bh (Y.z G) M H xs vs->vs.all pK/\γ v vs=uQ p xs|[],[],_,_=>(Ŗ,Ŗ)|[],_::_,_,h=>by done|_::_,[],_,h=>by rwa[h.elim]|x::xs,w::vs,g,h=>by simp only[fT,aM]at g;let(a,b):=IN f i g.2 h.2;erw[(by rw[bC,(GQ g.1 h.1).1,a];rfl,?_)];delta γ at b⊢;rw[CY,b,(GQ f i).2 g.1 h.1];rfl
def ģ(neg:Þ):O2:=λx y h Q=>match x with
 |.p a=>match Ie h y with|O X=>gd (sU a&&fT X) (Q (.p (.B (Cd neg (uQ a X)))) h)|aa=>match a,y with|.S i,.p (.S j)=>Q (.p (.B (Cd neg !(ä j i 0 j.length 1).isEmpty))) h|_,_=>ŧ
 |_=>ŧ
def ox(K:Æ)(neg:Þ):R2:=λx y H Q=>rk K neg x y H Q\/∃i j,x=.S i/\y=.S j/\Q (.B (neg !=!(ä j i 0 j.length 1).isEmpty)) H
def Ϧ:jz X (compareOp .In) (ox X.K af):=AQ.or λp s σ H x y v u Q I r R (i,j,e,E,q)=>Mo _ s σ H x y v u Q I r R (i,j,e,E,by rw[lK]at q;rwa[q])
def Mq:jz X (compareOp .NotIn) (ox X.K J):=Ck.or λp s σ H x y v u Q I r R (i,j,e,E,q)=>Cm _ s σ H x y v u Q I r R (i,j,e,E,by rw[nF]at q;rwa[q])
def OX:jE Y (ox Y.K neg) (ģ neg):=λG M h H x y v u Q d r i j q out=>by
 delta ģ at q;simp only[Ht]at q;split at q
 .split at q
  .ext X e;let(k,q):=bG q;rw[aM]at k;let(b,s,E,s1,I):=tV r j e;let(a,c):=IN k.1 i k.2 I;erw[.inl (b,s,E,s1,(GQ k.1 i).1,a,?_)];erw[out _ h M H _ Ext.refl r ?_ q];rw[c];cases neg;.rw[lK];rwa[iK]
   .rw[nF];rwa[iK]
  .split at q;.rwa[.inr (_,_,fq i,fq j,out _ h M H _ Ext.refl r iK q)]
   .left
 .left
def uh{α:Type}(xs:Ł α):Î->Ő α|.ofNat n=>xs[n]?|.negSucc n=>match Í (n+1) (À xs)with|J=>xs[À xs-(n+1)]?|af=>aa
def Bl{α:Type}(xs:Ł α)(n:Ń):uh xs (.negSucc n)=match Í (n+1) (À xs)with|J=>xs[À xs-(n+1)]?|af=>aa:=rfl
def F9(xs:Ł α)(i:Î):uh xs i=FK xs i:=by
 delta FK VG;cases i with|ofNat n=>
  show xs[n]?=_;rw[cG (show(0)<=Int.ofNat n from Int.natCast_nonneg n)];by_cases hn:n<À xs;.rw[cG (show Int.ofNat n<À xs by left)];rfl
  .rw[dh (show ¬Int.ofNat n<À xs by left),Tk ()];rfl|negSucc n=>
  rw[dh (),Bl];by_cases hn:n+1<=À xs;.rw[cG (),mK hn];show xs[À xs-(n+1)]?=xs[(Int.negSucc n+À xs).toNat]?;rw[show(Int.negSucc n+À xs).toNat=À xs-(n+1)by lia]
  .rw[dh (),bg.mpr λz=>hn (bx z)];rfl
def o7(h:Hs):Dv->Ő (Ł Dv)
 |.r i=>match h[i]? with|O (.D ds)=>O ds|_=>aa
 |_=>aa
def uY:O2:=λx y h Q=>match y with
 |.p (.I i)=>match Ie h x with|O X=>eZ (uh X i) (λz=>Q (.p z) h) ŧ|aa=>match x with|.p (.S z)=>gd (jL z.length) (eZ (uh z.cps.toList i) (λc=>Q (.p (.S ⟨#[c]⟩)) h) ŧ)|.p (.scr X)=>eZ (uh X i) (λz=>Q (.p z) h) ŧ|x=>match o7 h x with|O ds=>eZ (uh ds i) (λd=>Q d h) ŧ|aa=>ŧ
 |_=>ŧ
theorem bh.FK(q:bh (Y.z G) M H xs vs)(e:uh xs i=O z):∃v,L2.FK vs i=O v/\eG (Y.z G) M H z v:=by rw[<-F9];cases i with|ofNat n=>rwa[q.get e]|negSucc n=>
  rw[Bl]at e⊢;rw[<-q.len];split at e;.rwa[q.get e]
  .cases e
theorem cD.len:∀{ds:Ł Dv}{vs:ϕ},cD Z M H ds vs->À ds=À vs|[],[],_=>Ŗ|[],_::_,h=>h.elim|_::_,[],h=>h.elim|_::_,_::_,h=>by rw[aq,aq,cD.len h.2]
def jy.ln(t:jy Y C vs H q E)(k:∀ds h Q X,C ds h Q X->À ds=n):À vs=n:=by let(G,M,h,ds,a,X,r,i,c,_,_):=t;rw[<-i.len];rwa[k _ _ _ _ c]
theorem cD.get{M:Ł _}{H:Hp}:∀{xs:Ł Dv}{vs:ϕ}{i:Ń}{x:Dv},cD Z M H xs vs->xs[i]?=O x->∃v,vs[i]?=O v/\fI Z M H x v|[],_,_,_,_,e=>by grind|_::_,[],_,_,h,_=>h.elim|_::_,v::_,0,_,h,e=>by cases e;exact(v,Ŗ,h.1)|_::_,_::_,i+1,_,h,e=>by let(w,b,a):=cD.get h.2 (by done);exact(w,by done,a)
theorem cD.FK(q:cD (Y.z G) M H xs vs)(e:uh xs i=O z):∃v,L2.FK vs i=O v/\fI (Y.z G) M H z v:=by rw[<-F9];cases i with|ofNat n=>rwa[q.get e]|negSucc n=>
  rw[Bl]at e⊢;rw[<-q.len];split at e;.rwa[q.get e]
  .cases e
def ν:jE Y (ī Y.K) uY:=λG M h H x y v u Q D r i j q out=>by
 delta uY eZ at q;split at q
 .split at q
  .ext X e;split at q
   .ext z g;let(a,s,E,s1,I):=tV r i e;let(w,b,f):=I.FK g;let o:=out (.p z) h M H w Ext.refl r f q;rcases s1 with s1|s1;.rwa[.inl (a,s,_,w,E,fk j,s1,b,o)]
    .rwa[.inr (.inl (a,s,_,w,E,fk j,s1,b,o))]
   .left
  .split at q
   .let(k,q):=bG q;split at q;.ext c l;rw[F9]at l;rwa[.inr (.inr (_,_,c,fq i,fk j,dO k,l,out _ h M H _ Ext.refl r kI q))]
    .left
   .split at q;.ext z g;let(a,s,E,s1,I):=i;let(w,b,f):=I.FK g;rwa[.inl (a,s,_,w,E,fk j,Rk s1,b,out (.p z) h M H w Ext.refl r f q)]
    .left
   .split at q
    .ext ds e;split at q
     .ext d m;delta o7 at e;split at e
      .split at e;.ext n;cases e;let(a,b,f):=i;let(s,t,A):=r.at' b n;let(w,B,C):=A.FK m;rwa[.inl (a,s,_,w,f,fk j,ie.of t,B,out _ h M H w Ext.refl r C q)]
       .cases e
      .cases e
     .left
    .left
 .left
def mf(n:Ń):Ő Î->Ń|aa=>0|O (.ofNat k)=>k|O (.negSucc k)=>n-(k+1)
def pD{α:Type}(xs:Ł α)(lo i:Ő Î):Ł α:=match i with|aa=>xs.drop (mf (À xs) lo)|O (.ofNat k)=>(xs.take k).drop (mf (À xs) lo)|O (.negSucc k)=>(xs.take (À xs-(k+1))).drop (mf (À xs) lo)
def AU(n d k:Ń):HT.nB n d (O (.ofNat k))=min k n:=HT.Ks n d k
def Kt(n d k:Ń):HT.nB n d (O (.negSucc k))=n-(k+1):=by let h:=HT.BB (.negSucc k) n d;rw[cG ()]at h;lia
def BK{α:Type}(xs:Ł α)(n:Ń)(hn:À xs<=n)(lo:Ő Î):xs.drop (HT.nB n 0 lo)=xs.drop (mf n lo):=by cases lo with|n=>rfl|s i=>cases i with
  |ofNat k=>
   rw[AU];show xs.drop _=xs.drop k;by_cases h:k<=n;.rw[Nat.min_eq_left h]
   .left|negSucc k=>rw[Kt];rfl
def Ul(xs:ϕ)(lo hi:Ő Î):rh xs lo hi=pD xs lo hi:=by
 delta rh;rw[<-List.drop_take];let e:xs.take (HT.nB (À xs) (À xs) hi)=match hi with|aa=>xs|O (.ofNat k)=>xs.take k|O (.negSucc k)=>xs.take (À xs-(k+1)):=by cases hi with|n=>rw[HT.Fh,gT]|s i=>cases i with
   |ofNat k=>
    rw[AU];by_cases h:k<=À xs;.simp
    .simp|negSucc k=>rw[Kt]
 rw[e];cases hi with|n=>rwa[BK xs _ (au _) lo]|s i=>cases i with|ofNat k=>rwa[BK _ _ (by rw[bX];rwa[Nat.min_le_right ..]) lo]|negSucc k=>rwa[BK _ _ (by rw[bX];rwa[Nat.min_le_right ..]) lo]
theorem bh.drop:∀{xs:ϑ}{vs:ϕ}(n:Ń),bh Z M H xs vs->bh Z M H (xs.drop n) (vs.drop n)|_,_,0,q=>q|[],[],n+1,q=>q|[],_::_,_+1,q=>by done|_::_,[],_+1,q=>by done|_::_,_::_,n+1,q=>by rwa[bh.drop n q.2]
theorem bh.take:∀{xs:ϑ}{vs:ϕ}(n:Ń),bh Z M H xs vs->bh Z M H (xs.take n) (vs.take n)|xs,vs,0,q=>by done|[],[],n+1,q=>q|[],_::_,_+1,q=>by done|_::_,[],_+1,q=>by assumption|_::_,_::_,n+1,q=>by exact(q.1,bh.take n q.2)
theorem bh.rh(q:bh (Y.z G) M H xs vs)(lo a:Ő Î):bh (Y.z G) M H (pD xs lo a) (L2.rh vs lo a):=by rw[Ul];delta pD;rw[q.len];cases a with|n=>rwa[q.drop _]|s i=>cases i with|ofNat k=>exact(q.take k).drop _|negSucc k=>exact(q.take _).drop _
end
def sP(m:Ő Sm)(x:XP)(σ:Es)(h:Hs)(Q:Ő Î->Hs->ß):ß:=match m with|aa=>Q aa h|O L=>L x σ h λX H=>match X with|[.p (.I i)]=>Q (O i) H|_=>ŧ
def ub(x:Dv)(lo H:Ő Î)(h:Hs)(Q:Dv->Hs->ß):ß:=match x with|.p (.T X)=>Q (.p (.T (pD X lo H))) h|.p (.S z)=>gd (jL z.length) (Q (.p (.S (á z lo H))) h)|x=>match jJ h x with|O X=>Q (.p (.L (pD X lo H))) h|aa=>ŧ
def sSl(A:Sm)(L U:Ő Sm):Sm:=λX σ h Q=>A X σ h λs H=>match s with|[x]=>sP L X σ H λlo a=>sP U X σ a λi b=>ub x lo i b λd c=>Q [d] c|_=>ŧ
def č(K:Æ):V->Ő Î->Ő Î->Hp->VK->ß:=λx lo h H Q=>Zb K x lo h H Q\/(∃z:Ã,x=.S z/\z.length<=Â/\Q (.S (á z lo h)) H)\/Rg K x lo h H Q
def amb:IG X (č X.K):=Kw.or (XC.or XB)
def υ{Y:T0}{lo:Ő Î}(r:bw (Y.z G) M H h)(i:fI (Y.z G) M H x v)(q:ub x lo b h Q)(out:∀d f M' H' w,Ext M H M' H'->bw (Y.z G) M' H' f->fI (Y.z G) M' H' d w->Q d f->QV w H'):č Y.K v lo b H QV:=by
 delta ub at q;split at q;.let(a,s,E,s1,I):=qM i;erw[.inl (a,s,E,s1,λp H' S g=>?_)];erw[out _ h M H' _ (iu S) (lA r S) ?_ q];exact(p,_,Ŗ,g,(I.rh lo b).ext r (iu S))
 .let(k,q):=bG q;rwa[.inr (.inl (_,fq i,dO k,out _ h M H _ Ext.refl r kI q))]
 .split at q;.ext X e;let(a,s,E,s1,I):=gZ r i e;rwa[.inr (.inr (a,s,E,ie.of s1,λp c=>out _ h M _ _ (Ext.add c) (r.add c) (nh r c (I.rh lo b)) q))]
  .left
structure Ů(Z:Tx)(E:XK)(τ:Ç)(H:Hp)(R:Ő Î->Hp->ß)(M:Ł Á)(σ:Es)(h:Hs)(xc:XP)(Q:Ő Î->Hs->ß):ß where
 rel:bw Z M H h
 env:dG Z M H σ τ
 out:∀o h' M' H',Ext M H M' H'->bw Z M' H' h'->Q o h'->R o H'
 exc:∀C h' M' H',Ext M H M' H'->bw Z M' H' h'->xc C h'->E (.ref (Z.ca C)) aa H'
inductive MY(Y:T0)(E:XK)(m:Ő Sm)(τ:Ç)(H:Hp)(R:Ő Î->Hp->ß):ß|mk(G M:Ł Á)(σ:Es)(h:Hs)(xc:XP)(Q:_)(k:Ů (Y.z G) E τ H R M σ h xc Q)(q:sP m xc σ h Q):MY Y E m τ H R
def _root_.L2.PO.imp{X:Cx}{e:Ő _}{t t':TO}(h:PO X e t')(i:∀σ H Q,t σ H Q->t' σ H Q):PO X e t:=λp s σ H Q I q=>h _ s σ H Q I (i σ H Q q)
def QA:PO X aa (MY 'X' E aa):=J9.imp λτ H R z=>by let(G,M,σ,h,x,Q,k,q):=z;rwa[k.out _ h M H Ext.refl k.rel q]
def QC(g:PE X e (cQ 'X' E A)):PO X (O e) (MY 'X' E (O A)):=(Ka g).imp λτ H R z=>by
 let(G,M,σ,h,x,Q,k,q):=z;erw[(G,M,σ,h,x,_,(k.rel,k.env,λd l M1 m v e r i q=>?_,k.exc),q)];split at q;.ext j f;injection f with f;subst f;exact(j,fk i,k.out _ l M1 m e r q)
 .left
def Ţ{lo:Ő Å}(j:PE X e (cQ 'X' E A))(l:PO X lo (MY 'X' E L))(hu:PO X hi (MY 'X' E U)):PE X (.Subscript e (.Slice lo hi aa p) pos) (cQ 'X' E (sSl A L U)):=(ET amb j l hu).imp λτ H Z z=>by let(G,M,σ,h,x,Q,k,q):=z;exact(G,M,σ,h,x,_,(k.rel,k.env,λd m M1 H1 v f r I n=>(G,M1,σ,m,x,_,(r,k.env.ext k.rel f,λol o s H2 g R u=>(G,s,σ,o,x,_,(R,k.env.ext k.rel (f.trans g),λou h3 M3 H3 i y C=>υ y ((I.ext r g).ext R i) C λD F K N w P S W Y=>k.out D F K N w (f.trans (g.trans (i.trans P))) S W Y,k.UJ (f.trans g)),u),k.UJ f),n),k.exc),q)
def Wk:ON:=λds h Q=>match vP ds with|O x=>gd (jL (À x)) (Q (.p (.T x)) h)|aa=>ŧ
def Wj:ON:=λds h Q=>match vP ds with|O x=>gd (jL (À x)) (Q (.p (.L x)) h)|aa=>ŧ
def r9:ON:=λds h Q=>match vP ds with|O x=>gd (jL (À x)) (Q (.r (À h)) (h++[.L x]))|aa=>ŧ
def O':ON:=λds h Q=>gd (jL (À ds)) (Q (.r (À h)) (h++[.D ds]))
theorem rO{Y:T0}{G M:Ł _}{H:Hp}:∀{ds:Ł Dv}{vs:ϕ}{xs:ϑ},vP ds=O xs->cD (Y.z G) M H ds vs->bh (Y.z G) M H xs vs
 |[],[],_,e,_=>by cases e;done|[],_::_,_,_,q=>q.elim|_::_,[],_,_,q=>q.elim|.r _::_,_::_,_,e,_=>by cases e|.p x::ds,v::vs,xs,e,q=>by
  delta vP at e;split at e;.ext s y;cases e;exact(q.1,rO y q.2)
  .lia
def XY(h:cQ 'X' E (sN Wk A) τ H QV):Ħ (ic 'X' E A) τ H QV:=by
 let(G,M,σ,h,x,Q,k,q):=h;erw[(G,M,σ,h,x,_,(k.rel,k.env,λd i M1 l v j r I f=>?_,k.exc),q)];delta Wk at f;split at f;.ext s ex;let(c,f):=bG f;let i2:=rO ex I;exact(by rw[<-i2.len];rwa[dO c],λp g=>k.out _ i M1 _ _ (j.trans (Ext.add g)) (r.add g) (yi r g i2) f)
 .left
def ϝ(h:PA X a7 (ic 'X' E A)):PE X (.Tuple a7 k1 pos) (cQ 'X' E (sN Wk A)):=(HD h).imp λ_ _ _=>XY
def KJ(h:cQ 'X' E (sN Wj A) τ H QV):RA (ic 'X' E A) τ H QV:=by
 let(G,M,σ,h,x,Q,k,q):=h;erw[(G,M,σ,h,x,_,(k.rel,k.env,λd i M1 l v j r I f=>?_,k.exc),q)];delta Wj at f;split at f;.ext s ex;let(c,f):=bG f;let i2:=rO ex I;exact(by rw[<-i2.len];rwa[dO c],λp g=>k.out _ i M1 _ _ (j.trans (Ext.add g)) (r.add g) (nh r g i2) f)
 .left
def Ϯ(h:PA X a7 (ic 'X' E A)):PE X (.List a7 pos) (cQ 'X' E (sN Wj A)):=(yF h).imp λ_ _ _=>KJ
def Eo{h:Hs}(e:À M=À h):fI Z (M++[p]) H (.r (À h)) (.A p):=(p,by rw[<-e,aK (au _),eY];rfl,Ŗ)
def XS(h:cQ 'X' E (sN r9 A) τ H QV):RA (ic 'X' E A) τ H QV:=by
 let(G,M,σ,h,x,Q,k,q):=h;erw[(G,M,σ,h,x,_,(k.rel,k.env,λd j M1 l v i r I f=>?_,k.exc),q)];delta r9 at f;split at f;.ext s ex;let(c,f):=bG f;let i2:=rO ex I;exact(by rw[<-i2.len];rwa[dO c],λp g=>k.out _ _ _ _ _ (i.trans (Ext.push r g)) (r.push (o:=.L s) g (v,bA,i2.ext r (Ext.push r g))) (Eo r.ln) f)
 .left
def ő(h:PA X a7 (ic 'X' E A)):PE X (.List a7 pos) (cQ 'X' E (sN r9 A)):=(yF h).imp λ_ _ _=>XS
def XR(h:cQ 'X' E (sN O' A) τ H QV):RA (ic 'X' E A) τ H QV:=by let(G,M,σ,h,x,Q,k,q):=h;erw[(G,M,σ,h,x,_,(k.rel,k.env,λd l M1 m v j r i f=>?_,k.exc),q)];let(c,f):=bG f;exact(by rw[<-i.len];rwa[dO c],λp g=>k.out _ _ _ _ _ (j.trans (Ext.push r g)) (r.push (o:=.D d) g (v,bA,i.ext r (Ext.push r g))) (Eo r.ln) f)
def aa3(h:PA X a7 (ic 'X' E A)):PE X (.List a7 pos) (cQ 'X' E (sN O' A)):=(yF h).imp λ_ _ _=>XR
section
variable{Y:T0}{X:Cx}{t:Tb}
def cD.om(q:cD Z M H [d] vs):∃v,vs=[v]/\fI Z M H d v:=by cases vs with|i=>rwa[q.elim]|k v r=>cases r with|i=>exact(v,Ŗ,q.1)|k _ _=>rwa[q.2.elim]
def cD.two'(q:cD Z M H [d,e] vs):∃v u,vs=[v,u]/\fI Z M H d v/\fI Z M H e u:=by cases vs with|i=>rwa[q.elim]|k v r=>let(u,rfl,i):=cD.om q.2;exact(v,u,Ŗ,q.1,i)
def j4:ON:=λds h Q=>match ds with
 |[x]=>match Ie h x with|O s=>Q (.p (.I (À s))) h|aa=>match x with|.p (.S z)=>gd (jL z.length) (Q (.p (.I z.length)) h)|.p (.scr s)=>Q (.p (.I (À s))) h|.p (.dct k _)=>Q (.p (.I (À k))) h|x=>match o7 h x with|O ds=>Q (.p (.I (À ds))) h|aa=>ŧ
 |_=>ŧ
def Y8(K:Æ):ϕ->Hp->VK->ß:=λx H Q=>(∃p y,x=[.A p]/\(ie K H p y\/fS K H p y)/\Q (.I (À y)) H)\/(∃z,x=[.S z]/\z.length<=Â/\Q (.I z.length) H)\/∃a b,x=[V.A a]/\H a=O (.dK b)/\Q (.I (À b)) H
def Lo:dW X (.builtin "len") (Y8 X.K):=Bv.or (Bw.or Lp)
def Vq:v8 Y (Y8 Y.K) j4:=λG M h H x s Q j r b q out=>by
 delta j4 at q;split at q
 .let(v,rfl,i):=b.om;split at q;.ext y e;let(a,w,E,s1,I):=tV r i e;rwa[.inl (a,w,by rw[E],s1,out _ h M H _ Ext.refl r (by rw[<-I.len];rwa[e9]) q)]
  .split at q;.let(k,q):=bG q;rwa[.inr (.inl (_,by rw[fq i],dO k,out _ h M H _ Ext.refl r e9 q))]
   .let(a,w,E,s1,I):=i;rwa[.inl (a,w,by rw[E],.inl (Rk s1),out _ h M H _ Ext.refl r (by rw[<-I.len];rwa[e9]) q)]
   .let(a,B,E,_,s1,I,_):=i;rwa[.inr (.inr (a,B,by rw[E],s1,out _ h M H _ Ext.refl r (by rw[I.len,ai];rwa[e9]) q))]
   .split at q
    .ext ds e;delta o7 at e;split at e
     .split at e;.ext o;cases e;let(a,c,d):=i;let(w,f,g):=r.at' c o;rwa[.inl (a,w,by rw[d],.inl (ie.of f),out _ h M H _ Ext.refl r (by rw[<-g.len];rwa[e9]) q)]
      .cases e
     .cases e
    .left
 .left
def He(c:Ń):Pv->Ő Þ|.S _=>O (Ë c 0)|.I _=>O (Ë c 1)|.B _=>O (Ë c 2||Ë c 1)|.T _=>O (Ë c 3)|.L _=>O (Ë c 4)|.N=>O af|.dct _ _=>O af|_=>aa
def EN:ON:=λds h Q=>match ds with|[x,.p (.ty c)]=>gd (Í c 4) (match x with
  |.p a=>match He c a with|O b=>Q (.p (.B b)) h|aa=>ŧ
  |.r i=>match h[i]? with|O (.L _)=>Q (.p (.B (Ë c 4))) h|O (.D _)=>Q (.p (.B (Ë c 4))) h|_=>ŧ)|_=>ŧ
def Op(K:Æ)(H:Hp)(x:V)(n:String):ß:=Nq H x=O n\/n="tuple"/\∃a s,x=.A a/\fS K H a s
def Xh(K:Æ):ϕ->Hp->VK->ß:=λs H Q=>∃x c n,s=[x,.ty c]/\Op K H x n/\c ∈["str","int","bool","tuple","list"]/\Q (.B (zQ n c)) H
def Ln:dW X (.builtin "isinstance") (Xh X.K):=by
 intro p s σ H i U Q I r h;let(x,c,n,rfl,b,d,q):=h;rcases b with b|⟨rfl,a,y,rfl,sq⟩;.rwa[NV _ s σ H _ U Q I r (x,c,n,Ŗ,b,d,q)]
 .let(u,v,rfl,R,e):=r.two;obtain rfl:v=ñ c:=e;cases R;obtain⟨L,_,⟨o,f,g,_⟩,_⟩:=I.tuple sq;rwa[cP PySem.W.kitx_tuple I.oR (o,f,g) (Pf (.tail _ (.tail _ (.tail _ (.tail _ (.tail _ (.head _)))))) d) (λz=>nomatch z) λT=>(.B _,H,I.tok T,Ŗ,q)]
def K3{P:Ń->ß}(H:P 0)(a:P 1)(b:P 2)(d:P 3)(e:P 4):∀{c:Ń},Í c 4=J->P c|0,_=>H|1,_=>a|2,_=>b|3,_=>d|4,_=>e|_+5,h=>(aD h).elim
def RQ{c:Ń}:Í c 4=J->lW c ∈["str","int","bool","tuple","list"]:=K3 (P:=λc=>lW c ∈["str","int","bool","tuple","list"]) (.head _) (.tail _ (.head _)) (.tail _ (.tail _ (.head _))) (.tail _ (.tail _ (.tail _ (.head _)))) (.tail _ (.tail _ (.tail _ (.tail _ (.head _)))))
def Vo:v8 Y (Xh Y.K) EN:=λG M h H m U Q QV r A q out=>by
 delta EN at q;split at q;.ext x c;let(v,u,rfl,i,j):=A.two';let C:u=.ty (lW c):=j;subst C;let(k,q):=bG q;let fin:∀{n:String}{g:Ń->Þ},Op Y.K H v n->Q (.p (.B (g c))) h->zQ n (lW 0)=g 0->zQ n (lW 1)=g 1->zQ n (lW 2)=g 2->zQ n (lW 3)=g 3->zQ n (lW 4)=g 4->Xh Y.K [v,.ty (lW c)] H QV:=λ{n g}F q R b d f l=>(v,lW c,n,Ŗ,F,RQ k,by rw[K3 (P:=λc=>zQ n (lW c)=g c) R b d f l k];rwa[out _ h M H _ Ext.refl r iK q]);let s:Nq H v=O "list"->Q (.p (.B (Ë c 4))) h->Xh Y.K [v,.ty (lW c)] H QV:=λe q=>fin (n:="list") (g:=λc=>Ë c 4) (.inl e) q rfl rfl rfl rfl rfl;cases x with
  |p a=>cases a with|S z=>rwa[fin (g:=λc=>Ë c 0) (.inl (by rw[fq i];rfl)) q rfl rfl rfl rfl rfl]|I z=>rwa[fin (g:=λc=>Ë c 1) (.inl (by rw[fk i];rfl)) q rfl rfl rfl rfl rfl]|B z=>rwa[fin (g:=λc=>Ë c 2||Ë c 1) (.inl (by rw[Nw i];rfl)) q rfl rfl rfl rfl rfl]|N=>rwa[fin (g:=λ_=>af) (.inl (by rw[Nx i];rfl)) q rfl rfl rfl rfl rfl]|T m=>let(a,w,E,s1,y):=qM i;rwa[fin (g:=λc=>Ë c 3) (.inr (Ŗ,a,w,E,s1)) q rfl rfl rfl rfl rfl]|L m=>let(a,w,E,_,s1,y):=i;rwa[s (by rw[E];simp only[Nq,s1]) q]|dct W Z=>let(a,w,E,_,s1,y):=i;rwa[fin (n:="dict") (g:=λ_=>af) (.inl (by rw[E];simp only[Nq,s1])) q rfl rfl rfl rfl rfl]|_=>rwa[q.elim]
  |r n=>
   change match h[n]? with|O (.L _)=>Q _ h|O (.D _)=>Q _ h|_=>ŧ at q;split at q;.ext o;let(a,b,d):=i;let(w,f,l):=r.at' b o;rwa[s (by rw[d];simp only[Nq,f]) q]
   .ext o;let(a,b,d):=i;let(w,f,l):=r.at' b o;rwa[s (by rw[d];simp only[Nq,f]) q]
   .left
 .left
def xE:ϑ->Ő (Ł Þ)
 |[]=>O []|.B b::r=>match xE r with|O bs=>O (b::bs)|aa=>aa
 |_::_=>aa
def wT(q:bh Z M H (x::xs) (v::vs)):fI Z M H (.p x) v/\bh Z M H xs vs:=by done
def ms{α:Type}{a:α}{p:ß}(h:aa=O a):p:=nomatch h
def Z8{xs:ϑ}:∀{bs:Ł _}{vs:ϕ},xE xs=O bs->bh (Y.z G) M H xs vs->vs=bs.map V.B:=by induction xs with
 |i=>intro bs vs e q;cases e;cases vs with|i=>rfl|k _ _=>done
 |k x xs i=>intro bs vs e q;cases vs with|i=>done|k v vs=>let q2:=wT q;let Q:=q2.1;replace q2:=q2.2;clear q;cases x with
   |B b=>change(match xE xs with|O bs=>O _|aa=>aa)=O bs at e;cases E:xE xs with|n=>rw[E]at e;rwa[ms e]|s y=>rw[E]at e;cases e;rw[Nw Q,i E q2];rfl
   |_=>rwa[ms e]
@[irreducible]def Wi:ON:=λds h Q=>match ds with
 |[x]=>match jJ h x with|O s=>eZ (xE s) (λbs=>Q (.p (.B (bs.all id))) h) ŧ|aa=>ŧ
 |_=>ŧ
def Vk:v8 Y (λxs H Q=>∃(l:Á)(bs:Ł _),xs=[.A l]/\ie Y.K H l (bs.map V.B)/\Q (.B (bs.all id)) H) Wi:=λG M h H xs s Q d r I q out=>by
 delta Wi eZ at q;split at q
 .let(v,rfl,i):=I.om;split at q
  .ext y e;split at q;.ext bs E;let(a,w,b,s1,c):=gZ r i e;rw[Z8 E c]at s1;exact(a,bs,by rw[b],ie.of s1,out _ h M H _ Ext.refl r iK q)
   .left
  .left
 .left
def gj:ON:=λds h Q=>match ds with
 |[x]=>match Ie h x with|O s=>Q (.p (.T s)) h|aa=>ŧ
 |_=>ŧ
def O6:v8 Y (λxs H Q=>∃p ys,xs=[.A p]/\((ie Y.K H p ys/\∀l,H l=aa->Q (.A l) (upd H l (.T ys)))\/fS Y.K H p ys/\Q (.A p) H)) gj:=λG M h H xs s Q d r c q out=>by
 delta gj at q;split at q
 .let(v,rfl,i):=c.om;split at q
  .ext ys e;let(a,w,rfl,s1,I):=tV r i e;erw[(a,w,Ŗ,?_)];rcases s1 with s1|s1;.rwa[.inl (s1,λp b=>out _ h M _ _ (Ext.add b) (r.add b) (yi r b I) q)]
   .rwa[.inr (s1,out _ h M H _ Ext.refl r (by exact(a,w,Ŗ,s1,I)) q)]
  .left
 .left
def YX:ON:=λds h Q=>match ds with
 |[x]=>match Ie h x with|O s=>Q (.p (.L s)) h|aa=>ŧ
 |_=>ŧ
def O0:v8 Y (λxs H Q=>∃p ys,xs=[.A p]/\(ie Y.K H p ys\/fS Y.K H p ys)/\∀l,H l=aa->Q (.A l) (upd H l (.L ys))) YX:=λG M h H xs s Q d r I q out=>by
 delta YX at q;split at q
 .let(v,rfl,i):=I.om;split at q;.ext ys e;let(a,w,rfl,s1,c):=tV r i e;exact(a,w,Ŗ,s1,λp b=>out _ h M _ _ (Ext.add b) (r.add b) (nh r b c) q)
  .left
 .left
def YW:ON:=λds h Q=>match ds with|[.p (.I i)]=>Q (.p (.I i)) h|[.p (.B b)]=>Q (.p (.I (b2 b))) h|_=>ŧ
def OY:v8 Y (λxs H Q=>(∃i,xs=[.I i]/\Q (.I i) H)\/∃k,xs=[.B k]/\Q (.I (if k then 1 else 0)) H) YW:=λG M h H xs s Q c r a q out=>by
 delta YW at q;split at q;.let(v,rfl,i):=a.om;rwa[.inl (_,by rw[fk i],out _ h M H _ Ext.refl r e9 q)]
 .let(v,rfl,i):=a.om;ext b;rwa[.inr (b,by rw[Nw i],out _ h M H _ Ext.refl r (by cases b<;>rwa[e9]) q)]
 .left
def ϖ:ON:=λds h Q=>d1 ds λx=>eZ (sO x) (λz=>Q (.p (.S z)) h) (eZ (iO x) (λi=>gd (Đ (i.natAbs.log2<1920)) (Q (.p (.S (toString i))) h)) ŧ)
def O5:v8 Y (λxs H Q=>(∃z,xs=[.S z]/\Q (.S z) H)\/∃i,xs=[.I i]/\i.natAbs.log2<1920/\Q (.S (toString i)) H) ϖ:=λG M h H xs s Q c r b q out=>by
 let(x,rfl,q):=Jh q;let(v,rfl,i):=b.om;rcases uZ q with ⟨a,e,q⟩|q;.cases tM e;rwa[.inl (_,by rw[fq i],out _ h M H _ Ext.refl r kI q)]
 .let(a,e,q):=de q;cases vA e;let(k,q):=bG q;rwa[.inr (_,by rw[fk i],aO k,out _ h M H _ Ext.refl r kI q)]
end
def rG:Pv->Ő b6|.S x=>O (.inr x)|.I i=>O (.inl i)|_=>aa
def Hh:Pv->Pv->Þ|.S a,.S b=>ax a b|.I a,.I b=>lH a b|_,_=>af
def jc(k:Pv):ϑ->ϑ->Ő Pv
 |K::s,u::U=>match Hh K k with|J=>O u|af=>jc k s U
 |_,_=>aa
def D3(k:Pv):ϑ->Þ|[]=>af|K::s=>Hh K k||D3 k s
def Of(k v:Pv):ϑ->ϑ->ϑ|K::s,u::U=>(match Hh K k with|J=>v|af=>u)::Of k v s U|_,U=>U
def D8(k v:Pv)(ks us:ϑ):ϑ:=match D3 k ks with|J=>Of k v ks us|af=>us++[v]
def D7(k:Pv)(ks:ϑ):ϑ:=match D3 k ks with|J=>ks|af=>ks++[k]
def vu{Y:T0}(e:rG k=O κ)(i:eG (Y.z G) M H k v):v=kV κ:=by
 cases k<;>first|done|skip
 .cases e;rwa[i]
 .cases e;rwa[i]
def ż{Y:T0}(i:eG (Y.z G) M H k (kV κ)):rG k=O κ:=by cases k with|S x=>cases κ<;>cases i;rfl|I x=>cases κ<;>cases i;rfl|N=>cases κ<;>cases i|B _=>cases κ<;>cases i|ty _=>cases κ<;>cases i|obj _ _=>let(_,_,_,e,_):=i;cases κ<;>cases e|fn _=>let(_,_,e):=i;cases κ<;>cases e|_=>let(_,_,e,_):=i;cases κ<;>cases e
def EA(h:rG a=O κ)(d:rG b=O c):Hh a b=Đ (κ=c):=by
 cases a<;>first|done|skip
 all_goals(cases b<;>first|done|skip)
 all_goals(cases h;cases d)
 .ext x y;show lH x y=_;rw[yd];by_cases e:x=y;.simp
  .simp
 .rfl
 .rfl
 .ext x y;show ax x y=_;by_cases e:x=y;.rw[aI.mpr e,bR (by rw[e])]
  .rw[bg.mpr λz=>e (aI.mp z),dP λz=>e ()]
def lS(Y:T0)(G M:Ł Á)(H:Hp)(ks us:ϑ)(b:Ł (b6×V)):ß:=bh (Y.z G) M H ks (b.map λp=>kV p.1)/\bh (Y.z G) M H us (b.map (·.2))
def lS.cons{ks us:ϑ}{p:b6×V}{bI:Ł _}:lS Y G M H (k::ks) (u::us) (p::bI)↔(rG k=O p.1/\eG (Y.z G) M H u p.2)/\lS Y G M H ks us bI:=by
 constructor;.rintro⟨a,b⟩;exact((ż a.1,b.1),a.2,b.2)
 .rintro⟨⟨a,b⟩,c,d⟩;erw[((?_,c),b,d)];cases k<;>first|done|skip
  .ext n;let:kV p.1=V.I n:=by injection a with a;rw[<-a];rfl
   rwa[this]
  .ext n;let:kV p.1=V.S n:=by injection a with a;rw[<-a];rfl
   rwa[this]
theorem lS.ind{P:ϑ->ϑ->Ł _->ß}(d:P [] [] [])(e:∀k u ks us p B,rG k=O p.1->eG (Y.z G) M H u p.2->lS Y G M H ks us B->P ks us B->P (k::ks) (u::us) (p::B)):∀{ks us:ϑ}{B:Ł _},lS Y G M H ks us B->P ks us B|[],[],[],_=>d|k::ks,u::us,p::B,h=>by obtain⟨⟨a,b⟩,c⟩:=lS.cons.mp h;rwa[e k u ks us p B a b c (lS.ind d e c)]|[],_::_,B,h=>by let:=h.1.len.trans (by rw[ai]);let:=h.2.len.trans (by rw[ai]);simp at*;lia|_::_,[],B,h=>by let:=h.1.len.trans (by rw[ai]);let:=h.2.len.trans (by rw[ai]);simp at*;lia|[],[],_::_,h=>by let:=h.1.len;simp at this|_::_,_::_,[],h=>by let:=h.1.len;simp at this
def Jq(h:rG k=O κ)(d:lS Y G M H ks us b):(∃p v,jc k ks us=O p/\qK b κ=O v/\eG (Y.z G) M H p v)\/jc k ks us=aa/\qK b κ=aa:=by
 erw[lS.ind (P:=λks us b=>(∃p v,jc k ks us=O p/\qK b κ=O v/\eG _ M H p v)\/jc k ks us=aa/\qK b κ=aa) (.inr (Ŗ,Ŗ)) (λK u ks us p b a c f i=>?_) d];let e:=EA a h;by_cases z:p.1=κ;.rw[bR z]at e;rwa[.inl (u,p.2,by delta jc;rw[e],zh z,c)]
 .rw[dP z]at e;let E:jc k (K::ks) (u::us)=jc k ks us:=by show(match Hh K k with|J=>O u|af=>jc k ks us)=_;rw[e]
  rw[E,zg z];rwa[i]
def LF(h:rG k=O κ)(d:lS Y G M H ks us b)(e:jc k ks us=O p):∃v,qK b κ=O v/\eG (Y.z G) M H p v:=by
 rcases Jq h d with ⟨q,v,a,c,f⟩|⟨a,_⟩;.left
 .left
theorem lS.app(a:lS Y G M H ks us B)(b:lS Y G M H ks' us' A):lS Y G M H (ks++ks') (us++us') (B++A):=by delta lS;rw[aR,aR];exact(a.1.app b.1,a.2.app b.2)
def lS.nil:lS Y G M H [] [] []:=by done
def UA(c:rG k=O κ)(f:eG (Y.z G) M H w v)(d:lS Y G M H ks us b):lS Y G M H (D7 k ks) (D8 k w ks us) (yG b κ v):=by
 let h:(b.any λK=>Đ (K.1=κ))=D3 k ks/\lS Y G M H ks (Of k w ks us) (b.map λK=>if K.1=κ then(K.1,v)else K):=by
  erw[lS.ind (P:=λks us b=>b.any _=D3 k ks/\lS Y G M H ks (Of k w ks us) (b.map _)) (Ŗ,lS.nil) (λg u ks us p b a j l i=>?_) d];let e:=EA a c;erw[(by rw[CY,i.1,<-e];rfl,?_)];rw[bV];show lS Y G M H _ ((match Hh g k with|J=>w|af=>u)::Of k w ks us) _;by_cases z:p.1=κ;.rw[cG z,e,bR z];rwa[lS.cons.mpr ((a,f),i.2)]
  .rw[dh z,e,dP z];rwa[lS.cons.mpr ((a,j),i.2)]
 delta D7 D8 yG;rw[h.1];cases m:D3 k ks with|t=>rwa[h.2]|f=>rwa[d.app (lS.cons.mpr ((c,f),lS.nil))]
def Ut(h:Hs):Dv->Ő (ϑ×ϑ)
 |.p (.dct k u)=>O (k,u)|.r i=>match h[i]? with|O (.C k u)=>O (k,u)|_=>aa
 |_=>aa
def Jk(r:bw (Y.z G) M H h)(i:fI (Y.z G) M H x v)(e:Ut h x=O (ks,us)):∃a bI,v=.A a/\H a=O (.dK bI)/\lS Y G M H ks us bI:=by
 delta Ut at e;split at e;.cases e;let(a,bI,b,_,c,d):=i;exact(a,bI,b,c,d)
 .split at e;.ext o;cases e;let(a,b,c):=i;let(bI,d,f):=r.at' b o;exact(a,bI,c,d,f)
  .cases e
 .cases e
def PP:O2:=λx y h Q=>match y with
 |.p k=>match rG k with
  |O _=>match Ut h x with|O (K,u)=>eZ (jc k K u) (λp=>Q (.p p) h) ŧ|aa=>ŧ
  |aa=>ŧ
 |_=>ŧ
def Hw(neg:Þ):O2:=λy x h Q=>match y with
 |.p k=>match rG k with
  |O _=>match Ut h x with|O (K,u)=>Q (.p (.B (Cd neg (jc k K u).isSome))) h|aa=>ŧ
  |aa=>ŧ
 |_=>ŧ
def Ņ(hu:X.A.units+1<Ì)(l:PE X a (cQ 'X' E A))(m:PE X b (cQ 'X' E B))(s:ZS b):PE X (.Subscript a b pos) (cQ 'X' E (s2 PP A B)):=(WL hu l m s).imp λτ H n h=>by
  erw[qV (r:=λx y d Q=>∃a v,x=.A a/\uy d a y (O v)/\Q v d) (λG M h H x y v u Q n r i j q out=>?_) h];delta PP eZ at q;split at q
  .split at q
   .ext κ f;split at q
    .ext K U o;split at q;.ext p z;let(a,L,D,s1,d1):=Jk r i o;let(w,F,I):=LF f d1 z;let g:=uy.k (k:=κ) s1;rw[F,<-vu f j]at g;exact(a,w,D,g,out (.p p) h M H w Ext.refl r I q)
     .left
    .left
   .left
  .left
def Oc:jE 'X' (λy x d Q=>∃a o,x=.A a/\uy d a y o/\Q (.B (neg !=o.isSome)) d) (Hw neg):=λG M h H x y v u Q D r i j q out=>by
 delta Hw at q;simp only[Ht]at q;split at q
 .ext K;split at q
  .ext κ f;split at q
   .ext s U n;let(a,I,z,s1,d1):=Jk r j n;let g:=uy.k (k:=κ) s1;rw[<-vu f i]at g;erw[(a,_,z,g,out _ h M H _ Ext.refl r ?_ q)];let e:(jc K s U).isSome=(qK I κ).isSome:=by rcases Jq f d1 with ⟨p,w,l,m,_⟩|⟨l,m⟩<;>rw[l,m]<;>rfl
    rw[e];rwa[iK]
   .left
  .left
 .left
def WD(hu:X.A.units+1<Ì)(h:PE X a (cQ 'X' E A))(d:PE X b (cQ 'X' E B)):PC X .In a b (cQ 'X' E (s2 (Hw af) A B)):=λp s σ H Q I q=>by erw[Cp hu h d _ s σ H Q I ?_];let z:=qV Oc q;simp only[lK]at z;rwa[z]
def HC(hu:X.A.units+1<Ì)(h:PE X a (cQ 'X' E A))(d:PE X b (cQ 'X' E B)):PC X .NotIn a b (cQ 'X' E (s2 (Hw J) A B)):=λp s σ H Q I q=>by erw[Mu hu h d _ s σ H Q I ?_];let z:=qV Oc q;simp only[nF]at z;rwa[z]
def Ň(h:PC X o a b (cQ 'X' E A))(d:dg o b=af):PE X (.Compare a [o] [b] pos) (cQ 'X' E A):=aaW h d
def QE(h:PC X o a b (cQ 'X' E A))(d:dg o b=af):PT X (.Compare a [o] [b] pos) (kP 'X' E A):=(abm h d).imp λ_ _ _ q=>Fu q
def OO(A:Sm):Im:=λx σ h Q=>A x σ h λds H=>match ds with|[.p (.L X)]=>Q X H|_=>ŧ
def alu:O1:=λx h Q=>match x with|.p (.L X)=>Q (.p (.L X)) h|.p (.T X)=>Q (.p (.L X)) h|_=>ŧ
def lE(z:Ã):ϑ:=z.cps.toList.map λc=>.S ⟨#[c]⟩
def als:O1:=λx h Q=>match x with|.p (.S z)=>gd (jL z.length) (Q (.p (.L (lE z))) h)|_=>ŧ
def EQ:ON:=λds h Q=>match ds with|[.p (.I n)]=>gd (jL n.toNat&&Đ (-4611686018427387904<=n)) (Q (.p (.L (lC 0 n.toNat))) h)|_=>ŧ
def qL:ϑ->ϑ->ϑ|x::X,y::Y=>.T [x,y]::qL X Y|_,_=>[]
def Ÿ:ON:=λds h Q=>d2 ds λx y=>eZ (tO x) (λX=>eZ (tO y) (λY=>Q (.p (.L (qL X Y))) h) ŧ) ŧ
def _root_.L2.PI.imp{X:Cx}{tg e:Å}{t t':TI}(h:PI X tg e t')(i:∀σ H Q,t σ H Q->t' σ H Q):PI X tg e t:=λP s σ H Q I q=>h _ s σ H Q I (i σ H Q q)
def akQ(K:Æ)(tl:TE):TI:=λσ H R=>tl σ H λx d=>∃a,x=.A a/\((∃s,ie K d a s)/\R (mF K a) d\/(∃s,fS K d a s)/\R (Sv K a) d)
def QH(g:PE X l tl):PI X tg l (akQ X.K tl):=by
 intro P s σ H R I h;erw[oV (g _ s σ H _ I h) λv s1 x d i r Q=>?_];let(a,e,q):=Q;subst e;cases r;let F:∀b ∈[s1.heap.objs.size],oX X _ d b:=λb j=>by
  let e:=by simpa using j
  subst e;rwa[i.LO (au _) (i.di.fresh (au _))]
 rcases q with ⟨⟨k,f⟩,q⟩|⟨⟨k,f⟩,q⟩;.let(L,m,p,z):=i.list f;rwa[rW p.isList (_,_,_,_,d,Ŗ,i.kept λb o e=>aw _ e,MZ a _,(_,aV _ Ŗ,Ŗ,Ŗ),F,q)]
 .let(L,m,p,z):=i.tuple f;rwa[qG p (_,_,_,_,d,Ŗ,i.kept λb o e=>aw _ e,Iv a _,(_,aV _ Ŗ,Ŗ,Ŗ),F,q)]
def ZO(X:Cx)(H:Hp):ß:=∃P σ s,Inv X P σ H s
def ZO.len(I:ZO X H)(h:ie X.K H a vs\/fS X.K H a vs):À vs<=Â:=by
 let(_,_,_,I):=I;rcases h with h|h;.let(_,_,_,z):=I.list h;rwa[z]
 .let(_,_,_,z):=I.tuple h;rwa[z]
def J8(h:PI X tg e w):PI X tg e λσ H R=>w σ H λj d=>ZO X d->R j d:=λP s σ H R I q=>gP (h _ s σ H _ I q) λv s1 g=>gP g λk s2 z=>by let(l,F,n,j,m,e,i,T,st,f,r):=z;exact(l,F,n,j,m,e,i,T,st,f,r (_,_,_,i))
def WV(n:PE X e (cQ 'X' E A)):PI X tg e (CN 'X' E (OO (s1 alu A))):=(J8 (QH n)).imp λτ H R z=>by let(G,M,σ,h,o,Q,k,q):=z;erw[(G,M,σ,h,o,_,(k.rel,k.env,λd j M1 l v m f I g=>?_,k.exc),q)];cases d with|r _=>rwa[g.elim]|p d=>cases d with|L x=>let(a,s,rfl,N,s1,i):=I;exact(a,Ŗ,.inl ((s,ie.of s1),λhd=>k.out x j M1 l _ m f (ņ f N.1 (.inl s1) i) (by rw[i.len];rwa[hd.len (.inl (ie.of s1))]) g))|T x=>let(a,s,rfl,s1,i):=qM I;exact(a,Ŗ,.inr ((s,s1),λhd=>k.out x j M1 l _ m f (ae6 f s1 i) (by rw[i.len];rwa[hd.len (.inr s1)]) g))|_=>rwa[g.elim]
def ae4:Yp Y G M H (wq z) (lE z):=λk m l n o e r=>by erw[(λi x d=>?_,show(À (lE z))=z.cps.size by delta lE;rw[ai,aX])];delta lE at d;rw[bP]at d;cases f:z.cps.toList[i]? with|n=>left|s c=>
  rw[f]at d;cases d;let U:z.cps[i]?=O c:=by rw[<-Ę];rwa[f]
  erw[((fD.mp U).1,λw q j=>?_)];let(j,C,g,s):=j;subst j;rw[U]at g;cases g;exact(Ext.refl,r,by done)
def WW(g:PE X e (cQ 'X' E A)):PI X (.Name y P) e (CN 'X' E (OO (s1 als A))):=(abg g).imp λτ H R Z=>by let(G,M,σ,h,x,Q,k,q):=Z;erw[(G,M,σ,h,x,_,(k.rel,k.env,λd i M1 j v l m I f=>?_,k.exc),q)];cases d with|r _=>rwa[f.elim]|p d=>cases d with|S z=>let(c,f):=bG f;exact(z,fq I,k.out _ i M1 j _ l m ae4 (by delta lE;rw[ai];rwa[dO c]) f)|_=>rwa[f.elim]
def WU(g:Gl X "range")(m:X.mg "range"=aa)(i:PA X [x] (ic 'X' E A))(F:cA x):PI X tg (.Call (.Name "range" p) [x] [] pos) (CN 'X' E (OO (sN EQ A))):=(MD g m i (cW F)).imp λτ H R z=>by
  let(G,M,σ,h,j,Q,k,q):=z;erw[(G,M,σ,h,j,_,(k.rel,k.env,λd l M1 o v r s I f=>?_,k.exc),q)];delta EQ at f;split at f
  .ext n;let(c,f):=bG f;rw[aM]at c;let(w,rfl,u):=I.om;let hn:=dO c.1;let L:Â<2^62:=∅
   erw[(n,by rw[fk u],(),?_,k.out _ l M1 o _ r s Ľ (by delta lC;rw[ai,dk];rwa[hn]) f)];let:(n.toNat:Î)<2^62:=by let:=Dl hn L;exact_mod_cast this
   lia
  .left
theorem FD:∀{xs ys:ϑ}{i:Ń}{z:Pv},(qL xs ys)[i]?=O z->∃x y,xs[i]?=O x/\ys[i]?=O y/\z=.T [x,y]|[],_,_,_,e=>by done|_::_,[],_,_,e=>by done|x::_,y::_,0,_,e=>by cases e;exact(x,y,Ŗ,Ŗ,Ŗ)|_::_,_::_,i+1,_,e=>by let(x,y,f,g,d):=FD (i:=i) (by done);exact(x,y,by done,by done,d)
theorem zj:∀(xs ys:ϑ),À (qL xs ys)=min (À xs) (À ys)|[],_=>Ŗ|_::_,[]=>Ŗ|_::xs,_::ys=>by simp[qL,zj xs ys]
def O7{Y:T0}(r:bw (Y.z G) M H h)(d:H T=aa)(i:eG (Y.z G) M H x v)(j:eG (Y.z G) M H y w):eG (Y.z G) M (upd H T (.T [v,w])) (.T [x,y]) (.A T):=yi r d ((bh.one i).app (bh.one j))
def ae7(r:bw (Y.z G) M H h)(s1:fS Y.K H f vs)(s2:fS Y.K H t2 ws)(I:bh (Y.z G) M H xs vs)(g:bh (Y.z G) M H ys ws):Yp Y G M H (nT Y.K f t2) (qL xs ys):=λC D F L j e R=>by let s:=(e.mv r).sqT s1;let S:=(e.mv r).sqT s2;erw[(λi z m=>?_,(vs,ws,s,S,by rw[zj,I.len,g.len];lia))];let(x,y,n,o,rfl):=FD m;let(v,k,pv):=(bh.mv (e.mv r) (bh.wk j I)).get n;let(w,l,P):=(bh.mv (e.mv r) (bh.wk j g)).get o;erw[((vs,ws,v,w,s,S,k,l),λu Q T=>?_)];let(T,d,hu,q):=T;let e2:=q vs ws v w s S k l;subst e2 hu;exact(Ext.add d,R.add d,O7 R d pv P)
def WX(l:Gl X "zip")(m:X.mg "zip"=aa)(n:PA X [a,b] (ic 'X' E A))(i:cA a)(j:cA b):PI X (.Tuple es k0 F) (.Call (.Name "zip" p) [a,b] [] pos) (CN 'X' E (OO (sN Ÿ A))):=(J8 (abh l m n (by rw[cW i,cW j];rfl) (by rw[cW j];rfl))).imp λτ H R z=>by let(G,M,σ,h,o,Q,k,q):=z;erw[(G,M,σ,h,o,_,(k.rel,k.env,λd i M1 s v C r D g=>?_,k.exc),q)];let(x,y,rfl,g):=Ļ g;let(U,e,g):=de g;let(Z,f,g):=de g;cases KN e;cases KN f;let(w,u,rfl,K,L):=D.two';let(a1,N,rfl,s1,I):=qM K;let(P,W,rfl,s2,S):=qM L;erw[(a1,P,Ŗ,(N,s1),(W,s2),λhd=>k.out _ i M1 s _ C r (ae7 r s1 s2 I S) ?_ g)];rw[zj,I.len];rwa[ay (Nat.min_le_left ..) (hd.len (.inr s1))]
abbrev OM:=Dv->Ł Dv->Hs->(Dv->Hs->ß)->ß
def Bd(Y:T0)(r:V->ϕ->Hp->VK->ß)(o:OM):ß:=∀G M h H x X v s Q q,bw (Y.z G) M H h->fI (Y.z G) M H x v->cD (Y.z G) M H X s->o x X h Q->(∀d b m a w,Ext M H m a->bw (Y.z G) m a b->fI (Y.z G) m a d w->Q d b->q w a)->r v s H q
def Pd(c:Ń)(h:Hs)(x:Dv):Þ:=match c with
 |0=>match x with|.p (.S _)=>J|_=>af
 |4=>(jJ h x).isSome||(o7 h x).isSome|_=>af
def hG(c:Ń)(o:OM)(A R:Sm):Sm:=λX σ h Q=>A X σ h λs H=>match s with|[x]=>gd (Pd c H x) (R X σ H λds a=>o x ds a λd b=>Q [d] b)|_=>ŧ
section
variable{t:Tb}{X:Cx}{E:XK}{e a b o:Å}{a7:Ł Å}{A B C R T:Sm}{pos p bb dw:Ð}{Y:T0}{G M:Ł Á}{H:Hp}{h:Hs}
def w8(r:bw (Y.z G) M H h)(i:fI (Y.z G) M H x v)(e:o7 h x=O ds):∃n a vs,x=.r n/\M[n]?=O a/\v=.A a/\H a=O (.L vs)/\cD (Y.z G) M H ds vs:=by
 delta o7 at e;split at e
 .split at e;.ext d;cases e;let(a,c,f):=i;let(vs,g,j):=r.at' c d;exact(_,a,vs,Ŗ,c,f,g,j)
  .cases e
 .cases e
def YL(r:bw (Y.z G) M H h)(i:fI (Y.z G) M H x v)(e:Pd c h x):hF Y.K (lW c) v H:=by
 delta Pd at e;split at e
 .split at e;.rw[fq i];exact(Ŗ)
  .cases e
 .rw[bF]at e;rcases e with e|e;.let(f,ex):=bN.mp e;let(a,s,d,s1,I):=gZ r i ex;rw[d];rwa[.inl (Ŗ,s,ie.of s1)]
  .let(f,ex):=bN.mp e;let(n,a,s,_,_,d,s1,I):=w8 r i ex;rw[d];rwa[.inl (Ŗ,s,ie.of s1)]
 .cases e
def abQ{o:OM}(l:Bd 'X' r o)(h:cQ 'X' E (hG c o A R) τ H QV):sv X.K (lW c) r (cQ 'X' E A) (ic 'X' E R) τ H QV:=by let(G,M,σ,h,x,Q,k,q):=h;erw[(G,M,σ,h,x,_,(k.rel,k.env,λd m M1 H1 v f g I i=>?_,k.exc),q)];let(n,i):=bG i;exact(YL g I n,G,M1,σ,m,x,_,(g,k.env.ext k.rel f,λds s u y z j D F L=>l G u s y d ds v z _ _ D (I.ext g j) F L λN P S U w W Z i3 q3=>k.out N P S U w (f.trans (j.trans W)) Z i3 q3,k.UJ f),i)
def BO(F:(e::es).all cA)(l:À (e::es)<30):((cc dw (b5 (e::es) X.env)).all (λx=>!x.1)&&(backToKw dw (eA [] X.env)).all (λx=>x.1.isSome)&&Đ (À (e::es)+À ([]:Ł c9)+(if([]:Ł c9).isEmpty then 0 else 1)<30))=true:=by
 let h1:=gJ (env:=X.env) (pos:=dw) F;let c:(cc dw (b5 (e::es) X.env)).all (λx=>!x.1)=true:=by rw[aG];intro x d;rw[List.any_eq_false]at h1;let:=h1 x d;simpa using this
 rw[c,CV];simp only[aM];exact(Ŗ,bR (by done))
def EU{id:String}(P:PlainAttrs (lW c))(slot:Slot (lW c) name id)(y:typeOf (.builtin id)=pure (.type "method_descriptor"))(d:To X id r)(m:Bd 'X' r oo)(f:PE X o (cQ 'X' E A))(g:PA X (a::a7) (ic 'X' E R))(s:dL o name X.env (Ê o X.env)=Ê o X.env)(F:(a::a7).all cA)(l:À (a::a7)<30)(i:(bb.endLine==dw.line)):PE X (.Call (.Attribute o name bb) (a::a7) [] dw) (cQ 'X' E (hG c oo A R)):=by let hp:=F;rw[bC,aM]at hp;exact(yD P slot y d f g s (BO F l) i (cW hp.1) (gJ hp.2)).imp λ_ _ _=>abQ m
def Ŕ{id:String}(h:PE X (.Call (.Attribute o name bb) [] [] dw) (Db X.K (lW c) r (cQ 'X' E A)))(m:Bd 'X' r oo):PE X (.Call (.Attribute o name bb) [] [] dw) (cQ 'X' E (hG c oo A CB)):=h.imp λτ H S z=>by let(G,M,σ,h,x,Q,k,q):=z;erw[(G,M,σ,h,x,_,(k.rel,k.env,λd j M1 l v n g i f=>?_,k.exc),q)];let(s,f):=bG f;exact(YL g i s,m G M1 j l d [] v [] _ _ g i Ť f λD u y F w I L N P=>k.out D u y F w (n.trans I) L N P)
def jZ:OM:=λx ds h Q=>match x,ds with
 |.r i,[d]=>match h[i]? with
  |O (.L s)=>match d with|.p y=>gd (jL (À s+1)) (Q (.p .N) (h.set i (.L (s++[y]))))|.r _=>ŧ
  |O (.D s)=>gd (jL (À s+1)) (Q (.p .N) (h.set i (.D (s++[d]))))|_=>ŧ
 |_,_=>ŧ
theorem cD.app:∀{xs ys:Ł Dv}{vs ws:ϕ},cD Z M H xs vs->cD Z M H ys ws->cD Z M H (xs++ys) (vs++ws)|[],_,[],_,_,q=>q|[],_,_::_,_,h,_=>h.elim|_::_,_,[],_,h,_=>h.elim|_::_,_,_::_,_,h,q=>(h.1,cD.app h.2 q)
def cD.one(h:fI Z M H d v):cD Z M H [d] [v]:=(h,Ť)
def Vl:Bd Y Cw jZ:=λG M h H x F v I Q K r i u q out=>by
 delta jZ at q;split at q
 .ext n d;let(w,rfl,j):=u.om;let(a,f,s):=i;let ha:=aZ f;split at q;.ext z l;cases d with|r _=>left|p y=>let(c,q):=bG q;let(W,m,g):=r.at' f l;let k:=dO c;exact(a,W,w,s,Ŗ,m,by rw[g.len]at k;rwa[k],out _ _ M _ _ (Ext.put ha) (r.put (o:=.L _) f (_,bA,(g.app (bh.one j)).ext r (Ext.put ha))) tu q)
  .ext z l;let(c,q):=bG q;let(W,m,g):=r.at' f l;let k:=dO c;exact(a,W,w,s,Ŗ,m,by rw[g.len]at k;rwa[k],out _ _ M _ _ (Ext.put ha) (r.put (o:=.D _) f (_,bA,(g.app (cD.one j)).ext r (Ext.put ha))) tu q)
  .left
 .left
def al8(xs:ϑ)(v:Pv):Î->Ő ϑ
 |.ofNat n=>match Í (n+1) (À xs)with|J=>O (xs.set n v)|af=>aa
 |_=>aa
def al1(A B C:Sm):Ss:=λN σ h=>A N.xc σ h λs d=>match s with
 |[.p v]=>B N.xc σ d λx f=>match x with
  |[.r i]=>C N.xc σ f λy c=>match y with
   |[.p (.I k)]=>match c[i]? with
    |O (.L Z)=>match al8 Z v k with|O z=>N.nx σ (c.set i (.L z))|aa=>ŧ
    |_=>ŧ
   |_=>ŧ
  |_=>ŧ
 |_=>ŧ
theorem bh.set(i:eG Z M H x v):∀{xs:ϑ}{vs:ϕ}(n:Ń),bh Z M H xs vs->bh Z M H (xs.set n x) (vs.set n v)|[],[],_,q=>q|[],_::_,_,q=>by done|_::_,[],_,q=>by done|_::_,_::_,0,q=>by exact(i,q.2)|_::_,_::_,n+1,q=>by exact(q.1,bh.set i n q.2)
def abo(h:gK 'X' E (al1 A B C) D τ H):Fo (cQ 'X' E A) (J0 (cQ 'X' E B) (cQ 'X' E C) Za) D τ H:=by let(G,M,σ,h,N,k,q):=h;let ex:∀{y F},Ext M H y F->∀C f M1 H1,Ext y F M1 H1->bw _ M1 H1 f->N.xc C f->E _ _ H1:=λe C f M1 H1 x r q=>k.exc C f M1 H1 (e.trans x) r q;erw[(G,M,σ,h,_,_,(k.rel,k.env,λd f M1 H1 v g I P S=>?_,k.exc),q)];cases d with|r _=>left|p x=>erw[(G,M1,σ,f,_,_,(I,k.env.ext k.rel g,λd2 U W H2 v2 i l Z q2=>?_,ex g),S)];cases d2 with|p _=>left|r n=>
   erw[(G,W,σ,U,_,_,(l,k.env.ext k.rel (g.trans i),λd3 h3 M3 H3 v3 j s i3 Q=>?_,ex (g.trans i)),q2)];split at Q
   .ext kk c;injection c with c;subst c;split at Q
    .ext zs ho;split at Q;.ext z u;let(a,w,g2):=Z.ext l j;let(ws,g3,K):=s.at' w ho;let ha:=aZ w;cases kk with|negSucc m=>done|ofNat m=>
       change(match Í _ _ with|J=>O _|af=>aa)=O z at u;split at u;.ext hb;cases u;let hm:=bx hb;erw[(a,ws,m,m,g2,fk i3,g3,?_,k.nx σ _ M3 _ τ ((g.trans (i.trans j)).trans (Ext.put ha)) (s.put (o:=.L _) w (_,bA,(K.set (((P).ext I i).ext l j) m).ext s (Ext.put ha))) (k.env.ext k.rel ((g.trans (i.trans j)).trans (Ext.put ha))) Q)];.delta VG;rw[cG (Int.natCast_nonneg m),cG (by rw[<-K.len];lia)];rfl
       .done
     .left
    .left
   .left
structure xB(K:Æ)(t:Tb)(c:Ń):ß where
 cl:IF K (t.ca c)na:∀f∈t.fl c,nP K (t.ca c) f
 nd:(t.fl c).Nodup
def Oo(c j:Ń)(h:Hs):Dv->Ő Dv
 |.p (.obj d fs)=>match Ë d c with
  |J=>match fs[j]? with|O x=>O (.p x)|aa=>aa
  |af=>aa
 |.r i=>match h[i]? with
  |O (.I d fs)=>match Ë d c with|J=>fs[j]?|af=>aa
  |_=>aa
 |_=>aa
def mz(c j:Ń):O1:=λx h Q=>match Oo c j h x with|O d=>Q d h|aa=>ŧ
theorem qm:∀{F:Ł _}{l:ϐ}{j:Ń}{v:V},l.Nodup->F.map (·.1)=l.take (À F)->l[j]?=O f->(F.map (·.2))[j]?=O v->F.lookup f=O v|[],_,_,_,_,_,_,e=>by grind|(g,w)::F,[],_,_,_,e,_,_=>by grind|(g,w)::F,x::l,0,v,nd,e,c,d=>by grind|(g,w)::F,x::l,j+1,v,nd,e,c,d=>by injection e with k i;rw[cO]at nd;let m:f∈l:=aZ (by done);rw[mR,cI.mpr λz=>nd.1 ()];rwa[qm nd.2 i (by done) (by grind)]
def ϣ(i:xB X.K t c)(s:(t.fl c)[j]?=O f)(Z:PE X a (cQ 'X' E A))(hb:dL a f X.env (Ê a X.env)=Ê a X.env):PE X (.Attribute a f pos) (cQ 'X' E (s1 (mz c j) A)):=(Ō Z hb).imp λτ H QV zz=>by
  let(G,M,σ,h,xc,Q,k,q):=zz;erw[(G,M,σ,h,xc,_,(k.rel,k.env,λd u M1 S v U z W l=>?_,k.exc),q)];change mz c j d u _ at l;delta mz at l;split at l;.ext d2 g;cases d with
   |p d=>cases d with
    |obj y fs=>
     change(match Ë y c with
      |J=>match fs[j]? with|O x=>O _|aa=>aa
      |af=>aa)=O d2 at g;split at g
     .ext D;split at g
      .ext x ex;cases g;obtain rfl:=aP D;let(a,F,L,rfl,_,s1,l1,m):=W;let(w,N,P):=m.get ex;let ln:=by let:=m.len;rw[ai]at this;rwa[this]
       rw[ln]at l1;exact(a,_,F,L,w,Ŗ,s1,i.cl,i.na f (aZ s),qm i.nd l1 s N,k.out (.p x) u M1 S w U z P l)
      .done
     .done|_=>done
   |r n=>
    change(match u[n]? with
     |O (.I y fs)=>match Ë y c with|J=>fs[j]?|af=>aa
     |_=>aa)=O d2 at g;split at g
    .ext y fs ho;split at g
     .ext D;obtain rfl:=aP D;let(a,g0,rfl):=W;let(F,L,s1,_,l1,m):=z.at' g0 ho;let(w,N,P):=m.get g;let ln:=by let:=m.len;rw[ai]at this;rwa[this]
      rw[ln]at l1;exact(a,_,F,L,w,Ŗ,s1,i.cl,i.na f (aZ s),qm i.nd l1 s N,k.out d2 u M1 S w U z P l)
     .done
    .done
  .left
def Xw(j:Ń)(d:Dv)(fs:Ł Dv):Ő (Ł Dv):=match Ë j (À fs)with|J=>O (fs++[d])|af=>match Í (j+1) (À fs)with|J=>O (fs.set j d)|af=>aa
def o9(c j i:Ń)(d:Dv)(h:Hs)(K:Hs->ß):ß:=match h[i]? with|O (.I f fs)=>gd (Ë f c&&Í (À fs+1) 1000) (match Xw j d fs with|O g=>K (h.set i (.I c g))|aa=>ŧ)|_=>ŧ
def Zg(c j:Ń)(A B:Sm):Ss:=λN σ h=>A N.xc σ h λv f=>match v with
 |[d]=>B N.xc σ f λx g=>match x with|[.r i]=>o9 c j i d g λk=>N.nx σ k|_=>ŧ
 |_=>ŧ
theorem Cv:∀{fv:Ł _}{l:ϐ}{j:Ń},l.Nodup->fv.map (·.1)=l.take (À fv)->l[j]?=O f->j<À fv->(ko f v fv).map (·.1)=fv.map (·.1)/\(ko f v fv).map (·.2)=(fv.map (·.2)).set j v/\À (ko f v fv)=À fv|[],_,_,_,_,_,h=>by grind|(g,w)::fv,[],_,_,e,_,_=>by grind|(g,w)::fv,x::l,0,nd,e,d,_=>by injection e with i k;cases d;let:ko f v ((g,w)::fv)=(g,v)::fv:=cG i;rw[this];exact(Ŗ,Ŗ,Ŗ)|(g,w)::fv,x::l,j+1,nd,e,d,m=>by injection e with i k;rw[cO]at nd;let n:f∈l:=aZ (by done);let:ko f v ((g,w)::fv)=(g,w)::ko f v fv:=dh λz=>nd.1 ();let(a,b,c):=Cv (v:=v) nd.2 k (by done) (by grind);exact(by grind,by grind,by grind)
theorem EY:∀{fv:Ł _}{l:ϐ},l.Nodup->fv.map (·.1)=l.take (À fv)->l[À fv]?=O f->ko f v fv=fv++[(f,v)]|[],_,_,_,_=>Ŗ|(g,w)::fv,[],_,e,_=>by grind|(g,w)::fv,x::l,nd,e,d=>by injection e with i c;rw[cO]at nd;let:ko f v ((g,w)::fv)=(g,w)::ko f v fv:=dh λz=>nd.1 (by grind);rw[this,EY nd.2 c (by done)];rfl
theorem cD.set(i:fI Z M H x v):∀{xs:Ł Dv}{vs:ϕ}(n:Ń),cD Z M H xs vs->cD Z M H (xs.set n x) (vs.set n v)|[],[],_,q=>q|[],_::_,_,q=>q.elim|_::_,[],_,q=>q.elim|_::_,_::_,0,q=>(i,q.2)|_::_,_::_,n+1,q=>(q.1,cD.set i n q.2)
def UX(l:xB X.K t c)(g:(t.fl c)[j]?=O f)(h:gK 'X' E (Zg c j A B) D τ H):Et X.K (cQ 'X' E B) (cQ 'X' E A) f D τ H:=by let(G,M,σ,h,N,k,q):=h;erw[(G,M,σ,h,_,_,(k.rel,k.env,λd u M1 H1 v m r1 i1 q1=>?_,k.exc),q)];erw[(G,M1,σ,u,_,_,(r1,k.env.ext k.rel m,λd2 h2 M2 H2 v2 w y i2 Q=>?_,λC u M1 H1 x r q=>k.exc C u M1 H1 (m.trans x) r q),q1)];cases d2 with|p _=>left|r n=>
  change match h2[n]? with|O (.I L fs)=>gd _ (match Xw j d fs with|O P=>N.nx σ _|aa=>ŧ)|_=>ŧ at Q;split at Q
  .ext L fs ho;let(S,Q):=bG Q;rw[aM]at S;obtain rfl:=aP S.1;let hl:=bx S.2;split at Q
   .ext P s;let(a,U,rfl):=i2;let ha:=aZ U;let(W,fv,s1,s2,l1,Z):=y.at' U ho;let ln:=by let:=Z.len;rw[ai]at this;rwa[this]
    rw[ln]at l1;let i:=i1.ext r1 w;erw[(a,_,W,fv,Ŗ,s1,l.cl,l.na f (aZ g),(),?_)];let fin:∀F,F.map (·.1)=(t.fl L).take _->cD _ M2 H2 P _->D.nx τ (upd H2 a (.ins _ W F)):=λF AF SH=>k.nx σ _ M2 _ τ ((m.trans w).trans (Ext.put ha)) (y.put (o:=.I L P) U (W,F,bA,by rw[bJ λz=>()];rwa[s2],AF,SH.ext y (Ext.put ha))) (k.env.ext k.rel ((m.trans w).trans (Ext.put ha))) Q;delta Xw at s;split at s
    .ext ej;cases s;let ej:=aP ej;subst ej;rw[ln]at g;rw[EY l.nd l1 g];erw[fin _ ?_ ?_];.rw[aR,l1,ah,ln];show List.take _ _++[f]=List.take (À fv+1) _;rw[List.take_succ,g];rfl
     .rw[aR];rwa[Z.app (cD.one i)]
    .split at s
     .ext eb;cases s;let(p1,p2,p3):=Cv (v:=v) l.nd l1 g (by rw[<-ln];rwa[bx eb]);erw[fin _ ?_ ?_];.left
      .rw[p2];rwa[Z.set i j]
     .done
   .left
  .left
def E'(c:Ń)(d:Hs)(Q:KP)(l:Hs):ß:=match l with
 |[.I f fs]=>match vP fs with|O P=>gd (Ë f c) (Q [.p (.obj c P)] d)|aa=>ŧ
 |_=>ŧ
def Hc:Dv->Þ|.p .N=>J|_=>af
def alZ(c:Ń)(ct:Ct)(A:Sm):Sm:=λx σ h Q=>A x σ h λds f=>match vP ds with|O _=>ct (.r 0::ds) [.I c []] (λd l=>gd (Hc d) (E' c f Q l)) λ_ _=>ŧ|aa=>ŧ
theorem QX{M M':Ł _}{H H':Hp}(f:∀{x v},eG Z M H x v->eG z M' H' x v):∀{ds:Ł Dv}{vs:ϕ}{xs:ϑ},vP ds=O xs->cD Z M H ds vs->cD z M' H' ds vs
 |[],[],_,_,_=>Ť|[],_::_,_,_,q=>q|_::_,[],_,_,q=>q|.r _::_,_::_,_,e,_=>by cases e|.p x::ds,v::vs,xs,e,q=>by
  delta vP at e;split at e;.ext s y;exact(f q.1,QX f y q.2)
  .lia
theorem Ki:∀{ds:Ł Dv}{xs:ϑ},vP ds=O xs->À ds=À xs
 |[],_,e=>by cases e;rfl|.r _::_,_,e=>by cases e|.p x::ds,xs,e=>by
  delta vP at e;split at e;.ext s y;cases e;rw[aq,aq,Ki y]
  .lia
def aa7(D:vZ X.prog X.w X.K X.mg X.base k0 x (t.ca c) ps (jy 'X' ct))(hr:eE (k0+1) X.A)(hg:Gl X x)(P:PA X (a::a7) (ic 'X' E A))(kg:(x==("__debug__":Ã))=af)(eF:(a::a7).all cA):PE X (.Call (.Name x p) (a::a7) [] pos) (cQ 'X' E (alZ c ct A)):=(ES D hr hg P kg eF).imp λτ H QV zz=>by
 let(G,M,σ,h,xc,Q,k,q):=zz;erw[(G,M,σ,h,xc,_,(k.rel,k.env,λd h1 M1 g v e1 u i1 q1=>?_,k.exc),q)];split at q1
 .ext xs ex;intro x f j nd Wc;let nx2:upd g f (.own x) x=none:=by rw[bJ (cj Wc)];rwa[j]
  let F:jF g (upd (upd g f (.own x)) x (.ins (t.ca c) f [])):=λb o e=>by rw[bJ (bZ e j),bJ (bZ e nd)];rwa[e]
  let hx:upd (upd g f (.own x)) x (.ins (t.ca c) f []) x=O (.ins (t.ca c) f []):=bA;let s:upd (upd g f (.own x)) x (.ins (t.ca c) f []) f=O (.own x):=by rw[bJ Wc];rwa[bA]
  generalize upd (upd g f (.own x)) x (.ins (t.ca c) f [])=H2 at F hx s;let r2:=lA u F;rw[aQ];erw[(G++M1,[x],[.I c []],.r 0::d,_,_,(⋯,λb m=>?_,Ŗ,λb m=>?_,λi a o g1 g2=>?_),((x,Ŗ,Ŗ),?_),q1,λd h' M' H' v U W i' qa=>?_,λc h' M' H' U W q'=>q'.elim)];.rw[aL.mp m];let(n1,n2):=u.rp j;rwa[λz=>(bt.mp z).elim n2 n1]
  .rcases bt.mp m with z|z;.rwa[r2.gs b z]
   .let(o,e,_):=r2.there z;exact(o,e)
  .cases i with|z=>cases g1;cases g2;exact(f,[],hx,s,Ŗ,Ť)|v i=>done
  .erw[QX (λ{y w}iy=>?_) ex i1];let Z:=eG.fr (G':=G++M1) (M':=[x]) (λa P=>?_) iy;.rwa[eG.mv (λb m vs z=>(by rw[aL.mp m]at z;rcases z with z|⟨_,z⟩<;>rw[j]at z<;>cases z),λb o _ e=>F b o e,λb m n=>Ă m n) Z]
   .rcases P with z|z;.rw[aL.mp z];rwa[.inr (.inr j)]
    .exact(bt.mp z).elim (λz=>.inr (.inl z)) .inl
  .let(cn,L):=bG qa;clear qa;let dn:d=.p .N:=by cases d with|r _=>done|p d=>cases d<;>first|rfl|done
   subst dn;erw[(Nx i',?_)];delta E' at L;split at L
   .split at L
    .ext qs eq;let(c2,qc):=bG L;obtain rfl:=aP c2;let(l,hl):=U.pre;let hM:M'=[x]:=by let:=W.ln;cases l with|i=>done|k _ _=>left
     subst hM;let S:jF g H':=λb o e=>U.keep b o (λz=>by rw[aL.mp z,j]at e;cases e) (F b o e);let(dx',fv,s1,s2,l1,i3):=W.at' (i:=0) Ŗ Ŗ;erw[k.out _ h1 M1 H' _ (e1.trans (iu S)) (lA u S) ?_ qc];exact(x,dx',fv,Ŗ,u.rp j,s1,by rw[<-Ki eq];rwa[l1],bh.up (λa h1 h2=>(λz=>h2 (aS _ z),λz=>h2 (cx _ z))) (rO eq i3))
    .left
   .left
 .left
def XN(P:bn)(w:a9)(K:Æ)(m:b1)(base:É)(k:Ń)(E:XK)(x:TE)(t:TA):TE:=λσ H Q=>x σ H λv c=>∃(f:Á)(F:b7)(s:ϐ)(S:Sp),v=.A f/\jT P w K m base (rX P w) k f F s S/\keepIn K (.ref f)=J/\Binds K F s []/\t σ c λd g=>S d g Q E
def Mw{t:TA}(j:PE X (.Name x p) d)(l:eE k X.A)(m:eX (rX X.prog X.w) X E)(n:PA X (e::es) t)(c:(e::es).all cA):PE X (.Call (.Name x p) (e::es) [] pos) (XN X.prog X.w X.K X.mg X.base k E d t):=by intro P s σ H Q I h;rw[bC,aM]at c;erw[fE (oV (j _ s σ H _ I h) λv s1 y u i r f=>?_)];let(f,U,W,sp,z,F,D,L,q):=f;subst z;cases r;rwa[kB i.ok.mod.SM D (gP (n pos _ s1 σ u _ i q) λus s2 Z=>by let(vs,H2,g,N,S):=Z;exact(g.oR,Cz F l L .nil m g N (by rw[aQ];rwa[S]))) (cW c.1) (gJ c.2)]
def Rb(f:Ń->Ct)(u:Ϙ)(ρ:Ϙ)(A R:Sm):Sm:=λx σ h Q=>A x σ h λs c=>match s with|[.p (.fn i)]=>gd (jX i u) (R x σ c λds g=>vb ρ (f i) ds g (λd j=>Q [d] j) x)|_=>ŧ
def Qy(D:∀i∈U,∃ps,qY X.prog X.w X.K X.mg X.base k (t.hW i) ps (jy 'X' (fn i)))(N:eE k X.A)(P:eX (rX X.prog X.w) X E)(S:PE X (.Name x p) (cQ 'X' E A))(W:PA X (a::a7) (ic 'X' E R))(Z:(a::a7).all cA):PE X (.Call (.Name x p) (a::a7) [] pos) (cQ 'X' E (Rb fn U ρ A R)):=(Mw S N P W Z).imp λτ H QV zz=>by let(G,M,σ,h,I,Q,k,q):=zz;erw[(G,M,σ,h,I,_,(k.rel,k.env,λd h1 M1 H1 v g r1 i1 l=>?_,k.exc),q)];cases d with|r _=>left|p d=>cases d with|fn i=>let(c,l):=bG l;let(ps,f,fd,F,hm,hk,hb):=D i (cN.mp c);let(a,j,rfl):=i1;change X.mg _=O _ at j;rw[hm]at j;cases j;exact(f,fd,ps,_,Ŗ,F,hk,hb,G,M1,σ,h1,I,_,(r1,k.env.ext k.rel g,λds j M2 H2 vs L r2 i2 q2=>AZ r2 i2 q2 (λd3 m n s w u y i3 z=>k.out d3 m n s w (g.trans (L.trans u)) y i3 z) λc m n s u y z=>k.exc c m n s (g.trans (L.trans u)) y z,k.UJ g),l)|_=>left
def pd(ks:ϐ):Pv:=.T (ks.map .S)
theorem nq:∀{ks:ϐ},bh (Y.z G) M H (ks.map .S) (ks.map V.S)|[]=>by done|k::ks=>by exact(Ŗ,nq)
def P5(c:Ã->Ő ϐ):O1:=λx h Q=>match x with|.p (.S z)=>eZ (c z) (λk=>Q (.p (pd k)) h) (Q (.p .N) h)|_=>ŧ
def wd(c:Ã->Ő ϐ):O1:=λx h Q=>match x with|.p (.S z)=>eZ (c z) (λk=>Q (.p (pd k)) h) ŧ|_=>ŧ
def Rt(h:cA e):b5 [e] env=[(af,Ê e env)]:=by rw[cW h];rfl
def WS{ad:Á}(T:F5 X.w X.K ad c)(m:Gl X n)(s:X.mg n=O (.ref ad))(u:PE X e (cQ 'X' E A))(x:(n=="__debug__")=af)(F:cA e)(P:(bb.endLine==dw.line)):PE X (.Call (.Attribute (.Name n p) "get" bb) [e] [] dw) (cQ 'X' E (s1 (P5 c) A)):=(MB T m s u x rfl (BO nofun (show 1<30 by simp)) P (Rt F)).imp λτ H D Z=>by
  let(G,M,σ,h,y,Q,k,q):=Z;erw[(G,M,σ,h,y,_,(k.rel,k.env,λd g M1 j v l r I f=>?_,k.exc),q)];change P5 c d g _ at f;delta P5 eZ at f;split at f
  .ext z;erw[(z,fq I,?_)];split at f;.ext L i;rw[i];rwa[λb sq=>k.out _ g M1 j _ l r (by exact(b,_,Ŗ,sq,nq)) f]
   .ext i;rw[i];rwa[k.out _ g M1 j _ l r tu f]
  .left
def aa9{ad:Á}(T:F5 X.w X.K ad c)(i:Gl X n)(m:X.mg n=O (.ref ad))(j:PE X e (cQ 'X' E A))(l:(n=="__debug__")=af)(s:p9 e):PE X (.Subscript (.Name n p) e pos) (cQ 'X' E (s1 (wd c) A)):=(tI (Θ T) (oq (v:=.A ad) i m Ŗ l) j s).imp λτ H L Z=>by
  let(G,M,σ,h,x,Q,k,q):=Z;erw[(G,M,σ,h,x,_,(k.rel,k.env,λd g M1 r v u y I f=>?_,k.exc),q)];change wd c d g _ at f;delta wd eZ at f;split at f
  .ext z;split at f;.ext D F;exact(Ŗ,z,D,fq I,F,λb sq=>k.out _ g M1 r _ u y (by exact(b,_,Ŗ,sq,nq)) f)
   .left
  .left
def mG:ϑ->Ő ϐ
 |[]=>O []|.S x::r=>match mG r with|O s=>O (x::s)|aa=>aa
 |_::_=>aa
def KC:∀{ws:ϐ}{vs:ϕ},mG xs=O ws->bh (Y.z G) M H xs vs->vs=ws.map V.S:=by induction xs with
 |i=>intro ws vs e q;cases e;cases vs with|i=>rfl|k _ _=>done
 |k x xs i=>intro ws vs e q;cases vs with|i=>done|k v vs=>let q2:=wT q;let Q:=q2.1;replace q2:=q2.2;clear q;cases x with
   |S z=>change(match mG xs with|O s=>O _|aa=>aa)=O ws at e;cases y:mG xs with|n=>rw[y]at e;rwa[ms e]|s s=>rw[y]at e;cases e;rw[fq Q,i y q2];rfl
   |_=>rwa[ms e]
def P4:O1:=λx h Q=>match jJ h x with|O s=>eZ (mG s) (λw=>gd (Í (À (eQ w)+1) 64) (Q (.p (.I (À (eQ w)))) h)) ŧ|aa=>ŧ
def WR{K:Ð}(l:X.calm)(m:Gl X "len")(n:X.mg "len"=aa)(g:Gl X "set")(N:X.mg "set"=aa)(s:PE X e (cQ 'X' E A))(F:cA e):PE X (.Call (.Name "len" p) [.Call (.Name "set" P) [e] [] K] [] pos) (cQ 'X' E (s1 P4 A)):=(J3 Lq m n NM (o8 (Y3 (xH l) g N d_ (o8 s fw F) ∅ rfl nofun) fw Ŗ) ∅ rfl rfl).imp λτ H L z=>by
  let(G,M,σ,h,x,Q,k,q):=z;erw[(G,M,σ,h,x,_,(k.rel,k.env,λd i M1 S v u r I f=>?_,k.exc),q)];change P4 d i _ at f;delta P4 eZ at f;split at f
  .ext U ex;split at f;.ext w y;let(c,f):=bG f;let(a,W,rfl,s1,D):=gZ r I ex;rw[KC y D]at s1;exact(a,w,Ŗ,ie.of s1,bx c,λb j=>(b,_,Ŗ,bA,k.out _ i M1 _ _ (u.trans (Ext.add j)) (r.add j) e9 f))
   .left
  .left
def ū:O2:=λx y h Q=>eZ (iO y) (λk=>eZ (iO x) (λi=>gd (Gg i k) (Q (.p (.I (i*k))) h)) (eZ (jJ h x) (λs=>gd (jL (À s*k.toNat)&&Đ (-2^63<=k)&&Đ (k<2^63)) (Q (.p (.L (Ó k.toNat s).flatten)) h)) ŧ)) ŧ
def Y9:R2:=λx y H Q=>rI Nv (λi j=>.I (i*j)) x y H Q\/WF x y H Q
def Wy:jz X (binaryOp .Mult) Y9:=aaI.or aaM
theorem bh.rep(q:bh (Y.z G) M H xs vs):∀n:Ń,bh (Y.z G) M H (Ó n xs).flatten (Ó n vs).flatten|0=>by done|n+1=>by rwa[q.app (bh.rep q n)]
def O3:jE Y Y9 ū:=λG M h H x y v u Q m r i j q out=>by
 let(K,f,q):=de q;rcases uZ q with ⟨a,e,q⟩|q;.let(k,d):=bG q;cases vA f;cases vA e;rwa[.inl (_,_,fk i,fk j,TU k,out _ h M H _ Ext.refl r e9 d)]
 .let(n,ex,q):=de q;let(c,d):=bG q;cases vA f;simp only[aM,iW]at c;let(a,s,l,s1,I):=gZ r i ex;rwa[.inr (a,_,s,l,fk j,s1,c.1.2,c.2,by rw[<-I.len];rwa[dO c.1.1],λp g=>out _ h M _ _ (Ext.add g) (r.add g) (nh r g (I.rep _)) d)]
def vO:ϑ->Ő (ϑ×ϑ)
 |[]=>O ([],[])|.T [k,v]::r=>match rG k,vO r with|O _,O (K,s)=>O (k::K,v::s)|_,_=>aa
 |_::_=>aa
def gE:ϑ->ϑ->ϑ×ϑ->ϑ×ϑ|k::s,v::d,(K,c)=>gE s d (D7 k K,D8 k v K c)|_,_,r=>r
def B0:ON:=λds h Q=>match ds with
 |[x]=>match jJ h x with|O s=>eZ (vO s) (λp=>gd (Í (À p.1) 100) (Q (.p (.dct (gE p.1 p.2 ([],[])).1 (gE p.1 p.2 ([],[])).2)) h)) ŧ|aa=>ŧ
 |_=>ŧ
def Xb(e:vO (x::xs)=O (ks,us)):∃k w κ ks' us',rG k=O κ/\vO xs=O (ks',us')/\x=.T [k,w]/\ks=k::ks'/\us=w::us':=by
 delta vO at e;split at e;.done
 .grind
 .cases e
def abj:∀{ks us:ϑ}{vs:ϕ},vO xs=O (ks,us)->bh (Y.z G) M H xs vs->∃bI:Ł _,lS Y G M H ks us bI/\Paired (λt c=>∃b,t=V.A b/\fS Y.K H b [kV c.1,c.2]) vs bI:=by induction xs with
 |i=>intro ks us vs e q;cases e;cases vs with|i=>exact([],lS.nil,.nil)|k _ _=>done
 |k x xs I=>intro ks us vs e q;cases vs with|i=>rwa[q.elim]|k v vs=>let(k,w,κ,g,u,f,r,rfl,rfl,rfl):=Xb e;let(bI,d,pp):=I r q.2;let(b,W,rfl,sq,i):=qM q.1;cases W with|i=>rwa[i.elim]|k U W=>let i1:=i.1;replace i:=i.2;cases W with|i=>rwa[i.elim]|k u2 W=>let i2:=i.1;replace i:=i.2;cases W with|k _ _=>rwa[i.elim]|i=>cases vu f i1;exact((κ,u2)::bI,lS.cons.mpr ((f,i2),d),.cons (b,Ŗ,sq) pp)
theorem wO:∀{ks us ks' us':ϑ}{m I:Ł _},lS Y G M H ks us m->lS Y G M H ks' us' I->lS Y G M H (gE ks us (ks',us')).1 (gE ks us (ks',us')).2 (my I m)|[],[],_,_,[],_,_,d=>d|k::ks,u::us,ks',us',p::m,I,d,d2=>by obtain⟨⟨a,b⟩,c⟩:=lS.cons.mp d;show lS Y G M H (gE ks us _).1 _ (my (yG I p.1 p.2) _);rwa[wO c (UA a b d2)]|[],_::_,_,_,I,_,h,_=>by let:=h.1.len;let:=h.2.len;simp at*;lia|_::_,[],_,_,I,_,h,_=>by let:=h.1.len;let:=h.2.len;simp at*;lia|[],[],_,_,_::_,_,h,_=>by let:=h.1.len;simp at this|_::_,_::_,_,_,[],_,h,_=>by let:=h.1.len;simp at this
def Vm:v8 Y (λxs H Q=>∃(l:Á)(s:ϕ)(I:Ł _),xs=[.A l]/\ie Y.K H l s/\À I<=100/\Paired (λt k=>∃b,t=V.A b/\fS Y.K H b [kV k.1,k.2]) s I/\∀a,H a=aa->Q (.A a) (upd H a (.dK (my [] I)))) B0:=λG M h H xs n Q u r g q out=>by
 delta B0 eZ at q;split at q
 .let(v,rfl,i):=g.om;split at q
  .ext xs ex;split at q
   .ext P j;let(c,q):=bG q;let(a,w,rfl,s1,m):=gZ r i ex;let(I,d,pp):=abj j m;let hl:=by let:=d.1.len;rw[ai]at this;rwa[this.symm]
    erw[(a,w,I,Ŗ,ie.of s1,by rw[hl];rwa[bx c],pp,λb f=>?_)];let d2:=wO d lS.nil;erw[out _ h M _ _ (Ext.add f) (r.add f) ?_ q];exact(b,_,Ŗ,r.rp f,bA,d2.1.ext r (Ext.add f),d2.2.ext r (Ext.add f))
   .left
  .left
 .left
end
end F
namespace L2
structure Dy(w:a9)(K:Æ)(mg:b1)(hW:Ń->Ã)(a:Á)(tab:Ã->Ő ϐ):ß where
 ex:∃(es:Array cp)(n:Ń),K.lookup a=O (.type "dict",aa,.dict es n,#[])/\KeysLit w.params es.toList/\∀x,match tab x with|O ks=>∃f,findBy Ý es x=O (.ref f)/\mg (hW (À ks))=O (.ref f)|aa=>findBy Ý es x=aa
 lo:(a==db)=af
def agi(m:b1)(hW:Ń->Ã)(a:Á)(tab:Ã->Ő ϐ):R2:=λx y H Q=>x=.A a/\∃k K,y=.S k/\tab k=O K/\∀f,m (hW (À K))=O (.ref f)->Q (.A f) H
def VI(T:Dy X.w X.K X.mg hW a tab):Ah X (agi X.mg hW a tab):=by intro e slice p s σ H x y v u Q I r R h c;let(rfl,k,g,rfl,d,q):=h;cases r;let(t,rfl):=R;let(E,m,lk,b,look):=T.ex;let hm:=kA (prog:=X.prog) I.oR lk b;let l:=look k;rw[d]at l;let(f,F,M):=l;rwa[ik hm.typeIs jM.lookup (ux (mT _ X.w k t) hm F (Ŗ,(.A f,H,I.tok _,Ŗ,q f M))) c]
def aaF(T:Dy X.w X.K X.mg hW a tab):jz X (compareOp .In) λx y H Q=>y=.A a/\∃k,x=.S k/\Q (.B (tab k).isSome) H:=by intro p s σ H x y v u Q I r R h;let(rfl,k,rfl,q):=h;cases R;let(t,rfl):=r;let(e,m,lk,b,look):=T.ex;erw[wpAny_in_of (mT _ X.w k t) T.lo (kA (prog:=X.prog) I.oR lk b) ?_];erw[(_,H,I.tok _,?_,q)];let l:=look k;cases c:tab k with|s d=>rw[c]at l;let(f,F,M):=l;rw[F];rfl|n=>rw[c]at l;rw[l];rfl
def Qn(x:PE X (.Subscript a b p) tx)(m:eE k X.A)(n:eX (rX X.prog X.w) X E)(o:PA X (e::es) t)(c:(e::es).all cA):PE X (.Call (.Subscript a b p) (e::es) [] pos) λσ H Q=>tx σ H λv d=>∃(f:Á)(g:b7)(ps:ϐ)(sp:Sp),v=.A f/\jT X.prog X.w X.K X.mg X.base (rX X.prog X.w) k f g ps sp/\keepIn X.K (.ref f)=J/\Binds X.K g ps []/\t σ d λvs i=>sp vs i Q E:=by intro P s σ H Q I h;rw[bC,aM]at c;erw[ae (oV (x _ s σ H _ I h) λv s1 y d j r f=>?_)];let(f,g,ps,sp,u,F,z,B,q):=f;subst u;cases r;rwa[kB j.ok.mod.SM z (gP (o pos _ s1 σ d _ j q) λU s2 Z=>by let(vs,i,l,R,C):=Z;exact(l.oR,Cz F m B .nil n l R (by rw[aQ];rwa[C]))) (cW c.1) (gJ c.2)]
def V7{n m:Ã}{p bb pos:Ð}{env:à}(h:(bb.endLine==pos.line)):Ê (.Call (.Attribute (.Name n p) m bb) [] [] pos) env=(do
   let o<-Ê (.Name n p) env
   standAt bb.atName let(f,first)<-dc [o] (getMethod o m do return(<-importBound (.Name n p) env).getD J)callWith pos f first (cc pos (b5 [] env)) (backToKw pos (eA [] env))):=by
 let e:methodCallPos J (.Name n p) env bb pos=pure pos:=by delta methodCallPos;rw[h];rfl
 show(do
   let o<-Ê _ env
   standAt _ let(f,first)<-dc _ (getMethod o m _)let c<-methodCallPos J _ env _ pos
   callWith c f first _ _)=_;rw[e];rfl
def Qs(D:zE X.prog X.w X.K X.mg X.base (rX X.prog X.w) k C m ps sp)(h:PE X (.Name n p) T)(c:IF X.K C)(H:eE k X.A)(x:eX (rX X.prog X.w) X E)(l:(bb.endLine==pos.line)):PE X (.Call (.Attribute (.Name n p) m bb) [] [] pos) (RB C m sp [] E T CM):=MA D h c H x (V7 l)
def Mz(D:vZ X.prog X.w X.K X.mg X.base k x C ps sp)(h:eE (k+1) X.A)(H:Gl X x)(g:(x=="__debug__")=af):PE X (.Call (.Name x p) [] [] pos) (KL C sp [] E0 CM):=by let(f,d,F,M,c,m):=D.ex;rwa[Qq M F h H m c .nil Y2 g]
end L2
set_option genInjectivity false
namespace F
open L2
structure Gm where
 fn:Ń->Ct
 uN:Ϙ
 gl:Ń->Pv
 gok:Ϙ
 vC:Ń->Ct
 kH:Ϙ
 tab:Ń->Ã->Ő (Ł Ã)tok:Ϙ
structure Sx where
 N:ϐ
 sc:Ï
 hW:Ń->Ã
 gnm:Ń->Ã
 tnm:Ń->Ã
 Lu:Ń->Ã
 fl:Ń->ϐ
 bok:ϐ
 cok:Ϙ
 xok:Ϙ
 fr:Þ
def ut(s:Ï)(x:Ã):Þ:=match s.names.lookup x with|O .local=>J|O .cell=>J|O .free=>J|_=>af
def VZ(s:Ï)(x:Ã):Þ:=match s.names.lookup x with|O .local=>J|O .cell=>J|_=>af
def EO(s:Ï)(x:Ã):Þ:=match s.names.lookup x with|O .local=>J|_=>af
def V_(s:Ï)(x:Ã):Þ:=match s.names.lookup x with|O .globalImplicit=>J|_=>af
def Wn(x:Ã):Þ:=ax x "__debug__"||ax x "__classdict__"||ax x "__name__"
def jY(x:Ã):ϐ->Þ|[]=>af|y::r=>ax x y||jY x r
def PX(x:Ã):Ń->ϐ->Þ|0,y::_=>ax x y|n+1,_::r=>PX x n r|_,[]=>af
theorem l8:∀{l:ϐ},jY x l=J->x∈l
 |[],h=>by cases h|y::r,h=>by
  rcases(bF _ _).mp h with h|h;.rw[aI.mp h];rwa[ao]
  .rwa[ak _ (l8 h)]
theorem oi:∀{n:Ń}{l:ϐ},PX x n l=J->l[n]?=O x|0,y::_,h=>by rw[aI.mp h];rfl|n+1,_::r,h=>by rw[ğ];rwa[oi h]|0,[],h=>by cases h|_+1,[],h=>by cases h
def mD{α:Type}(o:Ő α)(f:α->Þ):Þ:=match o with|O a=>f a|aa=>af
def cC(h:mD o f):∃a,o=O a/\f a=true:=by cases o with|n=>cases h|s a=>exact(a,Ŗ,h)
def ag(h:(a&&b)):a/\b=true:=(aM _ _).mp h
def dU(h:(!a)):a=false:=()
def l1{α:Type}:Ł α->Ő α|[a]=>O a|_=>aa
def fJ:∀{l:Ł α}{a:α},l1 l=O a->l=[a]|[],_,h=>by cases h|[_],_,h=>by cases h;rfl|_::_::_,_,h=>by cases h
def l2{α:Type}:Ł α->Ő (α×α)|[a,b]=>O (a,b)|_=>aa
def EB:∀{l:Ł α}{p:α×α},l2 l=O p->l=[p.1,p.2]|[],_,h=>by cases h|[_],_,h=>by cases h|[_,_],_,h=>by cases h;rfl|_::_::_::_,_,h=>by cases h
def lc{α:Type}:Ł α->Ő (α×Ł α)|a::r=>O (a,r)|[]=>aa
def vF:∀{l:Ł α}{p:α×Ł α},lc l=O p->l=p.1::p.2|[],_,h=>by cases h|_::_,_,h=>by cases h;rfl
def zP{α:Type}:Ł α->Þ|[]=>J|_=>af
def jH(h:zP l):l=[]:=by cases l<;>first|rfl|cases h
def wy(n m:Ń)(k:n=m->Þ):Þ:=match h:Ë n m with|J=>k (aP h)|af=>af
def eD(h:wy n m k):∃e,k e=true:=by
 delta wy at h;split at h;.exact(_,h)
 .cases h
def zd(f:Ã->Ð->Þ)(x:Å):Þ:=wy x.ctorIdx 23 λe=>Expr.Name.elim x e f
@[elab_as_elim]def j7{P:Å->ß}(h:zd f x)(q:∀n p,f n p=J->P (.Name n p)):P x:=(eD h).elim λe h=>Expr.Name.elim (motive_1:=λx=>∀e,Expr.Name.elim (motive_1:=λ_=>Þ) x e f=J->P x) x e (λn p _ h=>q n p h) e h
def RU(f:Å->d4->Å->Ð->Þ)(x:Å):Þ:=wy x.ctorIdx 2 λe=>Expr.BinOp.elim x e f
@[elab_as_elim]def xo{P:Å->ß}(h:RU f x)(q:∀a o b p,f a o b p=J->P (.BinOp a o b p)):P x:=(eD h).elim λe h=>Expr.BinOp.elim (motive_1:=λx=>∀e,Expr.BinOp.elim (motive_1:=λ_=>Þ) x e f=J->P x) x e (λa o b p _ h=>q a o b p h) e h
def ro(f:UnaryOp->Å->Ð->Þ)(x:Å):Þ:=wy x.ctorIdx 3 λe=>Expr.UnaryOp.elim x e f
@[elab_as_elim]def R5{P:Å->ß}(h:ro f x)(q:∀o a p,f o a p=J->P (.UnaryOp o a p)):P x:=(eD h).elim λe h=>Expr.UnaryOp.elim (motive_1:=λx=>∀e,Expr.UnaryOp.elim (motive_1:=λ_=>Þ) x e f=J->P x) x e (λo a p _ h=>q o a p h) e h
def RX(f:Å->Ł CmpOp->Ł Å->Ð->Þ)(x:Å):Þ:=wy x.ctorIdx 15 λe=>Expr.Compare.elim x e f
@[elab_as_elim]def xp{P:Å->ß}(h:RX f x)(q:∀a o b p,f a o b p=J->P (.Compare a o b p)):P x:=(eD h).elim λe h=>Expr.Compare.elim (motive_1:=λx=>∀e,Expr.Compare.elim (motive_1:=λ_=>Þ) x e f=J->P x) x e (λa o b p _ h=>q a o b p h) e h
def RW(f:BoolOp->Ł Å->Ð->Þ)(x:Å):Þ:=wy x.ctorIdx 0 λe=>Expr.BoolOp.elim x e f
@[elab_as_elim]def FA{P:Å->ß}(h:RW f x)(q:∀o es p,f o es p=J->P (.BoolOp o es p)):P x:=(eD h).elim λe h=>Expr.BoolOp.elim (motive_1:=λx=>∀e,Expr.BoolOp.elim (motive_1:=λ_=>Þ) x e f=J->P x) x e (λo es p _ h=>q o es p h) e h
def ĵ(f:Å->Å->Å->Ð->Þ)(x:Å):Þ:=wy x.ctorIdx 5 λe=>Expr.IfExp.elim x e f
@[elab_as_elim]def Yc{P:Å->ß}(h:ĵ f x)(q:∀a b c p,f a b c p=J->P (.IfExp a b c p)):P x:=(eD h).elim λe h=>Expr.IfExp.elim (motive_1:=λx=>∀e,Expr.IfExp.elim (motive_1:=λ_=>Þ) x e f=J->P x) x e (λa b c p _ h=>q a b c p h) e h
def Yf(f:Ł Å->Ń->Ð->Þ)(x:Å):Þ:=wy x.ctorIdx 25 λe=>Expr.Tuple.elim x e f
@[elab_as_elim]def xt{P:Å->ß}(h:Yf f x)(q:∀es k p,f es k p=J->P (.Tuple es k p)):P x:=(eD h).elim λe h=>Expr.Tuple.elim (motive_1:=λx=>∀e,Expr.Tuple.elim (motive_1:=λ_=>Þ) x e f=J->P x) x e (λes k p _ h=>q es k p h) e h
def tp(f:Ł Å->Ð->Þ)(x:Å):Þ:=wy x.ctorIdx 24 λe=>Expr.List.elim x e f
@[elab_as_elim]def xq{P:Å->ß}(h:tp f x)(q:∀es p,f es p=J->P (.List es p)):P x:=(eD h).elim λe h=>Expr.List.elim (motive_1:=λx=>∀e,Expr.List.elim (motive_1:=λ_=>Þ) x e f=J->P x) x e (λes p _ h=>q es p h) e h
def M8(f:Å->Å->Ð->Þ)(x:Å):Þ:=wy x.ctorIdx 21 λe=>Expr.Subscript.elim x e f
@[elab_as_elim]def ug{P:Å->ß}(h:M8 f x)(q:∀a i p,f a i p=J->P (.Subscript a i p)):P x:=(eD h).elim λe h=>Expr.Subscript.elim (motive_1:=λx=>∀e,Expr.Subscript.elim (motive_1:=λ_=>Þ) x e f=J->P x) x e (λa i p _ h=>q a i p h) e h
def Uf(f:Ő Å->Ő Å->Ő Å->Ð->Þ)(x:Å):Þ:=wy x.ctorIdx 26 λe=>Expr.Slice.elim x e f
@[elab_as_elim]def Ye{P:Å->ß}(h:Uf f x)(q:∀a b c p,f a b c p=J->P (.Slice a b c p)):P x:=(eD h).elim λe h=>Expr.Slice.elim (motive_1:=λx=>∀e,Expr.Slice.elim (motive_1:=λ_=>Þ) x e f=J->P x) x e (λa b c p _ h=>q a b c p h) e h
def lG(f:Å->Ł Å->Ł c9->Ð->Þ)(x:Å):Þ:=wy x.ctorIdx 16 λe=>Expr.Call.elim x e f
@[elab_as_elim]def fB{P:Å->ß}(h:lG F x)(q:∀f es ks p,F f es ks p=J->P (.Call f es ks p)):P x:=(eD h).elim λe h=>Expr.Call.elim (motive_1:=λx=>∀e,Expr.Call.elim (motive_1:=λ_=>Þ) x e F=J->P x) x e (λf es ks p _ h=>q f es ks p h) e h
def Fz(f:Å->Ã->Ð->Þ)(x:Å):Þ:=wy x.ctorIdx 20 λe=>Expr.Attribute.elim x e f
@[elab_as_elim]def oH{P:Å->ß}(h:Fz F x)(q:∀o f p,F o f p=J->P (.Attribute o f p)):P x:=(eD h).elim λe h=>Expr.Attribute.elim (motive_1:=λx=>∀e,Expr.Attribute.elim (motive_1:=λ_=>Þ) x e F=J->P x) x e (λo f p _ h=>q o f p h) e h
def RY(f:Å->Ł Comprehension->Ï->Ð->Þ)(x:Å):Þ:=wy x.ctorIdx 8 λe=>Expr.ListComp.elim x e f
@[elab_as_elim]def RZ{P:Å->ß}(h:RY f x)(q:∀e g s p,f e g s p=J->P (.ListComp e g s p)):P x:=(eD h).elim λe h=>Expr.ListComp.elim (motive_1:=λx=>∀e,Expr.ListComp.elim (motive_1:=λ_=>Þ) x e f=J->P x) x e (λe g s p _ h=>q e g s p h) e h
def Cc(f:Ł (Ő Å)->Ł Å->Ð->Þ)(x:Å):Þ:=wy x.ctorIdx 6 λe=>Expr.Dict.elim x e f
@[elab_as_elim]def Ya{P:Å->ß}(h:Cc f x)(q:∀ks vs p,f ks vs p=J->P (.Dict ks vs p)):P x:=(eD h).elim λe h=>Expr.Dict.elim (motive_1:=λx=>∀e,Expr.Dict.elim (motive_1:=λ_=>Þ) x e f=J->P x) x e (λks vs p _ h=>q ks vs p h) e h
def X9(f:ĕ->Ń->Ð->Þ)(x:Å):Þ:=wy x.ctorIdx 19 λe=>Expr.Constant.elim x e f
@[elab_as_elim]def oJ{P:Å->ß}(h:X9 f x)(q:∀c k p,f c k p=J->P (.Constant c k p)):P x:=(eD h).elim λe h=>Expr.Constant.elim (motive_1:=λx=>∀e,Expr.Constant.elim (motive_1:=λ_=>Þ) x e f=J->P x) x e (λc k p _ h=>q c k p h) e h
def qb(S:Sx)(i:Ń):Å->Þ:=zd λx _=>PX x i S.N&&(ut S.sc x&&!Wn x)
def G8(S:Sx)(n:Ã):Å->Þ:=zd λx _=>ax x n&&(V_ S.sc x&&!Wn x)
def ZZ:Pv->ĕ->Þ
 |.I i,c=>match c with|.int j=>Đ (i=j)|_=>af
 |.B i,c=>match c with|.bool j=>i==j|_=>af
 |.S i,c=>match c with|.str j=>ax i j|_=>af
 |.N,c=>match c with|.none=>J|_=>af
 |_,_=>af
def xR(p:Pv):Å->Þ:=X9 λc _ _=>ZZ p c
def rK(x:Å):Þ:=!Nat.beq x.ctorIdx 7
def EK(x:Å):Þ:=!(Ë x.ctorIdx 26||Ë x.ctorIdx 25)
def JW(x:Å):Þ:=!lG (λ_ e _ _=>zP e) x
def amw(x:Å):Þ:=!(Ë x.ctorIdx 0||(Ë x.ctorIdx 3||(Ë x.ctorIdx 15||Ë x.ctorIdx 5)))
def F4(w:a9)(K:Æ)(m:b1)(h:Ń->Ã)(i:Ń)(ad:Á)(t:Ã->Ő ϐ):ß:=match Í 100 i with|af=>F5 w K ad t|J=>Dy w K m h ad t
def uz(P:bn)(w:a9)(K:Æ)(m:b1)(base:É)(k:Ń)(nm:Ã)(C:Ń->Á)(c:Ń)(ps:ϐ)(sp:Sp):ß:=match Í 100 c with|af=>vZ P w K m base k nm (C c) ps sp|J=>zE P w K m base (rX P w) k (C (c/100-1)) nm ps sp
def RL{K:Æ}{m:Ã->Ő _}{i:Ń}{ad:Á}(h:Í 100 i=af)(T:F4 w K m H i ad tab):F5 w K ad tab:=by delta F4 at T;rw[h]at T;rwa[T]
def RK{K:Æ}{m:Ã->Ő _}{i:Ń}{ad:Á}(h:Í 100 i)(T:F4 w K m H i ad tab):Dy w K m H ad tab:=by delta F4 at T;rw[h]at T;rwa[T]
def G5{K:Æ}{m:Ã->Ő _}{c:Ń}(h:Í 100 c=af)(T:uz P w K m base k nm C c ps sp):vZ P w K m base k nm (C c) ps sp:=by delta uz at T;rw[h]at T;rwa[T]
def ε{K:Æ}{m:Ã->Ő _}{c:Ń}(h:Í 100 c)(T:uz P w K m base k nm C c ps sp):zE P w K m base (rX P w) k (C (c/100-1)) nm ps sp:=by delta uz at T;rw[h]at T;rwa[T]
theorem uz.mono{K:Æ}{m:Ã->Ő _}(T:uz P w K m base j nm C c ps sp)(h:j<=k):uz P w K m base k nm C c ps sp:=by
 delta uz at*;split at T;.rwa[T.mono h]
 .rwa[T.mono h]
structure si(Γ:Gm)(t:Tb)(k:Ń)(S:Sx)(X:Cx)(E:XK):ß where
 hN:X.N=S.N
 hs:X.env.scope=S.sc
 hc:X.calm=J
 hp:eX (rX X.prog X.w) X E
 hr:eE (k+1) X.A
 bl:∀x∈S.bok,X.mg x=aa
 hW:S.hW=t.hW
 fn:∀i∈Γ.uN,∃ps,qY X.prog X.w X.K X.mg X.base (k+1) (t.hW i) ps (jy 'X' (Γ.fn i))gl:∀i∈Γ.gok,∃u v,X.mg (S.gnm i)=O u/\RelV v u/\∀G M H,eG ('X'.z G) M H (Γ.gl i) v
 tab:∀i∈Γ.tok,∃ad,X.mg (S.tnm i)=O (.ref ad)/\F4 X.w X.K X.mg t.hW i ad (Γ.tab i)cls:∀c∈S.cok,xB X.K t c/\t.fl c=S.fl c
 vC:∀c∈Γ.kH,∃ps,uz X.prog X.w X.K X.mg X.base k (S.Lu c) t.ca c ps (jy 'X' (Γ.vC c))fx:S.fr=J->Su X/\lY X E
def si.hu(o:si Γ t k S X E):X.A.units+64<Ì:=o.hr.units
def si.hu1(o:si Γ t k S X E):X.A.units+1<Ì:=aeU o.hr
def P6(h:Wn x=af):(x=="__debug__")=af/\(x=="__classdict__")=af/\x≠"__name__":=by delta Wn at h;simp only[zA]at h;rw[qv,qv];exact(h.1.1,h.1.2,λz=>by rw[aI.mpr z]at h;rwa[Bool.noConfusion h.2])
def Ŋ(h:ut s x):l7 s x:=by
 delta ut at h;split at h;.ext e;rwa[.inl e]
 .ext e;rwa[.inr (.inl e)]
 .ext e;rwa[.inr (.inr e)]
 .cases h
def Hk(h:VZ s x):L2.Loc s x:=by
 delta VZ at h;split at h;.ext e;rwa[.inl e]
 .ext e;rwa[.inr e]
 .cases h
def u0(h:EO s x):s.names.lookup x=O .local:=by
 delta EO at h;split at h;.done
 .cases h
def W_(o:si Γ t k S X E)(h:V_ S.sc x):Gl X x:=by
 delta V_ at h;split at h;.ext e;show X.env.scope.names.lookup x=_;rw[o.hs];rwa[e]
 .cases h
def je(o:si Γ t k S X E)(h:G8 S n x):∃pos,x=.Name n pos/\Gl X n/\(n=="__debug__")=af/\n≠"__name__":=by erw[j7 h λy p h=>?_];let(H,h):=ag h;let(a,b):=ag h;let e1:=aI.mp H;subst e1;let z:=P6 (dU b);exact(p,Ŗ,W_ o a,z.1,z.2.2)
def O9(o:si Γ t k S X E)(h:qb S i x):PE X x (Il i):=by erw[j7 h λy p h=>?_];let(H,h):=ag h;let(a,b):=ag h;let z:=P6 (dU b);rwa[Qv (by rw[o.hN];rwa[oi H]) (by rw[o.hs];rwa[Ŋ a]) z.1 z.2.1]
def N2(h:xR p x):PE X x (cQ 'X' E (sC p)):=by
 erw[oJ h λc j q h=>?_];cases p<;>first|done|skip
 case N=>cases c<;>first|done|rwa[HE aaY λ_ _ _=>by rfl]
 case B=>cases c<;>first|done|(rw[kR h];rwa[HE Ql λ_ _ _=>by rfl])
 case I=>cases c<;>first|done|(rw[aO h];rwa[HE rM λ_ _ _=>by rfl])
 case S=>cases c<;>first|done|(rw[aI.mp h];rwa[HE jj λ_ _ _=>by rfl])
def w9(h:rK b):dg o b=false:=by cases b<;>first|rfl|cases h
def Hg(h:EK b):p9 b:=by intro o i;cases b<;>first|rfl|cases h
def so(h:JW a):dL a f env w=w:=by
 cases a<;>first|rfl|skip
 ext F args K pos;cases args with|i=>cases h|k _ _=>cases F<;>rfl
def R6(h:amw e)(H:PE X e (cQ 'X' E A)):PT X e (kP 'X' E A):=by cases e<;>first|rwa[W7 H λ_=>Ŗ]|cases h
variable(Γ:Gm)(t:Tb)
structure Em where
 m:Sm
 ck:Sx->Å->Þ
 pe:∀{k S X E x},si Γ t k S X E->ck S x->PE X x (cQ 'X' E m)
structure Tm where
 m:Sm
 ck:Sx->Å->Þ
 pt:∀{k S X E x},si Γ t k S X E->ck S x->PT X x (kP 'X' E m)
structure Bm(op:BoolOp)where
 m:Sm
 ck:Sx->Ł Å->Þ
 pe:∀{k S X E xs},si Γ t k S X E->ck S xs->∀pos,PE X (.BoolOp op xs pos) (cQ 'X' E m)
structure Wm(op:BoolOp)where
 m:Sm
 ck:Sx->Ł Å->Þ
 pw:∀{k S X E xs},si Γ t k S X E->ck S xs->∀pos,PW X (.BoolOp op xs pos) (kP 'X' E m)
structure Am where
 m:Sm
 ck:Sx->Ł Å->Þ
 pa:∀{k S X E xs},si Γ t k S X E->ck S xs->PA X xs (ic 'X' E m)/\xs.all cA=J
structure Jm where
 m:Sm
 ck:Sx->Å->Å->Þ
 pi:∀{k S X E tx x},si Γ t k S X E->ck S tx x->PI X tx x (CN 'X' E (OO m))
end F
namespace F
open L2
def P2(n:Þ):O1:=λx h Q=>match x with|.p a=>Q (.p (.B (Cd n (YI a)))) h|.r _=>Q (.p (.B n)) h
def sCh(o1 o:O2)(A B C:Sm):Sm:=λX σ h Q=>A X σ h λs a=>match s with
 |[x]=>B X σ a λY c=>match Y with
  |[y]=>o1 x y c λd H=>match d with|.p (.B b)=>br b (C X σ H λZ e=>match Z with|[z]=>o y z e λd f=>Q [d] f|_=>ŧ) (Q [.p (.B af)] H)|_=>ŧ
  |_=>ŧ
 |_=>ŧ
structure Bo where
 o:O2
 op:d4
 ok:∀t X,∃r,jz X (binaryOp op) r/\jE 'X' r o
def cm:Bo:=(_,_,λ_ _=>(_,Wu,Vj))
def DE:Bo:=(_,_,λ_ _=>(_,Ϲ,VA))
def Li:Bo:=(_,_,λ_ _=>(_,Wy,O3))
def ŕ:Bo:=(_,_,λ_ _=>(_,Wx,Vn))
def NI:Bo:=(_,_,λ_ _=>(_,aaH,Vt))
structure Co where
 o:O2
 op:CmpOp
 ok:∀t X,X.A.units+64<Ì->∃r,jz X (compareOp op) r/\jE 'X' r o
def jA:Co:=(pS,.Eq,λ_ _ hu=>(_,Ϩ hu,ι))
def zu:Co:=(wS,_,λ_ _ hu=>(_,aaK hu,π))
def TR:Co:=(ĭ,.Lt,λ_ _ _=>(_,afL,ο))
def Sz:Co:=(Ĝ,_,λ_ _ _=>(_,aaG,ξ))
def IU:Co:=(FS,.Gt,λ_ _ _=>(_,Ŷ,μ))
def TN:Co:=(_,.In,λ_ _ _=>(_,Ϧ,OX))
def TX:Co:=(_,_,λ_ _ _=>(_,Mq,OX))
def X7{c:Ń}(h:Í c 4):b' (lW c)=O (.type (lW c)):=by match c,bx h with|0,_=>rwa[NN]|1,_=>rwa[Gd]|2,_=>rwa[TL]|3,_=>rwa[DG]|4,_=>rwa[IS]
section
variable{Γ:Gm}{t:Tb}
namespace Em
def v(i:Ń):Em Γ t:=(_,λS x=>qb S i x,λo h=>ZL (O9 o h))
def c(p:Pv):Em Γ t:=(_,λ_ x=>xR p x,λ_ h=>N2 h)
abbrev i(n:Î):Em Γ t:=c (.I n)
abbrev s(z:Ã):Em Γ t:=c (.S z)
instance γ{n:Ń}:OfNat (Em Γ t) n:=⟨.v n⟩
def ofV:(OfNat.ofNat n:Em Γ t)=.v n:=rfl
def g(i:Ń):Em Γ t:=(_,λS x=>jX i Γ.gok&&G8 S (S.gnm i) x,λo h=>by let(H,h):=ag h;let(pos,rfl,a,d,_):=je o h;let(u,v,m,r,I):=o.gl i (cN.mp H);rwa[HE (oq a m r d) I])
def f(i:Ń):Em Γ t:=(sC (.fn i),λS x=>jX i Γ.uN&&G8 S (S.hW i) x,λo h=>by let(a,h):=ag h;let(pos,rfl,g,d,_):=je o h;let(p,f,b,F,H,k,c):=o.fn i (cN.mp a);rw[<-o.hW]at H;rwa[HE (oq (v:=.A f) g H Ŗ d) λ_ _ _=>by rw[o.hW]at H;exact(f,H,Ŗ)])
def ty(c:Ń):Em Γ t:=(sC (.ty c),λS x=>Í c 4&&(G8 S (lW c) x&&jY (lW c) S.bok),λo h=>by let(H,h):=ag h;let(a,b):=ag h;let(pos,rfl,g,d,hn):=je o a;rwa[HE (Y4 (o.bl _ (l8 b)) (X7 H) g hn d) λ_ _ _=>Ŗ])
def b2(p:Bo)(A B:Em Γ t):Em Γ t:=(_,λS=>RU λa o b _=>Đ (o=p.op)&&(A.ck S a&&B.ck S b),λ{k S X E x}o h=>by erw[xo h λa f b q h=>?_];let(H,h):=ag h;let(c,d):=ag h;rw[aO H];let(r,R,e):=p.ok t X;rwa[Ŝ R e (A.pe o c) (B.pe o d)])
def neg(A:Em Γ t):Em Γ t:=(_,λS=>ro λo a _=>Đ (o=.USub)&&A.ck S a,λo h=>by erw[R5 h λp a q h=>?_];let(H,h):=ag h;rw[aO H];rwa[Œ abY Vv (A.pe o h)])
end Em
def fy(S:Sx)(p:CmpOp)(A B:Em Γ t):Å->Þ:=RX λa os bs _=>mD (l1 os) λo=>mD (l1 bs) λb=>Đ (o=p)&&(rK b&&(A.ck S a&&B.ck S b))
@[elab_as_elim]def xO{B:Em Γ t}{P:Å->ß}(h:fy S o A B x)(k:∀a b p,dg o b=af->A.ck S a->B.ck S b->P (.Compare a [o] [b] p)):P x:=by erw[xp h λa os bs q h=>?_];let(c,e,h):=cC h;let(b,E,h):=cC h;let(H,h):=ag h;let(d,h):=ag h;let(f,g):=ag h;let e3:=aO H;subst e3;rw[fJ e,fJ E];rwa[k a b q (w9 d) f g]
def pP(n:Þ):CmpOp:=bif n then .IsNot else .Is
def ď(S:Sx)(n:Þ)(A:Em Γ t):Å->Þ:=RX λa os bs _=>mD (l1 os) λo=>mD (l1 bs) λb=>Đ (o=pP n)&&(X9 (λc _ _=>ZZ .N c) b&&A.ck S a)
def TF(h:ZZ .N c):c=.none:=by cases c<;>first|rfl|cases h
@[elab_as_elim]def VF{A:Em Γ t}{P:Å->ß}(h:ď S n A x)(k:∀a j p q,A.ck S a=J->P (.Compare a [pP n] [.Constant .none j p] q)):P x:=by erw[xp h λa os bs q h=>?_];let(o,e,h):=cC h;let(b,E,h):=cC h;let(d,h):=ag h;let(H,f):=ag h;rw[fJ e,fJ E,aO d];erw[oJ H λc j p H=>?_];rw[TF H];rwa[k a j p q f]
def θ(c:PE X x (cQ 'X' E A)):PC X (pP g) x (.Constant .none j p) (cQ 'X' E (s1 (P2 g) A)):=by
 let K:∀{τ H b},cQ 'X' E (s1 (P2 g) A) τ H b->cQ 'X' E A τ H λv H1=>b (.B (g !=Đ (v=.gH))) H1:=by intro τ H b (G,M,σ,h,l,Q,k,q);erw[(G,M,σ,h,l,_,(k.rel,k.env,λd h1 M1 H1 v f R i a=>?_,k.exc),q)];cases d with|r n=>let(ad,_,rfl):=i;erw[k.out _ h1 M1 H1 _ f R ?_ a];rw[dP (λz=>by cases z),Bool.bne_false];rwa[iK]|p d=>
   let a:Q _ h1:=a;rw[Ht]at a;erw[k.out _ h1 M1 H1 _ f R ?_ a];let:YI d=Đ (v=.gH):=by
    cases d;case N=>cases i;rfl
    case B=>cases i;rfl
    case I=>cases i;rfl
    case S=>cases i;rfl
    case ty=>cases i;rfl
    case T=>let(_,_,e,_):=i;rw[e];rfl
    case L=>let(_,_,e,_):=i;rw[e];rfl
    case scr=>let(_,_,e,_):=i;rw[e];rfl
    case dct=>let(_,_,e,_):=i;rw[e];rfl
    case obj=>let(_,_,_,e,_):=i;rw[e];rfl
    case fn=>let(_,_,e):=i;rw[e];rfl
   rw[this];rwa[iK]
 cases g with|t=>rwa[λP s σ H Q I q=>WE c _ s σ H Q I (by let:=K q;simp only[nF]at this;rwa[this])]|f=>rwa[λP s σ H Q I q=>aaT c _ s σ H Q I (by let:=K q;simp only[lK]at this;rwa[this])]
def adH(p:jE 'X' r o)(s:jE 'X' r' o')(h:cQ 'X' E (sCh o o' A B C) τ H QV):Ry r r' (cQ 'X' E A) (cQ 'X' E B) (cQ 'X' E C) τ H QV:=by
 let(G,M,σ,h,c,Q,k,q):=h;erw[(G,M,σ,h,c,_,(k.rel,k.env,λx F M1 H1 u e g D K=>?_,k.exc),q)];erw[(G,M1,σ,F,c,_,k.on e g λy S L N v a i I P=>?_,K)];erw[p G L S N x y u v _ _ i (D.ext g a) I P λd j m T w b R U f=>?_];split at f;.ext l;erw[(l,Nw U,?_)];cases l with|t=>erw[(G,m,σ,j,c,_,k.on (e.trans (a.trans b)) R λz W Y Z vz n r4 i4 q4=>?_,f)];rwa[s G Y W Z y z v vz _ _ r4 ((I.ext i b).ext R n) i4 q4 λd5 h5 M5 H5 w5 e5 r5 i5 q5=>k.out d5 h5 M5 H5 w5 (e.trans (a.trans (b.trans (n.trans e5)))) r5 i5 q5]|f=>rwa[k.out _ j m T _ (e.trans (a.trans b)) R iK f]
 .left
def NE(S:Sx)(p q:CmpOp)(A B C:Em Γ t):Å->Þ:=RX λa os bs _=>mD (l2 os) λo=>mD (l2 bs) λb=>Đ (o.1=p)&&Đ (o.2=q)&&(rK b.2&&(A.ck S a&&(B.ck S b.1&&C.ck S b.2)))
@[elab_as_elim]def k_{C:Em Γ t}{P:Å->ß}(h:NE S p q A B C x)(k:∀a b c ps,dg q c=af->A.ck S a->B.ck S b->C.ck S c->P (.Compare a [p,q] [b,c] ps)):P x:=by erw[xp h λa os bs ps h=>?_];let(o,e,h):=cC h;let(b,E,h):=cC h;let(f,h):=ag h;let(H,d):=ag f;let(g,h):=ag h;let(i,h):=ag h;let(j,l):=ag h;rw[EB e,EB E,aO H,aO d];rwa[k a b.1 b.2 ps (w9 g) i j l]
def Cp(hu:X.A.units+1<Ì)(h:PE X x (cQ 'X' E A))(H:PE X y (cQ 'X' E B)):PC X (bif neg then .NotIn else .In) x y (cQ 'X' E (s2 (Hw neg) A B)):=by cases neg with|t=>rwa[HC hu h H]|f=>rwa[WD hu h H]
namespace Em
def cmp(c:Co)(A B:Em Γ t):Em Γ t:=(_,λS=>fy S _ A B,λ{k S X E x}o h=>by erw[xO h λa b p H d e=>?_];let(r,R,f):=c.ok t X o.hu;rwa[aaZ R f (A.pe o d) (B.pe o e) H])
def din(n:Þ)(A B:Em Γ t):Em Γ t:=(s2 (Hw n) A.m B.m,λS=>fy S _ A B,λo h=>by rwa[xO h λa b p H c d=>Ň (Cp o.hu1 (A.pe o c) (B.pe o d)) H])
def ch(c d:Co)(A B C:Em Γ t):Em Γ t:=(_,λS=>NE S _ _ A B C,λ{k S X E x}o h=>by erw[k_ h λa b m p H e f g=>?_];let(r,R,i):=c.ok t X o.hu;let(n,j,l):=d.ok t X o.hu;exact(Qo R j (A.pe o e) (B.pe o f) (C.pe o g) H).imp λ_ _ _=>adH i l)
end Em
namespace Tm
def val(A:Em Γ t):Tm Γ t:=(A.m,_,λo h=>R6 (ag h).1 (A.pe o (ag h).2))
def cmp(c:Co)(A B:Em Γ t):Tm Γ t:=(_,λS=>fy S _ A B,λ{k S X E x}o h=>by erw[xO h λa b p H d e=>?_];let(r,R,f):=c.ok t X o.hu;rwa[W6 R f (A.pe o d) (B.pe o e) H])
def AH(n:Þ)(A:Em Γ t):Tm Γ t:=(_,λS=>ď S n A,λo h=>by rwa[VF h λa j p q H=>QE (θ (A.pe o H)) (w9 Ŗ)])
def din(n:Þ)(A B:Em Γ t):Tm Γ t:=(s2 (Hw n) A.m B.m,λS=>fy S _ A B,λo h=>by rwa[xO h λa b p H c d=>QE (Cp o.hu1 (A.pe o c) (B.pe o d)) H])
def not(A:Tm Γ t):Tm Γ t:=(_,λS=>ro λo a _=>Đ (o=.Not)&&A.ck S a,λo h=>by erw[R5 h λp a q h=>?_];let(H,h):=ag h;rw[aO H];exact(QU (A.pt o h)).imp λ_ _ _=>RE)
end Tm
namespace Wm
def a1(A:Tm Γ t):Wm Γ t .And:=(A.m,λS x=>mD (l1 x) _,λo h pos=>by let(a,e,h):=cC h;rw[fJ e];rwa[Xd (A.pt o h)])
def o1(A:Tm Γ t):Wm Γ t .Or:=(A.m,λS x=>mD (l1 x) _,λo h pos=>by let(a,e,h):=cC h;rw[fJ e];rwa[QZ (A.pt o h)])
def l2c(xs:Ł Å)(f:Å->Ł Å->Þ):Þ:=mD (lc xs) λp=>!zP p.2&&f p.1 p.2
@[elab_as_elim]def B7{P:Ł _->ß}(h:l2c xs f)(k:∀a b r,f a (b::r)=J->P (a::b::r)):P xs:=by obtain⟨⟨a,r⟩,e,h⟩:=cC h;rw[vF e];cases r with|i=>done|k b r=>rwa[k a b r h]
def ac(A:Tm Γ t)(B:Wm Γ t .And):Wm Γ t .And:=(_,λS x=>l2c x λa r=>A.ck S a&&B.ck S r,λo h pos=>by rwa[B7 h λa b r h=>(abr (A.pt o (ag h).1) (B.pw o (ag h).2 pos)).imp λ_ _ _=>RD])
def oc(A:Tm Γ t)(B:Wm Γ t .Or):Wm Γ t .Or:=(_,λS x=>l2c x λa r=>A.ck S a&&B.ck S r,λo h pos=>by rwa[B7 h λa b r h=>(Y6 (A.pt o (ag h).1) (B.pw o (ag h).2 pos)).imp λ_ _ _=>XU])
end Wm
def Tm.bo{a:BoolOp}(B:Wm Γ t a):Tm Γ t:=(B.m,λS=>RW λo x _=>Đ (o=a)&&B.ck S x,λo h=>by erw[FA h λb x p h=>?_];let(H,h):=ag h;rw[aO H];exact(B.pw o h p).pt)
namespace Bm
def a1(A:Em Γ t):Bm Γ t .And:=(A.m,λS x=>mD (l1 x) _,λo h pos=>by let(a,e,h):=cC h;rw[fJ e];rwa[Qt (A.pe o h)])
def o1(A:Em Γ t):Bm Γ t .Or:=(A.m,λS x=>mD (l1 x) _,λo h pos=>by let(a,e,h):=cC h;rw[fJ e];rwa[Qt (A.pe o h)])
def ac(A:Em Γ t)(B:Bm Γ t .And):Bm Γ t .And:=(_,λS x=>Wm.l2c x λa r=>A.ck S a&&B.ck S r,λo h pos=>by rwa[Wm.B7 h λa b r h=>(aaU (A.pe o (ag h).1) (B.pe o (ag h).2 pos)).imp λ_ _ _=>XW])
def oc(A:Em Γ t)(B:Bm Γ t .Or):Bm Γ t .Or:=(_,λS x=>Wm.l2c x λa r=>A.ck S a&&B.ck S r,λo h pos=>by rwa[Wm.B7 h λa b r h=>(afS (A.pe o (ag h).1) (B.pe o (ag h).2 pos)).imp λ_ _ _=>ŭ])
end Bm
namespace Em
def bo{a:BoolOp}(B:Bm Γ t a):Em Γ t:=(B.m,λS=>RW λo x _=>Đ (o=a)&&B.ck S x,λo h=>by erw[FA h λb x p h=>?_];let(H,h):=ag h;rw[aO H];rwa[B.pe o h p])
def ife(T:Tm Γ t)(A B:Em Γ t):Em Γ t:=(_,λS=>ĵ _,λo h=>by erw[Yc h λa b c p h=>?_];let(H,h):=ag h;let(d,e):=ag h;rwa[aa2 (T.pt o H) (A.pe o d) (B.pe o e)])
end Em
namespace Am
def nil:Am Γ t:=(_,λ_ x=>zP x,λ_ h=>by rw[jH h];exact(WT,Ŗ))
def cons(A:Em Γ t)(B:Am Γ t):Am Γ t:=(_,λS x=>mD (lc x) λp=>cA p.1&&(A.ck S p.1&&B.ck S p.2),λo h=>by obtain⟨⟨a,r⟩,e,h⟩:=cC h;let(H,h):=ag h;let(b,c):=ag h;rw[vF e];let(p,q):=B.pa o c;exact(Qz (A.pe o b) p H,by grind))
abbrev u(A:Em Γ t):Am Γ t:=cons A nil
abbrev u2(A B:Em Γ t):Am Γ t:=cons A (u B)
abbrev u3(A B C:Em Γ t):Am Γ t:=cons A (u2 B C)
abbrev u4(A B C D:Em Γ t):Am Γ t:=cons A (u3 B C D)
abbrev u5(A B C D E:Em Γ t):Am Γ t:=cons A (u4 B C D E)
end Am
end
end F
namespace F
open L2
def TM:b' "dict"=O (.type "dict"):=by rfl
structure Bi where
 o:ON
 nm:Ã
 ok:∀{t X E A e es p pos},X.calm=J->Gl X nm->X.mg nm=aa->PA X (e::es) (ic 'X' E A)->nm≠"__name__"->(nm==("__debug__":Ã))=af->(e::es).all cA->PE X (.Call (.Name nm p) (e::es) [] pos) (cQ 'X' E (sN o A))
def d8:Bi:=(_,_,λ_ h H a hn k e=>Qw Lo Vq h H NM a hn k e)
def uK:Bi:=(_,_,λ_ h H a hn k e=>Qw Ln Vo h H mn a hn k e)
def LK:Bi:=(_,_,λh H m a hn k e=>Qw (DN h) Vk H m c_ a hn k e)
def uM:Bi:=(_,_,λ_ h H a hn k e=>AS zK O6 h H DG a hn k e)
def I':Bi:=(_,_,λ_ h H a hn k e=>AS Bx O0 h H IS a hn k e)
def N_:Bi:=(_,_,λ_ h H a hn k e=>AS Lm OY h H Gd a hn k e)
def ź:Bi:=(_,_,λ_ h H a hn k e=>AS By O5 h H NN a hn k e)
def ajS:Bi:=(_,_,λh H m a hn k e=>AS (uG h) Vm H m TM a hn k e)
structure Mt where
 c:Ń
 o:OM
 nm:Ã
 ok:∀{t X E A R ob a a7 bb dw},PE X ob (cQ 'X' E A)->PA X (a::a7) (ic 'X' E R)->dL ob nm X.env (Ê ob X.env)=Ê ob X.env->(a::a7).all cA->À (a::a7)<30->(bb.endLine==dw.line)->PE X (.Call (.Attribute ob nm bb) (a::a7) [] dw) (cQ 'X' E (hG c o A R))
def lU:Mt:=(4,_,_,λh H b p l hn=>EU cV j9 kf nr Vl h H b p l hn)
structure M0 where
 c:Ń
 o:OM
 nm:Ã
 ok:∀{t X E A ob bb dw},PE X ob (cQ 'X' E A)->dL ob nm X.env (Ê ob X.env)=Ê ob X.env->(bb.endLine==dw.line)->PE X (.Call (.Attribute ob nm bb) [] [] dw) (cQ 'X' E (hG c o A CB))
section
variable{Γ:Gm}{t:Tb}
def ϰ(h:PE X x (cQ 'X' E A))(H:PE X y (cQ 'X' E B))(s:p9 y):PE X (.Subscript x y pos) (cQ 'X' E (s2 uY A B)):=(tI ω h H s).imp λ_ _ _=>qV ν
structure Pm(Γ:Gm)(t:Tb)where
 m:Ő Sm
 ck:Sx->Ő Å->Þ
 po:∀{k S X E x},si Γ t k S X E->ck S x->PO X x (MY 'X' E m)
def Pm.no:Pm Γ t:=(_,λ_ x=>x.isNone,λ{k S X E x}_ h=>by cases x with|n=>rwa[QA]|s x=>grind)
def Pm.of(A:Em Γ t):Pm Γ t:=(_,λS x=>mD x _,λo h=>by let(a,e,h):=cC h;rw[e];rwa[QC (A.pe o h)])
def JL:Ł c9->Þ|[]=>J|_=>af
def jI(h:JL l):l=[]:=by cases l<;>first|rfl|cases h
def fH(S:Sx)(n:Ã)(A:Am Γ t):Å->Þ:=lG λf e k _=>JL k&&(G8 S n f&&(!zP e&&A.ck S e))
@[elab_as_elim]def xM{k S X E}{A:Am Γ t}{P:Å->ß}(o:si Γ t k S X E)(h:fH S n A x)(q:∀p pos e es,Gl X n->(n=="__debug__")=af->n≠"__name__"->PA X (e::es) (ic 'X' E A.m)->(e::es).all cA->P (.Call (.Name n p) (e::es) [] pos)):P x:=by erw[fB h λf es K pos h=>?_];let(H,h):=ag h;let(b,h):=ag h;let(p,e,g,d,hn):=je o b;rw[jI H,e];cases es with|i=>done|k a es=>let(c,l):=A.pa o h;rwa[q p pos a es g d hn c l]
def ri(S:Sx)(A:Am Γ t):Å->Þ:=tp λe _=>A.ck S e
def rr(S:Sx)(A B:Em Γ t):Å->Þ:=M8 λa i _=>EK i&&(A.ck S a&&B.ck S i)
@[elab_as_elim]def Rh{B:Em Γ t}{P:Å->ß}(h:rr S A B x)(q:∀a i p,p9 i->A.ck S a->B.ck S i->P (.Subscript a i p)):P x:=by erw[ug h λa i p h=>?_];let(H,h):=ag h;let(b,c):=ag h;rwa[q a i p (Hg H) b c]
def TC(h:ZZ (.I i) c):c=.int i:=by cases c<;>first|(rw[aO h])|cases h
def j'(S:Sx)(nm:Ã)(o:Em Γ t)(f:Ł Å->Þ):Å->Þ:=lG λg e k q=>JL k&&(f e&&Fz (λb m p=>ax m nm&&(p.endLine==q.line&&(JW b&&o.ck S b))) g)
@[elab_as_elim]def Hr{o:Em Γ t}{P:Å->ß}(h:j' S nm o f x)(q:∀b es bb d,f es=J->o.ck S b->JW b->(bb.endLine==d.line)->P (.Call (.Attribute b nm bb) es [] d)):P x:=by erw[fB h λg es k r h=>?_];let(H,h):=ag h;let(a,h):=ag h;rw[jI H];erw[oH h λb m p h=>?_];let(c,h):=ag h;let(e,h):=ag h;let(i,j):=ag h;rw[aI.mp c];rwa[q b es p r a j i e]
namespace Em
def tup(A:Am Γ t):Em Γ t:=(_,λS=>Yf _,λo h=>xt h λ_ _ _ h=>ϝ (A.pa o h).1)
def lst(A:Am Γ t):Em Γ t:=(_,λS=>ri S A,λo h=>xq h λ_ _ h=>Ϯ (A.pa o h).1)
def FP(A:Am Γ t):Em Γ t:=(_,λS=>ri S A,λo h=>xq h λ_ _ h=>ő (A.pa o h).1)
def lsd(A:Am Γ t):Em Γ t:=(_,λS=>ri S A,λo h=>xq h λ_ _ h=>aa3 (A.pa o h).1)
def ix(A B:Em Γ t):Em Γ t:=(_,λS=>rr S A B,λo h=>Rh h λ_ _ _ H a b=>ϰ (A.pe o a) (B.pe o b) H)
def dix(A B:Em Γ t):Em Γ t:=(_,λS=>rr S A B,λo h=>Rh h λ_ _ _ H a b=>Ņ o.hu1 (A.pe o a) (B.pe o b) H)
def sl(A:Em Γ t)(L U:Pm Γ t):Em Γ t:=(_,λS=>M8 λa i _=>A.ck S a&&Uf (λl u s _=>s.isNone&&(L.ck S l&&U.ck S u)) i,λo h=>by erw[ug h λa i p h=>?_];let(H,h):=ag h;erw[Ye h λl u s q h=>?_];let(d,h):=ag h;let(b,c):=ag h;cases s with|n=>rwa[Ţ (A.pe o H) (L.po o b) (U.po o c)]|s s=>grind)
def bi(b:Bi)(A:Am Γ t):Em Γ t:=(_,λS x=>jY _ _&&fH S _ A x,λo h=>xM o (ag h).2 λ_ _ _ _ H d hn p P=>b.ok o.hc H (o.bl _ (l8 (ag h).1)) p hn d P)
def afa(A:Em Γ t):Em Γ t:=(_,λS=>lG λf e k _=>JL k&&(G8 S _ f&&(jY _ _&&(jY _ _&&mD (l1 e) (lG λg X l _=>JL l&&(G8 S _ g&&mD (l1 X) _))))),λo h=>by erw[fB h λf e k p h=>?_];let(a,h):=ag h;let(b,h):=ag h;let(c,h):=ag h;let(d,h):=ag h;let(x,E,h):=cC h;let(P,i,j,v,hn):=je o b;rw[jI a,fJ E,i];erw[fB h λg X l q h=>?_];let(m,h):=ag h;let(n,h):=ag h;let(x,r,h):=cC h;let(w,s,H,u,N):=je o n;rw[jI m,fJ r,s];rwa[WR o.hc j (o.bl _ (l8 c)) H (o.bl _ (l8 d)) (A.pe o (ag h).2) (ag h).1])
def mt(m:Mt)(b:Em Γ t)(A:Am Γ t):Em Γ t:=(_,λS=>j' S _ b λe=>Nat.blt _ 30&&(!zP e&&A.ck S e),λo h=>Hr h λi e s D H c d f=>by let(G,g):=ag H;cases e with|i=>done|k a e=>let(p,P):=A.pa o g;rwa[m.ok (b.pe o c) p (so d) P (bx G) f])
def m0(m:M0)(a:Em Γ t):Em Γ t:=(_,λS=>j' S _ a zP,λo h=>Hr h λe E A D H b c d=>by rw[jH H];rwa[m.ok (a.pe o b) (so c) d])
def cl(i:Ń)(ρ:Ϙ)(A:Am Γ t):Em Γ t:=(Ra ρ _ A.m,λS x=>jX i _&&fH S _ A x,λ{k S X E x}o h=>by let(s,D):=o.fn i (cN.mp (ag h).1);rw[<-o.hW]at D;rwa[xM o (ag h).2 λ_ _ _ _ H d hn p P=>WQ D o.hr o.hp H p d P])
def clv(ρ:Ϙ)(i:Ń)(A:Am Γ t):Em Γ t:=(Rb _ _ ρ _ A.m,λS=>lG λf e k _=>JL k&&(qb S i f&&(!zP e&&A.ck S e)),λo h=>by erw[fB h λf e k p h=>?_];let(b,h):=ag h;let(H,h):=ag h;rw[jI b];cases e with|i=>done|k a e=>let(P,l):=A.pa o h;let z:=O9 o H;revert z;rwa[j7 H λx q _=>λz=>Qy o.fn o.hr o.hp (ZL z) P l])
def tg(i:Ń)(A:Em Γ t):Em Γ t:=(_,λS=>lG λg E k q=>JL k&&(!Nat.ble 100 i&&jX i _&&Fz (λf m p=>G8 S _ f&&(ax m _&&(p.endLine==q.line&&mD (l1 E) _))) g),λo h=>by erw[fB h λg E k q h=>?_];let(a,h):=ag h;let(H,h):=ag h;rw[jI a];erw[oH h λf m p h=>?_];let(b,h):=ag h;let(c,h):=ag h;let(d,h):=ag h;let(e,j,h):=cC h;let(P,l,n,r,hn):=je o b;let(ad,s,T):=o.tab i (cN.mp (ag H).2);replace T:=RL (dU (ag H).1) T;rw[aI.mp c,fJ j,l];rwa[WS T n s (A.pe o (ag h).2) r (ag h).1 d])
def ti(i:Ń)(A:Em Γ t):Em Γ t:=(_,λS=>M8 λf e _=>!Nat.ble 100 i&&jX i _&&(G8 S _ f&&(EK e&&A.ck S e)),λo h=>by erw[ug h λf e p h=>?_];let(H,h):=ag h;let(a,h):=ag h;let(b,h):=ag h;let(P,E,g,d,hn):=je o a;let(ad,m,T):=o.tab i (cN.mp (ag H).2);replace T:=RL (dU (ag H).1) T;rw[E];rwa[aa9 T g m (A.pe o h) d (Hg b)])
def fld(c j:Ń)(A:Em Γ t):Em Γ t:=(s1 (mz c j) A.m,λS=>Fz _,λo h=>by erw[oH h λa f p h=>?_];let(H,h):=ag h;let(b,h):=ag h;let(d,h):=ag h;let(C,e):=o.cls c (cN.mp H);rwa[ϣ C (by rw[e];rwa[oi b]) (A.pe o h) (so d)])
def new(c:Ń)(A:Am Γ t):Em Γ t:=(_,λS x=>!Nat.ble 100 c&&jX c _&&fH S _ A x,λ{k S X E x}o h=>by let(s,D):=o.vC c (cN.mp (ag (ag h).1).2);replace D:=G5 (dU (ag (ag h).1).1) D;rwa[xM o (ag h).2 λ_ _ _ _ H d hn p P=>aa7 D o.hr H p d P])
end Em
namespace Jm
def s(A:Em Γ t):Jm Γ t:=(_,λS _ x=>A.ck S x,λo h=>WV (A.pe o h))
def c(A:Em Γ t):Jm Γ t:=(_,λS T x=>zd _ T,λo h=>by rwa[j7 h λn p h=>WW (A.pe o h)])
def r(A:Am Γ t):Jm Γ t:=(_,λS _ x=>jY _ _&&lG (λf E k _=>JL k&&(G8 S _ f&&mD (l1 E) λ_=>A.ck S E)) x,λo h=>by let(H,h):=ag h;erw[fB h λf E k q h=>?_];let(b,h):=ag h;let(c,h):=ag h;let(e,a,h):=cC h;let(p,d,g,i,hn):=je o c;rw[fJ a]at h;rw[jI b,fJ a,d];let(p,q):=A.pa o h;rw[bC,aM]at q;rwa[WU g (o.bl _ (l8 H)) p q.1])
def SI(S:Sx)(A:Am Γ t)(T x:Å):Þ:=Yf (λ_ _ _=>jY "zip" S.bok&&lG (λf e k _=>JL k&&(G8 S "zip" f&&mD (l2 e) λ_=>A.ck S e)) x) T
@[elab_as_elim]def ach{k S X E}{A:Am Γ t}{P:Å->Å->ß}{c:Å}(o:si Γ t k S X E)(h:SI S A c x)(q:∀es k0 T p pos a b,Gl X "zip"->X.mg "zip"=aa->PA X [a,b] (ic 'X' E A.m)->cA a->cA b->P (.Tuple es k0 T) (.Call (.Name "zip" p) [a,b] [] pos)):P c x:=by erw[xt h λes k0 T h=>?_];let(H,h):=ag h;erw[fB h λf s K pos h=>?_];let(g,h):=ag h;let(i,h):=ag h;let(e,d,h):=cC h;let(p,j,n,u,hn):=je o i;rw[EB d]at h;rw[jI g,EB d,j];let(r,l):=A.pa o h;rw[bC,bC,aM,aM]at l;rwa[q es k0 T p pos e.1 e.2 n (o.bl _ (l8 H)) r l.1 l.2.1]
def z(A:Am Γ t):Jm Γ t:=(_,λS T x=>SI S A T x,λo h=>ach o h λ_ _ _ _ _ _ _ H m p a b=>WX H m p a b)
end Jm
end
end F
namespace F
open L2
def _root_.L2.qH.imp{X:Cx}{e:Ł _}{t t':TT}(h:qH X e t')(i:∀σ H Q,t σ H Q->t' σ H Q):qH X e t:=λp s σ H Q I q=>h _ s σ H Q I (i σ H Q q)
structure Fm(Γ:Gm)(t:Tb)where
 m:Sm
 ck:Sx->Ł Å->Þ
 pf:∀{k S X E xs},si Γ t k S X E->ck S xs->qH X xs (kP 'X' E m)
def Fc(S s:Ï):Ï:={s with names:=s.names.map λ(n,k)=>if k==.free&&S.kind==.function&&S.names.lookup n==O .cell then(n,.cell)else(n,k)}
def aln(x:Å):Ő Ã:=if h:x.ctorIdx=23 then Expr.Name.elim x h λn _=>O n else aa
def Io(x:Å):ϐ:=match x with|.Name n _=>[n]|.Tuple e _ _=>e.filterMap aln|_=>[]
def Mj:ϐ->Þ|[]=>J|x::r=>!jY x r&&Mj r
theorem sY:∀{l:ϐ},x∈l->jY x l=J
 |[],h=>by grind|y::r,h=>by
  delta jY;rcases aJ.mp h with h|h;.rw[aI.mpr h];rfl
  .rw[sY h,FT]
theorem pW:∀{l:ϐ},Mj l=J->l.Nodup|[],_=>jv|x::r,h=>by erw[cO.mpr (λz=>?_,pW (ag h).2)];let:=dU (ag h).1;rw[sY z]at this;cases this
def gt(S:Sx)(x:Ã):Þ:=VZ S.sc x&&(S.fr||EO S.sc x)
def mO(S:Sx)(i:Ń):Å->Þ:=zd λx _=>PX x i S.N&&gt S x
def ry(S:Sx):Ϙ->Ł Å->Þ|[],[]=>J|i::I,e::E=>mO S i e&&ry S I E|_,_=>af
def i8(S:Sx):Tg->Å->Þ|.one i=>mO S i|.many I=>Yf λe _ _=>ry S I e
def Y5(a:X.N=S.N)(s:X.env.scope=S.sc)(nd:X.N.Nodup)(f:∀y,gt S y=J->X.fn y\/X.env.scope.names.lookup y=O .local)(h:mO S i x):PG X x (oQ i)/\∀env,d0 [x] env=[(af,assign x env)]:=by erw[j7 h λn p h=>?_];let(b,H):=ag h;exact(Cq nd (by rw[a];rwa[oi b]) (by rw[s];rwa[Hk (ag H).1]) (f n H),λ_=>Ŗ)
def Lh(h:cA x):d0 (x::es) env=(af,assign x env)::d0 es env:=by cases x<;>first|rfl|cases h
def RN(h:mO S i x):cA x=true:=j7 h λ_ _ _=>Ŗ
theorem QF(H:X.N=S.N)(s:X.env.scope=S.sc)(nd:X.N.Nodup)(f:∀y,gt S y=J->X.fn y\/X.env.scope.names.lookup y=O .local):∀{is:Ϙ}{es:Ł _},ry S is es=J->Tp X es (Ox is)/\À (d0 es X.env)=À is/\(d0 es X.env).findIdx? (·.1)=aa|[],[],_=>(W8,Ŗ,Ŗ)|[],_::_,h=>by cases h|_::_,[],h=>by cases h|i::is,e::es,h=>by let(d,g):=ag h;let(a,b,c):=QF H s nd f g;let z:=Lh (es:=es) (env:=X.env) (RN d);erw[(QG (Y5 H s nd f d).1 a (by grind),by grind,?_)];rw[z,List.findIdx?_cons,c];rfl
def J7(d:X.calm)(H:X.N=S.N)(s:X.env.scope=S.sc)(nd:X.N.Nodup)(f:∀y,gt S y=J->X.fn y\/X.env.scope.names.lookup y=O .local)(h:i8 S tg x):PG X x (hD X.K tg):=by cases tg with|one i=>exact(Y5 H s nd f h).1|many I=>erw[xt h λe k p h=>?_];let(a,b,c):=QF H s nd f h;rwa[abf d a b c]
def BS(h:rK e):eo e env x=pure x:=by cases e<;>first|rfl|cases h
section
variable{Γ:Gm}{t:Tb}
def Fm.no:Fm Γ t:=(sC (.B J),λ_ x=>zP x,λo h=>by rw[jH h];erw[QJ.imp λτ H a G=>?_];let(G,M,σ,h,X,Q,k,q):=G;let(b,e,z):=k.out _ h M H Ext.refl k.rel q;cases e;rwa[z])
def Fm.one(T:Tm Γ t):Fm Γ t:=(T.m,λS x=>mD (l1 x) _,λo h=>by let(a,e,h):=cC h;rw[fJ e];rwa[QK (T.pt o h)])
def wa(s:Ϙ)(N:ϐ):ϐ:=s.map λj=>N[j]?.getD ""
def Uj(h:s.all (λj=>Nat.blt j (À N))):s.map (λj=>N[j]?)=(wa s N).map some:=by delta wa;rw[cq];erw[A8 λj H=>?_];rw[Function.comp_apply,aE (bx (aG.mp h j H))];rfl
def Fa(N':ϐ)(S s:Ï):Þ:=Đ (s.kind=.function)&&(Mj N'&&(s.names.all (λy=>y.2 !=.cell)&&(s.names.all (λy=>y.2 !=.local||EO s y.1)&&s.names.all λy=>y.2 !=.free||Đ (S.names.lookup y.1=O .cell)&&!EO (Fc S s) y.1)))
def nR{α:Type}{f:α->Þ}{l:Ł α}(h:l.all f):∀y∈l,f y=true:=aG.mp h
def Xu(d:X.env.scope=s)(h:Fa N' s scope):fY X N' scope:=by
 let(g,h):=ag h;let(i,h):=ag h;let(j,h):=ag h;let(k,f):=ag h;let n:∀{a b:NameKind}{c:Þ},(a !=b||c)=J->a=b->c=true:=λ{a b c}z e=>nofun
 erw[Gr s d (aO g) (pW i) (λy H z=>?_) (λy H z=>u0 (n (nR k y H) z)) (λy H z=>aO (ag (n (nR f y H) z)).1) λy H z=>?_];.let:=nR j y H;rw[z]at this;cases this
 .let q:=dU (ag (n (nR f y H) z)).2;delta EO at q;intro w;rw[show(Fc s _).names.lookup y.1=O _ from w]at q;cases q
def Ch(a:Ϙ)(S:Sx)(s:Ï):Þ:=a.all (λj=>Nat.blt j (À S.N))&&(wa a S.N).all λy=>s.names.any λz=>ax z.1 y&&z.2==.free
def Ua(h:Ch a S s):a.map (λj=>S.N[j]?)=(wa a S.N).map O/\∀y∈wa a S.N,(y,å)∈s.names:=by let(H,b):=ag h;erw[(Uj H,λy c=>?_)];let(z,d,q):=um.mp (nR b y c);let(Z,f):=z;let(Q,e):=ag q;let E:Z=y:=aI.mp Q;let e2:=kR e;subst E e2;rwa[d]
def Zl(S:Sx)(N':ϐ)(s:Ï):Sx:={S with N:=N',sc:=Fc S.sc s,fr:=af}
def Ws(o:si Γ t k S X E)(N':ϐ)(b:Ï)(fp:Ł _)(c:a5)(d:Hp):si Γ t k (Zl S N' b) (iZ X N' b fp c d) λ_ _ _=>ŧ where
 hN:=Ŗ;hs:=by show relabel _ _=Fc _ _;rw[<-o.hs];rfl
 hc:=o.hc;hp:=λp σ H s e f I h=>by let(a,C,g,_,_,q):=h;rwa[q.elim]
 hr:=o.hr;bl:=o.bl;hW:=o.hW;fn:=o.fn;gl:=o.gl;tab:=o.tab;cls:=o.cls;vC:=o.vC;fx:=λh=>by cases h
def Ci(o:si Γ t k S X E)(N':ϐ)(s:Ï)(fp:Ł _)(a:a5)(H:Hp):si Γ t k (Zl S N' s) (dM X N' s fp a H E) E where
 hN:=Ŗ;hs:=by show relabel _ _=Fc _ _;rw[<-o.hs];rfl
 hc:=o.hc;hp:=Gq;hr:=o.hr;bl:=o.bl;hW:=o.hW;fn:=o.fn;gl:=o.gl;tab:=o.tab;cls:=o.cls;vC:=o.vC;fx:=λh=>by cases h
def Gn(S:Sx)(n:Ń)(s:Ϙ)(tg:Tg)(j:Sx->Å->Å->Þ)(F:Fm Γ t)(A:Sx->Å->Þ):Å->Þ:=RY λe G c _=>mD (l1 G) λg=>Đ (g.is_async=0)&&(rK g.iter&&(Ë (À (Io g.target)) n&&(X0 n tg&&(Ch s S c&&(Fa (Io g.target++wa s S.N) S.sc c&&(i8 (Zl S (Io g.target++wa s S.N) c) tg g.target&&(j S g.target g.iter&&(F.ck (Zl S (Io g.target++wa s S.N) c) g.ifs&&A (Zl S (Io g.target++wa s S.N) c) e))))))))
@[elab_as_elim]def qf{F:Fm Γ t}{P:Å->ß}(o:si Γ t k S X E)(h:Gn S n a tg j F A x)(q:∀N' T ix i e s p,fY X N' s->(∀σ:Ç,À σ=À X.N->pq X N' s σ (sE n a σ))->j S T ix->X0 n tg->(∀{b d},si Γ t k (Zl S N' s) b d->PG b T (hD b.K tg))->F.ck (Zl S N' s) i->A (Zl S N' s) e->(∀v,eo ix X.env v=pure v)->P (.ListComp e [(T,ix,i,0)] s p)):P x:=by
 erw[RZ h λe M s p h=>?_];obtain⟨⟨T,ix,i,Q⟩,l,h⟩:=cC h;rw[fJ l];let(m,h):=ag h;let(r,h):=ag h;let(u,h):=ag h;let(w,h):=ag h;let(z,h):=ag h;let(f,h):=ag h;let(B,h):=ag h;let(C,h):=ag h;let(H,c):=ag h;let e0:=aO m;subst e0;let g:À (Io T)=n:=aP u;let(G,I):=Ua z;let D:(Io T++wa a S.N).drop n=wa a S.N:=by rw[<-g,List.drop_left]
 rwa[q _ T ix i e s p (Xu o.hs f) (ajw n a (by rw[ah,g];delta wa;rw[ai]) (by rw[D,o.hN];rwa[G]) (by rw[D];rwa[I])) C w (λ{b d}oc=>J7 oc.hc oc.hN oc.hs (by rw[oc.hN];rwa[pW (ag (ag f).2).1]) (λy L=>.inr (by rw[oc.hs];rwa[u0 (ag L).2])) B) H c λ_=>BS r]
def Em.comp(n:Ń)(a:Ϙ)(tg:Tg)(j:Jm Γ t)(F:Fm Γ t)(A:Em Γ t):Em Γ t:=(Kq n a tg _ F.m A.m af,λS x=>S.fr&&Gn S n a tg _ F _ x,λo h=>qf o (ag h).2 λN T ix i e u p b c d g k l q r=>(yE (o.fx (ag h).1).1 (o.fx (ag h).1).2 b o.hc c (j.pi o d) (λf s H=>k (Ci o _ _ f _ _)) (λf s H=>F.pf (Ci o _ _ f _ _) l) (λf s H=>A.pe (Ci o _ _ f _ _) q) r).imp λ_ _ _=>BE λ_ _ z=>by lia g)
def rz(f:Ő Å->Ð->Þ)(x:È):Þ:=wy x.ctorIdx 3 λe=>Stmt.Return.elim x e f
@[elab_as_elim]def KU{P:È->ß}(h:rz f x)(q:∀e p,f e p=J->P (.Return e p)):P x:=(eD h).elim λe h=>Stmt.Return.elim (motive_2:=λx=>∀e,Stmt.Return.elim (motive_2:=λ_=>Þ) x e f=J->P x) x e (λe p _ h=>q e p h) e h
def RT(f:Ł Å->Å->Ð->Þ)(x:È):Þ:=wy x.ctorIdx 5 λe=>Stmt.Assign.elim x e f
@[elab_as_elim]def xn{P:È->ß}(h:RT f x)(q:∀T e p,f T e p=J->P (.Assign T e p)):P x:=(eD h).elim λe h=>Stmt.Assign.elim (motive_2:=λx=>∀e,Stmt.Assign.elim (motive_2:=λ_=>Þ) x e f=J->P x) x e (λT e p _ h=>q T e p h) e h
def wE(f:Å->Å->Ł È->Ł È->Ð->Þ)(x:È):Þ:=wy x.ctorIdx 9 λe=>Stmt.For.elim x e f
@[elab_as_elim]def KR{P:È->ß}(h:wE f x)(q:∀a b c d p,f a b c d p=J->P (.For a b c d p)):P x:=(eD h).elim λe h=>Stmt.For.elim (motive_2:=λx=>∀e,Stmt.For.elim (motive_2:=λ_=>Þ) x e f=J->P x) x e (λa b c d p _ h=>q a b c d p h) e h
def p5(f:Å->Ł È->Ł È->Ð->Þ)(x:È):Þ:=wy x.ctorIdx 11 λe=>Stmt.While.elim x e f
@[elab_as_elim]def KW{P:È->ß}(h:p5 f x)(q:∀a b c p,f a b c p=J->P (.While a b c p)):P x:=(eD h).elim λe h=>Stmt.While.elim (motive_2:=λx=>∀e,Stmt.While.elim (motive_2:=λ_=>Þ) x e f=J->P x) x e (λa b c p _ h=>q a b c p h) e h
def oD(f:Å->Ł È->Ł È->Ð->Þ)(x:È):Þ:=wy x.ctorIdx 12 λe=>Stmt.If.elim x e f
@[elab_as_elim]def KS{P:È->ß}(h:oD f x)(q:∀a b c p,f a b c p=J->P (.If a b c p)):P x:=(eD h).elim λe h=>Stmt.If.elim (motive_2:=λx=>∀e,Stmt.If.elim (motive_2:=λ_=>Þ) x e f=J->P x) x e (λa b c p _ h=>q a b c p h) e h
def OF(f:Ő Å->Ő Å->Ð->Þ)(x:È):Þ:=wy x.ctorIdx 16 λe=>Stmt.Raise.elim x e f
@[elab_as_elim]def Yd{P:È->ß}(h:OF f x)(q:∀a b p,f a b p=J->P (.Raise a b p)):P x:=(eD h).elim λe h=>Stmt.Raise.elim (motive_2:=λx=>∀e,Stmt.Raise.elim (motive_2:=λ_=>Þ) x e f=J->P x) x e (λa b p _ h=>q a b p h) e h
def Ğ(f:Å->Ð->Þ)(x:È):Þ:=wy x.ctorIdx 24 λe=>Stmt.Expr.elim x e f
@[elab_as_elim]def Yb{P:È->ß}(h:Ğ f x)(q:∀a p,f a p=J->P (.Expr a p)):P x:=(eD h).elim λe h=>Stmt.Expr.elim (motive_2:=λx=>∀e,Stmt.Expr.elim (motive_2:=λ_=>Þ) x e f=J->P x) x e (λa p _ h=>q a p h) e h
def Do(f:Å->d4->Å->Ð->Þ)(x:È):Þ:=wy x.ctorIdx 7 λe=>Stmt.AugAssign.elim x e f
@[elab_as_elim]def X8{P:È->ß}(h:Do f x)(q:∀a o b p,f a o b p=J->P (.AugAssign a o b p)):P x:=(eD h).elim λe h=>Stmt.AugAssign.elim (motive_2:=λx=>∀e,Stmt.AugAssign.elim (motive_2:=λ_=>Þ) x e f=J->P x) x e (λa o b p _ h=>q a o b p h) e h
structure ā(Γ:Gm)(t:Tb)(k:Ń)(S:Sx)(X:Cx)(E:XK):ß where
 x:si Γ t k S X E
 nd:X.N.Nodup
 hf:∀y,gt S y=J->X.fn y\/X.env.scope.names.lookup y=O .local
 po:PassesOwn (a8 X.prog X.w) X.A X.env X.xe
 kd:X.env.scope.kind=.function
 exc:∀c∈S.xok,X.mg (S.Lu c)=O (.ref (t.ca c))/\Lb X.K (t.ca c)
structure Mm(Γ:Gm)(t:Tb)where
 m:Ss
 ck:Sx->È->Þ
 ps:∀{k S X E st},ā Γ t k S X E->ck S st->PS X st (gK 'X' E m)
structure Ms(Γ:Gm)(t:Tb)where
 m:Ss
 ck:Sx->Ł È->Þ
 ps:∀{k S X E st},ā Γ t k S X E->ck S st->ph X st (gK 'X' E m)
def UY(h:Hs)(k:Ń):Dv->Ő Dv|.p x=>O (.p x)|.r i=>match Í k i with|af=>O (.r i)|J=>match h[i]? with|O (.L X)=>O (.p (.L X))|O (.C K u)=>O (.p (.dct K u))|_=>aa
def YE(e:Å):Þ:=!(Ë e.ctorIdx 8||(Ë e.ctorIdx 9||Ë e.ctorIdx 10))
def YN(h:YE e):el e o l env=pure false:=by cases e<;>first|rfl|cases h
def abN:el e (O (.Subscript a i p)) l env=pure false:=by cases e<;>rfl
def Z0:el e (O (.Attribute a f p)) l env=pure false:=by cases e<;>rfl
def Xl(e:Å):Þ:=!Nat.beq e.ctorIdx 25&&YE e
def YU(h:Xl e):swapsWithSole [.Tuple es j p] e l env=pure af/\swappedStores [.Tuple es j p] e env=pure none:=by cases e<;>first|done|cases h
def S_(r:bw Z M H h)(i:fI Z M H d v)(e:UY h k d=O x):fI Z (M.take k) H x v:=by
 delta UY at e;split at e;.cases e;rwa[eG.mv (Mv.cut r k) i]
 .ext n;split at e;.ext b;cases e;rwa[i.cut r (bR (Nat.lt_of_not_le λz=>by rw[mK z]at b;cases b))]
  .ext b;let(a,c,rfl):=i;let N:a∉M.take k/\a∉Z.G:=by
    erw[(λz=>?_,r.dj a (aZ c))];let(j,m):=zB z;let f:j<k:=by grind
    rw[j8 f]at m;let(l1,E):=aj.mp c;let(l2,p):=aj.mp m;let:=(jB r.nd).mp (E.trans p.symm);let:=bx b;lia
   split at e;.ext o;cases e;let(s,g,l):=r.ob n a _ c o;exact(a,s,Ŗ,N,g,bh.mv (Mv.cut r k) l)
   .ext o;cases e;let(B,g,l,q):=r.ob n a _ c o;exact(a,B,Ŗ,N,g,bh.mv (Mv.cut r k) l,bh.mv (Mv.cut r k) q)
   .cases e
def Xv(S:Sx)(i:Ń)(f:Ã->Ð->Å->Þ):È->Þ:=RT λT e _=>mD (l1 T) (zd λx p=>PX x i S.N&&(gt S x&&f x p e))
@[elab_as_elim]def CD{k S X E}{P:È->ß}{st:È}(o:ā Γ t k S X E)(h:Xv S i f st)(q:∀x p e pos,X.N[i]?=O x->L2.Loc X.env.scope x->X.fn x\/X.env.scope.names.lookup x=O .local->f x p e->P (.Assign [.Name x p] e pos)):P st:=by erw[xn h λT e pos h=>?_];let(c,a,h):=cC h;rw[fJ a];erw[j7 h λx p h=>?_];let(b,h):=ag h;let(H,h):=ag h;rwa[q x p e pos (by rw[o.x.hN];rwa[oi b]) (by rw[o.x.hs];rwa[Hk (ag H).1]) (o.hf x H) h]
def A'(f:Å->Å->Å->Þ):È->Þ:=RT λT e _=>mD (l1 T) (M8 λa i _=>f a i e)
@[elab_as_elim]def Ϛ{P:È->ß}{st:È}(h:A' f st)(q:∀a i p e pos,f a i e=J->P (.Assign [.Subscript a i p] e pos)):P st:=by erw[xn h λT e pos h=>?_];let(x,E,h):=cC h;rw[fJ E];rwa[ug h λa i p h=>q a i p e pos h]
def TB(h:EK i):∀v,assign (.Subscript o i p) env v=(do
   let a<-dc [v] (Ê o env)let I<-dc [v,a] (Ê i env)standAt p
   dc [v,a,I] (setItem a I v)release [v,a,I] []):=by intro v;cases i<;>first|rfl|cases h
def XJ:swapsWithSole [.Subscript a i p] e l env=pure false:=abN (a:=a) (i:=i) (p:=p) (l:=l) (env:=env)
def Ϝ:swappedStores [.Subscript a i p] e env=pure none:=rfl
namespace Mm
def ex(A:Em Γ t):Mm Γ t:=(_,λS=>Ğ _,λo h=>Yb h λe p h=>ţ (A.pe o.x (ag h).2) (YN (ag h).1))
def ret(A:Em Γ t):Mm Γ t:=(_,λS=>rz λe _=>mD e _,λo h=>by erw[KU h λe p h=>?_];let(a,E,h):=cC h;rw[E];rwa[W3 (A.pe o.x h)])
def set(i:Ń)(A:Em Γ t):Mm Γ t:=(_,λS=>Xv S i _,λo h=>CD o h λx p e pos a b c H=>W4 (λT d=>QR o.nd a b d (YN (ag H).1) c) (A.pe o.x (ag H).2))
def unp(is:Ϙ)(A:Em Γ t):Mm Γ t:=(_,λS=>RT λT e _=>Xl e&&(A.ck S e&&mD (l1 T) (i8 S (.many is))),λo h=>by erw[xn h λT e pos h=>?_];let(H,h):=ag h;let(a,h):=ag h;let(c,E,h):=cC h;rw[fJ E];let g:=J7 o.x.hc o.x.hN o.x.hs o.nd o.hf h;revert g;rwa[xt h λs j p _ g=>W5 (λd b=>QN b g (YU H).1 (YU (l:=0) H).2 Ŗ) (A.pe o.x a)])
def put(A B C:Em Γ t):Mm Γ t:=(_,λS=>A' _,λo h=>by erw[Ϛ h λa i p e pos h=>?_];let(H,h):=ag h;let(b,h):=ag h;let(c,d):=ag h;exact(QN (A.pe o.x b) (abe (B.pe o.x c) (C.pe o.x d) Rn (TB H)) XJ Ϝ Ŗ).imp λ_ _ _=>abo)
def rn(c j:Ń)(A B:Em Γ t):Mm Γ t:=(Zg c j A.m B.m,λS=>RT λT e _=>mD (l1 T) (Fz _),λo h=>by erw[xn h λT e pos h=>?_];let(k,E,h):=cC h;rw[fJ E];erw[oH h λa f p h=>?_];let(H,h):=ag h;let(b,h):=ag h;let(d,g):=ag h;let(C,i):=o.x.cls c (cN.mp H);exact(abk (B.pe o.x g) (A.pe o.x d) Z0).imp λ_ _ _=>UX C (by rw[i];rwa[oi b]))
def raise(c:Ń)(A:Em Γ t):Mm Γ t:=(_,λS=>OF λe b _=>b.isNone&&(S.fr&&(jX c S.xok&&mD e (lG λf E k _=>JL k&&(G8 S (S.Lu c) f&&mD (l1 E) λe0=>cA e0&&A.ck S e0)))),λo h=>by erw[Yd h λe b pos h=>?_];let(v,h):=ag h;let(H,h):=ag h;let(a,h):=ag h;let(w,d,g):=cC h;rw[d];cases b with|s _=>grind|n=>erw[fB g λf E k C h=>?_];let(i,h):=ag h;let(j,h):=ag h;let(e0,l,h):=cC h;let(p,m,n,q,hn):=je o.x j;rw[jI i,fJ l,m];let(fr,u):=o.x.fx H;let(r,K):=o.exc c (cN.mp a);rwa[MC (λT s=>QQ fr u o.x.hc n r K s (ag h).1 q) (A.pe o.x (ag h).2)])
def iff(T:Tm Γ t)(A B:Ms Γ t):Mm Γ t:=(_,λS=>oD _,λo h=>by erw[KS h λc a b p h=>?_];let(H,h):=ag h;let(d,e):=ag h;rwa[abd (T.pt o.x H) (A.ps o d) (B.ps o e)])
def fo(tg:Tg)(j:Jm Γ t)(B:Ms Γ t):Mm Γ t:=(_,λS=>wE λT ix b e _=>zP e&&(rK ix&&(i8 S tg T&&(j.ck S T ix&&B.ck S b))),λo h=>by erw[KR h λT ix b e p h=>?_];let(H,h):=ag h;let(a,h):=ag h;let(c,h):=ag h;let(d,f):=ag h;rw[jH H];exact(QO o.po o.x.hc (j.pi o.x d) (J7 o.x.hc o.x.hN o.x.hs o.nd o.hf c) (B.ps o f) λ_=>BS a).imp λ_ _ _=>R_)
def ct:Mm Γ t:=(At,λ_ st=>Ë _ 27,λ{k S X E st}o h=>by rwa[Stmt.Continue.elim st (aP h) λp=>ť])
end Mm
namespace Ms
def nil:Ms Γ t:=(lv,λ_ l=>zP l,λo h=>by rw[jH h];rwa[WZ])
def one(A:Mm Γ t):Ms Γ t:=(A.m,λS l=>mD (l1 l) _,λo h=>by let(a,e,h):=cC h;rw[fJ e];rwa[W0 (A.ps o h)])
abbrev re(A:Em Γ t):Ms Γ t:=one (.ret A)
def seq(A:Mm Γ t)(B:Ms Γ t):Ms Γ t:=(_,λS l=>mD (lc l) λp=>A.ck S p.1&&B.ck S p.2,λo h=>by obtain⟨⟨a,r⟩,e,h⟩:=cC h;rw[vF e];rwa[QD (A.ps o (ag h).1) (B.ps o (ag h).2)])
def cut(A:Mm Γ t)(B:Ms Γ t):Ms Γ t:=(_,λS l=>mD (lc l) λp=>A.ck S p.1&&B.ck S p.2,λo h=>by obtain⟨⟨a,r⟩,e,h⟩:=cC h;rw[vF e];rwa[WY (A.ps o (ag h).1) (B.ps o (ag h).2)])
end Ms
end
end F
namespace F
open L2
section
variable{Γ:Gm}{t:Tb}
def Ro(h:gK 'X' E (Rf i A) D τ H):Fo (cQ 'X' E A) (oQ i) D τ H:=by let(G,M,σ,h,N,k,q):=h;exact(G,M,σ,h,_,_,(k.rel,k.env,λd a m b v e r i q=>k.nx _ a m b _ e r ((k.env.ext k.rel e).set i) q,k.exc),q)
def WP(x:Ã)(p:Ð):Å->Þ:=RY λ_ _ s c=>p.line==c.line&&!s.names.any λ(n,k)=>n==x&&(k==.local||k==.cell)
def Pe{env:à}(h:env.scope.kind=.function):(env.blockKind==ScopeKind.function)=true:=by delta Env.blockKind;rw[h];rfl
def Mm.setC(i n:Ń)(l:Ϙ)(tg:Tg)(j:Jm Γ t)(F:Fm Γ t)(A:Em Γ t):Mm Γ t:=(Rf i (Kq n l tg _ F.m A.m af),λS=>Xv S i λx p e=>EO _ x&&(WP x p e&&Gn S n l tg _ F _ e),λ{k S X E st}o h=>by
 erw[CD o h λx p e pos r u v w=>?_];let(y,g):=ag w;let(G,B):=ag g;revert G;erw[qf o.x B λT U ix I e C D K L a b M N P Q G=>?_];erw[(Kd o.nd r u K o.x.hc L (j.pi o.x a) (λf s H=>M (Ws o.x _ _ f _ _)) (λf s H=>F.pf (Ws o.x _ _ f _ _) N) (λf s H=>A.pe (Ws o.x _ _ f _ _) P) Q ?_ v).imp λ_ _ _ q=>BE λ_ _ z=>by lia b (Ro q)];let(c,d):=ag G;show pure (X.env.blockKind==.function&&X.env.kindOf x==O _&&p.line==D.line&&!C.names.any _)=pure _;let R:X.env.kindOf x=O .local:=by show X.env.scope.names.lookup x=_;rw[o.x.hs];rwa[u0 y]
 rw[Pe o.kd,R,c,d];rfl)
structure Gk(Γ:Gm)(t:Tb)(k:Ń)(S:Sx)(P:bn)(w:a9)(K:Æ)(mg:b1)(base:É):ß where
 bl:∀x∈S.bok,mg x=aa
 hW:S.hW=t.hW
 fn:∀i∈Γ.uN,∃ps,qY P w K mg base (k+1) (t.hW i) ps (jy (K,mg,t) (Γ.fn i))gl:∀i∈Γ.gok,∃u v,mg (S.gnm i)=O u/\RelV v u/\∀G M H,eG (((K,mg,t):T0).z G) M H (Γ.gl i) v
 tab:∀i∈Γ.tok,∃ad,mg (S.tnm i)=O (.ref ad)/\F4 w K mg t.hW i ad (Γ.tab i)cls:∀c∈S.cok,xB K t c/\t.fl c=S.fl c
 vC:∀c∈Γ.kH,∃ps,uz P w K mg base k (S.Lu c) t.ca c ps (jy (K,mg,t) (Γ.vC c))exc:∀c∈S.xok,mg (S.Lu c)=O (.ref (t.ca c))/\Lb K (t.ca c)
def gv(z:Þ)(k:Ń)(Q:Dv->Hs->ß)(d:Dv)(h:Hs):ß:=match z with|af=>Q d h|J=>match UY h k d with|O x=>gd (bH k (h.take k)) (Q x (h.take k))|aa=>ŧ
def vf(z:Þ)(k:Ń)(x:XP):XP:=λc h=>match z with|af=>x c h|J=>gd (bH k (h.take k)) (x c (h.take k))
def hU(z:Þ)(k:Ń)(Q:Dv->Hs->ß)(x:XP):En:=(λ_ h=>gv z k Q (.p .N) h,gv z k Q,λ_ _=>ŧ,λ_ _=>ŧ,vf z k x)
def pY(n:Ń)(ds:Ł Dv):Es:=ds.map O++Ó (n-À ds) aa
def CH(N:ϐ)(i:cD Z M H ds vs):dG Z M H (pY (À N) ds) (L2.start N vs):=by
 erw[(by delta pY L2.start;rw[ah,ah,ai,ai,cH,cH,i.len],λj d h=>?_)];delta pY at h;delta L2.start;by_cases a:j<À ds;.rw[aY nofun,bP]at h;rw[aY (by rw[ai,<-i.len];rwa[a]),bP];cases e:ds[j]? with|n=>rw[e]at h;cases h|s D=>rw[e]at h;cases h;let(v,b,c):=i.get e;exact(v,by rw[b];rfl,c)
 .rw[aK nofun,gS]at h;split at h<;>cases h
def Ze{b:VK}(R:bw Z M H h)(out:∀d a M' H' v,Ext M H M' H'->bw Z M' H' a->fI Z M' H' d v->Q d a->b v H')(e:Ext M H M' H')(r:bw Z M' H' a)(i:fI Z M' H' d v)(q:gv z (À h) Q d a):b v H':=by
 delta gv at q;split at q;.rwa[out d a M' H' v e r i q]
 .split at q;.ext x f;let(c,q):=bG q;rwa[out x _ _ H' v (e.cut (by rw[R.ln];rwa[au _])) (r.cut _ c) (S_ r i f) q]
  .left
def ahf{E:Hp->ß}(R:bw Z M H h)(out:∀a M' H',Ext M H M' H'->bw Z M' H' a->x c a->E H')(e:Ext M H M' H')(r:bw Z M' H' a)(q:vf z (À h) x c a):E H':=by
 delta vf at q;split at q;.rwa[out a M' H' e r q]
 .let(C,q):=bG q;rwa[out _ _ _ (e.cut (by rw[R.ln];rwa[au _])) (r.cut _ C) q]
def Sx.at(S:Sx)(N:ϐ)(sc:Ï)(fr:Þ):Sx:={S with N:=N,sc:=sc,fr:=fr}
def BM(r:bw ('X'.z G) M H h)(v:dG ('X'.z G) M H σ τ)(out:∀d a M' H' v,Ext M H M' H'->bw ('X'.z G) M' H' a->fI ('X'.z G) M' H' d v->Q d a->b v H')(f:∀c a M' H',Ext M H M' H'->bw ('X'.z G) M' H' a->x c a->E (.ref (t.ca c)) aa H'):ZR ('X'.z G) E τ H {nx:=λ_ H'=>b .gH H',rt:=b} M σ h (hU z (À h) Q x):=(r,v,λg a M' H' j e R k q=>Ze r out e R tu q,λd a M' H' v e R i q=>Ze r out e R i q,λ_ _ _ _ _ _ _ _ q=>q.elim,λ_ _ _ _ _ _ _ _ q=>q.elim,λc a M' H' e R q=>ahf r (f c) e R q)
variable{P:bn}{w:a9}{K:Æ}{mg:b1}{base:É}{x:Ã}{st:È}{ps N:ϐ}{k:Ń}{C:Ct}{S:Sx}
def Gk.okx{fr:Þ}(g:Gk Γ t k S X.prog X.w X.K X.mg X.base)(h:X.N=N)(H:X.env.scope=s)(c:X.calm)(p:eX (rX X.prog X.w) X E)(r:eE (k+1) X.A)(f:fr->Su X/\lY X E):si Γ t k (S.at N s fr) X E:=(h,H,c,p,r,g.bl,g.hW,g.fn,g.gl,g.tab,g.cls,g.vC,f)
def Ms.ajN(B:Ms Γ t)(z:Þ)(b:Src K mg x st ps)(F:dR N ps (aU st))(g:Gk Γ t k S P w K mg base)(d:B.ck (S.at N (aU st) J) (cB st)=J)(a:∀ds h Q X,C ds h Q X->À ds=À ps/\B.m (hU z (À h) Q X) (pY (À N) ds) h):qY P w K mg base (k+2) x ps (jy (K,mg,t) C):=by rwa[b.okX F (λv H Q E t=>t.ln λ_ _ _ _ c=>(a _ _ _ _ c).1) λf R A o s H v Q E j Z=>by let(G,M,h,ds,q,X,r,i,c,out,e):=Z;exact(_,B.ps (Gk.okx g rfl rfl rfl (lY.pass uO Cn) j λ_=>(uO,Cn),F.nd,λy _=>.inl Ŗ,PassesOwn.leaving,F.kind,g.exc) d,(G,M,_,h,_,BM r (CH N i) out e,(a _ _ _ _ c).2))]
def Ms.ajL(B:Ms Γ t)(z:Þ)(d:uA K (t.ca a) l st ps)(j:mg x=O (.ref (t.ca a)))(F:dR N ps (aU st))(g:Gk Γ t k S P w K mg base)(n:B.ck (S.at N (aU st) af) (cB st)=J)(b:∀ds h Q X,C ds h Q X->À ds=À ps/\B.m (hU z (À h) Q λ_ _=>ŧ) (pY (À N) ds) h):vZ P w K mg base (k+2) x (t.ca a) ps (jy (K,mg,t) C):=by rwa[d.ok j F (λv H Q E t=>t.ln λ_ _ _ _ c=>(b _ _ _ _ c).1) λf R A o s H v Q E u (G,M,h,ds,L,X,r,i,c,out,D)=>(_,B.ps (E:=λ_ _ _=>ŧ) (Gk.okx g rfl rfl rfl (λp σ H s e T I Z=>by let(_,_,_,_,_,q):=Z;rwa[q.elim]) u (λh=>by cases h),F.nd,λy _=>.inl Ŗ,wH,F.kind,g.exc) n,(G,M,_,h,_,BM r (CH N i) out λ_ _ _ _ _ _ q=>q.elim,(b _ _ _ _ c).2))]
def Ms.ajM(B:Ms Γ t)(z:Þ)(d:uB K a x q st ps)(F:dR N ps (aU st))(g:Gk Γ t k S P w K mg base)(j:B.ck (S.at N (aU st) J) (cB st)=J)(b:∀ds h Q X,C ds h Q X->À ds=À ps/\B.m (hU z (À h) Q X) (pY (À N) ds) h):zE P w K mg base (rX P w) (k+2) a x ps (jy (K,mg,t) C):=by rwa[d.okX F (λv H Q E t=>t.ln λ_ _ _ _ c=>(b _ _ _ _ c).1) λf R A o s H v Q E l (G,M,h,ds,n,X,r,i,c,out,e)=>(_,B.ps (Gk.okx g rfl rfl rfl (lY.pass uO Cn) l λ_=>(uO,Cn),F.nd,λy _=>.inl Ŗ,PassesOwn.leaving,F.kind,g.exc) j,(G,M,_,h,_,BM r (CH N i) out e,(b _ _ _ _ c).2))]
end
structure Wd where
 P:bn
 w:a9
 K:Æ
 mg:b1
 base:É
structure Lw where
 S:Sx
 ca:Ń->Á
 gl:Ń->Pv
 gok:Ϙ
 tab:Ń->Ã->Ő (Ł Ã)tok:Ϙ
 vC:Ń->Ct
abbrev Lw.t(L:Lw):Tb:=(L.S.hW,L.ca,L.S.fl)
abbrev Lw.g(L:Lw)(f:Ń->Ct)(u k:Ϙ):Gm:=(f,u,L.gl,L.gok,L.vC,k,L.tab,L.tok)
abbrev Lw.y(L:Lw)(W:Wd):T0:=(W.K,W.mg,L.t)
structure Lk(L:Lw)(W:Wd):ß where
 bl:∀x∈L.S.bok,W.mg x=aa
 gl:∀i∈L.gok,∃u v,W.mg (L.S.gnm i)=O u/\RelV v u/\∀G M H,eG ((L.y W).z G) M H (L.gl i) v
 tab:∀i∈L.tok,∃ad,W.mg (L.S.tnm i)=O (.ref ad)/\F4 W.w W.K W.mg L.S.hW i ad (L.tab i)cls:∀c∈L.S.cok,xB W.K L.t c
 exc:∀c∈L.S.xok,W.mg (L.S.Lu c)=O (.ref (L.ca c))/\Lb W.K (L.ca c)
def Dt(L:Lw)(W:Wd)(i k:Ń)(C:Ct):ß:=∃p,qY W.P W.w W.K W.mg W.base k (L.S.hW i) p (jy (L.y W) C)
def Di(L:Lw)(W:Wd)(c k:Ń):ß:=∃p,uz W.P W.w W.K W.mg W.base k (L.S.Lu c) L.ca c p (jy (L.y W) (L.vC c))
def FG(L:Lw)(W:Wd)(f:Ń->Ct)(k:Ń):Ϙ->ß|[]=>æ|i::r=>Dt L W i k (f i)/\FG L W f k r
def FH(L:Lw)(W:Wd)(k:Ń):Ϙ->ß|[]=>æ|i::r=>Di L W i k/\FH L W k r
theorem FG.at{F:Ń->Ct}:∀{l:Ϙ},FG L W F k l->∀i∈l,Dt L W i k (F i)|[],_,i,h=>by grind|j::r,f,i,h=>(aJ.mp h).elim (λz=>by rw[z];rwa[f.1]) λz=>FG.at f.2 i z
theorem FH.at:∀{l:Ϙ},FH L W k l->∀i∈l,Di L W i k|[],_,i,h=>by grind|j::r,f,i,h=>(aJ.mp h).elim (λz=>by rw[z];rwa[f.1]) λz=>FH.at f.2 i z
def Dt.up{k:Ń}(D:Dt L W i j C)(h:Í j k):Dt L W i k C:=let (p,d):=D;(p,d.mono (bx h))
def Dt.le(D:Dt L W i j C)(h:j<=k):Dt L W i k C:=let (p,d):=D;(p,d.mono h)
def Di.le(D:Di L W i j)(h:j<=k):Di L W i k:=let (p,d):=D;(p,d.mono h)
theorem Dt.imp(D:Dt L W i k C)(h:∀ds h Q x,C' ds h Q x->C ds h Q x):Dt L W i k C':=let (p,d):=D;(p,d.imp λv H Q E (G,M,a,ds,q,x,r,i,c,o,b)=>(G,M,a,ds,q,x,r,i,h _ _ _ _ c,o,b))
def Lk.gk(B:Lk L W)(h:FG L W f (k+1) u)(a:FH L W k H):Gk (L.g f u H) L.t k L.S W.P W.w W.K W.mg W.base:=(B.bl,Ŗ,h.at,B.gl,B.tab,λc b=>(B.cls c b,Ŗ),a.at,B.exc)
def Lk.d{C:Ct}{st:È}(N ps:ϐ)(z:Þ)(B:Lk L W)(b:Ms (L.g f u H) L.t)(s:Src W.K W.mg (L.S.hW i) st ps)(F:dR N ps (aU st))(M:b.ck (L.S.at N (aU st) J) (cB st)=J)(a:FG L W f (k+1) u)(e:FH L W k H)(l:∀ds h Q x,C ds h Q x->À ds=À ps/\b.m (hU z (À h) Q x) (pY (À N) ds) h):Dt L W i (k+2) C:=(ps,b.ajN z s F (B.gk a e) M l)
def Lk.mk1{st:È}(N ps:ϐ)(z:Þ)(B:Lk L W)(b:Ms (L.g f u H) L.t)(s:uA W.K (L.ca c) q st ps)(x:W.mg (L.S.Lu c)=O (.ref (L.ca c)))(F:dR N ps (aU st))(a:Í 100 c=af)(M:b.ck (L.S.at N (aU st) af) (cB st)=J)(d:FG L W f (k+1) u)(e:FH L W k H)(l:∀ds h Q X,L.vC c ds h Q X->À ds=À ps/\b.m (hU z (À h) Q λ_ _=>ŧ) (pY (À N) ds) h):Di L W c (k+2):=(ps,by delta uz;rw[a];rwa[b.ajL z s x F (B.gk d e) M l])
def Lk.alh{st:È}(N ps:ϐ)(z:Þ)(B:Lk L W)(b:Ms (L.g f u H) L.t)(s:uB W.K (L.ca (c/100-1)) (L.S.Lu c) q st ps)(F:dR N ps (aU st))(a:Í 100 c)(M:b.ck (L.S.at N (aU st) J) (cB st)=J)(d:FG L W f (k+1) u)(e:FH L W k H)(l:∀ds h Q x,L.vC c ds h Q x->À ds=À ps/\b.m (hU z (À h) Q x) (pY (À N) ds) h):Di L W c (k+2):=(ps,by delta uz;rw[a];rwa[b.ajM z s F (B.gk d e) M l])
end F
namespace F
open L2
def Jf(H:bH k (h.take k))(q:R (h.take k)):o_ k R h:=aB H q
def tZ{α:Type}(h:Ł α):h.take (À h)=h:=vT (au _)
def uP{α:Type}{xs:Ł α}{x:α}(h:xs[i]?=O x):xs=xs.take i++x::xs.drop (i+1):=by let(H,e):=aj.mp h;rw[<-e,lN,cS]
def uv{α:Type}{xs:Ł α}{x:α}(h:xs[i]?=O x):xs.take (i+1)=xs.take i++[x]:=by let(H,e):=aj.mp h;rw[<-e,List.take_append_getElem]
def sH{h:Hs}{xs:ϑ}{e:Pv->Ő Es}{T A:Es->Hs->KP->ß}{Q:ϑ->Hs->ß}(g:Pv->Þ)(f:Pv->Pv)(d:bH (À h) h)(step:∀y∈xs,match e y with|O a=>(∀R:KP,R [.p (.B (g y))] h->T a h R)/\(g y=J->∀R:KP,R [.p (f y)] h->A a h R)|aa=>ŧ)(q:Q ((xs.filter g).map f) h):Ls h xs e T A Q:=by
 delta Ls;erw[(λi c j=>j=h/\c=((xs.take i).filter g).map f,(Ŗ,by rfl),?_,?_)];.rintro i y c j b ⟨rfl,rfl⟩;let z:=step y (aZ b);cases k:e y with|n=>rw[k]at z;rwa[z]|s a=>rw[k]at z;rwa[z.1 _ (bE (λH=>z.2 H _ (Jf (by rw[tZ];rwa[d]) (tZ _,by rw[uv b,ij,aR,gR H];rfl))) λH=>Jf (by rw[tZ];rwa[d]) (tZ _,by rw[uv b,ij,gQ (by rw[H];rwa[aD])];simp))]
 .left
def iY{H:Hs}{xs:ϑ}{e:Pv->Ő Es}{A:Es->Hs->KP->ß}{Q:ϑ->Hs->ß}(f:Pv->Pv)(c:bH (À H) H)(step:∀y∈xs,match e y with|O a=>∀R:KP,R [.p (f y)] H->A a H R|aa=>ŧ)(q:Q (xs.map f) H):Ls H xs e (λ_ h R=>R [.p (.B J)] h) A Q:=by erw[sH _ f c (λy d=>?_) (by rw[List.filter_eq_self.mpr λ_ _=>Ŗ];rwa[q])];let z:=step y d;cases b:e y with|n=>rw[b]at z;rwa[z]|s a=>rw[b]at z;exact(λR q=>q,λ_=>z)
def nY{k:Ń}{xs:ϑ}{a:Pv->Es->Ő Es}{b:Ss}{N:En}{σ:Es}{h:Hs}(c:ϑ->ϑ->Es->Hs->ß)(g:c [] xs σ h)(step:∀pre x post σ' H,xs=pre++x::post->c pre (x::post) σ' H->match a x σ' with|O d=>b (N.lp (Gs k (c (pre++[x]) post)) (Gs k N.nx)) d H|aa=>ŧ)(fin:∀σ' H,c xs [] σ' H->N.nx σ' H):UT k xs a b N σ h:=by
 delta UT;erw[(λi σ' H=>c (xs.take i) (xs.drop i) σ' H,by done,λi x σ' H f j=>?_,λσ' H j=>fin σ' H (by dsimp only at j;rw[gT,K8]at j;rwa[j]))];let(l,e):=aj.mp f;let E:xs.drop i=x::xs.drop (i+1):=by rw[<-e,lN]
 let z:=step _ x _ σ' H (uP f) (E▸j);rw[<-uv f]at z;rwa[z]
def Uk(H:bH k (h.take k))(q:R (Ud k σ) (h.take k)):Gs k R σ h:=aB H q
section
variable{Q:Dv->Hs->ß}{h:Hs}{a b:Þ}{X:ß}
def mm(q:Q (.p (.B (a&&b))) h)(k:a->Q (.p (.B b)) h->X):br a X (Q (.p (.B af)) h):=by cases a with|t=>rwa[k Ŗ q]|f=>rwa[q]
def adv(q:Q (.p (.B (a||b))) h)(k:a=af->Q (.p (.B b)) h->X):br a (Q (.p (.B J)) h) X:=by cases a with|t=>rwa[q]|f=>rwa[k Ŗ q]
def pA(q:Q (.p (.B (a&&b))) h)(k:a->Q (.p (.B b)) h->X):br (!a) (Q (.p (.B af)) h) X:=by cases a with|t=>rwa[k Ŗ q]|f=>rwa[q]
def sD{x y:Þ}{Y:ß}(q:Q (.p (.B (match a with|J=>x|af=>y))) h)(k:a->Q (.p (.B x)) h->X)(k':a=af->Q (.p (.B y)) h->Y):br a X Y:=by cases a with|t=>rwa[k Ŗ q]|f=>rwa[k' Ŗ q]
def TK(q:Q (.p (.B (!(a&&b)&&c))) h)(k:Q (.p (.B c)) h->X):br a (br b (Q (.p (.B af)) h) X) X:=by cases a with
 |t=>cases b with|t=>rwa[q]|f=>rwa[k q]
 |f=>rwa[k q]
theorem IL:∀{xs:ϑ},xE (xs.map λy=>.B (g y))=O (xs.map g)|[]=>Ŗ|x::r=>by rw[bV,bV];delta xE;rw[IL]
def uD{xs:ϑ}(q:Q (.p (.B (xs.all g))) h):Wi [.p (.L (xs.map λy=>.B (g y)))] h Q:=by delta Wi;erw[bW IL ?_];rw[lM];rwa[q]
end
def dC:Pv->Þ|.S _=>J|_=>af
def isInt:Pv->Þ|.I _=>J|_=>af
def Ep:Pv->Þ|.L _=>J|_=>af
def tw:Pv->Þ|.T _=>J|_=>af
def dN:Pv->Ã|.S z=>z|_=>""
def Vi:Pv->Î|.I i=>i|_=>0
def uW:Pv->ϑ|.L x=>x|_=>[]
def y6:Pv->ϑ|.T x=>x|_=>[]
def BQ:Pv->Þ|.L x=>fT x|_=>af
def fg(i:Î):Pv->Þ|.I j=>lH j i|_=>af
section
variable{P:Pv->ß}{a:Pv}
@[elab_as_elim]def tY(h:dC a)(k:∀z,P (.S z)):P a:=by cases a<;>first|rwa[k _]|cases h
@[elab_as_elim]def OR(h:isInt a)(k:∀z,P (.I z)):P a:=by cases a<;>first|rwa[k _]|cases h
@[elab_as_elim]def ē(h:Ep a)(k:∀z,P (.L z)):P a:=by cases a<;>first|rwa[k _]|cases h
@[elab_as_elim]def RP(h:tw a)(k:∀z,P (.T z)):P a:=by cases a<;>first|rwa[k _]|cases h
@[elab_as_elim]def UR(h:BQ a)(k:∀z,fT z=J->P (.L z)):P a:=by cases a<;>first|rwa[k _ h]|cases h
@[elab_as_elim]def G9(h:fg i a)(k:P (.I i)):P a:=by cases a<;>first|(rw[dm.mp h];rwa[k])|cases h
theorem xu:∀{xs ys:ϑ}{z:Pv},z∈qL xs ys->∃x y,x∈xs/\y∈ys/\z=.T [x,y]
 |[],_,_,h=>by cases h|_::_,[],_,h=>by cases h|x::xs,y::ys,z,h=>by
  rcases aJ.mp h with h|h;.grind
  .let(a,b,H,c,d):=xu h;exact(a,b,ak _ H,ak _ c,d)
end
def FQ{p:ß}(h:af):p:=Bool.noConfusion h
def lT(z:(a&&(b&&c))):a/\b/\c=true:=((ag z).1,ag (ag z).2)
def oZ(z:(a&&(b&&(c&&d)))):a/\b/\c/\d=true:=((ag z).1,lT (ag z).2)
def ž(z:(a&&(b&&(c&&(d&&e))))):a/\b/\c/\d/\e=true:=((ag z).1,oZ (ag z).2)
abbrev rC(ds:Ł Dv)(k:Ń->Ł Dv->ß):ß:=match ds with|.r i::r=>k i r|_=>ŧ
abbrev pC(ds:Ł Dv)(k:Pv->Ł Dv->ß):ß:=match ds with|.p x::r=>k x r|_=>ŧ
abbrev iC(ds:Ł Dv)(k:Î->Ł Dv->ß):ß:=match ds with|.p (.I x)::r=>k x r|_=>ŧ
abbrev aC(h:Hs)(k:ϑ->Hs->ß):ß:=match h with|.L x::r=>k x r|_=>ŧ
abbrev mC(h:Hs)(k:Î->Hs->ß):ß:=match h with|.L [.I x]::r=>k x r|_=>ŧ
abbrev nC{α:Type}(l:Ł α)(A:ß):ß:=match l with|[]=>A|_=>ŧ
section
variable{ds:Ł Dv}{h:Hs}{G:Ł Dv->ß}{F:Hs->ß}
@[elab_as_elim]def ċ(c:rC ds k)(g:∀i r,k i r->G (.r i::r)):G ds:=by rcases ds with _|⟨_|_,_⟩<;>first|rwa[g _ _ c]|rwa[c.elim]
@[elab_as_elim]def ly(c:pC ds k)(g:∀i r,k i r->G (.p i::r)):G ds:=by rcases ds with _|⟨_|_,_⟩<;>first|rwa[g _ _ c]|rwa[c.elim]
@[elab_as_elim]def Y'(c:iC ds k)(g:∀i r,k i r->G (.p (.I i)::r)):G ds:=by rcases ds with _|⟨x|_,_⟩<;>first|rwa[c.elim]|(cases x<;>first|rwa[g _ _ c]|rwa[c.elim])
@[elab_as_elim]def Ϫ(c:aC h k)(g:∀i r,k i r->F (.L i::r)):F h:=by
 rcases h with _|⟨x,_⟩;.rwa[c.elim]
 .cases x<;>first|rwa[g _ _ c]|rwa[c.elim]
@[elab_as_elim]def alc(c:mC h k)(g:∀i r,k i r->F (.L [.I i]::r)):F h:=by
 rcases h with _|⟨x,_⟩;.rwa[c.elim]
 .cases x with
  |L X=>rcases X with _|⟨y,_|_⟩<;>first|rwa[c.elim]|(cases y<;>first|rwa[g _ _ c]|rwa[c.elim])
  |_=>rwa[c.elim]
@[elab_as_elim]def lV{G:Ł α->ß}(c:nC l A)(g:A->G []):G l:=by cases l<;>first|rwa[g c]|rwa[c.elim]
end
def fm(p:Pv->Þ)(R:Pv->(Pv->ß)->(Ń->ß)->ß):Ct:=λds h Q x=>pC ds λa r=>nC r (nC h (gd (p a) (R a (λy=>Q (.p y) []) λc=>x c [])))
abbrev kt(p:Pv->Þ)(R:Pv->(Pv->ß)->ß):Ct:=fm p λa K _=>R a K
abbrev Dd(p:Pv->Þ)(f:Pv->Pv):Ct:=fm p λa K _=>K (f a)
def zw{b:Ss}(H:∀a(Q:Dv->Hs->ß)(x:XP),p a=J->R a (λy=>Q (.p y) []) (λc=>x c [])->b (hU J 0 Q x) (pY n [.p a]) []):∀ds h Q x,fm p R ds h Q x->À ds=1/\b (hU J (À h) Q x) (pY n ds) h:=by intro ds h Q x c;rwa[ly c λX _ c=>lV c λc=>lV c λc=>(Ŗ,H X Q x (bG c).1 (bG c).2)]
def lq(p:Pv->Pv->Þ)(R:Pv->Pv->(Pv->ß)->(Ń->ß)->ß):Ct:=λds h Q x=>pC ds λa r=>pC r λb r=>nC r (nC h (gd (p a b) (R a b (λy=>Q (.p y) []) λc=>x c [])))
abbrev cR2(p:Pv->Pv->Þ)(R:Pv->Pv->(Pv->ß)->ß):Ct:=lq p λa b K _=>R a b K
def rl{b:Ss}(H:∀a B(Q:Dv->Hs->ß)(x:XP),p a B=J->R a B (λy=>Q (.p y) []) (λc=>x c [])->b (hU J 0 Q x) (pY n [.p a,.p B]) []):∀ds h Q x,lq p R ds h Q x->À ds=2/\b (hU J (À h) Q x) (pY n ds) h:=by intro ds h Q x c;rwa[ly c λX _ c=>ly c λd _ c=>lV c λc=>lV c λc=>(Ŗ,H X d Q x (bG c).1 (bG c).2)]
def CW(p:Pv->Pv->Pv->Þ)(R:Pv->Pv->Pv->(Pv->ß)->(Ń->ß)->ß):Ct:=λds h Q x=>pC ds λa r=>pC r λb r=>pC r λc r=>nC r (nC h (gd (p a b c) (R a b c (λy=>Q (.p y) []) λc=>x c [])))
abbrev iw(p:Pv->Pv->Pv->Þ)(f:Pv->Pv->Pv->Pv):Ct:=CW p λa b c K _=>K (f a b c)
def jw{b:Ss}(H:∀a B c(Q:Dv->Hs->ß)(x:XP),p a B c=J->R a B c (λy=>Q (.p y) []) (λc=>x c [])->b (hU J 0 Q x) (pY n [.p a,.p B,.p c]) []):∀ds h Q x,CW p R ds h Q x->À ds=3/\b (hU J (À h) Q x) (pY n ds) h:=by intro ds h Q x c;rwa[ly c λX _ c=>ly c λd _ c=>ly c λe _ c=>lV c λc=>lV c λc=>(Ŗ,H X d e Q x (bG c).1 (bG c).2)]
def rg(p:Pv->Pv->Pv->Pv->Þ)(R:Pv->Pv->Pv->Pv->(Pv->ß)->(Ń->ß)->ß):Ct:=λds h Q x=>pC ds λa r=>pC r λb r=>pC r λc r=>pC r λd r=>nC r (nC h (gd (p a b c d) (R a b c d (λy=>Q (.p y) []) λc=>x c [])))
abbrev zi(p:Pv->Pv->Pv->Pv->Þ)(f:Pv->Pv->Pv->Pv->Pv):Ct:=rg p λa b c d K _=>K (f a b c d)
def py{b:Ss}(H:∀a B c d(Q:Dv->Hs->ß)(x:XP),p a B c d=J->R a B c d (λy=>Q (.p y) []) (λc=>x c [])->b (hU J 0 Q x) (pY n [.p a,.p B,.p c,.p d]) []):∀ds h Q x,rg p R ds h Q x->À ds=4/\b (hU J (À h) Q x) (pY n ds) h:=by intro ds h Q x c;rwa[ly c λX _ c=>ly c λe _ c=>ly c λf _ c=>ly c λg _ c=>lV c λc=>lV c λc=>(Ŗ,H X e f g Q x (bG c).1 (bG c).2)]
def Ps(p:Pv->Pv->Pv->Pv->Pv->Þ)(R:Pv->Pv->Pv->Pv->Pv->(Pv->ß)->(Ń->ß)->ß):Ct:=λds h Q x=>pC ds λa r=>pC r λb r=>pC r λc r=>pC r λd r=>pC r λe r=>nC r (nC h (gd (p a b c d e) (R a b c d e (λy=>Q (.p y) []) λc=>x c [])))
abbrev ό(p:Pv->Pv->Pv->Pv->Pv->Þ)(f:Pv->Pv->Pv->Pv->Pv->Pv):Ct:=Ps p λa b c d e K _=>K (f a b c d e)
def Ź{b:Ss}(H:∀a B c d e(Q:Dv->Hs->ß)(x:XP),p a B c d e=J->R a B c d e (λy=>Q (.p y) []) (λc=>x c [])->b (hU J 0 Q x) (pY n [.p a,.p B,.p c,.p d,.p e]) []):∀ds h Q x,Ps p R ds h Q x->À ds=5/\b (hU J (À h) Q x) (pY n ds) h:=by intro ds h Q x c;rwa[ly c λX _ c=>ly c λf _ c=>ly c λg _ c=>ly c λi _ c=>ly c λj _ c=>lV c λc=>lV c λc=>(Ŗ,H X f g i j Q x (bG c).1 (bG c).2)]
def SA:Ct:=λ_ _ _ _=>ŧ
theorem Dt.no{st:È}{ps:ϐ}(r:Src W.K W.mg (L.S.hW i) st ps):Dt L W i k SA:=by let(f,F,a,h,b):=r.ex;let no:∀v H Q E,¬jy (L.y W) SA v H Q E:=λv H Q E (_,_,_,_,_,_,_,_,c,_,_)=>c;exact(ps,f,F,(λv H Q E q=>Ă q (no v H Q E),λA o s H args u v Q E _ _ _ _ q=>Ă q (no v H Q E)),h,a.kp,b)
def Oq:Ł (Ń×Ct)->Ń->Ct|[],_=>SA|(j,c)::r,i=>match Ë i j with|J=>c|af=>Oq r i
def All(L:Lw)(W:Wd)(k:Ń):Ł (Ń×Ct)->ß|[]=>æ|(i,c)::r=>Dt L W i k c/\All L W k r
theorem All.at:∀{l:Ł _},All L W k l->∀i∈l.map (·.1),Dt L W i k (Oq l i)|[],_,i,h=>by grind|(j,c)::r,f,i,h=>by cases e:Ë i j with
  |t=>
   let E:Oq ((j,c)::r) i=c:=by show(match Ë i j with|J=>c|af=>Oq r i)=c;rw[e]
   rw[E,aP e];rwa[f.1]|f=>
   let E:Oq ((j,c)::r) i=Oq r i:=by show(match Ë i j with|J=>c|af=>Oq r i)=_;rw[e]
   rw[E];erw[All.at f.2 i ((aJ.mp h).resolve_left λz=>?_)];rw[show i=j from z,f9]at e;cases e
theorem FG.of:∀{l:Ϙ},(∀i∈l,Dt L W i k (f i))->FG L W f k l|[],_=>Ť|_::_,h=>(h _ ao,FG.of λi H=>h i (ak _ H))
abbrev Lw.G(L:Lw)(l:Ł (Ń×Ct))(k:Ϙ):Gm:=L.g (Oq l) (l.map (·.1)) k
def Ik:ϐ->ϐ->Þ|[],[]=>J|x::r,y::q=>ax x y&&Ik r q|_,_=>af
theorem AY:∀{l m:ϐ},Ik l m=J->l=m|[],[],_=>Ŗ|[],_::_,h=>by cases h|_::_,[],h=>by cases h|x::r,y::q,h=>by rw[aI.mp (ag h).1,AY (ag h).2]
def Ov(N ps:ϐ)(s:Ï):Þ:=s.kind==.function&&(!s.isCoroutine&&(!s.isGenerator&&(Mj N&&(Ik (N.take (À ps)) ps&&(ps.all (VZ s)&&s.names.all λy=>y.2 !=.free)))))
def pL(h:Ov N ps sc):dR N ps sc:=by let(H,h):=ag h;let(a,h):=ag h;let(b,h):=ag h;let(c,h):=ag h;let(d,h):=ag h;let(e,f):=ag h;exact(kR H,dU a,dU b,pW c,AY d,λx g=>Hk (nR e x g),λy i z=>by let:=nR f y i;rw[z]at this;cases this)
def Nn(s:Ï):ϐ:=(s.names.filter λp=>match p.2 with|.local=>J|.cell=>J|_=>af).map (·.1)
def Lk.eN0{C:Ct}{st:È}(N:ϐ)(z:Þ)(l:Ł _)(H:Ϙ)(B:Lk L W)(b:Ms (L.G l H) L.t)(s:Src W.K W.mg (L.S.hW i) st ps)(M:(Ov N ps (aU st)&&b.ck (L.S.at N (aU st) J) (cB st))=J)(f:All L W (k+1) l)(a:FH L W k H)(c:∀ds h Q x,C ds h Q x->À ds=À ps/\b.m (hU z (À h) Q x) (pY (À N) ds) h):Dt L W i (k+2) C:=B.d N ps z b s (pL (ag M).1) (ag M).2 (FG.of f.at) a c
def Lk.e0{C:Ct}{st:È}(n:Ń)(z:Þ)(l:Ł _)(H:Ϙ)(B:Lk L W)(b:Ms (L.G l H) L.t)(s:Src W.K W.mg (L.S.hW i) st ps)(M:(Ë (À (Nn (aU st))) n&&(Ov (Nn (aU st)) ps (aU st)&&b.ck (L.S.at (Nn (aU st)) (aU st) J) (cB st)))=J)(f:All L W (k+1) l)(a:FH L W k H)(c:∀ds h Q x,C ds h Q x->À ds=À ps/\b.m (hU z (À h) Q x) (pY n ds) h):Dt L W i (k+2) C:=by let h:=aP (ag M).1;subst h;rwa[B.eN0 _ z l H b s (ag M).2 f a c]
def Lk.akX{st:È}(N ps:ϐ)(z:Þ)(l:Ł _)(H:Ϙ)(B:Lk L W)(b:Ms (L.G l H) L.t)(s:uA W.K (L.ca c) q st ps)(x:W.mg (L.S.Lu c)=O (.ref (L.ca c)))(M:(!Nat.ble 100 c&&(Ov N ps (aU st)&&b.ck (L.S.at N (aU st) af) (cB st)))=J)(f:All L W (k+1) l)(i:FH L W k H)(C:∀ds h Q X,L.vC c ds h Q X->À ds=À ps/\b.m (hU z (À h) Q λ_ _=>ŧ) (pY (À N) ds) h):Di L W c (k+2):=B.mk1 N ps z b s x (pL (ag (ag M).2).1) (dU (ag M).1) (ag (ag M).2).2 (FG.of f.at) i C
def Lk.alg{st:È}(n:Ń)(z:Þ)(l:Ł _)(H:Ϙ)(B:Lk L W)(b:Ms (L.G l H) L.t)(s:uB W.K (L.ca (c/100-1)) (L.S.Lu c) q st ps)(M:(Í 100 c&&(Ë (À (Nn (aU st))) n&&(Ov (Nn (aU st)) ps (aU st)&&b.ck (L.S.at (Nn (aU st)) (aU st) J) (cB st))))=J)(f:All L W (k+1) l)(i:FH L W k H)(C:∀ds h Q x,L.vC c ds h Q x->À ds=À ps/\b.m (hU z (À h) Q x) (pY n ds) h):Di L W c (k+2):=by let e:=aP (ag (ag M).2).1;subst e;rwa[B.alh _ ps z b s (pL (ag (ag (ag M).2).2).1) (ag M).1 (ag (ag (ag M).2).2).2 (FG.of f.at) i C]
end F
namespace F
open L2
def Rc(C:Ct)(A:Sm):Sm:=λx σ h Q=>A x σ h λds H=>C ds H (λd a=>Q [d] a) x
abbrev Pw:=Hs->Ł Dv->ß
abbrev Ig:=XP->Es->Hs->(Pw->Hs->ß)->ß
def JG(Y:T0)(G M:Ł Á)(H:Hp)(j:It)(P:Pw):ß:=∀g m h a X,(∀b∈g,b∈G\/H b=aa)->Ext M H m h->bw (Y.z g) m h a->P a X->(∀(i:Ń)x,X[i]?=O x->j.go i h/\∀v q,j.yld i h v q->Ext m h m q/\bw (Y.z g) m q a/\fI (Y.z g) m q x v)/\j.stop (À X) h
structure KnG(Y:T0)(G:Ł Á)(E:XK)(τ:Ç)(H:Hp)(R:It->Hp->ß)(M:Ł Á)(σ:Es)(h:Hs)(xc:XP)(Q:Pw->Hs->ß):ß where
 rel:bw (Y.z G) M H h
 env:dG (Y.z G) M H σ τ
 out:∀P h' M' H' a,Ext M H M' H'->bw (Y.z G) M' H' h'->JG Y G M' H' a P->Q P h'->R a H'
 exc:∀C h' M' H',Ext M H M' H'->bw (Y.z G) M' H' h'->xc C h'->E (.ref (Y.t.ca C)) aa H'
inductive MX(Y:T0)(E:XK)(m:Ig)(τ:Ç)(H:Hp)(R:It->Hp->ß):ß|mk(G M:Ł Á)(σ:Es)(h:Hs)(xc:XP)(Q:_)(k:KnG Y G E τ H R M σ h xc Q)(q:m xc σ h Q):MX Y E m τ H R
@[irreducible]def US(j:Ń)(P:Pw)(b:Ss)(N:En)(σ:Es)(h:Hs):ß:=∃(X:Ł Dv)(W:Ń->Es->Hs->ß),W 0 σ h/\(∀i a H,W i a H->P H X)/\(∀(i:Ń)x a H,X[i]?=O x->W i a H->b (N.lp (W (i+1)) N.nx) (a.set j (O x)) H)/\∀a H,W (À X) a H->N.nx a H
def agw(j:Ń)(I:Ig)(b:Ss):Ss:=λN σ h=>I N.xc σ h λP H=>US j P b N σ H
def Xt(T:Sm)(b:Ss):Ss:=λN σ h=>∃W:Ń->Es->Hs->ß,(∃m,W m σ h)/\∀m a H,W m a H->T N.xc a H λx e=>mB x λc=>br c (b (N.lp (λd f=>∃M,M<m/\W M d f) N.nx) a e) (N.nx a e)
def xr(z:Þ)(acc:Ł Dv)(h:Hs)(Q:KP):ß:=match z with
 |J=>match vP acc with|O x=>Q [.p (.L x)] h|aa=>ŧ
 |af=>Q [.r (À h)] (h++[.D acc])
@[irreducible]def Ue(c:Hs)(P:Pw)(e:Dv->Es)(T A:Es->Hs->KP->ß)(z:Þ)(Q:KP):ß:=∃(x:Ł Dv)(W:Ń->Ł Dv->Hs->ß),jL (À x)=J/\W 0 [] c/\(∀i a h,W i a h->P h x)/\(∀(i:Ń)y a h,x[i]?=O y->W i a h->T (e y) h λbs H=>match bs with|[.p (.B b)]=>br b (A (e y) H λY d=>match Y with|[y]=>W (i+1) (a++[y]) d|_=>ŧ) (W (i+1) a H)|_=>ŧ)/\∀a h,W (À x) a h->xr z a h Q
def CA(n:Ń)(s:Ϙ)(j:Ń)(I:Ig)(T A:Sm)(z x:Þ):Sm:=λX σ h Q=>I X σ h λP H=>Ue H P (λy=>(iP n s σ).set j (O y)) (T λc h=>x=J/\X c h) (A λc h=>x=J/\X c h) z Q
def MW(h:cQ 'X' E (Rc C A) τ H l):ic 'X' E A τ H λvs n=>jy 'X' C vs n l E:=by let(G,M,σ,s,x,Q,k,q):=h;exact(G,M,σ,s,x,_,(k.rel,k.env,λd o p z v e R i u=>(G,p,o,d,_,x,R,i,u,λd2 a m f w g r y j=>k.out d2 a m f w (e.trans g) r y j,λc a m f g r j=>k.exc c a m f (e.trans g) r j),k.exc),q)
def ř(I:Im):Ig:=λx σ h Q=>I x σ h λy a=>Q (λ_ s=>s=y.map .p) a
def Yp.jg(j:Yp Y G M H c ys):JG Y G M H c λ_ xs=>xs=ys.map .p:=λl m n o xs q e r p=>by subst p;let(a,b):=j l m n o q e r;erw[(λi x d=>?_,by rw[ai];rwa[b])];rw[bP]at d;cases f:ys[i]? with|n=>left|s y=>rw[f]at d;cases d;let(g,k):=a i y f;exact(g,λv Q s=>k v Q s)
def aeX(h:MX 'X' E (ř I) τ H R):CN 'X' E I τ H R:=by let(G,M,σ,h,x,Q,k,q):=h;exact(G,M,σ,h,x,_,(k.rel,k.env,λs c m d a e r j _ q=>k.out _ c m d a e r j.jg q,k.exc),q)
def Ģ(l:Ń):Pw:=λh x=>o7 h (.r l)=O x
def alY(A:Sm):Ig:=λx σ h Q=>A x σ h λds a=>match ds with|[.r l]=>gd (o7 a (.r l)).isSome (Q (Ģ l) a)|_=>ŧ
def ae5(j:M[l]?=O a):JG Y G M H (mF Y.K a) (Ģ l):=λq u z B D F e r p=>by let c:=e.at j;let(n,L,s,k,d,N,s1,f):=w8 (x:=.r l) r (a,c,Ŗ) p;cases k;rw[c]at d;cases d;erw[(λi x m=>?_,(s,.inl (.inl s1),by rw[f.len];rwa[au _]))];let(v,g,o):=f.get m;erw[((s,v,.inl (.inl s1),g),λw Q (d,y)=>?_)];subst d;let hw:=y s (.inl (.inl s1));rw[g]at hw;cases hw;exact(Ext.refl,r,o)
def W9(i:PE X e (cQ 'X' E A)):PI X tg e (MX 'X' E (alY A)):=(QH i).imp λτ H R z=>by let(G,M,σ,h,x,Q,k,q):=z;erw[(G,M,σ,h,x,_,(k.rel,k.env,λd j M1 m v o g s f=>?_,k.exc),q)];cases d with|p _=>left|r l=>let(c,f):=bG f;let(B,ex):=bN.mp c;let(n,a,u,e0,w,y,s1,D):=w8 g s ex;cases e0;exact(a,y,.inl ((u,ie.of s1),k.out _ j M1 m _ o g (ae5 w) f))
def UU(h:gK 'X' E (agw j I b) D τ H):XQ (MX 'X' E I) (oQ j) (gK 'X' E b) D τ H:=by
 let(G,M,σ,h0,N,k,q):=h;erw[(G,M,σ,h0,_,_,(k.rel,k.env,λP h1 M1 H1 a K r1 jo q=>?_,k.exc),q)];delta US at q;erw[cps λR k0=>?_];let(x,W,w0,hP,L,fin):=q;erw[k0 (λi m r F=>m=À x-i/\i<=À x/\∃e c h',Ext M1 H1 e F/\bw _ e F h'/\dG _ e F c r/\W i c h',(_,Ŗ,bu _,M1,σ,h1,Ext.refl,r1,k.env.ext k.rel K,w0),?_)];erw[λi m r F z=>cps λR k1=>?_];let(rfl,hi,e,c,h',e2,r2,v2,w):=z;let(ja,jb):=jo G e F h' x (λ_ z=>.inl z) e2 r2 (hP _ _ _ w);by_cases rE:i<À x;.let(g,y):=ja i _ (aE rE);erw[k1 (.inr (g,λS U=>∃s,s<À x-i/\s=À x-(i+1)/\i+1<=À x/\∃e c h',Ext M1 H1 e U/\bw _ e U h'/\dG _ e U c S/\W _ c h',λS U zz=>by let(s,hm,z):=zz;exact(s,hm,z),λv qN yl=>cps λR k2=>?_))];let(e3,r3,ip):=y v qN yl;let Z:=e2.trans e3;let nx:∀f p n l o,Ext e qN n l->bw ('X'.z G) n l p->dG ('X'.z G) n l f o->W (i+1) f p->∃s,s<À x-i/\s=À x-(i+1)/\i+1<=À x/\∃e c h',Ext M1 H1 e l/\bw _ e l h'/\dG _ e l c o/\W _ c h':=λf p n l o u B v5 Q=>(_,(),Ŗ,(),n,f,p,Z.trans u,B,v5,Q);rwa[k2 (G,e,_,h',N.lp _ _,(r3,(v2.ext r2 e3).set ip,nx,λd p n l v u B i5 Q=>k.rt d p n l v (K.trans (Z.trans u)) B i5 Q,λf p n l o u B v5 Q=>k.nx f p n l o (K.trans (Z.trans u)) B v5 Q,nx,λC p n l u B Q=>k.exc C p n l (K.trans (Z.trans u)) B Q),L i _ c h' (aE rE) w)]
 .let hx:i=À x:=()
  subst hx;rwa[k1 (.inl (jb,k.nx c h' e F r (K.trans e2) r2 v2 (fin c h' w)))]
def A5(h:gK 'X' E (Xt T b) D τ H):RI (kP 'X' E T) (gK 'X' E b) D τ H:=by obtain⟨G,M,σ,h0,N,k,W,⟨m0,w0⟩,s⟩:=h;erw[(λm n u=>∃l a h',Ext M H l u/\bw _ l u h'/\dG _ l u a n/\W m a h',(m0,M,σ,h0,Ext.refl,k.rel,k.env,w0),?_)];rintro m n u ⟨l,a,h',U,K,L,w⟩;erw[(G,l,a,h',_,_,(K,L,λd y M1 B P Z F=>?_,λC y M1 B x r q=>k.exc C y M1 B (U.trans x) r q),s m a h' w)];let(c,hc,F):=Mf F;erw[(c,hc,?_)];let e3:=U.trans P;cases c with|t=>erw[(_,λτ2 H2 z=>z,?_)];let nx:∀e j g f i,Ext M1 B g f->bw ('X'.z G) g f j->dG ('X'.z G) g f e i->(∃o,o<m/\W o e j)->∃o,o<m/\∃l a h',Ext M H l f/\bw _ l f h'/\dG _ l f a i/\W o a h':=λe j g f i p R S (o,hm,q6)=>(o,hm,g,e,j,e3.trans p,R,S,q6);exact(G,M1,a,y,N.lp _ _,(Z,L.ext K P,nx,λd j g f v p R i5 Q=>k.rt d j g f v (e3.trans p) R i5 Q,λe j g f i p R S Q=>k.nx e j g f i (e3.trans p) R S Q,nx,λC j g f p R Q=>k.exc C j g f (e3.trans p) R Q),F)|f=>rwa[k.nx a y M1 B n e3 Z (L.ext K P) F]
section
variable{Y:T0}{G M:Ł Á}{H:Hp}{a:Á}{h:Hs}
def BP:∀b,b∈M++[a]\/b∈G->b∈M\/b∈a::G\/H b=none:=λb c=>c.elim (λz=>(bt.mp z).elim .inl λz=>.inr (.inl (aL.mp z▸ao))) λz=>.inr (.inl (ak _ z))
def fI.fin(q:fI (Y.z (a::G)) M H d v):fI (Y.z G) (M++[a]) H d v:=by cases d with|p x=>rwa[eG.fr BP q]|r i=>let(b,c,e):=q;exact(b,by rw[aY (aj.mp c).1];rwa[c],e)
theorem cD.fin:∀{ds:Ł Dv}{vs:ϕ},cD (Y.z (a::G)) M H ds vs->cD (Y.z G) (M++[a]) H ds vs|[],[],_=>Ť|[],_::_,q=>q|_::_,[],q=>q|_::_,_::_,q=>(q.1.fin,cD.fin q.2)
theorem zk.fin(z:zk (Y.z (a::G)) M H b o):zk (Y.z G) (M++[a]) H b o:=by cases o with|L x=>let(v,e,q):=z;exact(v,e,bh.fr BP q)|D x=>let(v,e,q):=z;exact(v,e,q.fin)|C k u=>let(B,e,q,Q):=z;exact(B,e,bh.fr BP q,bh.fr BP Q)|I C fs=>let(d,f,e,n,l,q):=z;exact(d,f,e,n,l,q.fin)
theorem bw.fin{ys:ϕ}(r:bw (Y.z (a::G)) M H h)(n:a∉G)(l:H a=O (.L ys))(i:cD (Y.z (a::G)) M H ds ys):bw (Y.z G) (M++[a]) H (h++[.D ds]):=by
 let N:a∉M:=λz=>r.dj a z ao;erw[(f7.mpr (r.nd,⋯,λx e y p z=>?_),λx e=>(bt.mp e).elim (λz y=>r.dj x z (ak _ y)) λz=>by rw[aL.mp z];rwa[n],by rw[ah,ah,r.ln];rfl,λb m=>r.gs b (ak _ m),λj b o c d=>?_)];.left
 .by_cases f:j<À M;.rw[aY f]at c;rw[aY (by rw[<-r.ln];rwa[f])]at d;exact(r.ob j b o c d).fin
  .rw[aK ()]at c;rw[aK (by rw[<-r.ln];lia),<-r.ln]at d;cases g:j-À M with|z=>rw[g]at c d;cases c;cases d;exact(ys,l,i.fin)|v k=>rw[g]at c;cases c
end
def xQ{K:Ϙ}{E1:XK}(hE:∀c H,x=J->E (.ref c) aa H->E1 (.ref c) aa H)(hj:j<n)(h:cQ 'X' E (CA n K j I T A z x) τ H QV):yY (MX 'X' E I) (oQ j) (kP 'X' E1 T) (cQ 'X' E1 A) (sE n K) τ H QV:=by
 let(G,M,σ,h0,xc,Q,k,q):=h;erw[(G,M,σ,h0,xc,_,(k.rel,k.env,λP h1 M1 H1 a e1 r1 jo q=>?_,k.exc),q)];delta Ue at q;erw[λe pO=>cps λR k0=>?_];let(s,W,hz,w0,hP,turn,fin):=q;let hz:=dO hz;let(naM,naG):=r1.rp pO;let ea:Ext M1 H1 M1 (upd H1 e (.L [])):=Ext.add pO;let v1:=k.env.ext k.rel e1;let Z:Tx:='X'.z (e::G);let YG:e∈e::G:=ao;erw[k0 (λi m N ys S=>m=À s-i/\i<=À s/\S e=O (.L ys)/\À ys<=i/\∃B ds u,Ext M1 H1 B S/\bw Z B S u/\dG Z B S (iP n K σ) N/\cD Z B S ds ys/\W i ds u,(_,Ŗ,bu _,bA,bu _,M1,[],h1,ea,r1.beg pO,(DO v1 n K).beg pO r1,Ť,w0),?_)];erw[λi m N ys S z=>cps λR k1=>?_];let(rfl,hi,ha,hly,B,ds,u,U,Y,v2,p2,w):=z;let(ja,jb):=jo (e::G) B S u s (B3 pO) U Y (hP _ _ _ w);let nM:∀{M5 H5 h5},bw Z M5 H5 h5->e∉M5:=λr5 z=>r5.dj e z YG;by_cases rE:i<À s
 .let(g,y):=ja i s[i] (aE rE);erw[k1 (ha,.inr (g,(),λv qN yl=>cps λR k2=>?_))];let(e3,r3,ip):=y v qN yl;erw[k2 ?_];let q:=turn i s[i] ds u (aE rE) w;let v4:dG Z B qN ((iP n K σ).set j (O s[i])) (N.set j (O v)):=(v2.ext Y e3).set ip;show kP 'X' E1 T (N.set j (O v)) qN _;let gl:À ((iP n K σ).set j (O s[i]))=À (iP n K σ):=bT;let gg:∀i',n<=i'->((iP n K σ).set j (O s[i]))[i']?=(iP n K σ)[i']?:=λi' hi'=>aA ();let ka:∀{M5 H5},Ext B qN M5 H5->H5 e=O (.L ys):=λF=>F.keep e _ (nM r3) (e3.keep e _ (nM Y) ha);let p3:=p2.ext Y e3;let ex:∀{M5 H5},Ext B qN M5 H5->∀C AF Tj Ny,Ext M5 H5 Tj Ny->bw Z Tj Ny AF->x/\xc C AF->E1 (.ref (t.ca C)) aa Ny:=λF C AF Tj Ny x' r q=>hE _ _ q.1 (k.exc C AF Tj Ny ((e1.trans (U.trans e3)).trans (F.trans x')) r.dun q.2);erw[(e::G,B,_,u,_,_,(r3,v4,λd h5 M5 H5 F r5 q5=>?_,ex Ext.refl),q)];split at q5;.ext b hb;injection hb with hb;erw[(b,hb,?_)];cases b with|t=>rw[cG Ŗ];erw[(e::G,M5,_,h5,_,_,(r5,v4.ext r3 F,λd6 h6 M6 H6 v6 e6 r6 i6 q6=>?_,ex F),q5)];let UC:=F.trans e6;let VM:=ka UC;erw[(VM,À s-(i+1),(),Ŗ,(),bA,by rw[ah];simp;lia,M6,ds++[d6],h6,?_,r6.chg Ŗ YG VM (nM r6),(uH gl gg (v4.ext r3 UC)).chg Ŗ YG VM,((p3.ext r3 UC).app (cD.one i6)).chg Ŗ YG VM,q6)];let UB:=(U.trans e3).trans UC;exact(UB.pre,λb o hb ho=>by rw[bJ (bZ ho pO)];rwa[UB.keep b o hb ho],UB.new)|f=>rw[dh aD];exact(À s-(i+1),(),Ŗ,(),ka F,(),M5,ds,h5,(U.trans e3).trans F,r5,uH gl gg (v4.ext r3 F),p3.ext r3 F,q5)
  .rwa[q5.elim]
 .let hx:i=À s:=()
  subst hx;erw[k1 (ha,.inl (jb,?_))];let f:=fin ds u w
  cases z with|t=>
   change match vP ds with|O s=>Q [.p (.L s)] u|aa=>ŧ at f;split at f;.ext ps ep;erw[k.out _ u B S (.A e) (e1.trans U) Y.dun ?_ f];exact(e,ys,Ŗ,(nM Y,naG),ha,bh.wk G4 (rO ep p2))
   .rwa[f.elim]|f=>
   let f:Q [.r (À u)] (u++[Ob.D ds]):=f;erw[k.out (.r (À u)) (u++[Ob.D ds]) (B++[e]) S (.A e) (e1.trans (?_,U.keep,λb hb hn=>?_)) (Y.fin naG ha p2) (e,?_,Ŗ) f];.let(l,hl):=U.pre;exact(l++[e],nofun)
   .rcases bt.mp hb with z|z;.rwa[U.new b z hn]
    .rw[aL.mp z];rwa[pO]
   .rw[<-Y.ln,aK (au _),eY];rfl
def Df(c:Ń)(C:Ct)(i:Ń)(h:Hs)(x:XP)(Q:Dv->Hs->ß):ß:=match h[i]? with|O (.I a _)=>gd (Ë a c) (C [.r i] h Q x)|_=>ŧ
def sM0(c:Ń)(C:Ct)(A:Sm):Sm:=λx σ h Q=>A x σ h λX H=>match X with|[.r i]=>Df c C i H x λd a=>Q [d] a|_=>ŧ
def Fk(c:Ń)(C:Ct)(A:Sm):Sm:=λx σ h Q=>A x σ h λds H=>C (.r (À H)::ds) (H++[.I c []]) (λd a=>gd (Hc d) (Q [.r (À H)] a)) λ_ _=>ŧ
def o6(c j:Ń)(n:Î)(i:Ń)(h:Hs)(K:Hs->ß):ß:=match h[i]? with|O (.I C fs)=>gd (Ë C c&&Í (À fs+1) 1000) (match fs[j]? with|O (.p (.I k))=>K (h.set i (.I c (fs.set j (.p (.I (k+n))))))|_=>ŧ)|_=>ŧ
def Zf(c j:Ń)(n:Î)(B:Sm):Ss:=λN σ h=>B N.xc σ h λx H=>match x with|[.r i]=>o6 c j n i H λa=>N.nx σ a|_=>ŧ
theorem AM:∀{F:Ł (Ã×V)},f∉F.map (·.1)->F.lookup f=aa|[],_=>Ŗ|(g,w)::F,h=>by rw[bV,aJ,not_or]at h;rw[mR,cI.mpr h.1];rwa[AM h.2]
def afV(D:zE X.prog X.w X.K X.mg X.base (rX X.prog X.w) k0 (t.ca c) m ps (jy 'X' C))(L:PE X (.Name n p) (cQ 'X' E A))(N:xB X.K t c)(P:m∉t.fl c)(S:eE k0 X.A)(T:eX (rX X.prog X.w) X E)(U:(bb.endLine==dw.line)):PE X (.Call (.Attribute (.Name n p) m bb) [] [] dw) (cQ 'X' E (sM0 c C A)):=(Qs D L N.cl S T U).imp λτ H QV Z=>by let(G,M,σ,h,x,Q,k,q):=Z;erw[(G,M,σ,h,x,_,(k.rel,k.env,λd o M1 H1 v s u W b=>?_,k.exc),q)];cases d with|p _=>left|r i=>
  change match o[i]? with|O (.I c' _)=>gd _ _|_=>ŧ at b;split at b;.ext c' fs ho;let(ec,q9):=bG b;clear b;obtain rfl:=aP ec;let(a,y,rfl):=W;let(dx,fv,s1,_,l1,F):=u.at' y ho;exact(a,dx,fv,Ŗ,s1,AM λz=>P (by rw[l1]at z;rwa[nO z]),(G,M1,o,[.r i],_,x,u,((a,y,Ŗ),Ť),q9,λd2 e f g w j R F l=>k.out d2 e f g w (s.trans j) R F l,λc e f g j R l=>k.exc c e f g (s.trans j) R l))
  .left
def YV{Q:KP}{j:VK}(r:bw (Y.z G) M H h)(i:cD (Y.z G) M H d vs)(q:C (.r (À h)::d) (h++[.I c []]) (λd b=>gd (Hc d) (Q [.r (À h)] b)) λ_ _=>ŧ)(out:∀d k M' H' v,Ext M H M' H'->bw (Y.z G) M' H' k->fI (Y.z G) M' H' d v->Q [d] k->j v H')(y:H x=aa)(nd:H D=aa)(W:D≠x):jy Y C (.A x::(vs++[])) (upd (upd H D (.own x)) x (.ins (Y.t.ca c) D [])) (λv e=>v=.gH/\j (.A x) e) E0:=by
 let n:upd H D (.own x) x=none:=by rw[bJ (cj W)];rwa[y]
 let R:bw _ M (upd H D (.own x)) h:=r.add nd;let l:Ext M H _ (upd _ x (.ins (Y.t.ca c) D [])):=(Ext.add nd).trans (Ext.push R n);let m:(M++[x])[À h]?=O x:=by rw[<-r.ln,aK (au _),eY];rfl
 rw[aQ];erw[(G,_,_,.r _::d,_,_,bw.push (o:=.I c []) R n (D,[],bA,by rw[bJ W];rwa[bA],Ŗ,Ť),((x,m,Ŗ),i.ext r l),q,λd2 b s e w f u F g=>?_,λc b s e f u g=>g.elim)];let dn:d2=.p .N:=by cases d2 with|r _=>done|p d=>cases d<;>first|rfl|done
 subst dn;exact(Nx F,out (.r _) b s e _ (l.trans f) u (x,f.at m,Ŗ) g)
def afW(D:vZ X.prog X.w X.K X.mg X.base k0 x (t.ca c) ps (jy 'X' ct))(r:eE (k0+1) X.A)(g:Gl X x)(b:PA X (a::a7) (ic 'X' E A))(e:(x=="__debug__")=af)(F:(a::a7).all cA):PE X (.Call (.Name x p) (a::a7) [] pos) (cQ 'X' E (Fk c ct A)):=(ES D r g b e F).imp λτ H L z=>by let(G,M,σ,h,f,Q,k,q):=z;exact(G,M,σ,h,f,_,(k.rel,k.env,λd N M1 P v i R I j=>λx S n nd W=>YV R I j (λd2 l m o w s u y C=>k.out d2 l m o w (i.trans s) u y C) n nd W,k.exc),q)
def aa8(D:vZ X.prog X.w X.K X.mg X.base k0 x (t.ca c) ps (jy 'X' ct))(r:eE (k0+1) X.A)(g:Gl X x)(b:(x=="__debug__")=af):PE X (.Call (.Name x p) [] [] pos) (cQ 'X' E (Fk c ct CB)):=(Mz D r g b).imp λτ H e z=>by let(G,M,σ,h,f,Q,k,q):=z;rwa[λx i n nd W=>YV (d:=[]) k.rel Ť q k.out n nd W]
def UN(b:xB X.K t c)(e:(t.fl c)[j]?=O f)(h:gK 'X' E (Zf c j n B) D τ H):Kr X.K (cQ 'X' E B) (tC (.I n)) UV f D τ H:=by let(G,M,σ,h,N,k,q):=h;erw[(G,M,σ,h,_,_,(k.rel,k.env,λd y M1 H1 v m R L Q=>?_,k.exc),q)];cases d with|p _=>left|r i=>
  change match y[i]? with|O (.I s fs)=>gd _ (match fs[j]? with|O (.p (.I k))=>N.nx σ _|_=>ŧ)|_=>ŧ at Q;split at Q
  .ext s fs P;let(C,Q):=bG Q;let(C,S):=ag C;obtain rfl:=aP C;let hl:=bx S;split at Q
   .ext T u;let(a,g,rfl):=L;let ha:=aZ g;let(x,F,s1,s2,l1,l):=R.at' g P;let(w,U,W):=l.get u;let ln:=by let:=l.len;rw[ai]at this;rwa[this]
    rw[ln]at l1;erw[(a,_,x,F,w,Ŗ,s1,b.cl,b.na f (aZ e),qm b.nd l1 e U,T,n,fk W,Ŗ,x,F,s1,(),?_)];let(Z,p2,p3):=Cv b.nd l1 e (by rw[<-ln];exact(aj.mp u).1);erw[k.nx σ _ M1 _ τ (m.trans (Ext.put ha)) (R.put (o:=.I s _) g (x,_,bA,by rw[bJ λz=>()];rwa[s2],?_,?_)) (k.env.ext k.rel (m.trans (Ext.put ha))) Q];.rw[Z,l1,bT,ln]
    .rw[p2];exact(l.set e9 j).ext R (Ext.put ha)
   .left
  .left
end F
namespace L2
end L2
namespace F
open L2
def EC(h:Hs)(d:Dv):Ő (Ł Dv):=match jJ h d with|O x=>O (x.map .p)|aa=>o7 h d
def lu:OM:=λx ds h Q=>match ds with
 |[]=>match x with
  |.r i=>match h[i]? with|O (.L X)=>eZ X[À X-1]? (λy=>Q (.p y) (h.set i (.L X.dropLast))) ŧ|O (.D X)=>eZ X[À X-1]? (λy=>Q y (h.set i (.D X.dropLast))) ŧ|_=>ŧ
  |_=>ŧ
 |_=>ŧ
def sS(x:Dv)(ds:Ł Dv)(k:Ã->Ã->ß):ß:=eZ (sO x) (λz=>d1 ds λd=>eZ (sO d) (k z) ŧ) ŧ
def Zi(q:sS x ds k):∃z y,x=.p (.S z)/\ds=[.p (.S y)]/\k z y:=by let(z,e,q):=de q;let(d,rfl,q):=Jh q;let(y,f,q):=de q;exact(z,y,tM e,by rw[tM f],q)
def alA:OM:=λx ds h Q=>sS x ds λz y=>Q (.p (.B (ð z y))) h
def alz:OM:=λx ds h Q=>sS x ds λz y=>gd (!Nat.beq y.length 0&&(jL z.length&&(jL (À (ÿ z (ä z y 0 z.length (z.length+1)) y.length))&&jL (À (Ø z y))))) (Q (.p (.L ((Ø z y).map .S))) h)
def Ŭ:OM:=λx ds h Q=>eZ (sO x) (λz=>d1 ds λd=>eZ (jJ h d) (λX=>eZ (mG X) (λy=>gd (Í ((y.map (·.length)).sum+À y*z.length) 16777216) (Q (.p (.S (ê z y))) h)) ŧ) ŧ) ŧ
def afz:ON:=λds h Q=>d1 ds λd=>eZ (sO d) (λz=>eZ (Ú z) (λn=>gd (Í z.length 640) (Q (.p (.I n)) h)) ŧ) ŧ
def oS:O2:=λx y h Q=>eZ (EC h x) (λX=>eZ (EC h y) (λY=>gd (jL (À X+À Y)) (Q (.r (À h)) (h++[.D (X++Y)]))) ŧ) ŧ
theorem bh.ds:∀{xs:ϑ}{vs:ϕ},bh Z M H xs vs->cD Z M H (xs.map .p) vs|[],[],_=>Ť|[],_::_,q=>by assumption|_::_,[],q=>by done|_::_,_::_,q=>by exact(q.1,bh.ds q.2)
def JM{Y:T0}(r:bw (Y.z G) M H h)(i:fI (Y.z G) M H x v)(e:EC h x=O xs):∃a vs,v=.A a/\H a=O (.L vs)/\cD (Y.z G) M H xs vs:=by
 delta EC at e;split at e;.ext s y;cases e;let(a,vs,E,s1,I):=gZ r i y;exact(a,vs,E,s1,I.ds)
 .let(_,a,vs,_,_,E,s1,I):=w8 r i e;exact(a,vs,E,s1,I)
theorem bh.Ea:∀{xs:ϑ}{vs:ϕ},bh Z M H xs vs->bh Z M H xs.dropLast vs.dropLast|[],[],q=>q|[],_::_,q=>by done|_::_,[],q=>by done|[_],[_],_=>by done|[_],_::_::_,q=>by let:=q.2;rwa[this.elim]|_::_::_,[_],q=>by let:=q.2;rwa[this.elim]|_::_::_,_::_::_,q=>by exact(q.1,bh.Ea q.2)
theorem cD.Ea:∀{xs:Ł Dv}{vs:ϕ},cD Z M H xs vs->cD Z M H xs.dropLast vs.dropLast|[],[],q=>q|[],_::_,q=>q.elim|_::_,[],q=>q.elim|[_],[_],_=>Ť|[_],_::_::_,q=>q.2.elim|_::_::_,[_],q=>q.2.elim|_::_::_,_::_::_,q=>(q.1,cD.Ea q.2)
def Vx:Bd Y wP lu:=λG M h H x X v s Q t r i l q out=>by
 delta lu eZ at q;split at q
 .let m:s=[]:=by cases s with|i=>rfl|k _ _=>rwa[l.elim]
  subst m;split at q
  .let(a,c,k):=i;let ha:=aZ c;split at q
   .ext n d;split at q;.ext y e;let(W,f,b):=r.at' c d;let(w,g,j):=b.get e;exact(a,W,w,k,Ŗ,f,by rw[<-b.len];rwa[g],out (.p y) _ M _ w (Ext.put ha) (r.put (o:=.L _) c (_,bA,b.Ea.ext r (Ext.put ha))) (j.ext r (Ext.put ha)) q)
    .left
   .ext n d;split at q;.ext y e;let(W,f,b):=r.at' c d;let(w,g,j):=b.get e;exact(a,W,w,k,Ŗ,f,by rw[<-b.len];rwa[g],out y _ M _ w (Ext.put ha) (r.put (o:=.D _) c (_,bA,b.Ea.ext r (Ext.put ha))) (j.ext r (Ext.put ha)) q)
    .left
   .left
  .left
 .left
def Vz:Bd Y (λx xs H Q=>∃(z y:Ã),x=.S z/\xs=[.S y]/\Q (.B (ð z y)) H) alA:=λG M h H x xs v s Q c r i a q out=>by let(z,y,rfl,rfl,b):=Zi q;let(w,rfl,j):=a.om;exact(_,_,fq i,by rw[fq j],out _ h M H _ Ext.refl r iK b)
def Vy:Bd Y (λx xs H Q=>∃(z y:Ã),x=.S z/\xs=[.S y]/\(y.length==0)=af/\z.length<=Â/\À (ÿ z (ä z y 0 z.length (z.length+1)) y.length)<=Â/\À (Ø z y)<=Â/\∀l,H l=aa->Q (.A l) (upd H l (.L ((Ø z y).map V.S)))) alz:=λG M h H x xs v s Q k r i d q out=>by let(z,y,rfl,rfl,a):=Zi q;let(w,rfl,j):=d.om;let(c,a):=bG a;let(C,e,f,g):=oZ c;exact(z,y,fq i,by rw[fq j],(cI.mpr λz=>by rw[z]at C;cases C),dO e,dO f,dO g,λl b=>out _ h M _ _ (Ext.add b) (r.add b) (nh r b nq) a)
def Vp:Bd Y (λx xs H Q=>∃(z:Ã)(l:Á)(ys:ϐ),x=.S z/\xs=[.A l]/\H l=O (.L (ys.map V.S))/\(ys.map (·.length)).sum+À ys*z.length<=16777216/\Q (.S (ê z ys)) H) Ŭ:=λG M h H x xs v s Q k r i b q out=>by let(z,e,q):=de q;let(d,rfl,q):=Jh q;let(ys,E,q):=de q;let(W,f,q):=de q;let(c,g):=bG q;cases tM e;let(w,rfl,j):=b.om;let(a,u,rfl,s1,I):=gZ r j E;rw[KC f I]at s1;exact(_,a,W,fq i,Ŗ,s1,bx c,out _ h M H _ Ext.refl r kI g)
def OZ:v8 Y (λxs H Q=>∃(z:Ã)(n:Î),xs=[.S z]/\Ú z=O n/\z.length<=640/\Q (.I n) H) afz:=λG M h H xs s Q f r a q out=>by let(d,rfl,q):=Jh q;let(z,e,q):=de q;let(n,hn,q):=de q;let(c,b):=bG q;cases tM e;let(v,rfl,i):=a.om;exact(_,n,by rw[fq i],hn,bx c,out _ h M H _ Ext.refl r e9 b)
def OV:jE Y Xf oS:=λG M h H x y v u Q f r i j q out=>by let(X,ex,q):=de q;let(g,E,q):=de q;let(c,q):=bG q;let(a,s,rfl,s1,I):=JM r i ex;let(b,U,rfl,s2,e):=JM r j E;erw[(a,b,s,U,Ŗ,Ŗ,s1,s2,by rw[<-I.len,<-e.len];rwa[dO c],λp d=>?_)];erw[out (.r _) _ _ _ _ (Ext.push r d) (r.push (o:=.D _) d (_,bA,(I.app e).ext r (Ext.push r d))) (p,?_,Ŗ) q];rw[<-r.ln,aK (au _),eY];rfl
def œ:Bo:=(_,_,λ_ _=>(_,HA,OV))
def YA:Bi:=(_,_,λ_ h H a hn k e=>AS zJ OZ h H Gd a hn k e)
def xL:Mt:=(0,_,_,λh H b p l hn=>EU lP PySem.F.slot_str_startswith PySem.F.type_str_startswith zR Vz h H b p l hn)
def Hm:Mt:=(0,_,_,λh H b p l hn=>EU lP lQ PySem.F.type_str_split PH Vy h H b p l hn)
def V6:Mt:=(0,_,_,λh H b p l hn=>EU lP PySem.F.slot_str_join PySem.F.type_str_join Wb Vp h H b p l hn)
def Ĩ:M0:=(4,_,_,λh H hn=>Ŕ (id:="list.pop") (aaV cV Qa U0 aap h H hn) Vx)
structure Jg(Γ:Gm)(t:Tb)where
 m:Ig
 ck:Sx->Å->Å->Þ
 pi:∀{k S X E tx x},si Γ t k S X E->ck S tx x->PI X tx x (MX 'X' E m)
def ķ(t:Ã->Ő ϐ)(f:Ń->Ct)(u:Ϙ)(A R:Sm):Sm:=λx σ h Q=>A x σ h λX H=>match X with|[.p (.S z)]=>eZ (t z) (λk=>gd (jX (À k) u) (R x σ H λds a=>f (À k) ds a (λd b=>Q [d] b) x)) ŧ|_=>ŧ
def Ř(t:Ã->Ő ϐ):O1:=λx h Q=>match x with|.p (.S z)=>Q (.p (.B (t z).isSome)) h|_=>ŧ
def ώ(b:Ss):Ss:=λN σ h=>∃W:Ń->Es->Hs->ß,(∃m,W m σ h)/\∀m a H,W m a H->b (N.lp (λc d=>∃M,M<m/\W M c d) N.nx) a H
section
variable{Γ:Gm}{t:Tb}
def Jg.p(j:Jm Γ t):Jg Γ t:=(_,j.ck,λo h=>(j.pi o h).imp λ_ _ _=>aeX)
def Jg.l(A:Em Γ t):Jg Γ t:=(_,λS _ x=>A.ck S x,λo h=>W9 (A.pe o h))
def Qx{ad:Á}(T:Dy X.w X.K X.mg t.hW ad g)(D:∀i∈U,∃ps,qY X.prog X.w X.K X.mg X.base k (t.hW i) ps (jy 'X' (L i)))(W:eE k X.A)(Y:eX (rX X.prog X.w) X E)(Z:Gl X n)(hm:X.mg n=O (.ref ad))(hd:(n=="__debug__")=af)(he:PE X e (cQ 'X' E A))(hs:p9 e)(ha:PA X (a::b) (ic 'X' E R))(eF:(a::b).all cA):PE X (.Call (.Subscript (.Name n p) e q) (a::b) [] pos) (cQ 'X' E (ķ g L U A R)):=(Qn (tI (VI T) (oq (v:=.A ad) Z hm Ŗ hd) he hs) W Y ha eF).imp λτ H QV zz=>by let(G,M,σ,h,x,Q,k,q):=zz;erw[(G,M,σ,h,x,_,(k.rel,k.env,λd h1 M1 H1 v l r1 i1 q1=>?_,k.exc),q)];cases d with|r _=>done|p d=>cases d with|S z=>let(ks,hk,m):=de q1;let(c,j):=bG m;let(ps,f,fd,F,o,s,hb):=D _ (cN.mp c);erw[(Ŗ,z,ks,fq i1,hk,λf' N=>?_)];rw[o]at N;cases N;exact(f,fd,ps,_,Ŗ,F,s,hb,G,M1,σ,h1,x,_,(r1,k.env.ext k.rel l,λds h2 M2 H2 vs P r2 i2 m=>(G,M2,h2,ds,_,x,r2,i2,m,λd3 u y B w C I i3 j=>k.out d3 u y B w (l.trans (P.trans C)) I i3 j,λc u y B C I j=>k.exc c u y B (l.trans (P.trans C)) I j),k.UJ l),j)|_=>left
namespace Em
def sG(i:Ń)(A:Am Γ t):Em Γ t:=(_,λS x=>jX i _&&fH S _ A x,λ{k S X E x}o h=>by let(s,D):=o.fn i (cN.mp (ag h).1);rw[<-o.hW]at D;rwa[xM o (ag h).2 λ_ _ _ _ H d hn p P=>(xf D o.hr o.hp H p d P).imp λ_ _ _=>MW])
def AO(c:Ń)(a:Em Γ t):Em Γ t:=(_,λS=>lG λg s K q=>Í 100 c&&(jX c _&&(jX _ _&&!jY _ _))&&(JL K&&(zP s&&Fz (λb m p=>ax m _&&(p.endLine==q.line&&(a.ck S b&&zd (λ_ _=>J) b))) g)),λ{k S X E x}o h=>by erw[fB h λg s K q h=>?_];let(i,h):=ag h;let(d,e,f,H):=oZ i;let(j,h):=ag h;let(l,h):=ag h;rw[jI j,jH l];erw[oH h λb m p h=>?_];let(r,u,v,y):=oZ h;let(P,D):=o.vC c (cN.mp e);replace D:=ε d D;let(C,A):=o.cls _ (cN.mp f);rw[aI.mp r];let z:=a.pe o v;revert z;rwa[j7 y λn B _ z=>afV (D.mono (nG k)) z C (λw=>by rw[A]at w;rw[sY w]at H;cases H) o.hr o.hp u])
def nw(c:Ń)(A:Am Γ t):Em Γ t:=(_,λS x=>!Nat.ble 100 c&&jX c _&&fH S _ A x,λ{k S X E x}o h=>by let(s,D):=o.vC c (cN.mp (ag (ag h).1).2);replace D:=G5 (dU (ag (ag h).1).1) D;rwa[xM o (ag h).2 λ_ _ _ _ H d hn p P=>afW D o.hr H p d P])
def nw0(c:Ń):Em Γ t:=(_,λS=>lG λf s K _=>!Nat.ble 100 c&&jX c _&&(JL K&&(zP s&&G8 S _ f)),λ{k S X E x}o h=>by erw[fB h λf s K q h=>?_];let(H,h):=ag h;let(a,b,d):=lT h;let(P,D):=o.vC c (cN.mp (ag H).2);replace D:=G5 (dU (ag H).1) D;let(p,e,g,i,hn):=je o d;rw[jI a,jH b,e];rwa[aa8 D o.hr g i])
def clf(i:Ń)(A:Em Γ t)(R:Am Γ t):Em Γ t:=(_,λS=>lG λf s K _=>Í 100 i&&jX i _&&(JL K&&(!zP s&&R.ck S s&&M8 (λa e _=>G8 S (S.tnm i) a&&(EK e&&A.ck S e)) f)),λ{k S X E x}o h=>by erw[fB h λf s K q h=>?_];let(c,h):=ag h;let(d,g,j):=lT h;let(l,H):=ag g;rw[jI d];erw[ug j λa e p h=>?_];let(m,n,r):=lT h;let(B,u,v,w,hn):=je o m;let(ad,y,T):=o.tab i (cN.mp (ag c).2);replace T:=RK (ag c).1 T;rw[u];cases s with|i=>done|k b s=>let(P,z):=R.pa o H;rwa[Qx T o.fn o.hr o.hp v y w (A.pe o r) (Hg n) P z])
def Je(n:Ń)(b:Ϙ)(j:Ń)(a:Jg Γ t)(F:Fm Γ t)(A:Em Γ t)(z:Þ):Em Γ t:=(CA n b j a.m F.m A.m z af,λS x=>S.fr&&Gn S n b (.one j) _ F _ x,λo h=>qf o (ag h).2 λN T ix i e v p c d g k l q r u=>(yE (o.fx (ag h).1).1 (o.fx (ag h).1).2 c o.hc d (a.pi o g) (λf s H=>l (Ci o _ _ f _ _)) (λf s H=>F.pf (Ci o _ _ f _ _) q) (λf s H=>A.pe (Ci o _ _ f _ _) r) u).imp λ_ _ _=>xQ λ_ _ z=>by lia (aO k))
def Gp(n:Ń)(b:Ϙ)(j:Ń)(a:Jg Γ t)(F:Fm Γ t)(A:Em Γ t)(z:Þ):Em Γ t:=(CA n b j a.m F.m A.m z J,λS x=>S.fr&&Gn S n b (.one j) _ F _ x,λo h=>qf o (ag h).2 λN T ix i e v p c d g k l q r u=>(yE (o.fx (ag h).1).1 (o.fx (ag h).1).2 c o.hc d (a.pi o g) (λf s H=>l (Ci o _ _ f _ _)) (λf s H=>F.pf (Ci o _ _ f _ _) q) (λf s H=>A.pe (Ci o _ _ f _ _) r) u).imp λ_ _ _=>xQ (λ_ _ _ z=>z) (aO k))
end Em
def Tm.tin(i:Ń)(A:Em Γ t):Tm Γ t:=(s1 (Ř _) A.m,λS=>RX λa os bs _=>mD (l1 os) λo=>mD (l1 bs) λb=>Đ (o=.In)&&(Í 100 i&&jX i _&&(G8 S _ b&&A.ck S a)),λ{k S X E x}o h=>by erw[xp h λa os bs q h=>?_];let(D,e,h):=cC h;let(b,j,h):=cC h;let(c,g,l,n):=oZ h;let(P,s,u,w,hn):=je o l;let(ad,y,T):=o.tab i (cN.mp (ag g).2);replace T:=RK (ag g).1 T;rw[fJ e,fJ j,aO c,s];erw[(xi (aaF T) (A.pe o n) (oq (v:=.A ad) u y Ŗ w) (w9 Ŗ)).imp λτ H F h=>?_];let(G,M,σ,h,B,Q,k,q):=Fu h;erw[(G,M,σ,h,B,_,(k.rel,k.env,λd c M1 C v e R I f=>?_,k.exc),q)];cases d with|r _=>rwa[f.elim]|p d=>cases d with|S z=>exact(Ŗ,z,fq I,k.out _ c M1 C _ e R iK f)|_=>rwa[f.elim])
namespace Mm
def foG(j:Ń)(a:Jg Γ t)(B:Ms Γ t):Mm Γ t:=(_,λS=>wE λT ix b e _=>zP e&&(rK ix&&(i8 S (.one j) T&&(a.ck S T ix&&B.ck S b))),λo h=>by erw[KR h λT ix b e p h=>?_];let(H,h):=ag h;let(c,h):=ag h;let(d,h):=ag h;let(f,g):=ag h;rw[jH H];exact(QO o.po o.x.hc (a.pi o.x f) (J7 o.x.hc o.x.hN o.x.hs o.nd o.hf d) (B.ps o g) λ_=>BS c).imp λ_ _ _=>UU)
def whG(T:Tm Γ t)(B:Ms Γ t):Mm Γ t:=(_,λS=>p5 λc b e _=>zP e&&(T.ck S c&&B.ck S b),λo h=>by erw[KW h λc b e p h=>?_];let(H,h):=ag h;let(a,d):=ag h;rw[jH H];exact(EX o.po (T.pt o.x a) (B.ps o d)).imp λ_ _ _=>A5)
def whT(B:Ms Γ t):Mm Γ t:=(ώ B.m,λS=>p5 λc b e _=>zP e&&(xR (.B J) c&&B.ck S b),λo h=>by erw[KW h λc b e p h=>?_];let(d,h):=ag h;let(a,f):=ag h;rw[jH d];erw[(EX o.po (R6 (by revert a;rwa[λa=>oJ a λ_ _ _ _=>Ŗ]) (N2 a)) (B.ps o f)).imp λD τ H q=>A5 ?_];let(G,M,σ,h,N,k,q):=q;exact(G,M,σ,h,N,k,q))
def ad4(c j:Ń)(n:Î)(B:Em Γ t):Mm Γ t:=(Zf c j n B.m,λS=>Do λa o b _=>Đ (o=.Add)&&(X9 (λc _ _=>ZZ _ c) b&&Fz _ a),λo h=>by erw[X8 h λa q b pos h=>?_];let(d,H,e):=lT h;rw[aO d];erw[oH e λr f p h=>?_];let(g,i,k):=lT h;erw[oJ H λs u P H=>?_];rw[TC H];let(C,l):=o.x.cls c (cN.mp g);exact(MF (B.pe o.x k) rM δ).imp λ_ _ _=>UN C (by rw[l];rwa[oi i]))
end Mm
end
end F
namespace L2
structure apA(K:Æ)(mg:b1)(x nm:Ã)(st:È)(ps:ϐ):ß where ex:∃(f:Á)(fd:b7),Nd K nm nm st f fd/\mg x=O (.ref f)/\Binds K fd ps []
end L2
namespace F
open L2
end F
namespace F
open L2
def cF(e:Oo c j h x=O d)(q:Q d h):mz c j x h Q:=by delta mz;rw[e];rwa[q]
def dq(e:h[i]?=O (.I c fs)):Oo c j h (.r i)=fs[j]?:=by
 show(match h[i]? with
  |O (.I a fs)=>match Ë a c with|J=>fs[j]?|af=>aa
  |_=>aa)=_;rw[e];show(match Ë c c with|J=>fs[j]?|af=>aa)=_;rw[f9]
def mE{K:Hs->ß}(e:h[i]?=O (.I c fs))(H:Í (À fs+1) 1000)(s:Xw j d fs=O Eg)(q:K (h.set i (.I c Eg))):o9 c j i d h K:=by delta o9;rw[e];erw[aB (by rw[f9,H];rfl) ?_];rw[s];rwa[q]
def dX(e:h[i]?=O (.I c fs))(q:C [.r i] h Q xc):Df c C i h xc Q:=by delta Df;rw[e];rwa[aB (f9 c) q]
def Z1{K:Hs->ß}(e:h[i]?=O (.I c fs))(H:Í (À fs+1) 1000)(a:fs[j]?=O (.p (.I k)))(q:K (h.set i (.I c (fs.set j (.p (.I (k+n))))))):o6 c j n i h K:=by delta o6;rw[e];erw[aB (by rw[f9,H];rfl) ?_];rw[a];rwa[q]
def Md(e:h[l]?=O (.L xs)):jJ h (.r l)=O xs:=by show(match h[l]? with|O (.L xs)=>O xs|_=>aa)=_;rw[e]
def V2(e:h[l]?=O (.D ds)):jJ h (.r l)=none:=by show(match h[l]? with|O (.L xs)=>O xs|_=>aa)=_;rw[e]
def B8(e:h[l]?=O (.D ds)):o7 h (.r l)=O ds:=by show(match h[l]? with|O (.D xs)=>O xs|_=>aa)=_;rw[e]
def gY(e:h[l]?=O (.L xs))(q:Q (.p (.I (À xs))) h):j4 [.r l] h Q:=by show(match jJ h (.r l)with|O xs=>Q _ h|aa=>_);rw[Md e];rwa[q]
def dS(e:h[l]?=O (.D ds))(q:Q (.p (.I (À ds))) h):j4 [.r l] h Q:=by show(match jJ h (.r l)with|O xs=>Q _ h|aa=>match o7 h _ with|O ds=>Q _ h|aa=>ŧ);rw[V2 e,B8 e];rwa[q]
def uR(e:h[l]?=O (.L xs))(a:uh xs k=O z)(q:Q (.p z) h):uY (.r l) (.p (.I k)) h Q:=by show(match jJ h (.r l)with|O xs=>eZ _ _ _|aa=>_);rw[Md e];rwa[bW a q]
def fu(e:h[l]?=O (.D ds))(a:uh ds k=O d)(q:Q d h):uY (.r l) (.p (.I k)) h Q:=by show(match jJ h (.r l)with|O xs=>eZ _ _ _|aa=>match o7 h _ with|O ds=>eZ _ _ _|aa=>ŧ);rw[V2 e,B8 e];rwa[bW a q]
def iL(a:uh xs k=O z)(q:Q (.p z) h):uY (.p (.T xs)) (.p (.I k)) h Q:=bW a q
def ql(q:Q (.p (.I (À xs))) h):j4 [.p (.T xs)] h Q:=q
def gX(e:h[l]?=O (.L xs))(s:jL (À xs+1))(q:Q (.p .N) (h.set l (.L (xs++[z])))):jZ (.r l) [.p z] h Q:=by show(match h[l]? with|O (.L xs)=>gd _ _|O (.D xs)=>gd _ _|_=>ŧ);rw[e];rwa[aB s q]
def nS(e:h[l]?=O (.D ds))(s:jL (À ds+1))(q:Q (.p .N) (h.set l (.D (ds++[d])))):jZ (.r l) [d] h Q:=by cases d<;>(delta jZ;simp only[e];rwa[aB s q])
def xg(e:h[l]?=O (.D ds))(a:ds[À ds-1]?=O d)(q:Q d (h.set l (.D ds.dropLast))):lu (.r l) [] h Q:=by show(match h[l]? with|O (.L xs)=>eZ _ _ _|O (.D xs)=>eZ _ _ _|_=>ŧ);rw[e];rwa[bW a q]
def B5(e:h[l]?=O (.L xs)):Pd 4 h (.r l)=true:=by show((jJ h _).isSome||(o7 h _).isSome)=J;rw[Md e];rfl
def L6(e:h[l]?=O (.D ds)):Pd 4 h (.r l)=true:=by show((jJ h _).isSome||(o7 h _).isSome)=J;rw[V2 e,B8 e];rfl
def mj(e:h[l]?=O (.L xs))(q:Q (.p (.T xs)) h):gj [.r l] h Q:=by show(match jJ h (.r l)with|O xs=>Q _ h|aa=>ŧ);rw[Md e];rwa[q]
def qw(q:Q (.p (.T xs)) h):gj [.p (.L xs)] h Q:=q
def VC(e:h[l]?=O (.L xs))(q:Q (.p (.B J)) h):EN [.r l,.p (.ty 4)] h Q:=by show(match h[l]? with|O (.L _)=>Q (.p (.B J)) h|O (.D _)=>Q (.p (.B J)) h|_=>ŧ);rw[e];rwa[q]
def VD(e:He 4 z=O af)(q:Q (.p (.B af)) h):EN [.p z,.p (.ty 4)] h Q:=by show(match He 4 z with|O b=>Q _ h|aa=>ŧ);rw[e];rwa[q]
def Tr(e:EC h x=O a)(E:EC h y=O b)(s:jL (À a+À b))(q:Q (.r (À h)) (h++[.D (a++b)])):oS x y h Q:=by delta oS;rw[e,E];rwa[aB s q]
def laD(e:h[l]?=O (.D ds)):EC h (.r l)=O ds:=by delta EC;rw[V2 e];rwa[B8 e]
def qg{f:Hs}{P:Pw}{e:Dv->Es}{T A:Es->Hs->KP->ß}{z:Þ}{Q:KP}(xs:Ł Dv)(a:Ł Dv->Ł Dv->Hs->ß)(o:jL (À xs))(t:a [] [] f)(r:∀pre acc H,a pre acc H->P H xs)(step:∀pre y post acc H,xs=pre++y::post->a pre acc H->T (e y) H λbs g=>match bs with|[.p (.B b)]=>br b (A (e y) g λys s=>match ys with|[v]=>a (pre++[y]) (acc++[v]) s|_=>ŧ) (a (pre++[y]) acc g)|_=>ŧ)(fin:∀acc H,a xs acc H->xr z acc H Q):Ue f P e T A z Q:=by delta Ue;erw[(xs,λi acc H=>a (xs.take i) acc H,o,by done,λi acc H j=>r _ _ _ j,λi y acc H m j=>?_,λacc H j=>fin acc H (by dsimp only at j;rw[gT]at j;rwa[j]))];let q:=step _ y _ acc H (uP m) j;rw[<-uv m]at q;rwa[q]
def Jz(xs:Ł Dv)(a:Ł Dv->Ł Dv->Es->Hs->ß)(m:a [] xs σ h)(g:∀pre post σ' H,a pre post σ' H->P H xs)(step:∀pre x post σ' H,xs=pre++x::post->a pre (x::post) σ' H->b (N.lp (a (pre++[x]) post) N.nx) (σ'.set j (O x)) H)(fin:∀σ' H,a xs [] σ' H->N.nx σ' H):US j P b N σ h:=by
 delta US;erw[(xs,λi σ' H=>a (xs.take i) (xs.drop i) σ' H,by done,λi σ' H j=>g _ _ _ _ j,λi x σ' H f j=>?_,λσ' H j=>fin σ' H nofun)];let(o,e):=aj.mp f;let E:xs.drop i=x::xs.drop (i+1):=by rw[<-e,lN]
 let z:=step _ x _ σ' H (uP f) (E▸j);rw[<-uv f]at z;rwa[z]
end F
namespace F
open L2
section
variable{Γ:Gm}{t:Tb}
def Mm.setG(i n:Ń)(r:Ϙ)(j:Ń)(a:Jg Γ t)(F:Fm Γ t)(A:Em Γ t)(z:Þ):Mm Γ t:=(Rf i (CA n r j a.m F.m A.m z af),λS=>Xv S i λx p e=>EO _ x&&(WP x p e&&Gn S n r (.one j) _ F _ e),λ{k S X E st}o h=>by
 erw[CD o h λx p e pos u v w y=>?_];let(B,g):=ag y;let(G,C):=ag g;revert G;erw[qf o.x C λU W ix I e D K L M b c N P Q R G=>?_];erw[(Kd o.nd u v L o.x.hc M (a.pi o.x b) (λf s H=>N (Ws o.x _ _ f _ _)) (λf s H=>F.pf (Ws o.x _ _ f _ _) P) (λf s H=>A.pe (Ws o.x _ _ f _ _) Q) R ?_ w).imp λ_ _ _ q=>xQ λ_ _ z=>by lia (aO c) (Ro q)];let(d,l):=ag G;show pure (X.env.blockKind==.function&&X.env.kindOf x==O _&&p.line==K.line&&!D.names.any _)=pure _;let T:X.env.kindOf x=O .local:=by show X.env.scope.names.lookup x=_;rw[o.x.hs];rwa[u0 B]
 rw[Pe o.kd,T,d,l];rfl)
structure E1(Γ:Gm)(t:Tb)where
 m:Sm
 ck:Sx->Å->Þ
 pe:∀{k S X E x},si Γ t k S X E->ck S x->Nf X x (cQ 'X' E m)
def n_(h:xR (.S y) e):∃k p,e=.Constant (.str y) k p:=by
 erw[oJ h λc k p h=>?_];delta ZZ at h;dsimp only at h;split at h;.rw[aI.mp h];exact(k,p,Ŗ)
 .cases h
def L0(h:xR (.I i) e):∃k p,e=.Constant (.int i) k p:=by
 erw[oJ h λc k p h=>?_];delta ZZ at h;dsimp only at h;split at h;.rw[aO h];exact(k,p,Ŗ)
 .cases h
namespace E1
end E1
def Xc(o:jz X (compareOp .Eq) r)(b:PE X a T)(d:∀σ H Q,tb σ H Q->Q (.I i) H):PT1 X (.Compare a [.Eq] [.Constant (.int i) j C] pos) (Zv (Zt r T tb)):=by intro p s σ H Q I h;erw[xy (oV (b _ s σ H _ I h) λv s1 x f g R q=>Dp ?_) (PR _)];erw[wpAny_with_toks (Nat.le_add_left 1 _) (d7 (o _ _ σ f x (.I i) v _ _ (g.tok _) R (_,Ŗ) (d _ _ _ q)) (λc S l m=>?_) λ_ _ e _=>e)];let(z,n,u,w,k,e,y):=l;subst e;cases w;rwa[eM (m,n,u,y)]
end
end F
namespace F
open L2
variable{Γ:Gm}{t:Tb}
end F
namespace F
open L2
def EM:O2:=λx y h Q=>match jJ h x,jJ h y with|O X,O Y=>gd (jL (À X+À Y)) (Q (.r (À h)) (h++[.L (X++Y)]))|_,_=>ŧ
def OW:jE Y Xf EM:=λG M h H x y v u Q k r i j q out=>by
 delta EM at q;split at q;.ext l m ex g;let(c,q):=bG q;let(a,s,rfl,s1,e):=gZ r i ex;let(b,U,rfl,s2,f):=gZ r j g;erw[(a,b,s,U,Ŗ,Ŗ,s1,s2,by rw[<-e.len,<-f.len];rwa[dO c],λp d=>?_)];erw[out (.r _) _ _ _ _ (Ext.push r d) (r.push (o:=.L _) d (_,bA,(e.app f).ext r (Ext.push r d))) (p,?_,Ŗ) q];rw[<-r.ln,aK (au _),eY];rfl
 .left
def NG:Bo:=(_,_,λ_ _=>(_,HA,OW))
variable{Γ:Gm}{t:Tb}
end F
namespace F
open L2
def Em.N0{Γ:Gm}{t:Tb}(n:Ń)(a:Ϙ)(tg:Tg)(j:Jm Γ t)(F:Fm Γ t)(A:Em Γ t):Em Γ t:=(Kq n a tg _ F.m A.m af,λS x=>Gn S n a tg _ F _ x,λo h=>qf o h λN T ix i e u p b c d g k l q r=>(WK b o.hc c (j.pi o d) (λf s H=>k (Ws o _ _ f _ _)) (λf s H=>F.pf (Ws o _ _ f _ _) l) (λf s H=>A.pe (Ws o _ _ f _ _) q) r).imp λ_ _ _=>BE λ_ _ z=>by lia g)
section
variable{Γ:Gm}{t:Tb}
structure Dm(Γ:Gm)(t:Tb)where
 ks:ϐ
 m:Sm
 ck:Sx->Ł (Ő Å)->Ł Å->Þ
 pp:∀{k S X E pos xs es},si Γ t k S X E->ck S xs es->∃Ft,im X pos xs es Ft/\(xs.all (·.isSome)=J/\À xs=À es/\À xs=À ks)/\∀τ H(Q:Ł (V×V)->Hp->ß),ic 'X' E m τ H (λvs H'=>Q ((ks.map V.S).zip vs) H')->yZ Ft τ H Q
def Dm.nil:Dm Γ t:=([],CB,λ_ x e=>zP x&&zP e,λo h=>by rw[jH (ag h).1,jH (ag h).2];exact([],Xa,(Ŗ,Ŗ,Ŗ),λτ H Q z=>by let(G,M,σ,s,X,a,k,q):=z;rwa[k.out [] s M H [] Ext.refl k.rel Ť q]))
def Ui(h:xR (.S k) x):PE X x (tC (.S k)):=by erw[oJ h λc j q h=>?_];cases c<;>first|done|(rw[aI.mp h];rwa[jj])
def Dm.cons(k:Ã)(A:Em Γ t)(R:Dm Γ t):Dm Γ t:=(k::R.ks,qU A.m R.m,λS s f=>mD (lc s) λx=>mD x.1 λy=>mD (lc f) λe=>xR _ y&&(A.ck S e.1&&R.ck S x.2 e.2),λ{_ S X E pos s f}o h=>by obtain⟨⟨x,l⟩,n,h⟩:=cC h;let(y,a,h):=cC h;obtain⟨⟨e,Om⟩,p,h⟩:=cC h;let(b,h):=ag h;let(c,u):=ag h;obtain⟨Ft,P,⟨p2,p3,p4⟩,w⟩:=R.pp o u;rw[vF n,vF p,a];exact(_,QM (Ui b) (A.pe o c) P,(by done,by grind,by grind),λτ H Q z=>by let(G,M,σ,B,g,Q',K,q):=z;exact(G,M,σ,B,g,_,(K.rel,K.env,λd D F I v e j i L=>w τ I _ (G,F,σ,D,g,_,(j,K.env.ext K.rel e,λds c N T W a U Y Z=>K.out (d::ds) c N T (v::W) (e.trans a) U (i.ext j a,Y) Z,λC b M1 H1 x r q=>K.exc C b M1 H1 (e.trans x) r q),L),K.exc),q)))
def alV(ks:ϐ)(A:Sm):Sm:=λx σ h Q=>A x σ (h++[.C [] []]) λds H=>match vP ds with
 |O u=>match H[À h]? with|O (.C [] [])=>gd (Ë (À u) (À ks)) (Q [.r (À h)] (H.set (À h) (.C (gE (ks.map .S) u ([],[])).1 (gE (ks.map .S) u ([],[])).2)))|_=>ŧ
 |aa=>ŧ
theorem Sl:∀{ks:ϐ}{vs:ϕ},(ks.map V.S).zip vs=((ks.map Sum.inr).zip vs).map λK=>(kV K.1,K.2)|[],_=>Ŗ|_::_,[]=>Ŗ|k::ks,v::vs=>by show(V.S k,v)::(ks.map _).zip vs=(kV (Sum.inr k),v)::_;rw[Sl];rfl
theorem Sj{M:Ł _}{H:Hp}:∀{ks:ϐ}{us:ϑ}{vs:ϕ},À us=À ks->bh (Y.z G) M H us vs->lS Y G M H (ks.map .S) us ((ks.map Sum.inr).zip vs)|[],[],[],_,_=>lS.nil|[],[],_::_,_,i=>by done|[],_::_,_,e,_=>by grind|_::_,[],_,e,_=>by grind|_::_,_::_,[],_,i=>by rwa[i.elim]|k::ks,u::us,v::vs,e,i=>by rwa[lS.cons.mpr ((Ŗ,i.1),Sj (by grind) i.2)]
def E_(a:∀τ H(Q:Ł _->Hp->ß),ic 'X' E A τ H (λvs H'=>Q ((ks.map V.S).zip vs) H')->yZ F τ H Q)(l:À ks<=15)(h:cQ 'X' E (alV ks A) τ H QV):Zp F τ H QV:=by
 let(G,M,σ,h,f,Q,k,q):=h;intro p d;let P:=Ext.push (u:=.dK []) k.rel d;erw[a _ _ _ (G,_,σ,h++[Ob.C [] []],f,_,(k.rel.push d ([],bA,lS.nil.1,lS.nil.2),k.env.ext k.rel P,λds y M1 B vs e R i b=>?_,λC j m H' x r q=>k.exc C j m H' (P.trans x) r q),q)];split at b
 .ext U n;split at b
  .ext s;let(c,v):=bG b;let g:M1[À h]?=O p:=e.at (by rw[<-k.rel.ln,aK (au _),eY];rfl);let(w,s1,D):=R.at' g s;let z:=by let:=D.1.len;rw[ai]at this;rwa[bQ.mp this.symm]
   subst z;let d2:=wO (Sj (aP c) (rO n i)) lS.nil;let ha:=aZ g;erw[(s1,_,Sl,?_,k.out (.r _) _ M1 _ _ ((P.trans e).trans (Ext.put ha)) (R.put (o:=.C _ _) g (_,bA,d2.1.ext R (Ext.put ha),d2.2.ext R (Ext.put ha))) (p,g,Ŗ) v)];.rw[List.length_zip,ai];rwa[ay (Nat.min_le_left _ _) l]
  .left
 .left
def Em.dsp(D:Dm Γ t):Em Γ t:=(_,λS=>Cc λk v _=>Í _ 15&&(!zP k&&D.ck S k v),λo h=>by erw[Ya h λk v p h=>?_];let(a,h):=ag h;let(H,h):=ag h;obtain⟨F,P,⟨b,c,e⟩,d⟩:=D.pp o h;let hl:=bx a;exact(WM P b c (λz=>by rw[z]at H;cases H) ()).imp λ_ _ _=>E_ d hl)
def al3(A B:Sm):Sm:=λx σ h Q=>A x σ h λX a=>match X with
 |[.r i]=>match a[i]? with
  |O (.C _ _)=>B x σ a λy H=>match y with
   |[.r j]=>match H[i]?,H[j]? with|O (.C K U),O (.C k u)=>gd (!Nat.beq i j&&jL (À K+À k)) (Q [.p .N] (H.set i (.C (gE k u (K,U)).1 (gE k u (K,U)).2)))|_,_=>ŧ
   |_=>ŧ
  |_=>ŧ
 |_=>ŧ
def abZ(h:cQ 'X' E (al3 A B) τ H QV):Zo (cQ 'X' E A) (cQ 'X' E B) τ H QV:=by let(G,M,σ,h,x,Q,k,q):=h;erw[(G,M,σ,h,x,_,(k.rel,k.env,λd f M1 H1 v l m N g=>?_,k.exc),q)];cases d with|p _=>left|r i=>
  change match f[i]? with|O (.C _ _)=>B x σ f _|_=>ŧ at g;split at g;.ext P;let(a,n,rfl):=N;let(S,s0,_):=m.at' n P;erw[(a,Ŗ,.inl (_,.inl s0),G,M1,σ,f,x,_,k.on l m λd2 s T H2 w y R U e=>?_,g)];cases d2 with|p _=>left|r j=>
    change match s[i]?,s[j]? with|O (.C W Y),O (.C K u)=>gd _ _|_,_=>ŧ at e;split at e;.ext W Y K u o1 Z;let(c,e):=bG e;let(D,c2):=ag c;let(b,F,rfl):=U;let f0:=y.at n;let(bI,s1,d1):=R.at' f0 o1;let(I,s2,d2):=R.at' F Z;let l1:=d1.1.len;let l2:=d2.1.len;rw[ai]at l1 l2;let ha:=aZ f0;let L:=wO d2 d1;exact(b,bI,_,Ŗ,(λz=>by subst z;let(l3,e3):=aj.mp f0;let(l4,e4):=aj.mp F;let:=(jB R.nd).mp (e3.trans e4.symm);subst this;rw[f9]at D;cases D),s1,s2,by rw[<-l1,<-l2];rwa[dO c2],k.out _ _ T _ _ ((l.trans y).trans (Ext.put ha)) (R.put (o:=.C _ _) f0 (_,bA,L.1.ext R (Ext.put ha),L.2.ext R (Ext.put ha))) tu e)
    .left
  .left
def Em.upd(a B:Em Γ t):Em Γ t:=(_,λS=>j' S _ a λs=>mD (l1 s) λe=>cA e&&B.ck S e,λ{k S X E x}o h=>Hr h λi s A D H b c d=>by let(e,f,h):=cC H;let(g,G):=ag h;rw[fJ f];exact(WN (a.pe o b) (B.pe o G) (so c,BO (by grind) (by grind),d,by rw[cW g];rfl)).imp λ_ _ _=>abZ)
def Jc{h:Hs}{xs:ϑ}{e:Pv->Ő Es}{T A:Es->Hs->KP->ß}{Q:ϑ->Hs->ß}(g:Pv->Þ)(b:bH (À h) h)(step:∀y∈xs,match e y with|O a=>(∀R:KP,R [.p (.B (g y))] h->T a h R)/\∀R:KP,R [.p y] h->A a h R|aa=>ŧ)(q:Q (xs.filter g) h):Ls h xs e T A Q:=by erw[sH g _ b (λy c=>?_) (by rw[List.map_id'];rwa[q])];let z:=step y c;cases H:e y with|n=>rw[H]at z;rwa[z]|s a=>rw[H]at z;exact(z.1,λ_=>z.2)
end
def yA:OM:=λx ds h Q=>match ds with
 |[.p (.I k)]=>gd (lH k 0) (match x with
  |.r i=>match h[i]? with|O (.D (d::r))=>Q d (h.set i (.D r))|_=>ŧ
  |_=>ŧ)|_=>ŧ
def Ml(ne:Þ):O2:=λx y h Q=>match y with
 |.p (.L [])=>match o7 h x with|O ds=>Q (.p (.B (Cd ne ds.isEmpty))) h|aa=>ŧ
 |_=>ŧ
def oz(e:h[l]?=O (.D (d::r)))(q:Q d (h.set l (.D r))):yA (.r l) [.p (.I 0)] h Q:=by show gd (lH 0 0) (match h[l]? with|O (.D (d::r))=>Q d _|_=>ŧ);rw[e];rwa[aB Ŗ q]
def mw(e:h[l]?=O (.D ds))(q:Q (.p (.B (Cd ne ds.isEmpty))) h):Ml ne (.r l) (.p (.L [])) h Q:=by show(match o7 h _ with|O ds=>Q _ h|aa=>ŧ);rw[B8 e];rwa[q]
def O4:Bd Y Q1 yA:=λG M h H x X v s Q m r i f q out=>by
 delta yA at q;split at q;.let(w,rfl,j):=f.om;let(hk,q):=bG q;let hk:=dm.mp hk;subst hk;let g:=fk j;subst g;cases x with|p a=>left|r n=>let(a,b,k):=i;let ha:=aZ b;change match h[n]? with|O (.D (d::r))=>Q d _|_=>ŧ at q;cases e:h[n]? with|n=>left|s o=>rw[e]at q;cases o with
    |D ds=>cases ds with|i=>left|k d ds=>let(W,l,c):=r.at' b e;cases W with|i=>rwa[c.elim]|k w W=>erw[(a,_,0,0,w,k,Ŗ,l,∅,∅,?_,Ŗ,out d _ M _ w (Ext.put ha) (r.put (o:=.D ds) b (_,bA,c.2.ext r (Ext.put ha))) (c.1.ext r (Ext.put ha)) q)];.delta seqIndex?;simp
    |_=>left
 .left
def sK(K:Æ)(ne:Þ):R2:=λx y H Q=>∃a b X,x=.A a/\y=.A b/\ie K H a X/\ie K H b []/\Q (.B (Cd ne X.isEmpty)) H
def JF:jE Y (sK Y.K ne) (Ml ne):=λG M h H x y v u Q k r i j q out=>by cases y with|r _=>rwa[q.elim]|p b=>cases b with
  |L s=>cases s with|k _ _=>rwa[q.elim]|i=>cases x with|p _=>rwa[q.elim]|r n=>let(a,d,e):=i;change match match h[n]? with|O (.D ds)=>O ds|_=>aa with|O ds=>Q _ h|aa=>ŧ at q;cases c:h[n]? with|n=>left|s o=>
      rw[c]at q
      cases o with|D ds=>
       let(w,f,g):=r.at' d c;let(b,U,E,_,s1,I):=j;let hu:U=[]:=by cases U with|i=>rfl|k _ _=>done
       subst hu;erw[(a,b,w,e,E,ie.of f,ie.of s1,out _ h M H _ Ext.refl r ?_ q)];let:w.isEmpty=ds.isEmpty:=by cases ds<;>cases w<;>first|rfl|rwa[g.elim]
       rw[this];rwa[iK]|_=>left
  |_=>rwa[q.elim]
def aaC(hu:X.A.units+64<Ì):jz X (compareOp .Eq) (sK X.K af):=λp s σ H x y v u Q I r R z=>by let(a,b,c,e,E,s1,s2,q):=z;rwa[Ww () _ s σ H x y v u Q I r R (a,b,c,e,E,s1,s2,q)]
def aaJ(hu:X.A.units+64<Ì):jz X (compareOp .NotEq) (sK X.K J):=λp s σ H x y v u Q I r R z=>by let(a,b,c,e,E,s1,s2,q):=z;rwa[Wz () _ s σ H x y v u Q I r R (a,b,c,e,E,s1,s2,q)]
def ŵ:Co:=(_,.Eq,λ_ _ hu=>(_,aaC hu,JF))
def TV:Co:=(_,_,λ_ _ hu=>(_,aaJ hu,JF))
def AN:Mt:=(4,_,_,λh H b p l hn=>EU cV Qa U0 PF O4 h H b p l hn)
end F
namespace F
open L2 PySem.SeqAt
def mM:Ń->Pv->Þ|n+1,.T X=>X.all (mM n)|_,x=>BR x
section
variable{X:Cx}{am:b4}{σ:Ç}{s:a5}{Y:T0}{G M:Ł Á}{H:Hp}
def Hf(r:Vals vs us)(R:Vals ws Z)(ix:bh (Y.z G) M H xs vs)(i:bh (Y.z G) M H xs ws)(I:∀{p:Pv}{v u:V}{b U:Ä},p∈xs->eG (Y.z G) M H p v->eG (Y.z G) M H p u->RelV v b->RelV u U->EqAt A s b U J):∀j(h:j<us.toArray.size)(a:j<Z.toArray.size),EqAt A s us.toArray[j] Z.toArray[j] ((λ_=>J) j):=by
 intro j h a;let l1:=r.length;let l:=ix.len;simp only[aW]at h a;let e:xs[j]?=O (xs[j]'()):=aE _;let(v,d,pv):=ix.get e;let(w,f,P):=i.get e;let(u,hu,g):=r.get d;let(z,c,F):=R.get f;let E:us.toArray[j]=u:=by rw[aE h]at hu;simpa using hu
 let k:Z.toArray[j]=z:=by rw[aE a]at c;simpa using c
 rw[E,k];rwa[I (dY _) pv P g F]
def Fv{A:bp}(I:Inv X am σ H s)(S:fS X.K H a vs)(d:fS X.K H b ws)(ix:bh (Y.z G) M H xs vs)(i:bh (Y.z G) M H xs ws)(h:∀{p:Pv}{v u:V}{c U:Ä},p∈xs->eG (Y.z G) M H p v->eG (Y.z G) M H p u->RelV v c->RelV u U->EqAt A.in1 s c U J):∃(B F:Array _)(e:Ń->Þ),s.heap.IsTuple a B/\s.heap.IsTuple b F/\(∀j(f:j<B.size)(g:j<F.size),EqAt A.in1 s B[j] F[j] (e j))/\((Û (min B.size F.size)).all e&&B.size==F.size)=true:=by let(B,r,t,_):=I.tuple S;let(F,R,t2,_):=I.tuple d;erw[(_,_,_,t,t2,Hf r R ix i h,?_)];rw[aW,aW,<-r.length,<-R.length,<-ix.len,<-i.len,fj,iM];rwa[aG.mpr λ_ _=>Ŗ]
def UI(h:Y.K=X.K)(I:Inv X am σ H s):∀{n:Ń}{p:Pv}{v u:V}{c U:Ä}{A:bp},mM n p=J->eG (Y.z G) M H p v->eG (Y.z G) M H p u->RelV v c->RelV u U->A.units+n<Ì->EqAt A s c U true:=by intro n;induction n with|z=>intro p v u c U A k i j r R hu;let:=(Fb (s:=s) (A:=A) (qT k i r) (qT k j R)).2;rw[sR k]at this;rwa[this]|v n d=>
  intro p v u c U A k i j r R hu;let fl:=λk=>by let:=(Fb (s:=s) (A:=A) (qT k i r) (qT k j R)).2;rw[sR k]at this;rwa[this]
  cases p with|T B=>
   let(a,f,rfl,S,g):=i;let(b,W,rfl,l,m):=j;cases r;cases R;let(C,D,e,t,t2,o,x):=Fv I (show fS X.K H a f from h▸S) (show fS X.K H b W from h▸l) g m λy i j r R=>d (aG.mp k _ y) i j r R (by show A.units+1+n<Ì;lia);by_cases w:a=b;.subst w;rwa[EqAt.same _]
   let q:=RcAt.tuples t t2 () o;rw[x]at q;rwa[EqAt.of_refs w q]|_=>rwa[fl k]
def We(h:Y.K=X.K)(I:Inv X am σ H s)(k:mM n p)(i:eG (Y.z G) M H p v)(j:eG (Y.z G) M H p u)(r:RelV v c)(R:RelV u U)(hu:A.units+n<Ì):RcNeAt A s c U false:=by
 let fl:=λk=>by let:=(Fb (s:=s) (A:=A) (qT k i r) (qT k j R)).1.2;rw[sR k]at this;rwa[this]
 cases n with|z=>rwa[fl (by done)]|v n=>cases p with|T x=>let(a,d,rfl,S,f):=i;let(b,w,rfl,g,l):=j;cases r;cases R;let(y,B,e,t,t2,m,o):=Fv I (show fS X.K H a d from h▸S) (show fS X.K H b w from h▸g) f l λq i j r R=>UI h I (aG.mp k _ q) i j r R (by show A.units+1+n<Ì;lia);let:=RcNeAt.tuples t t2 () m;rw[o]at this;rwa[this]|_=>rwa[fl k]
end
def AC(Y:T0):R2:=λv u H Q=>∃G M p,eG (Y.z G) M H p v/\eG (Y.z G) M H p u/\mM 60 p=J/\Q (.B af) H
def Š(hu:X.A.units+64<Ì):jz X (compareOp .NotEq) (AC 'X'):=by intro P s σ H x y v u Q I r R (G,M,p,a,b,k,h);exact(We rfl I k a b r R ()) _ X.w _ _ (.B _,H,I,Ŗ,h)
def Ū:O2:=λx y h Q=>match x,y with|.p a,.p b=>(a=b/\mM 60 a=J)/\Q (.p (.B af)) h|_,_=>ŧ
def Vu:jE Y (AC Y) Ū:=λG M h H x y v u Q d r i j q out=>by cases x with|r _=>rwa[q.elim]|p a=>cases y with|r _=>rwa[q.elim]|p b=>obtain⟨⟨rfl,c⟩,q⟩:=q;exact(G,M,a,i,j,c,out _ h M H _ Ext.refl r (by rfl) q)
def ajs:Co:=(_,_,λ_ _ hu=>(_,Š hu,Vu))
end F
namespace L2
open PySem.SeqAt PySem.MeetsSeq PySem.Builtin PySem.Builtin.Str
def Le(z y w r:Ã):ß:=r=z\/∃u v:Ã,z=u++y++v/\r=u++w++v
def Le.len(h:Le z y w r):r.length<=z.length+w.length:=by
 let A:∀a b:Ã,(a++b).length=a.length+b.length:=λa b=>rQ;rcases h with h|⟨u,v,H,c⟩;.left
 .rw[H,c,A,A,A,A];lia
def Xi(z y w:Ã):Le z y w (glued w (partsBetween z (occurrences z y 0 z.length 1) y.length)):=by let hs:=StrLaws.glued_between_self z y 1;let hl:=xx z y 0 z.length 1;generalize occurrences z y 0 _ 1=l at hs hl;match l,hl with|[],_=>rwa[.inl hs]|[o],_=>rwa[.inr (_,_,hs.symm,Ŗ)]|_::_::_,hl=>left
def Zu(y:Ã)(t T:TE):TE:=λσ H Q=>t σ H λx h=>∃z:Ã,x=.S z/\z.length<=1000000/\T σ h λv a=>∃w:Ã,v=.S w/\(y==w)=af/\w.length<=100/\∀r:Ã,Le z y w r->Q (.S r) a
def Qu(m:PE X o to)(hn:PV X en tn)(Z:dL o "replace" X.env (Ê o X.env)=Ê o X.env)(D:((cc d (b5 [.Constant (.str y) j P,en,.Constant (.int 1) c f] X.env)).all (λx=>!x.1)&&(backToKw d (eA [] X.env)).all (λx=>x.1.isSome)&&Đ (À [Expr.Constant (.str y) j P,en,.Constant (.int 1) c f]+À ([]:Ł c9)+(if([]:Ł c9).isEmpty then 0 else 1)<30))=J)(R:(bb.endLine==d.line))(E:cA en):Nf X (.Call (.Attribute o "replace" bb) [.Constant (.str y) j P,en,.Constant (.int 1) c f] [] d) (Zu y to tn):=by
 intro p s σ H Q I h1 h;erw[vW Z D R Ŗ (wB h1 (m p s σ H _ I h) λv s1 L n=>?_)];let(x,r,t,u,z,rfl,M,A):=n;let(T,rfl):=u;erw[("str","str.replace",lP,PySem.F.slot_str_replace,PySem.F.type_str_replace,mU _ _ _,(λa e=>by cases e),?_)];erw[ig (gJ (by rw[bC,bC,E];rfl)) (jq ?_)];erw[tS Ŗ (qz ?_)];erw[tS E (gP (hn p _ σ r _ s1.toks (t.tok _) (cK _) A) λv s2 w=>?_)];let(w,B,C,k,i,l,W,G,g,N,q):=w;subst C;cases G;erw[tS Ŗ (Dp ?_)];erw[Ky ?_];let hr:=Xi z y w;let hg:=hr.len;let K:tooLong (z.length+À (occurrences z y 0 z.length 1)*w.length)=false:=by let h1:=xx z y 0 z.length 1;let U:À (occurrences z y 0 z.length 1)*w.length<=1*w.length:=zC _ h1;delta tooLong Â;rwa[dP ()]
 erw[call_gives F.slot_str_replace (mU _ _ _) F.entry_str_replace (F.args_str_replace_4 _ _ _ _) (rB z y w T s1.toks B s2.toks ?_ ?_ g K) ?_];.rw[zA];exact(cI.mpr (jD ()),cI.mpr (jD ()))
 .rwa[cI.mpr (bB k)]
 .cases Y:(occurrences z y 0 z.length 1).isEmpty||y.length==0&&w.length==0;.rw[dh aD];exact(by rw[Na];lia,(.S _,i,(l.tok _).tok _,(_,Ŗ),q _ hr))
  .exact(.S z,i,l.tok _,(_,Ŗ),q _ (.inl Ŗ))
def Qk(c:jz X (binaryOp p) r)(d:PE X a ta)(f:Nf X b tb):Nf X (.BinOp a p b pos) (Zt r ta tb):=by intro P s σ H Q I g h;rwa[Nb (wB g (d _ s σ H _ I h) λv s1 t z=>by let(x,i,j,R,q):=z;rwa[gP (f _ s1 σ i _ j t q) λu s2 z=>by let(y,k,l,m,n):=z;rwa[c _ s2 σ k x y v u Q l R m n]])]
def Qj(c:jz X (binaryOp p) r)(d:Nf X a ta)(f:PE X b tb):Nf X (.BinOp a p b pos) (Zt r ta tb):=by intro P s σ H Q I g h;rwa[Nb (oV (d _ s σ H _ I g h) λv s1 x i j R q=>oV (f _ s1 σ i _ j q) λu s2 y k l m n=>c _ s2 σ k x y v u Q l R m n)]
def WG(h:Nf X e te)(E:cA e):Nf X (.List [e] pos) (RA (Fp te CM)):=by intro p s σ H Q I c d;erw[wpAny_List_spliced (tS E (oV (h _ s σ H _ I c d) λv s1 x f i r (z,q)=>Ky (z,?_)))];erw[(.A _,_,i.laid (λb u e=>aw _ e) (au _) ?_,Ŗ,q _ (i.di.fresh (au _)))];exact(z,[v],0,.cons r .nil,aV _ Ŗ)
def ŝ(l:1<=x.length)(f:PE X b tb):PV X (.BinOp (.Constant (.str x) j p) .Add b pos) λσ H Q=>tb σ H λv g=>∃y:Ã,v=.S y/\x.length+y.length<=Â/\Q (.S (x++y)) g:=by
 intro c s σ H Q n I hn h;erw[Nb (qz (wB (n:=n+1) (by show n+1<=s.toks+1;lia) (f c _ σ H _ (I.tok _) h) λu s2 t2 Y=>?_))];let(Y,d,i,r,y,E,z,q):=Y;subst E;let(t,rfl):=r;erw[PySem.P.add_str ?_];rw[dh (show ¬(x.length==0)=J by simp;lia)]
 cases k:y.length==0 with|t=>
  rw[cG Ŗ];let e:y="":=by let:=kR k;rw[show y=⟨_⟩ from Ŗ,Array.eq_empty_of_size_eq_zero this];rfl
  erw[(x,_,Ŗ,hn,d,i,?_)];rw[e]at q;rwa[q]|f=>let A:(x++y).length=x.length+y.length:=rQ;exact(by rw[A];rwa[z],_,_,Ŗ,(),d,i.tok _,q)
def Dx(X:Cx)(st:Ł È)(t:TS):ß:=∀(p:Ł _)(s:a5)(σ:Ç)(H:Hp)(D:Ò),Inv X p σ H s->1<=s.toks->t D σ H->a6 (a8 X.prog X.w) X.A (execs st X.env) (SP X p D) X.xe s
def QT(c:Nf X e te):Dx X [.Return (O e) pos] (ġ te):=λp s σ H D I d h=>uw (wpAny_Return_some (gP (c _ s σ H _ I d h) λv s2 z=>by let(x,f,i,r,q):=z;exact(x,σ,f,i,r,q)))
def MG{st:È}(d:PS X st t)(g:Dx X r u):Dx X (st::r) (wv t u):=by intro p s σ H D I i h;erw[uw (wB i (d _ s σ H _ I h) λf s1 T q=>?_)];cases f with|next=>let(c,j,k,q):=q;rwa[g _ s1 c j D k T q]|ret v=>rwa[q]|brk=>rwa[q]|cont=>rwa[q]
def abl(g:PT1 X c t)(j:Dx X S u):PS X (.If c S [] pos) (UF t u λD σ H=>D.nx σ H):=by intro p s σ H D I h;erw[wpAny_If (gP (g _ s σ H _ I h) λd s1 k=>?_)];let(k,f,i,q):=k;cases d with|t=>rwa[j _ s1 σ f D i k q]|f=>rwa[iJ (σ,f,i,q)]
def PV.imp(h:PV X e t)(i:∀σ H Q,t' σ H Q->t σ H Q):PV X e t':=λp s σ H Q n I a q=>h _ s σ H Q n I a (i _ _ _ q)
def Dx.imp{st:Ł _}(h:Dx X st t)(i:∀D σ H,t' D σ H->t D σ H):Dx X st t':=λp s σ H D I a q=>h _ s σ H D I a (i _ _ _ q)
end L2
namespace F
open L2
def Zh(y:Ã)(A B:Sm):Sm:=λx σ h Q=>A x σ h λX H=>match X with|[.p (.S z)]=>gd (Í z.length 1000000) (B x σ H λY a=>match Y with|[.p (.S w)]=>gd (!ax y w&&Í w.length 100) (∀r,Le z y w r->Q [.p (.S r)] a)|_=>ŧ)|_=>ŧ
def ags(x:Ã)(B:Sm):Sm:=λX σ h Q=>B X σ h λy H=>match y with|[.p (.S w)]=>gd (jL (x.length+w.length)) (Q [.p (.S (x++w))] H)|_=>ŧ
def aas(g:(!ax y w)):(y==w)=false:=by cases c:y==w with|f=>rfl|t=>
  let:=by simpa using c
  rw[aI.mpr this]at g;cases g
def RG(h:cQ 'X' E (Zh y A B) τ H QV):Zu y (cQ 'X' E A) (cQ 'X' E B) τ H QV:=by
 let(G,M,σ,s,x,Q,k,q):=h;erw[(G,M,σ,s,x,_,(k.rel,k.env,λd g m F v e R i b=>?_,k.exc),q)];split at b
 .ext z a;injection a with a;subst a;let(c,b):=bG b;erw[(z,fq i,ap.mp c,G,m,σ,g,x,_,k.on e R λd2 j l n w o p I f=>?_,b)];split at f;.ext W a;injection a with a;subst a;let(c,f):=bG f;let(C,u):=ag c;exact(W,fq I,aas C,ap.mp u,λr D=>k.out _ j l n _ (e.trans o) p kI (f r D))
  .left
 .left
def RF(h:cQ 'X' E (ags x B) τ H f):cQ 'X' E B τ H λv H1=>∃y:Ã,v=.S y/\x.length+y.length<=Â/\f (.S (x++y)) H1:=by
 let(G,M,σ,s,g,Q,k,q):=h;erw[(G,M,σ,s,g,_,(k.rel,k.env,λd j m l v e r i a=>?_,k.exc),q)];split at a;.ext z b;injection b with b;subst b;let(c,a):=bG a;exact(z,fq i,dO c,k.out _ j m l _ e r kI a)
 .left
structure V1(Γ:Gm)(t:Tb)where
 m:Sm
 ck:Sx->Å->Þ
 pv:∀{k S X E x},si Γ t k S X E->ck S x->cA x/\PV X x (cQ 'X' E m)
section
variable{Γ:Gm}{t:Tb}
def V1.s(z:Ã):V1 Γ t:=(sC (.S z),λ_=>xR _,λo h=>by let(j,p,rfl):=n_ h;exact(Ŗ,PV.imp ϵ λτ H b Z=>by let(G,M,σ,a,x,Q,k,q):=Z;rwa[k.out _ a M H _ Ext.refl k.rel kI q]))
def V1.add(z:Ã)(A:Em Γ t):V1 Γ t:=(_,λS x=>Í 1 _&&RU (λa o b _=>Đ (o=.Add)&&(xR (.S z) a&&A.ck S b)) x,λ{k S X E x}o h=>by let(H,h):=ag h;erw[xo h λa f b p h=>?_];let(c,h):=ag h;let(d,e):=ag h;let(j,P,rfl):=n_ d;rw[aO c];exact(Ŗ,PV.imp (ŝ (ap.mp H) (A.pe o e)) λ_ _ _=>RF))
namespace E1
def Xj(y:Ã)(A:Em Γ t)(B:V1 Γ t):E1 Γ t:=(Zh y A.m B.m,λS=>lG λg s K q=>JL K&&((mD (lc s) λp=>xR _ p.1&&mD (l2 p.2) λr=>B.ck S r.1&&xR (.I 1) r.2)&&Fz (λd m p=>ax m _&&(p.endLine==q.line&&(JW d&&A.ck S d))) g),λ{k S X E x}o h=>by erw[fB h λf s K q h=>?_];let(i,h):=ag h;let(H,h):=ag h;rw[jI i];obtain⟨⟨a,j⟩,l,H⟩:=cC H;rw[vF l];let(G,H):=ag H;obtain⟨⟨b,c⟩,e,H⟩:=cC H;let e:j=_:=EB e;subst e;let(z,C,rfl):=n_ G;let(D,F,rfl):=L0 (ag H).2;let(P,pv):=B.pv o (ag H).1;erw[oH h λd m p h=>?_];let(n,h):=ag h;let(u,h):=ag h;let(v,w):=ag h;rw[aI.mp n];exact(Qu (A.pe o w) pv (so v) (BO (by rw[bC,bC,P];rfl) (by grind)) u P).imp λ_ _ _=>RG)
def kD(p:Bo)(A:Em Γ t)(B:E1 Γ t):E1 Γ t:=(_,λS=>RU λa o b _=>Đ (o=p.op)&&(A.ck S a&&B.ck S b),λ{k S X E x}o h=>by erw[xo h λa f b q h=>?_];let(H,h):=ag h;let(c,d):=ag h;rw[aO H];let(r,R,e):=p.ok t X;exact(Qk R (A.pe o c) (B.pe o d)).imp λ_ _ _=>qV e)
def Tt(p:Bo)(A:E1 Γ t)(B:Em Γ t):E1 Γ t:=(_,λS=>RU λa o b _=>Đ (o=p.op)&&(A.ck S a&&B.ck S b),λ{k S X E x}o h=>by erw[xo h λa f b q h=>?_];let(H,h):=ag h;let(c,d):=ag h;rw[aO H];let(r,R,e):=p.ok t X;exact(Qj R (A.pe o c) (B.pe o d)).imp λ_ _ _=>qV e)
def V4(A:E1 Γ t):E1 Γ t:=(sN _ (qU A.m CB),λS=>tp λs _=>mD (l1 s) _,λ{k S X E x}o h=>by erw[xq h λs p h=>?_];let(x,e,h):=cC h;rw[fJ e];erw[(WG (A.pe o (ag h).2) (ag h).1).imp λτ H l h=>?_];let(G,M,σ,a,c,Q,k,q):=KJ h;erw[(G,M,σ,a,c,_,(k.rel,k.env,λd b f g v e r i j=>?_,k.exc),q)];rwa[k.out [d] b f g [v] e r (i,Ť) j])
end E1
structure Yq(Γ:Gm)(t:Tb)where
 m:Ss
 ck:Sx->Ł È->Þ
 ps:∀{k S X E st},ā Γ t k S X E->ck S st->Dx X st (gK 'X' E m)
def Yq.ret(A:E1 Γ t):Yq Γ t:=(Xr A.m,λS l=>mD (l1 l) (rz λe _=>mD e (A.ck S)),λ{k S X E st}o h=>by let(s,e,h):=cC h;rw[fJ e];erw[KU h λe p h=>?_];let(d,rfl,h):=cC h;exact(QT (A.pe o.x h)).imp λD τ H z=>by let(G,M,σ,h,N,k,q):=z;exact(G,M,σ,h,_,_,(k.rel,k.env,λd a b c v e r i q=>k.rt d a b c v e r i q,k.exc),q))
def Yq.seq(A:Mm Γ t)(B:Yq Γ t):Yq Γ t:=(_,λS l=>mD (lc l) λp=>A.ck S p.1&&B.ck S p.2,λo h=>by obtain⟨⟨a,r⟩,e,h⟩:=cC h;rw[vF e];exact(MG (A.ps o (ag h).1) (B.ps o (ag h).2)).imp λ_ _ _=>Rl)
def Mm.if1(A:Em Γ t)(i:Î)(B:Yq Γ t):Mm Γ t:=(oe (s2 pS A.m (sC (.I i))) B.m lv,λS=>oD λc a b _=>fy S .Eq A (.c (.I i)) c&&(zP b&&B.ck S a),λ{k S X E st}o h=>by erw[KS h λL a b q h=>?_];let(n,h):=ag h;let(p,h):=ag h;rw[jH p];erw[xO n λx y r P s u=>?_];let(j,T,rfl):=L0 u;let(U,v,w):=jA.ok t X o.x.hu;erw[(abl (PT1.imp (Xc v (A.pe o.x s) (tb:=cQ _ E (sC _)) λτ H W z=>by let(G,M,σ,C,Y,Q,k,q):=z;rwa[k.out _ C M H _ Ext.refl k.rel e9 q]) λ_ _ _ h=>qV w (Fu h)) (B.ps o h)).imp λD τ H (G,M,σ,h,N,k,q)=>?_];erw[(G,M,σ,h,_,_,(k.rel,k.env,λd g l F e R f=>?_,k.exc),q)];let(b,K,f):=Mf f;erw[(b,K,?_)];cases b with|t=>exact(G,l,σ,g,N,k.go e R (k.env.ext k.rel e),f)|f=>rwa[k.nx σ g l F τ e R (k.env.ext k.rel e) f])
end
end F
namespace W2
open L2 F
def top(i:Ń):È:=PySem.Challenge.pw_retrace_k12_whole_other_texts.main.body.getD i (.Pass (0,0,0,0))
nonrec def Q_:Ł String:=["has_word","value_kinds","row_kinds","parts_within","rows_of","add_rows","is_name","is_whole","is_number","is_value","is_value_within","is_part","program_of","check_variables","check_functions","check_rows","is_tuple_of","is_pair","is_box","is_list","is_function","names_of","own_names","are_unlike","are_rows","is_row","is_row_part","head_kinds","_law_cell_at","_law_state","_law_next","_law_value_words","_law_line_words","_law_some_lines","_law_whole_lines","_law_figures","read","word_rows","words_in","read_numbers","number_of","read_value","opened_value","read_word","read_part","read_box","read_list","read_def","read_own","read_else","read_catch","read_end","read_row","read_line","enter","innermost","rows_to_fill","_law_value_from","_law_row_from","_law_values_from","_law_body","_law_block","_law_split","_law_heads","_law_parts","_law_made","_law_read","_law_line","_law_moved","_law_near","_law_changed","_law_class","law"]
def aj0:ϐ:=["MOST_LETTERS","GREATEST","DEEPEST","NO_ROW","MOST_BOXES","MOST_LISTS","MOST_THINGS","MOST_FUNCTIONS","MOST_NAMES","DEEPEST_ROW","MOST_NUMBERS","MOST_FIGURES","BOXES","LISTS","FUNCTIONS","ROWS"]
def gls:ϑ:=[.I 6,.I 999999,.I 4,.I (-1),.I 6,.I 3,.I 12,.I 4,.I 3,.I 5,.I 60,.I 6,.I 0,.I 1,.I 2,.I 3]
def amo:Ń->Ã|0=>"VALUE_FORMS"|1=>"ROW_FORMS"|_=>"LINES"
def ϗ:Ń->Ã|0=>"NoProgram"|1=>"NoRow"|2=>"TooLong"|3=>"Scope"|4=>"NoText"|5=>"Words"|6=>"Reader"|600=>"take"|601=>"are_left"|_=>"take_all"
def Z9:ϐ:=["len","isinstance","all","zip","range","list","tuple","str","int","bool","set","dict","max","min"]
nonrec def hI{α:Type}(l:Ł α)(d:α)(i:Ń):α:=l.getD i d
def S0:Sx:=([],aU (.Pass (0,0,0,0)),λi=>ú (hI Q_ "" i),hI aj0 "",amo,ϗ,λc=>match c with|3=>["boxes","lists","param_counts","may_return"]|5=>["words","place"]|6=>["section","boxes","lists","functions","rows","opened"]|_=>[],Z9,[3,5,6],[0,1,2,4],J)
def lk{α:Type}(x:Ã):Ł (Ã×α)->Ő α|[]=>aa|(k,v)::r=>match ax x k with|J=>O v|af=>lk x r
def gN:Ł (Ã×ϐ):=[("number",["number"]),("box",["box"]),("plus",["value","value"]),("minus",["value","value"]),("times",["value","value"]),("over",["value","value"]),("rest",["value","value"]),("less",["value","value"]),("same",["value","value"]),("not",["value"]),("item",["list","value"]),("size",["list"])]
def eI:Ł (Ã×ϐ):=[("set",["box","value"]),("push",["list","value"]),("pop",["box","list"]),("put",["list","value","value"]),("ask",["box","door"]),("tell",["value"]),("if",["value","rows","rows"]),("while",["value","rows"]),("try",["rows","box","rows"]),("fail",["value"]),("call",["box","function","values"]),("return",["value"])]
def EG:Ł (Ã×Ń):=[("box",45),("list",46),("def",47),("own",48),("else",49),("catch",50),("end",51)]
def amm:Ń->Ã->Ő ϐ|0,x=>lk x gN|1,x=>lk x eI|_,x=>(lk x EG).map λn=>Ó n ""
abbrev jC(h:Hs)(k:Ń->Hs->ß):ß:=match h with|.I c []::r=>k c r|_=>ŧ
@[elab_as_elim]def ϴ{G:Hs->ß}(c:jC h k)(g:∀i r,k i r->G (.I i []::r)):G h:=by
 rcases h with _|⟨x,_⟩;.rwa[c.elim]
 .cases x with
  |I j X=>cases X<;>first|rwa[g _ _ c]|rwa[c.elim]
  |_=>rwa[c.elim]
def pJ:Pv->Þ|.S z=>! Đ (z.cps.toList<("0":Ã).cps.toList)&&! Đ (("9":Ã).cps.toList<z.cps.toList)|_=>af
def gI(z:Ã):Þ:=!(iQ 6 z.length||!(lE z).all pJ)&&!(ð z "0"&&!ax z "0")
def gW:Pv->Þ|.S z=>Í z.length 1000000&&(!gI z||(Ú z).isSome)|_=>af
def Wo(ws:ϑ)(k:Ń):Ob:=.I 5 [.p (.L ws),.p (.I k)]
inductive Wr(r:ϑ):Ob->ß|mk(ws:ϑ)(k:Ń)(hk:k<=À ws)(hr:ws.drop k=r)(hs:jL (À ws))(hg:ws.all gW):Wr r (Wo ws k)
inductive þ(f:ϑ->Ő (Pv×ϑ)):Ct|ok{w:Ń}{h:Hs}{Q:Dv->Hs->ß}{xc:XP}(o:Ob)(r r':ϑ)(x:Pv)(hw:h[w]?=O o)(wr:Wr r o)(e:f r=O (x,r'))(q:∀o',Wr r' o'->Q (.p x) (h.set w o')):þ f [.r w] h Q xc|no{w:Ń}{h:Hs}{Q:Dv->Hs->ß}{xc:XP}(o:Ob)(r:ϑ)(hw:h[w]?=O o)(wr:Wr r o)(e:f r=aa)(q:xc 4 h):þ f [.r w] h Q xc
def aed:ϑ->Ő (Pv×ϑ)|[]=>aa|x::r=>O (x,r)
inductive Ď:Ct|mk{w:Ń}{h:Hs}{Q:Dv->Hs->ß}{xc:XP}(o:Ob)(r:ϑ)(hw:h[w]?=O o)(wr:Wr r o)(q:Q (.p (.B !r.isEmpty)) h):Ď [.r w] h Q xc
def aeb(r:ϑ):Ő (Pv×ϑ):=O (.L r,[])
inductive h_:Ct|mk{i:Ń}{ws:ϑ}{h:Hs}{Q:Dv->Hs->ß}{xc:XP}(hi:h[i]?=O (.I 5 []))(q:Q (.p .N) (h.set i (Wo ws 0))):h_ [.r i,.p (.L ws)] h Q xc
inductive į:Ct|mk{i:Ń}{h:Hs}{Q:Dv->Hs->ß}{xc:XP}(hi:h[i]?=O (.I 6 []))(q:Q (.p .N) (h.set i (.I 6 [.p (.I 0),.r (À h),.r (À h+1),.r (À h+2),.r (À h+3),.r (À h+4)])++[.L [],.L [],.L [],.L [],.D []])):į [.r i] h Q xc
def ş:Ń->Ct|3=>λds h Q _=>rC ds λi r=>pC r λa r=>pC r λb r=>pC r λc r=>pC r λd r=>nC r (jC h λj g=>nC g (gd (Ë i 0&&Ë j 3) (Q (.p .N) [.I 3 [.p a,.p b,.p c,.p d]])))|5=>h_|6=>į|600=>þ aed|601=>Ď|_=>þ aeb
def Lx(c:Ń->Á):Lw:=(S0,c,hI gls .N,[0,1,2,3,4,5,6,7,8,9,10,11,12,13,14,15],amm,[0,1,100],ş)
mutual
def qh:Pv->Þ|.T xs=>mZ xs|.L xs=>mZ xs|.dct ks us=>mZ ks&&mZ us|.scr _=>af|.obj _ _=>af|.fn _=>af|.ty _=>af|_=>J
def mZ:ϑ->Þ|[]=>J|x::r=>qh x&&mZ r
end
mutual
def fC:Pv->Ń|.T xs=>1+bS xs|.L xs=>1+bS xs|.dct ks us=>1+bS ks+bS us|.S z=>1+z.length|_=>1def bS:ϑ->Ń|[]=>0|x::r=>fC x+bS r
end
def zp:Ń:=1000000
def dz(x:Pv):Þ:=qh x&&Í (fC x) zp
abbrev rY(f:Pv->Þ):Ct:=Dd dz λx=>.B (f x)
@[elab_as_elim]def D2{P:Pv->ß}(h:dz x)(g:P .N)(l:∀b,P (.B b))(int:∀i,P (.I i))(str:∀z,dz (.S z)=J->P (.S z))(tup:∀xs,dz (.T xs)=J->P (.T xs))(lst:∀xs,dz (.L xs)=J->P (.L xs))(dct:∀ks us,dz (.dct ks us)=J->P (.dct ks us)):P x:=by cases x with|N=>done|B b=>rwa[l b]|I b=>rwa[int b]|S b=>rwa[str b h]|T b=>rwa[tup b h]|L b=>rwa[lst b h]|dct a b=>rwa[dct a b h]|_=>rwa[FQ h]
def mh:∀x:Pv,1<=fC x|.N=>au _|.B _=>au _|.I _=>au _|.S _=>fi _ _|.T _=>fi _ _|.L _=>fi _ _|.dct _ _=>by show 1<=1+_+_;lia|.scr _=>au _|.obj _ _=>au _|.fn _=>au _|.ty _=>au _
theorem Og:∀{xs:ϑ}{x:Pv},mZ xs=J->x∈xs->qh x/\fC x<=bS xs
 |[],_,_,h=>by grind|y::r,x,h,H=>by
  let(b,a):=ag h;show _/\_<=fC y+bS r;rcases aJ.mp H with z|z;.lia
  .let:=Og a z;exact(this.1,())
def fM(h:dz (.T xs))(H:x∈xs):dz x=true:=by let(a,b):=ag h;let(c,d):=Og a H;let:fC (.T xs)=1+bS xs:=Ŗ;let:=ap.mp b;delta dz;rw[c,ap.mpr (show fC x<=zp by lia)];rfl
def mH(h:n<=zp):jL n=true:=dI (ay h ∅)
def H_(h:dz (.S z)):z.length<=zp:=by let:fC (.S z)=1+z.length:=Ŗ;let:=ap.mp (ag h).2;lia
def AB(h:dz (.T (a::r))):dz a=true:=fM h ao
def BW:Pv->Þ|.T (.S _::_)=>J|_=>af
abbrev Gf(l:Ł (Ã×ϐ)):Ct:=kt dC λx K=>eZ (lk (dN x) l) (λk=>K (pd k)) (K .N)
structure Sg(K:Æ)(mg:b1):ß where s14:Src K mg "has_word" (top 14) ["thing"]s15:Src K mg "value_kinds" (top 15) ["word"]s16:Src K mg "row_kinds" (top 16) ["word"]s17:Src K mg "parts_within" (top 18) ["row"]s20:Src K mg "rows_of" (top 21) ["program"]s21:Src K mg "add_rows" (top 22) ["triples","rows","around"]s26:Src K mg "is_name" (top 27) ["thing"]s27:Src K mg "is_whole" (top 28) ["thing","least","most"]s28:Src K mg "is_number" (top 29) ["thing"]s29:Src K mg "is_value" (top 30) ["thing","boxes","lists"]s30:Src K mg "is_value_within" (top 31) ["thing","boxes","lists","depth"]s31:Src K mg "is_part" (top 32) ["kind","part","boxes","lists","depth"]s41:Src K mg "program_of" (top 42) ["boxes","lists","functions","rows"]s42:Src K mg "check_variables" (top 43) ["boxes","lists"]s43:Src K mg "check_functions" (top 44) ["functions","taken"]s44:Src K mg "check_rows" (top 45) ["program"]s45:Src K mg "is_tuple_of" (top 46) ["thing","most","is_one"]s46:Src K mg "is_pair" (top 47) ["thing"]s47:Src K mg "is_box" (top 48) ["thing"]s48:Src K mg "is_list" (top 49) ["thing"]s49:Src K mg "is_function" (top 50) ["thing"]s50:Src K mg "names_of" (top 51) ["things"]s51:Src K mg "own_names" (top 52) ["function"]s52:Src K mg "are_unlike" (top 53) ["names"]s53:Src K mg "are_rows" (top 54) ["rows","scope","depth"]s54:Src K mg "is_row" (top 55) ["row","scope","depth"]s55:Src K mg "is_row_part" (top 56) ["kind","part","scope","depth"]E7:Src K mg "head_kinds" (top 17) ["word"]zU:Src K mg "_law_cell_at" (top 88) ["_law_script","_law_k"]E6:Src K mg "_law_state" (top 89) ["_law_cell","_law_k"]HM:Src K mg "_law_next" (top 90) ["_law_state_here","_law_size"]me:Src K mg "_law_value_words" (top 91) ["_law_state_here","_law_deep"]u9:Src K mg "_law_line_words" (top 92) ["_law_state_here","_law_inside"]ny:Src K mg "_law_some_lines" (top 93) ["_law_state_here","_law_deep","_law_inside"]tK:Src K mg "_law_whole_lines" (top 94) ["_law_state_here"]zW:Src K mg "_law_figures" (top 95) ["_law_word"]af6:Src K mg "read" (top 65) ["text"]HX:Src K mg "word_rows" (top 66) ["text"]MN:Src K mg "words_in" (top 67) ["line"]zY:Src K mg "read_numbers" (top 68) ["words"]HQ:Src K mg "number_of" (top 69) ["word"]E9:Src K mg "read_value" (top 70) ["words"]zX:Src K mg "opened_value" (top 71) ["words"]HW:Src K mg "read_word" (top 72) ["kind","words"]HV:Src K mg "read_part" (top 73) ["kind","words"]MH:Src K mg "read_box" (top 74) ["reader","words"]HU:Src K mg "read_list" (top 75) ["reader","words"]MJ:Src K mg "read_def" (top 76) ["reader","words"]ML:Src K mg "read_own" (top 77) ["reader","words"]HR:Src K mg "read_else" (top 78) ["reader","words"]E8:Src K mg "read_catch" (top 79) ["reader","words"]MK:Src K mg "read_end" (top 80) ["reader","words"]MM:Src K mg "read_row" (top 81) ["reader","word","words"]HS:Src K mg "read_line" (top 83) ["reader","words"]abt:Src K mg "enter" (top 84) ["reader","section"]HP:Src K mg "innermost" (top 85) ["reader","word","length"]zZ:Src K mg "rows_to_fill" (top 86) ["reader"]nz:Src K mg "_law_value_from" (top 96) ["_law_words"]yH:Src K mg "_law_row_from" (top 97) ["_law_words"]tJ:Src K mg "_law_values_from" (top 98) ["_law_words"]HH:Src K mg "_law_body" (top 99) ["_law_rows","_law_ends"]vQ:Src K mg "_law_block" (top 100) ["_law_row","_law_rows"]E5:Src K mg "_law_split" (top 101) ["_law_text"]E2:Src K mg "_law_heads" (top 102) ["_law_rows","_law_word"]E4:Src K mg "_law_parts" (top 103) ["_law_text"]HK:Src K mg "_law_made" (top 105) ["_law_parts_here"]HN:Src K mg "_law_read" (top 106) ["_law_text"]HI:Src K mg "_law_line" (top 107) ["_law_state_here"]E3:Src K mg "_law_moved" (top 108) ["_law_lines","_law_state_here"]HL:Src K mg "_law_near" (top 109) ["_law_lines","_law_kind","_law_state_here"]zV:Src K mg "_law_changed" (top 110) ["_law_text","_law_state_here"]EZ:Src K mg "_law_class" (top 104) ["_law_e"]
abbrev LX(c:Ń->Á)(W:Wd):ß:=Lk (Lx c) W
abbrev DX(c:Ń->Á)(W:Wd)(i k:Ń)(C:Ct):ß:=Dt (Lx c) W i k C
abbrev SX(W:Wd):ß:=Sg W.K W.mg
nonrec def nfQ:Lean.Syntax:=Lean.Unhygienic.run do let i:=("Am.cons Am.nil Am.u Am.u2 Am.u3 Am.u4 Am.u5 Bm.a1 Bm.ac Bm.o1 Bm.oc Em.b2 Em.bi Em.bo Em.c Em.ch Em.cl Em.clf Em.clv Em.sG Em.cmp Em.comp Em.N0 Em.Je Em.Gp Em.din Em.dix Em.dsp Em.upd Dm.cons Dm.nil _root_.F.Tm.din Em.f Em.fld Em.g Em.i Em.ife Em.ix Em.afa Em.lsd Em.FP Em.lst Em.m0 Em.mt Em.AO Em.neg Em.new Em.nw Em.nw0 Em.s Em.sl Em.tg Em.ti Em.tup Em.ty Em.v Fm.no Fm.one Jg.l Jg.p Jm.c Jm.r Jm.s Jm.z Mm.ct Mm.ex Mm.ad4 Mm.fo Mm.foG Mm.rn Mm.iff Mm.put Mm.raise Mm.ret Mm.set Mm.setC Mm.setG Mm.unp Mm.whG Mm.whT Ms.cut Ms.nil Ms.one Ms.re Ms.seq Pm.no Pm.of _root_.F.Tm.bo _root_.F.Tm.cmp _root_.F.Tm.AH _root_.F.Tm.not _root_.F.Tm.tin _root_.F.Tm.val Wm.a1 Wm.ac Wm.o1 Wm.oc Em.ofV E1.Xj E1.kD E1.Tt E1.V4 V1.s V1.add Yq.ret Yq.seq Mm.if1 Lw.G Lw.g Lx Oq".splitOn " ").toArray.map fun s=>Lean.mkIdent s.toName;`(tacticSeq|dsimp only[$[$i:term],*])
def jh{C:Ń->Á}{l:Ł _}{k:Ϙ}{M:Ss}(b:Ms ((Lx C).G l k) (Lx C).t)(h:ø (b.m=M) nfQ):b.m=M:=h
def _root_.F.Lk.e{c:Ń->Á}{W:Wd}{i k:Ń}{C:Ct}{st:È}{ps:ϐ}{M:Ss}(n:Ń)(z:Þ)(l:Ł _)(H:Ϙ)(B:Lk (Lx c) W)(b:Ms ((Lx c).G l H) (Lx c).t)(s:Src W.K W.mg ((Lx c).S.hW i) st ps)(a:(Ë (À (Nn (aU st))) n&&(Ov (Nn (aU st)) ps (aU st)&&b.ck ((Lx c).S.at (Nn (aU st)) (aU st) J) (cB st)))=J)(f:All (Lx c) W (k+1) l)(d:FH (Lx c) W k H)(g:∀ds h Q x,C ds h Q x->À ds=À ps/\M (hU z (À h) Q x) (pY n ds) h)(j:autoParam (b.m=M) õ):DX c W i (k+2) C:=by subst j;rwa[B.e0 n z l H b s a f d g]
theorem _root_.F.Lk.vC{C:Ń->Á}{W:Wd}{c k:Ń}{st:È}{q:Ã}{M:Ss}(N ps:ϐ)(z:Þ)(l:Ł _)(H:Ϙ)(B:Lk (Lx C) W)(b:Ms ((Lx C).G l H) (Lx C).t)(s:uA W.K ((Lx C).ca c) q st ps)(x:W.mg ((Lx C).S.Lu c)=O (.ref ((Lx C).ca c)))(a:(!Nat.ble 100 c&&(Ov N ps (aU st)&&b.ck ((Lx C).S.at N (aU st) af) (cB st)))=J)(f:All (Lx C) W (k+1) l)(i:FH (Lx C) W k H)(d:∀ds h Q X,(Lx C).vC c ds h Q X->À ds=À ps/\M (hU z (À h) Q λ_ _=>ŧ) (pY (À N) ds) h)(e:autoParam (b.m=M) õ):Di (Lx C) W c (k+2):=by subst e;rwa[B.akX N ps z l H b s x a f i d]
def _root_.F.Lk.AO{C:Ń->Á}{W:Wd}{c k:Ń}{st:È}{q:Ã}{ps:ϐ}{M:Ss}(n:Ń)(z:Þ)(l:Ł _)(H:Ϙ)(B:Lk (Lx C) W)(b:Ms ((Lx C).G l H) (Lx C).t)(s:uB W.K ((Lx C).ca (c/100-1)) ((Lx C).S.Lu c) q st ps)(a:(Í 100 c&&(Ë (À (Nn (aU st))) n&&(Ov (Nn (aU st)) ps (aU st)&&b.ck ((Lx C).S.at (Nn (aU st)) (aU st) J) (cB st))))=J)(f:All (Lx C) W (k+1) l)(i:FH (Lx C) W k H)(d:∀ds h Q x,(Lx C).vC c ds h Q x->À ds=À ps/\M (hU z (À h) Q x) (pY n ds) h)(e:autoParam (b.m=M) õ):Di (Lx C) W c (k+2):=by subst e;rwa[B.alg n z l H b s a f i d]
def _root_.F.Lk.eN{c:Ń->Á}{W:Wd}{i k:Ń}{C:Ct}{st:È}{ps:ϐ}{M:Ss}(N:ϐ)(z:Þ)(l:Ł _)(H:Ϙ)(B:Lk (Lx c) W)(b:Ms ((Lx c).G l H) (Lx c).t)(s:Src W.K W.mg ((Lx c).S.hW i) st ps)(a:(Ov N ps (aU st)&&b.ck ((Lx c).S.at N (aU st) J) (cB st))=J)(f:All (Lx c) W (k+1) l)(d:FH (Lx c) W k H)(e:∀ds h Q x,C ds h Q x->À ds=À ps/\M (hU z (À h) Q x) (pY (À N) ds) h)(g:autoParam (b.m=M) õ):DX c W i (k+2) C:=by subst g;rwa[B.eN0 N z l H b s a f d e]
section
variable{ca:Ń->Á}{W:Wd}
def xW(B:LX ca W)(S:SX W):DX ca W 0 2 (rY BW):=by erw[B.e 1 _ [] [] (.re (.bo (Bm.ac (.bi uK (.u2 0 (.ty 3))) (Bm.ac (.cmp IU (.bi d8 (.u 0)) (.i 0)) (Bm.a1 (.bi uK (.u2 (.ix 0 (.i 0)) (.ty 0)))))))) S.s14 rfl Ť Ť (zw λx Q c h=>?_)];erw[D2 h id (λ_=>id) (λ_=>id) (λ_ _=>id) (λX h=>?_) (λ_ _=>id) λ_ _ _=>id];cases X with|i=>rwa[id]|k a r=>rwa[D2 (AB h) id (λ_=>id) (λ_=>id) (λ_ _=>id) (λ_ _=>id) (λ_ _=>id) λ_ _ _=>id]
def mq(B:LX ca W)(S:SX W):DX ca W 1 2 (Gf gN):=by erw[B.e 1 _ [] [] (.re (.tg 0 0)) S.s15 rfl Ť Ť (zw λx Q X h q=>?_)];revert q;rwa[tY h λw q=>q]
def vo(B:LX ca W)(S:SX W):DX ca W 2 2 (Gf eI):=by erw[B.e 1 _ [] [] (.re (.tg 1 0)) S.s16 rfl Ť Ť (zw λx Q X h q=>?_)];revert q;rwa[tY h λw q=>q]
def ϡ:Pv->Þ|.S z=>! Đ (z.cps.toList<("a":Ã).cps.toList)&&! Đ (("z":Ã).cps.toList<z.cps.toList)|_=>af
def gF:Pv->Þ|.S z=>Í 1 z.length&&(Í z.length 6&&(lE z).all ϡ)|_=>af
def qW(a b:Î):Pv->Þ|.I i=>ED a i&&ED i b|_=>af
def vD:Pv->Þ:=qW 0 999999
abbrev NU:Ct:=iw (λx a b=>dz x&&(isInt a&&isInt b)) λx a b=>.B (qW (Vi a) (Vi b) x)
def J2(f:Pv->Þ)(bs ls:ϑ)(k:Ã)(p:Pv):Þ:=match ax k "number"with|J=>vD p|af=>match ax k "box"with|J=>gF p&&uQ p bs|af=>match ax k "list"with|J=>gF p&&uQ p ls|af=>f p
def ϙ(f:Pv->Þ)(bs ls:ϑ):Pv->Þ|.T [k,p]=>J2 f bs ls (dN k) p|_=>af
def K4(f:Pv->Þ)(bs ls:ϑ)(r:ϑ):Ő ϐ->Þ|O k=>lH (À r+1:Ń) (1+À (k.map Pv.S))&&(qL (k.map .S) r).all (ϙ f bs ls)|aa=>af
def val:Ń->ϑ->ϑ->Pv->Þ|0,_,_,_=>af|n+1,bs,l,.T (.S w::r)=>K4 (val n bs l) bs l r (lk w gN)|_+1,_,_,_=>af
abbrev Yw(n:Ń):Ct:=ό (λk p b l d=>dC k&&(dz p&&(BQ b&&(BQ l&&fg n d)))) λk p b l d=>.B (J2 (val n (uW b) (uW l)) (uW b) (uW l) (dN k) p)
abbrev qe(n:Ń):Ct:=zi (λx b l d=>dz x&&(BQ b&&(BQ l&&fg n d))) λx b l d=>.B (val n (uW b) (uW l) x)
abbrev Bt:Ct:=iw (λx b l=>dz x&&(BQ b&&BQ l)) λx b l=>.B (val 4 (uW b) (uW l) x)
def JS(h:gF p):sU p=true:=by cases p<;>first|rfl|cases h
def kU(B:LX ca W)(S:SX W):DX ca W 6 2 (rY gF):=by erw[B.e 1 _ [] [] (.iff (.not (.val (.bi uK (.u2 0 (.ty 0))))) (.re (.c (.B af))) .nil<|>.re (.bo (Bm.ac (.ch Sz Sz (.i 1) (.bi d8 (.u 0)) (.g 0)) (Bm.a1 (.bi LK (.u (.comp 1 [] (.one 0) (.c 0) .no (.ch Sz Sz (.s "a") 0 (.s "z"))))))))) S.s26 rfl Ť Ť (zw λx Q X H=>?_)];erw[D2 H id (λ_=>id) (λ_=>id) (λz H q=>?_) (λ_ _=>id) (λ_ _=>id) λ_ _ _=>id];let hz:=mH (H_ H);erw[aB hz (mm q λ_ q=>mm q λ_ q=>aB hz ?_)];erw[iY _ Ŗ (λy a=>?_) (uD q)];let(c,_,rfl):=bf.mp a;rwa[λR q=>mm (Q:=λd h=>R [d] h) q λ_ q=>q]
def Gx(B:LX ca W)(S:SX W):DX ca W 7 2 NU:=by erw[B.e 3 _ [] [] (.iff (.bo (Wm.oc (.val (.bi uK (.u2 0 (.ty 2)))) (Wm.o1 (.not (.val (.bi uK (.u2 0 (.ty 1)))))))) (.re (.c (.B af))) .nil<|>.re (.ch Sz Sz 1 0 2)) S.s27 rfl Ť Ť (jw λx a b Q X h=>?_)];let(H,d,f):=lT h;rwa[OR d λa=>OR f λb=>D2 H id (λ_=>id) (λi q=>mm q λ_ q=>q) (λ_ _=>id) (λ_ _=>id) (λ_ _=>id) λ_ _ _=>id]
def l0(B:LX ca W)(S:SX W):DX ca W 8 3 (rY vD):=by rwa[B.e 1 _ [(7,NU)] [] (.re (.cl 7 [] (.u3 0 (.i 0) (.g 1)))) S.s28 rfl (Gx B S,Ť) Ť (zw λx Q X h q=>aB (by show(dz x&&J)=J;rw[h];rfl) q)]
def LC(B:LX ca W)(S:SX W)(n:Ń)(D:DX ca W 10 (2*n+3) (qe n)):DX ca W 11 (2*n+4) (Yw n):=by erw[B.e (k:=2*n+2) 5 J [(8,rY vD),(6,rY gF),(10,qe n)] [] (.iff (.cmp jA 0 (.s "number")) (.re (.cl 8 [] (.u 1))) .nil<|>.iff (.cmp jA 0 (.s "box")) (.re (.bo (Bm.ac (.cl 6 [] (.u 1)) (Bm.a1 (.cmp TN 1 2))))) .nil<|>.iff (.cmp jA 0 (.s "list")) (.re (.bo (Bm.ac (.cl 6 [] (.u 1)) (Bm.a1 (.cmp TN 1 3))))) .nil<|>.re (.cl 10 [] (.u4 1 2 3 4))) S.s31 rfl ((l0 B S).le (),(kU B S).le (),D.le (),Ť) Ť (Ź λk p b l d Q x f=>?_)];let(g,h,H,a,i):=ž f;rwa[tY g λk=>UR H λb H=>UR a λl a=>G9 i λq=>sD q (λ_ q=>aB h q) λ_ q=>sD q (λ_ q=>aB h (mm q λc q=>aB (by rw[JS c];rwa[H]) q)) λ_ q=>sD q (λ_ q=>aB h (mm q λc q=>aB (by rw[JS c];rwa[a]) q)) λ_ q=>aB (by show(dz p&&(fT b&&(fT l&&lH n n)))=J;rw[h,H,a,dm.mpr Ŗ];rfl) q]
def Tw:Ń->Ct|0=>SA|n+1=>Yw n
def Ay(B:LX ca W)(S:SX W)(n:Ń)(D:DX ca W 11 (2*n+2) (Tw n)):DX ca W 10 (2*n+3) (qe n):=by erw[B.e (k:=2*n+1) 5 J [(0,rY BW),(1,Gf gN),(11,Tw n)] [] (.iff (.bo (Wm.oc (.cmp jA 3 (.i 0)) (Wm.o1 (.not (.val (.cl 0 [] (.u 0))))))) (.re (.c (.B af))) .nil<|>.set 4 (.cl 1 [] (.u (.ix 0 (.i 0))))<|>.iff (.bo (Wm.oc (.AH af 4) (Wm.o1 (.cmp zu (.bi d8 (.u 0)) (.b2 cm (.i 1) (.bi d8 (.u 4))))))) (.re (.c (.B af))) .nil<|>.re (.bi LK (.u (.comp 2 [1,2,3] (.many [0,1]) (.z (.u2 4 (.sl 0 (.of (.i 1)) .no))) .no (.cl 11 [] (.u5 0 1 2 3 (.b2 DE 4 (.i 1)))))))) S.s30 rfl ((xW B S).le (),(mq B S).le (),D,Ť) Ť (py λx b l d Q s H=>?_)];let(h,f,g,j):=oZ H;cases n with|z=>rwa[G9 j λq=>q]|v n=>erw[UR f λb f=>UR g λl g=>G9 j λq=>aB h ?_];revert q;erw[D2 h id (λ_=>id) (λ_=>id) (λ_ _=>id) (λX h=>?_) (λ_ _=>id) λ_ _ _=>id];cases X with|i=>rwa[id]|k a r=>
   erw[D2 (AB h) id (λ_=>id) (λ_=>id) (λw _=>?_) (λ_ _=>id) (λ_ _=>id) λ_ _ _=>id];erw[λq=>Cj (λK e=>?_) λe=>?_];.let q:Q (.p (.B (K4 (val n b l) b l r (O K)))) []:=e▸q;erw[pA q λ_ q=>?_];erw[iY _ Ŗ (λy m=>?_) (uD q)];rotate_left;let(k,p,o,H,rfl):=xu m;let(k,_,rfl):=bf.mp o;rwa[λR q=>aB (by show(dz p&&(fT b&&(fT l&&lH (n+1-1) n)))=J;rw[fM h (ak _ H),f,g,dm.mpr ()];rfl) q]
   .let q:Q (.p (.B (K4 (val n b l) b l r aa))) []:=e▸q;rwa[q]
theorem D0(B:LX ca W)(S:SX W):∀n,DX ca W 10 (2*n+3) (qe n)|0=>Ay B S 0 (Dt.no S.s31)|n+1=>Ay B S _ (LC B S n (D0 B S n))
def Gw(B:LX ca W)(S:SX W)(D:DX ca W 10 11 (qe 4)):DX ca W 9 12 Bt:=by rwa[B.e 3 _ [(10,qe 4)] [] (.re (.cl 10 [] (.u4 0 1 2 (.g 2)))) S.s29 rfl (D,Ť) Ť (jw λx b l Q X h q=>aB (by let(H,h):=ag h;let(a,c):=ag h;show(dz x&&(BQ b&&(BQ l&&J)))=J;rw[H,a,c];rfl) q)]
def hB:Ł (Ń×(Pv->Þ))->Ń->Pv->Þ|[],_=>λ_=>af|(j,g)::r,i=>match Ë i j with|J=>g|af=>hB r i
def YH(l:Ł (Ń×(Pv->Þ))):Pv->Þ|.fn j=>jX j (l.map (·.1))|_=>af
def ϩ(l:Ł (Ń×(Pv->Þ))):Pv->Pv->Þ|.fn j=>hB l j|_=>λ_=>af
@[elab_as_elim]def Ϟ{P:Pv->ß}(h:YH l a)(k:∀j,jX j (l.map (·.1))=J->P (.fn j)):P a:=by cases a<;>first|rwa[k _ h]|cases h
def g5(l:Ł (Ń×(Pv->Þ))):Ł (Ń×Ct):=l.map λp=>(p.1,rY p.2)
def Uc:(g5 l).map (·.1)=l.map (·.1):=by delta g5;rw[cq];rfl
theorem NW:∀{l:Ł _}{j:Ń},jX j (l.map (·.1))=J->Oq (g5 l) j=rY (hB l j)|[],j,h=>by cases h|(i,g)::r,j,h=>by show(match Ë j i with|J=>rY g|af=>Oq (g5 r) j)=rY (match Ë j i with|J=>g|af=>hB r j);let h:(Ë j i||jX j _)=true:=h;cases e:Ë j i with|t=>rfl|f=>rw[e]at h;rwa[NW h]
def _root_.F.Lk.eT{L:Lw}{W:Wd}{i k:Ń}{C:Ct}{st:È}(N ps:ϐ)(z:Þ)(l:Ł _)(B:Lk L W)(b:Ms (L.g (λi=>rY (hB l i)) (l.map (·.1)) []) L.t)(s:Src W.K W.mg (L.S.hW i) st ps)(M:(Ov N ps (aU st)&&b.ck (L.S.at N (aU st) J) (cB st))=J)(f:All L W (k+1) (g5 l))(a:∀ds h Q x,C ds h Q x->À ds=À ps/\b.m (hU z (À h) Q x) (pY (À N) ds) h):Dt L W i (k+2) C:=B.d N ps z b s (pL (ag M).1) (ag M).2 (FG.of λj H=>by let z:=f.at j (by rw[Uc];rwa[H]);rw[NW (cN.mpr H)]at z;rwa[z]) Ť a
def p6(m:Î)(g:Pv->Þ):Pv->Þ|.T x=>ED (À x) m&&x.all g|_=>af
abbrev IY(l:Ł (Ń×(Pv->Þ))):Ct:=iw (λx m f=>dz x&&(isInt m&&YH l f)) λx m f=>.B (p6 (Vi m) (ϩ l f) x)
abbrev uE(i:Ń)(g:Pv->Þ):Ct:=IY [(i,g)]
def t2(x:Pv)(k:Pv->Pv->Þ):Þ:=match x with|.T [a,b]=>k a b|_=>af
def KI(h:t2 x k):∃a b,x=.T [a,b]/\k a b=true:=by cases x with
 |T l=>rcases l with _|⟨a,_|⟨b,_|_⟩⟩<;>first|exact(a,b,Ŗ,h)|rwa[FQ h]
 |_=>rwa[FQ h]
def t4(x:Pv)(k:Pv->Pv->Pv->Pv->Þ):Þ:=match x with|.T [a,b,c,d]=>k a b c d|_=>af
def yX(h:t4 x k):∃a b c d,x=.T [a,b,c,d]/\k a b c d=true:=by cases x with
 |T l=>rcases l with _|⟨a,_|⟨b,_|⟨c,_|⟨d,_|_⟩⟩⟩⟩<;>first|exact(a,b,c,d,Ŗ,h)|rwa[FQ h]
 |_=>rwa[FQ h]
def χ(x:Pv):Þ:=t2 x λ_ _=>J
def qS(x:Pv):Þ:=t2 x λa b=>gF a&&vD b
def isList(x:Pv):Þ:=t2 x λa b=>gF a&&p6 12 vD b
def l9(x:Pv):Þ:=t4 x λa b c d=>gF a&&(p6 3 gF b&&(p6 3 gF c&&tw d))
def jG:Pv->Pv|.T (a::_)=>a|_=>.N
def GY:Pv->Þ|.T (_::_)=>J|_=>af
def pM:Pv->ϑ|.T x=>x.map jG|_=>[]
def ZX:Pv->Þ|.T x=>x.all GY|_=>af
abbrev xF:Ct:=Dd ZX λx=>.L (pM x)
def zT:Pv->ϑ|.T [_,.T b,.T c,_]=>b++c|_=>[]
def OB(x:Pv):Þ:=t4 x λ_ b c _=>tw b&&(tw c&&Í (À (y6 b)+À (y6 c)) zp)
abbrev i_:Ct:=Dd OB λx=>.L (zT x)
def pZ(l:ϑ):ϐ:=l.map dN
def Zx(l:ϑ):Þ:=Mj (pZ l)
def IR:Pv->Þ|.L l=>l.all dC&&Í (À l) 60|_=>af
abbrev Bs:Ct:=Dd IR λx=>.B (Zx (uW x))
theorem pX:∀{l m:ϐ},l.Nodup->(∀x∈l,x∈m)->À l<=À m|[],_,_,_=>bu _|x::r,m,h,k=>by let hx:=k x ao;let(H,a):=cO.mp h;let:=pX (m:=m.erase x) a λy b=>(Nj λe=>H ()).mpr (k y (ak _ b));rw[ZE hx]at this;let hp:=Ĭ hx;rw[aq];lia
theorem er:∀{m:ϐ},¬m.Nodup->∃x,x∈m/\x∈m.erase x
 |[],h=>Ă jv h|y::r,h=>by
  by_cases H:y∈r;.exact(y,ao,by grind)
  .let(x,a,b):=er λz=>h (cO.mpr (H,z));erw[(x,ak _ a,?_)];rw[List.erase_cons_tail ()];rwa[ak _ b]
theorem JQ:∀{l:ϐ},Mj l=J↔l.Nodup|[]=>(λ_=>jv,λ_=>Ŗ)|x::r=>by erw[(pW,λh=>?_)];let(H,a):=cO.mp h;show(!jY x r&&Mj r)=J;rw[JQ.mpr a,bg.mpr λz=>H (l8 z)];rfl
def Ou(ws:ϐ):À (eQ ws)=À ws↔ws.Nodup:=by
 let(n,m):=vq ws;let le:=pX n λx H=>(m x).mp H;erw[(λe=>?_,λh=>?_)]
 .erw[Decidable.byContradiction λh=>?_];let(x,a,c):=er h;let hp:=Ĭ a;let:À (eQ ws)<=À (ws.erase x):=pX n λy b=>by
   by_cases e:y=x;.left
   .exact(Nj e).mpr ((m y).mp b)
  rw[ZE a]at this;lia
 .let g:=pX h λx H=>(m x).mpr H;lia
theorem KA:∀{l:ϑ},l.all dC=J->mG l=O (pZ l)|[],_=>Ŗ|x::r,h=>by let(H,a):=ag h;revert H;erw[tY (ag h).1 λz _=>?_];show(match mG r with|O w=>O _|aa=>aa)=_;rw[KA a];rfl
def jN(B:LX ca W)(S:SX W)(k:Ń)(l:Ł _)(D:All (Lx ca) W (k+1) (g5 l)):DX ca W 16 (k+2) (IY l):=by erw[B.eT ["thing","most","is_one"] ["thing","most","is_one"] _ l (.re (.bo (Bm.ac (.bi uK (.u2 0 (.ty 3))) (Bm.ac (.cmp Sz (.bi d8 (.u 0)) 1) (Bm.a1 (.bi LK (.u (.comp 1 [2] (.one 0) (.s 0) .no (.clv [] 1 (.u 0)))))))))) S.s45 rfl D (jw λx m f Q X H=>?_)];let(h,a,b):=lT H;rwa[OR a λm=>Ϟ b λj c=>D2 h id (λ_=>id) (λ_=>id) (λ_ _=>id) (λe h q=>mm q λ_ q=>iY _ Ŗ (λy d=>λR q=>aB c (aB (fM h d) q)) (uD q)) (λ_ _=>id) λ_ _ _=>id]
def Aw(B:LX ca W)(S:SX W):DX ca W 17 2 (rY χ):=by erw[B.e 1 _ [] [] (.re (.bo (Bm.ac (.bi uK (.u2 0 (.ty 3))) (Bm.a1 (.cmp jA (.bi d8 (.u 0)) (.i 2)))))) S.s46 rfl Ť Ť (zw λx Q d h=>?_)];erw[D2 h id (λ_=>id) (λ_=>id) (λ_ _=>id) (λX h=>?_) (λ_ _=>id) λ_ _ _=>id];rcases X with _|⟨a,_|⟨b,_|⟨c,r⟩⟩⟩<;>rwa[id]
def N7(B:LX ca W)(S:SX W):DX ca W 18 4 (rY qS):=by
 erw[B.e 1 _ [(17,rY _),(6,rY _),(8,rY _)] [] (.re (.bo (Bm.ac (.cl 17 [] (.u 0)) (Bm.ac (.cl 6 [] (.u (.ix 0 (.i 0)))) (Bm.a1 (.cl 8 [] (.u (.ix 0 (.i 1))))))))) S.s47 rfl ((Aw B S).up Ŗ,(kU B S).up Ŗ,l0 B S,Ť) Ť (zw λx Q d h q=>aB h ?_)];revert q;erw[D2 h id (λ_=>id) (λ_=>id) (λ_ _=>id) (λX h=>?_) (λ_ _=>id) λ_ _ _=>id];rcases X with _|⟨a,_|⟨b,_|⟨c,r⟩⟩⟩;.rwa[id]
 .rwa[id]
 .rwa[λq=>aB (AB h) (mm q λ_ q=>aB (fM h ⋯) q)]
 .rwa[id]
def LB(B:LX ca W)(S:SX W)(Z:DX ca W 16 4 (uE 8 vD)):DX ca W 19 5 (rY isList):=by
 erw[B.e 1 _ [(17,rY _),(6,rY _),(8,rY _),(16,uE 8 _)] [] (.re (.bo (Bm.ac (.cl 17 [] (.u 0)) (Bm.ac (.cl 6 [] (.u (.ix 0 (.i 0)))) (Bm.a1 (.cl 16 [] (.u3 (.ix 0 (.i 1)) (.g 6) (.f 8)))))))) S.s48 rfl ((Aw B S).up Ŗ,(kU B S).up Ŗ,(l0 B S).up Ŗ,Z,Ť) Ť (zw λx Q d h q=>aB h ?_)];revert q;erw[D2 h id (λ_=>id) (λ_=>id) (λ_ _=>id) (λX h=>?_) (λ_ _=>id) λ_ _ _=>id];rcases X with _|⟨a,_|⟨b,_|⟨c,r⟩⟩⟩;.rwa[id]
 .rwa[id]
 .rwa[λq=>aB (AB h) (mm q λ_ q=>aB (by show(dz b&&J)=J;rw[fM h ⋯];rfl) q)]
 .rwa[id]
def zL(B:LX ca W)(S:SX W)(Z:DX ca W 16 3 (uE 6 gF)):DX ca W 20 4 (rY l9):=by
 erw[B.e 1 _ [(6,rY _),(16,uE 6 _)] [] (.iff (.bo (Wm.oc (.not (.val (.bi uK (.u2 0 (.ty 3))))) (Wm.oc (.cmp zu (.bi d8 (.u 0)) (.i 4)) (Wm.o1 (.not (.val (.cl 6 [] (.u (.ix 0 (.i 0)))))))))) (.re (.c (.B af))) .nil<|>.iff (.bo (Wm.oc (.not (.val (.cl 16 [] (.u3 (.ix 0 (.i 1)) (.g 8) (.f 6))))) (Wm.o1 (.not (.val (.cl 16 [] (.u3 (.ix 0 (.i 2)) (.g 8) (.f 6)))))))) (.re (.c (.B af))) .nil<|>.re (.bi uK (.u2 (.ix 0 (.i 3)) (.ty 3)))) S.s49 rfl ((kU B S).up Ŗ,Z,Ť) Ť (zw λx Q j h=>?_)];erw[D2 h id (λ_=>id) (λ_=>id) (λ_ _=>id) (λX h=>?_) (λ_ _=>id) λ_ _ _=>id];rcases X with _|⟨a,_|⟨b,_|⟨c,_|⟨d,_|⟨e,r⟩⟩⟩⟩⟩;.rwa[id]
 .rwa[id]
 .rwa[id]
 .rwa[id]
 .let h1:=fM (x:=b) h ⋯;erw[λq=>aB (AB h) ?_];erw[pA q λ_ q=>aB (by show(dz b&&J)=J;rw[h1];rfl) ?_];erw[pA q λ_ q=>aB (by show(dz c&&J)=J;rw[fM (x:=c) h ⋯];rfl) ?_];erw[pA q λ_ q=>?_];revert q;rwa[D2 (fM (x:=d) h ⋯) id (λ_=>id) (λ_=>id) (λ_ _=>id) (λ_ _=>id) (λ_ _=>id) λ_ _ _=>id]
 .rwa[id]
def nV(B:LX ca W)(S:SX W):DX ca W 21 2 xF:=by
 erw[B.e 1 _ [] [] (.re (.comp 1 [] (.one 0) (.s 0) .no (.ix 0 (.i 0)))) S.s50 rfl Ť Ť (zw λx Q X h=>?_)];cases x<;>first|done|skip
 intro q;erw[iY _ Ŗ (λy H=>?_) q];let hz:=aG.mp h y H;cases y<;>first|done|skip
 ext Y;cases Y with|i=>done|k a r=>rwa[λR q=>q]
def vn(B:LX ca W)(S:SX W):DX ca W 22 2 i_:=by erw[B.e 1 _ [] [] (.re (.b2 cm (.bi I' (.u (.ix 0 (.i 1)))) (.bi I' (.u (.ix 0 (.i 2)))))) S.s51 rfl Ť Ť (zw λx Q X h=>?_)];let(_,b,c,_,rfl,h):=yX h;let(a,d,H):=lT h;revert H;rwa[RP a λb=>RP d λc H q=>aB (mH (ap.mp H)) q]
def sI(B:LX ca W)(S:SX W):DX ca W 23 2 Bs:=by
 erw[B.e 1 _ [] [] (.re (.cmp jA (.afa 0) (.bi d8 (.u 0)))) S.s52 rfl Ť Ť (zw λx Q X h=>?_)];cases x<;>first|done|skip
 ext l;let(H,h2):=ag h;intro q;let hn:À (pZ l)=À l:=ai _;let(n,m):=vq (pZ l);let le:=pX n λx a=>(m x).mp a;let h2:=ap.mp h2;erw[bW (KA H) (aB (ap.mpr ()) ?_)];let E:lH (À (eQ (pZ l))) (À l)=Zx l:=by delta Zx;rw[cZ,dm,JQ,<-Ou];lia
 show Q (.p (.B (lH (À (eQ _)) (À l)))) [];rw[E];rwa[q]
structure Sc where
 bs:ϑ
 ls:ϑ
 ks:ϑ
 us:ϑ
 rt:Þ
def Sc.pv(s:Sc):Pv:=.obj 3 [.L s.bs,.L s.ls,.dct s.ks s.us,.B s.rt]
def Sc.ok(s:Sc):Þ:=fT s.bs&&(fT s.ls&&(s.ks.all dC&&(s.us.all isInt&&Ë (À s.ks) (À s.us))))
def ksO:Pv->ϑ|.dct k _=>k|_=>[]
def ů:Pv->ϑ|.dct _ u=>u|_=>[]
def OU:Pv->Þ|.dct _ _=>J|_=>af
def ζ:Pv->Þ|.B _=>J|_=>af
def ŗ:Pv->Þ|.B b=>b|_=>af
@[elab_as_elim]def ajK{P:Pv->ß}(h:OU a)(k:∀x y,P (.dct x y)):P a:=by cases a<;>first|rwa[k _ _]|cases h
@[elab_as_elim]def blC{P:Pv->ß}(h:ζ a)(k:∀x,P (.B x)):P a:=by cases a<;>first|rwa[k _]|cases h
def LN:Pv->ϑ|.obj _ fs=>fs|_=>[]
def Vd(c:Ń):Pv->Þ|.obj d _=>Ë d c|_=>af
@[elab_as_elim]def alD{P:Pv->ß}(h:Vd c a)(k:∀fs,P (.obj c fs)):P a:=by cases a<;>first|(rw[aP h];rwa[k _])|cases h
def l4{α:Type}:Ł α->Þ|[_,_,_,_]=>J|_=>af
@[elab_as_elim]def l4C{P:Ł α->ß}(h:l4 l)(k:∀a b c d,P [a,b,c,d]):P l:=by rcases l with _|⟨a,_|⟨b,_|⟨c,_|⟨d,_|⟨e,r⟩⟩⟩⟩⟩<;>first|rwa[k _ _ _ _]|cases h
def NF(l:ϑ)(i:Ń):Pv:=l.getD i .N
def scL(l:ϑ):Sc:=(uW (NF l 0),uW (NF l 1),ksO (NF l 2),ů (NF l 2),ŗ (NF l 3))
def i9(x:Pv):Sc:=scL (LN x)
def SQ(x:Pv):Þ:=Vd 3 x&&(l4 (LN x)&&(Ep (NF (LN x) 0)&&(Ep (NF (LN x) 1)&&(OU (NF (LN x) 2)&&ζ (NF (LN x) 3)))&&(i9 x).ok))
@[elab_as_elim]def ĉ{P:Pv->ß}(h:SQ a)(k:∀s:Sc,s.ok=J->P s.pv):P a:=by let(e,h):=ag h;revert h;erw[alD e λfs h=>?_];let(H,h):=ag h;revert h;erw[l4C (show l4 fs=J from H) λa b c d h=>?_];let(h,f):=ag h;let(H,g,i,j):=oZ h;revert f;rwa[ē (show Ep a=J from H) λa=>ē (show Ep b=J from g) λb=>ajK (show OU c=J from i) λx y=>blC (show ζ d=J from j) λd h=>k _ h]
def yP{s:Sc}(h:s.ok):SQ s.pv=true:=h
def AR(f:Pv->Þ)(s:Sc)(k:Ã)(p:Pv):Þ:=match ax k "rows"with|J=>f p|af=>match ax k "value"with|J=>val 4 s.bs s.ls p|af=>match ax k "values"with|J=>tw p&&(y6 p).all (val 4 s.bs s.ls)|af=>gF p&&match ax k "box"with|J=>uQ p s.bs|af=>match ax k "list"with|J=>uQ p s.ls|af=>match ax k "function"with|J=>(jc p s.ks s.us).isSome|af=>ax k "door"
def Y1(f:Pv->Þ)(s:Sc):Pv->Þ|.T [k,p]=>AR f s (dN k) p|_=>af
def j_(s:Sc):ϑ->Þ
 |[_,f,.T v]=>match jc f s.ks s.us with|O c=>lH (À v) (Vi c)|aa=>af
 |_=>af
def Xm(f:Pv->Þ)(s:Sc)(w:Ã)(r:ϑ):Ő ϐ->Þ|O k=>lH (À r+1:Ń) (1+À (k.map Pv.S))&&(!(ax w "return"&&!s.rt)&&((qL (k.map .S) r).all (Y1 f s)&&(!ax w "call"||j_ s r)))|aa=>af
def jl(f:Pv->Þ):Pv->Þ|.T x=>x.all f|_=>af
@[elab_as_elim]def ud{P:Pv->ß}(h:jl f a)(k:∀xs,xs.all f=J->P (.T xs)):P a:=by cases a<;>first|rwa[k _ h]|cases h
def row:Ń->Sc->Pv->Þ|0,_,_=>af|n+1,s,.T (.S w::r)=>Xm (jl (row n s)) s w r (lk w eI)|_+1,_,_=>af
def rows(n:Ń)(s:Sc):Pv->Þ:=jl (row n s)
abbrev NR(n:Ń):Ct:=zi (λk p s d=>dC k&&(dz p&&(SQ s&&fg (5-n) d))) λk p s _=>.B (AR (rows n (i9 s)) (i9 s) (dN k) p)
abbrev T7(n:Ń):Ct:=iw (λx s d=>dz x&&(SQ s&&fg (6-n) d)) λx s _=>.B (row n (i9 s) x)
abbrev DI(n:Ń):Ct:=iw (λx s d=>dz x&&(SQ s&&fg (6-n) d)) λx s _=>.B (rows n (i9 s) x)
theorem Jp:∀{ks us:ϑ},jc k ks us=O p->p∈us
 |[],_,h=>by cases h|_::_,[],h=>by cases h|K::ks,u::us,h=>by
  let h:(match Hh K k with|J=>O u|af=>jc k ks us)=O p:=h;split at h;.grind
  .rwa[ak _ (Jp h)]
def rJ(h:gF p):dC p=true:=by cases p<;>first|rfl|cases h
def GF(B:LX ca W)(S:SX W)(a:DX ca W 9 12 Bt)(n:Ń)(D:DX ca W 24 (3*n+12) (DI n)):DX ca W 26 (3*n+13) (NR n):=by
 erw[B.e (k:=3*n+11) 4 J [(24,DI n),(9,Bt),(6,rY gF)] [] (.iff (.cmp jA 0 (.s "rows")) (.re (.cl 24 [] (.u3 1 2 (.b2 cm 3 (.i 1))))) .nil<|>.iff (.cmp jA 0 (.s "value")) (.re (.cl 9 [] (.u3 1 (.fld 3 0 2) (.fld 3 1 2)))) .nil<|>.iff (.cmp jA 0 (.s "values")) (.re (.bo (Bm.ac (.bi uK (.u2 1 (.ty 3))) (Bm.a1 (.bi LK (.u (.comp 1 [2] (.one 0) (.s 1) .no (.cl 9 [] (.u3 0 (.fld 3 0 1) (.fld 3 1 1)))))))))) .nil<|>.iff (.not (.val (.cl 6 [] (.u 1)))) (.re (.c (.B af))) .nil<|>.iff (.cmp jA 0 (.s "box")) (.re (.cmp TN 1 (.fld 3 0 2))) .nil<|>.iff (.cmp jA 0 (.s "list")) (.re (.cmp TN 1 (.fld 3 1 2))) .nil<|>.iff (.cmp jA 0 (.s "function")) (.re (.din af 1 (.fld 3 2 2))) .nil<|>.re (.cmp jA 0 (.s "door"))) S.s55 rfl (D,a.le (),(kU B S).le (),Ť) Ť (py λk p s d Q x b=>?_)];let(g,h,H,j):=oZ b;erw[tY g λk=>ĉ H λs H=>G9 j λq=>?_];let hs:=H;let(f,F,m,H):=oZ H;erw[sD (Q:=Q) q (λ_ q=>?_) λ_ q=>sD (Q:=Q) q (λ_ q=>?_) λ_ q=>sD (Q:=Q) q (λ_ q=>?_) λ_ q=>?_];.erw[aB ?_ q];show(dz p&&(SQ s.pv&&lH (5-n+1) (6-n)))=J;rw[h,yP hs,dm.mpr ()];rfl
 .erw[aB ?_ q];show(dz p&&(fT s.bs&&fT s.ls))=J;rw[h,f,F];rfl
 .revert q;erw[D2 h id (λ_=>id) (λ_=>id) (λ_ _=>id) (λX h q=>?_) (λ_ _=>id) λ_ _ _=>id];erw[iY _ Ŗ (λy l=>λR q=>?_) (uD q)];.erw[aB ?_ q];show(dz y&&(fT _&&fT _))=J;rw[fM h l,f,F];rfl
 .erw[aB h (pA q λc q=>?_)];revert q;rwa[tY (rJ c) λp q=>sD q (λ_ q=>aB f q) λ_ q=>sD q (λ_ q=>aB F q) λ_ q=>sD q (λ_ q=>q) λ_ q=>q]
def Wg(h:(!b)=af):b=true:=()
def xV(B:LX ca W)(S:SX W)(n:Ń)(D:DX ca W 25 (3*n+11) (T7 n)):DX ca W 24 (3*n+12) (DI n):=by
 erw[B.e 4 _ [(25,T7 n)] [] (.iff (.not (.val (.bi uK (.u2 0 (.ty 3))))) (.re (.c (.B af))) .nil<|>.fo (.one 3) (.s 0) (.one (.iff (.not (.val (.cl 25 [] (.u3 3 1 2)))) (.re (.c (.B af))) .nil))<|>.re (.c (.B J))) S.s53 rfl (D,Ť) Ť (jw λx s d Q g b=>?_)];let(H,a,f):=lT b;erw[ĉ a λs a=>G9 f ?_];erw[D2 H id (λ_=>id) (λ_=>id) (λ_ _=>id) (λX H q=>?_) (λ_ _=>id) λ_ _ _=>id];erw[nY (λpre post σ h=>h=[]/\(∃v,σ=[O _,O _,O _,v])/\X.all (row n s)=post.all _) (Ŗ,(_,Ŗ),Ŗ) (λpre x post σ h e j=>?_) λσ h j=>?_];.obtain⟨rfl,⟨v,rfl⟩,j⟩:=j;erw[aB (by show(dz x&&(SQ _&&lH _ _))=J;rw[fM H nofun,yP a,dm.mpr Ŗ];rfl) ?_];rw[bC]at j;let q:Q (.p (.B (X.all (row n s)))) []:=q;rw[j]at q;rwa[pA q λc _=>(Ŗ,(_,Ŗ),by rw[j,show row n s x=J from c];rfl)]
 .obtain⟨rfl,⟨v,rfl⟩,j⟩:=j;let q:Q (.p (.B (X.all (row n s)))) []:=q;rw[j]at q;rwa[q]
def SN:Ń->Ct|0=>SA|n+1=>NR n
def Ax(B:LX ca W)(S:SX W)(n:Ń)(D:DX ca W 26 (3*n+10) (SN n)):DX ca W 25 (3*n+11) (T7 n):=by erw[B.e (k:=3*n+9) 4 J [(0,rY BW),(2,Gf eI),(26,SN n)] [] (.iff (.bo (Wm.oc (.cmp IU 2 (.g 9)) (Wm.o1 (.not (.val (.cl 0 [] (.u 0))))))) (.re (.c (.B af))) .nil<|>.set 3 (.cl 2 [] (.u (.ix 0 (.i 0))))<|>.iff (.bo (Wm.oc (.AH af 3) (Wm.o1 (.cmp zu (.bi d8 (.u 0)) (.b2 cm (.i 1) (.bi d8 (.u 3))))))) (.re (.c (.B af))) .nil<|>.iff (.bo (Wm.ac (.cmp jA (.ix 0 (.i 0)) (.s "return")) (Wm.a1 (.not (.val (.fld 3 3 1)))))) (.re (.c (.B af))) .nil<|>.iff (.not (.val (.bi LK (.u (.comp 2 [1,2] (.many [0,1]) (.z (.u2 3 (.sl 0 (.of (.i 1)) .no))) .no (.cl 26 [] (.u4 0 1 2 3))))))) (.re (.c (.B af))) .nil<|>.re (.bo (Bm.oc (.cmp zu (.ix 0 (.i 0)) (.s "call")) (Bm.o1 (.cmp jA (.bi d8 (.u (.ix 0 (.i 3)))) (.dix (.fld 3 2 1) (.ix 0 (.i 2)))))))) S.s54 rfl ((xW B S).le (),(vo B S).le (),D,Ť) Ť (jw λx s d Q L b=>?_)];let(H,h,l):=lT b;cases n with|z=>rwa[G9 l λq=>q]|v n=>erw[ĉ h λs h=>G9 l λq=>?_];erw[bE (λc=>Ă (dE.mp c) (by show ¬(5:Î)<6-(n+1:Ń);lia)) λ_=>aB H ?_];revert q;erw[D2 H id (λ_=>id) (λ_=>id) (λ_ _=>id) (λX H=>?_) (λ_ _=>id) λ_ _ _=>id];cases X with|i=>rwa[id]|k a r=>
   erw[D2 (AB H) id (λ_=>id) (λ_=>id) (λw _=>?_) (λ_ _=>id) (λ_ _=>id) λ_ _ _=>id];erw[λq=>Cj (λks e=>?_) λe=>?_]
   .let q:Q (.p (.B (Xm (rows n s) s w r (O ks)))) []:=e▸q;erw[pA (Q:=Q) q λc q=>?_];erw[TK (Q:=Q) q λq=>?_];erw[iY (λy=>.B (Y1 (rows n s) s y)) Ŗ (λy m=>?_) (uD ?_)];.let(k,p,o,b,rfl):=xu m;let(k,_,rfl):=bf.mp o;erw[λR q=>aB ?_ q];show(dz p&&(SQ s.pv&&lH (6-(n+1:Ń)) (5-n)))=J;rw[fM H (ak _ b),yP h,dm.mpr ()];rfl
    erw[pA (Q:=Q) q λt A=>adv (Q:=Q) A λE F=>?_];let G:w="call":=aI.mp (Wg E);subst G;let e:O (["box","function","values"]:ϐ)=O ks:=e;cases e;let c:=dm.mp (show lH ((À r+1:Ń):Î) (1+(3:Ń))=J from c);let I:À r=3:=()
    obtain⟨x,f,v,rfl⟩:∃x f v,r=[x,f,v]:=by rcases r with _|⟨x,_|⟨f,_|⟨v,_|⟨z,r⟩⟩⟩⟩<;>first|exact(_,_,_,Ŗ)|(simp at I;all_goals fail)
    let(_,C,j,_):=oZ t;let C:(gF f&&(jc f s.ks _).isSome)=true:=C;let j:=j;let(K,C):=ag C;let(u,hu):=bN.mp C;let(M,N,P,h):=oZ h;let hi:=aG.mp (ag h).1 u (Jp hu);revert F hu;erw[tY (rJ K) λf=>RP (ag j).1 λv=>OR hi λu q hu=>?_];erw[bW hu ?_];let q:Q (.p (.B (match jc _ _ _ with|O c=>lH _ _|aa=>af))) []:=q;rw[hu]at q;rwa[q]
   .let q:Q (.p (.B (Xm (rows n s) s w r aa))) []:=e▸q;rwa[q]
theorem DT(B:LX ca W)(S:SX W)(D:DX ca W 9 12 Bt):∀n,DX ca W 25 (3*n+11) (T7 n)|0=>Ax B S 0 (Dt.no S.s55)|n+1=>Ax B S _ (GF B S D n (xV B S n (DT B S D n)))
def Ey:Pv->Þ|.T [k,_]=>ax (dN k) "rows"|_=>af
def pu:Pv->Pv|.T [_,p]=>p|_=>.N
def B4(r:ϑ):Ő ϐ->ϑ|O k=>((qL (k.map .S) r).filter Ey).map pu|aa=>[]
def yh:Pv->ϑ|.T (.S w::r)=>B4 r (lk w eI)|_=>[]
def BU:Pv->Þ|.T (.S w::_)=>(lk w eI).isSome|_=>af
abbrev NQ:Ct:=Dd BU λx=>.L (yh x)
def tH:Ń->Pv->Þ|0,_=>af|n+1,x=>BU x&&(yh x).all (jl (tH n))
def sum(f:Pv->Ń):ϑ->Ń|[]=>0|x::r=>f x+sum f r
def Ru(f:Pv->Ń):Pv->Ń|.T x=>sum f x|_=>0
def uI:Ń->Pv->Ń|0,_=>0|n+1,x=>1+sum (Ru (uI n)) (yh x)
def DR(n:Ń):Pv->Ń:=Ru (uI n)
theorem oG:∀{l r:ϑ},sum f (l++r)=sum f l+sum f r|[],r=>by show sum f r=0+sum f r;lia|x::l,r=>by show f x+sum f (l++r)=f x+sum f l+sum f r;rw[oG];lia
def Lj(n:Ń):Ct:=λds h Q _=>rC ds λi r=>pC r λx r=>pC r λ_ r=>nC r (aC h λt g=>nC g (gd (Ë i 0&&(jl (tH n) x&&Í (À t+DR n x) zp)) (∀R:ϑ,À R=À t+DR n x->Q (.p .N) [.L R])))
def aj4{b:Ss}(H:∀xs a t(Q:Dv->Hs->ß)(X:XP),xs.all (tH m)=J->À t+DR m (.T xs)<=zp->(∀R:ϑ,À R=À t+DR m (.T xs)->Q (.p .N) [.L R])->b (hU J 1 Q X) (pY n [.r 0,.p (.T xs),.p a]) [.L t]):∀ds h Q X,Lj m ds h Q X->À ds=3/\b (hU J (À h) Q X) (pY n ds) h:=by intro ds h Q X c;erw[ċ c λi _ c=>ly c λx _ c=>ly c λ_ _ c=>lV c λc=>Ϫ c λt _ c=>lV c λc=>?_];let(d,c):=bG c;let(f,e,d):=lT d;rw[aP f];erw[(Ŗ,?_)];revert c d;rwa[ud e λxs e c d=>H xs _ _ Q X e (ap.mp d) c]
def xY(B:LX ca W)(S:SX W):DX ca W 3 2 NQ:=by
 erw[B.e 1 _ [] [] (.re (.comp 2 [] (.many [0,1]) (.z (.u2 (.ti 1 (.ix 0 (.i 0))) (.sl 0 (.of (.i 1)) .no))) (.one (.cmp jA 0 (.s "rows"))) 1)) S.s17 rfl Ť Ť (zw λx Q X h=>?_)];delta BU at h;split at h;.ext w r;let(K,e):=bN.mp h;intro q;let q:Q (.p (.L (B4 r _))) []:=q;rw[e]at q;erw[bW e (sH _ _ Ŗ (λy H=>?_) q)];let(k,p,a,b,rfl):=xu H;let(k,_,rfl):=bf.mp a;exact(λR q=>q,λ_ R q=>q)
 .done
def L1:Ń->Ct|0=>SA|n+1=>Lj n
def N4(B:LX ca W)(S:SX W)(n:Ń)(D:DX ca W 5 (n+2) (L1 n)):DX ca W 5 (n+3) (Lj n):=by
 erw[B.e (k:=n+1) 6 J [(3,NQ),(5,L1 n)] [] (.one (.fo (.one 3) (.s 1) (.set 4 (.bi d8 (.u 0))<|>.ex (.mt lU 0 (.u (.tup (.u3 4 3 2))))<|>.one (.fo (.one 5) (.s (.cl 3 [] (.u 3))) (.one (.ex (.cl 5 [0] (.u3 0 5 4)))))))) S.s21 rfl ((xY B S).le (),D,Ť) Ť (aj4 λxs a c Q X w H q=>?_)];let H:À c+sum (uI n) xs<=zp:=H;erw[nY (λpre post σ h=>(∃R,h=[.L R]/\À R=À c+sum (uI n) pre)/\∃d f v,σ=[O (.r 0),O (.p (.T xs)),O (.p a),d,f,v]) ((c,Ŗ,Ŗ),_,_,_,Ŗ) (λpre x post σ h e j=>?_) λσ h j=>?_]
 .obtain⟨⟨t,rfl,l1⟩,d,f,v,rfl⟩:=j;let z:x∈xs:=by rw[e];simp
  let o:=aG.mp w x z;cases n with|z=>rwa[FQ o]|v n=>
   let ok:(BU x&&(yh x).all (jl (tH n)))=true:=o;let(N,g):=ag ok;rw[e,oG]at H;let H:À c+(sum (uI (n+1)) pre+(uI (n+1) x+sum (uI (n+1)) post))<=zp:=H;let i:uI (n+1) x=1+sum (Ru (uI n)) (yh x):=Ŗ;erw[aB (mH ()) ?_];erw[aB N ?_];erw[nY (λA l σ h=>(∃R,h=[.L R]/\À R=À t+1+sum (Ru (uI n)) A)/\∃v,σ=[O _,O _,O _,O _,O _,v]) ((_,Ŗ,by rw[ah];rfl),_,Ŗ) (λA y l σ h E j=>?_) λσ h j=>?_];.obtain⟨⟨b,rfl,l2⟩,v,rfl⟩:=j;rw[E,oG]at i;let i:uI _ x=1+(sum _ _+(DR n y+sum _ _)):=i;erw[aB (by rw[aG.mp g y nofun,ap.mpr ()];rfl) λm C=>?_];erw[((m,Ŗ,?_),_,Ŗ)];rw[oG,C,l2];show _=_+(_+(DR n y+0));lia
   .obtain⟨⟨b,rfl,l2⟩,v,rfl⟩:=j;erw[((b,Ŗ,?_),_,_,_,Ŗ)];rw[oG,l2,l1];show _=_+(_+(uI _ x+0));lia
 .obtain⟨⟨t,rfl,l1⟩,d,f,v,rfl⟩:=j;rwa[q _ l1]
theorem xU(B:LX ca W)(S:SX W):∀n,DX ca W 5 (n+3) (Lj n)|0=>N4 B S 0 (Dt.no S.s21)|n+1=>N4 B S _ (xU B S n)
theorem Jr:∀{ks:ϑ},ks.all dC=J->jY k (pZ ks)=af->D3 (.S k) ks=af|[],_,_=>Ŗ|x::r,h,n=>by let(H,a):=ag h;revert n;erw[tY H λz n=>?_];let n:(ax k z||jY k (pZ r))=false:=n;let(N,b):=zA.mp n;show(ax z k||D3 _ r)=af;rw[Jr a b,gq];rwa[bg.mpr λe=>by rw[aI.mpr (aI.mp e).symm]at N;cases N]
theorem Eh:∀{a b:ϐ},jY k (a++b)=(jY k a||jY k b)|[],_=>Ŗ|x::r,b=>by show(ax k x||jY k (r++b))=(ax k x||jY k r||jY k b);rw[Eh,Bool.or_assoc]
theorem x5:∀{ks us ks' us':ϑ},À ks=À us->ks.all dC->ks'.all dC->Mj (pZ ks)->(∀x∈pZ ks,jY x (pZ ks')=af)->gE ks us (ks',us')=(ks'++ks,us'++us)
 |[],[],ks',us',_,_,_,_,_=>by rw[aQ,aQ];rfl|[],_::_,_,_,h,_,_,_,_=>by grind|_::_,[],_,_,h,_,_,_,_=>by grind|k::ks,u::us,ks',us',l,d,b,H,a=>by
  let(g,G):=ag d;revert H a;erw[tY g λz H a=>?_];let H:(!jY z (pZ ks)&&Mj (pZ ks))=true:=H;let(n,N):=ag H;let h5:=Jr b (a z ao);show gE ks us _=_;let E:D7 (.S z) ks'=ks'++[.S z]:=by delta D7;rw[h5]
  let f:D8 (.S z) u ks' us'=us'++[u]:=by delta D8;rw[h5]
  rw[E,f,x5 (by grind) G (by rw[dy,b];rfl) N λx c=>?_];.simp
  .let:pZ (ks'++[Pv.S z])=pZ ks'++[z]:=by delta pZ;rw[aR];rfl
   rw[this,Eh,a x (ak _ c)];show(ax x z||af)=af;rw[gq];rwa[bg.mpr λe=>by let:=aI.mp e;rw[<-this,sY c]at n;cases n]
def Ly(f:Pv):Pv:=.I (À (y6 (NF (y6 f) 1)))
def Y0(f:Pv):Pv:=.T [jG f,Ly f]
theorem Kc:∀{fs:ϑ},(fs.map jG).all dC=J->vO (fs.map Y0)=O (fs.map jG,fs.map Ly)|[],_=>Ŗ|x::r,h=>by let(H,a):=ag h;show(match rG _,vO _ with|O _,O (k,v)=>O _|_,_=>aa)=_;rw[Kc a];let:rG (jG x)=O (.inr (dN (jG x))):=tY H λz=>Ŗ;rw[this];rfl
@[elab_as_elim]def fQ{P:Pv->ß}(h:p6 m g a)(k:∀xs,À xs<=m->xs.all g->P (.T xs)):P a:=by
 cases a<;>first|done|skip
 rwa[k _ (kJ.mp (ag h).1) (ag h).2]
def YR(x:Pv):Þ:=GY x&&dC (jG x)
def Cf(h:qS x):YR x=true:=by let(a,b,rfl,h):=KI h;exact(rJ (ag h).1)
def yu(h:isList x):YR x=true:=by let(a,b,rfl,h):=KI h;exact(rJ (ag h).1)
def JT(h:l9 x):YR x=true:=by let(a,b,c,d,rfl,h):=yX h;exact(rJ (ag h).1)
def da(i:∀x,f x=J->g x){xs:ϑ}(h:xs.all f):xs.all g=true:=aG.mpr λx H=>i x (aG.mp h x H)
def kK{xs:ϑ}(h:xs.all YR):xs.all GY=true:=da (λ_ h=>(ag h).1) h
def jP{xs:ϑ}(h:xs.all YR):(xs.map jG).all dC=true:=by rw[lM];rwa[da (λ_ h=>(ag h).2) h]
theorem ve:∀{l:ϑ},l.all dC=J->fT l=J|[],_=>Ŗ|x::r,h=>by let(H,a):=ag h;show(sU x&&fT r)=J;rw[ve a];rwa[tY H λ_=>Ŗ]
def JB(h:l9 x):OB x/\(zT x).all dC/\À (zT x)<=6:=by
 let(_,_,_,_,rfl,h):=yX h;let(_,H,a,h):=oZ h;erw[fQ H λb l1 B=>fQ a λc l2 C=>?_];erw[(ap.mpr (ay (show(À b)+À c<=6 by lia) ∅),?_,?_)];.show(b++c).all _=J;rw[dy,da (λ_=>rJ) B,da (λ_=>rJ) C];rfl
 .show(À (b++c))<=6;rw[ah];lia
def Km(g:Pv):Pv:=NF (y6 g) 3
@[elab_as_elim]def UZ{P:Pv->ß}(h:l9 x)(k:∀a b c d,(À b:Î)<=3->P (.T [a,.T b,.T c,d])):P x:=by let(a,b,c,d,rfl,h):=yX h;let(_,H,e,h):=oZ h;rwa[fQ H λb l1 B=>fQ e λc l2 C=>k a b c d l1]
def vh(b l:Pv):Þ:=p6 6 qS b&&(p6 3 isList l&&Zx (pM b++pM l))
def pN(t:ϑ)(f:Pv):Þ:=p6 4 l9 f&&(Zx (pM f)&&(y6 f).all λg=>Zx (t++zT g))
def CC(b l f:Pv)(o:ϑ)(rt:Þ):Sc:=(pM b++o,pM l,pM f,(y6 f).map Ly,rt)
def yN(b l f r:Pv):Þ:=((y6 f).all λg=>rows 5 (CC b l f (zT g) J) (Km g))&&rows 5 (CC b l f [] af) r
def Ip(g:Pv):Ń:=1+DR 5 (Km g)
def Fq(f r:Pv):Ń:=sum Ip (y6 f)+DR 5 r
def mY(q:br (a&&b) Y Z)(k:a->br b Y Z->X):br (!a) Z X:=by cases a with|t=>rwa[k Ŗ q]|f=>rwa[q]
def IP(q:br a Y Z):br (!a) Z Y:=by cases a<;>rwa[q]
def R0(c:Þ)(n:Ń)(o:Ő Ń):Ő Ń:=match c with|J=>o|af=>O n
def IA{K:ß}(q:eZ (R0 c n o) X K)(k:c->eZ o X K->Y):br c Y (X n):=by cases c with|t=>rwa[k Ŗ q]|f=>rwa[q]
def ϭ{K:ß}(q:eZ (R0 (!c) n o) X K)(k:eZ o X K->Y):br c (X n) Y:=by cases c with|t=>rwa[q]|f=>rwa[k q]
def Ad(b l f r:Pv):Ő Ń:=R0 (vh b l) 0 (R0 (pN (pM b++pM l) f) 0 (R0 (tw r) 0 (R0 (yN b l f r) 1 (R0 (!iQ 60 (Fq f r)) 2 aa))))
abbrev NT:Ct:=lq (λb l=>dz b&&dz l) λb l K X=>br (vh b l) (K .N) (X 0)
def D5:Pv->Þ|.L l=>l.all dC&&Í (À l) 9|_=>af
@[elab_as_elim]def ali{P:Pv->ß}(h:D5 x)(k:∀l,l.all dC=J->À l<=9->P (.L l)):P x:=by
 cases x<;>first|done|skip
 rwa[k _ (ag h).1 (ap.mp (ag h).2)]
abbrev NP:Ct:=lq (λf t=>dz f&&D5 t) λf t K X=>br (pN (uW t) f) (K .N) (X 0)
def qi(h:l.all dC)(H:À l<=60):IR (.L l)=true:=by show(l.all _&&Í _ 60)=J;rw[h,ap.mpr H];rfl
def sL(B:LX ca W)(S:SX W)(z:DX ca W 16 6 (IY [(18,qS),(19,isList)]))(D:DX ca W 18 4 (rY qS))(d:DX ca W 19 5 (rY isList)):DX ca W 13 7 NT:=by
 erw[B.e (k:=5) 2 J [(16,IY [(18,qS),(19,isList)]),(21,xF),(23,Bs),(18,rY qS),(19,rY isList)] [] (.iff (.not (.val (.cl 16 [] (.u3 0 (.g 4) (.f 18))))) (.one (.raise 0 (.s "boxes are a tuple of 0 to 6 pairs of a name and a number"))) .nil<|>.iff (.not (.val (.cl 16 [] (.u3 1 (.g 5) (.f 19))))) (.one (.raise 0 (.s "lists are a tuple of 0 to 3 pairs of a name and a tuple of 0 to 12 numbers"))) .nil<|>.one (.iff (.not (.val (.cl 23 [] (.u (.b2 cm (.cl 21 [] (.u 0)) (.cl 21 [] (.u 1))))))) (.one (.raise 0 (.s "two boxes or lists have one name"))) .nil)) S.s42 rfl (z,(nV B S).up Ŗ,(sI B S).up Ŗ,D.up Ŗ,d.up Ŗ,Ť) Ť (rl λb l Q x h c=>?_)];let(H,i):=ag h;erw[aB (by show(dz b&&J)=J;rw[H];rfl) (mY (a:=p6 6 qS b) (Z:=x 0 []) c λC c=>?_)];erw[aB (by show(dz l&&J)=J;rw[i];rfl) (mY (a:=p6 3 isList l) (Z:=x 0 []) c λj c=>?_)];revert c;erw[fQ C λb l1 m=>fQ j λl l2 b2 c=>?_];let n1:=da (λ_=>Cf) m;let n2:=da (λ_=>yu) b2;let ln:À (b.map jG++l.map jG)<=9:=by rw[ah,ai,ai];lia
 rwa[aB (kK n1) (aB (kK n2) (aB (mH (ay (by rw[ah]at ln;rwa[ln]) ∅)) (aB (qi (l:=b.map _++l.map _) (by rw[dy,jP n1,jP n2];rfl) ()) (IP c))))]
def sJ(B:LX ca W)(S:SX W)(z:DX ca W 16 5 (uE 20 l9))(D:DX ca W 20 4 (rY l9)):DX ca W 14 6 NP:=by
 erw[B.e (k:=4) 3 J [(16,uE 20 l9),(21,xF),(22,i_),(23,Bs),(20,rY l9)] [] (.iff (.not (.val (.cl 16 [] (.u3 0 (.g 7) (.f 20))))) (.one (.raise 0 (.s "functions are a tuple of 0 to 4 tuples of a name, params, owns and rows"))) .nil<|>.iff (.not (.val (.cl 23 [] (.u (.cl 21 [] (.u 0)))))) (.one (.raise 0 (.s "two functions have one name"))) .nil<|>.one (.fo (.one 2) (.s 0) (.one (.iff (.not (.val (.cl 23 [] (.u (.b2 cm 1 (.cl 22 [] (.u 2))))))) (.one (.raise 0 (.s "a param or an own has another one's name, or a box's or a list's"))) .nil)))) S.s43 rfl (z,(nV B S).up Ŗ,(vn B S).up Ŗ,(sI B S).up Ŗ,D.up Ŗ,Ť) Ť (rl λf t Q X H c=>?_)];let(d,i):=ag H;let c:br (pN (uW t) f) (Q (.p .N) []) (X 0 []):=c;revert c;erw[ali i λt m t2 c=>?_];erw[aB (by show(dz f&&J)=J;rw[d];rfl) (mY (a:=p6 4 l9 f) (Z:=X 0 []) c λC c=>?_)];revert c;erw[fQ C λf l1 b c=>?_];let n1:=da (λ_=>JT) b;erw[aB (kK n1) (aB (qi (l:=f.map jG) (jP n1) (by rw[ai];lia)) (mY (a:=Zx (f.map jG)) (Z:=X 0 []) c λn c=>?_))];erw[nY (λpre post σ h=>h=[]/\(∃v,σ=[O (.p (.T f)),O _,v])/\br (post.all λg=>Zx (t++zT g)) _ _) (Ŗ,(_,Ŗ),c) (λpre x post σ h e j=>?_) λσ h j=>?_];.obtain⟨rfl,⟨v,rfl⟩,j⟩:=j;let(o1,o,q):=JB (aG.mp b x nofun);rwa[aB o1 (aB (mH (ay (show(À t)+À (zT x)<=15 by lia) ∅)) (aB (qi (by rw[dy,m,o];rfl) (by rw[ah];lia)) (mY (Z:=X 0 []) j λ_ j=>(Ŗ,(_,Ŗ),j))))]
 .obtain⟨rfl,⟨v,rfl⟩,j⟩:=j;rwa[j]
theorem ID(i:∀k p,f (.T [.S k,p])=J->ax k "rows"=J->g p):∀{ks:ϐ}{r:ϑ},(qL (ks.map .S) r).all f=J->(((qL (ks.map .S) r).filter Ey).map pu).all g=J|[],_,_=>Ŗ|_::_,[],_=>Ŗ|k::ks,p::r,h=>by let(a,H):=ag h;show(((Pv.T _::qL _ r).filter _).map _).all g=J;cases e:ax k _ with|t=>rw[gR (show Ey (.T [.S k,p])=J from e)];show(g p&&_)=J;rw[i k p a e];rwa[ID i H]|f=>rw[gQ (by show ¬ax k _=J;rw[e];rwa[aD])];rwa[ID i H]
def Fe(h:row (n+1) s x):∃w r,x=.T (.S w::r)/\Xm (jl (row n s)) s w r (lk w eI)=true:=by cases x with
 |T X=>cases X with|i=>rwa[FQ h]|k a r=>cases a with|S w=>exact(w,r,Ŗ,h)|_=>rwa[FQ h]
 |_=>rwa[FQ h]
theorem Q9:∀{n:Ń}{x:Pv},row n s x=J->tH n x=J|0,_,h=>by cases h|n+1,x,h=>by let(w,r,e0,h):=Fe h;rw[e0];show((lk w _).isSome&&(B4 r _).all _)=J;cases e:lk w _ with|n=>rw[e]at h;cases h|s K=>rw[e]at h;let(_,_,h,_):=oZ h;erw[ID (λk p H a=>?_) h];let H:AR _ s k p=true:=H;simp only[AR,a]at H;rwa[ud H λX b=>da (λy c=>Q9 c) b]
def Kp(h:rows n s x):jl (tH n) x=true:=ud h λX H=>da (λy a=>Q9 a) H
theorem Rv(i:∀x,f x<=fC x):∀xs,sum f xs<=bS xs|[]=>au _|x::r=>Nat.add_le_add (i x) (Rv i r)
theorem Sn(i:∀x,f x<=fC x):∀(ks:ϐ)(r:ϑ),sum f (((qL (ks.map .S) r).filter Ey).map pu)<=bS r|[],_=>bu _|_::_,[]=>au _|k::ks,p::r=>by show sum f (((Pv.T _::qL _ r).filter _).map _)<=fC p+bS r;let h1:=Sn i ks r;let h2:=i p;cases e:ax k _ with|t=>rw[gR (show Ey (.T [.S k,p])=J from e)];show f p+_<=_;lia|f=>rw[gQ (by show ¬ax k _=J;rw[e];rwa[aD])];lia
def KD(i:∀x,f x<=fC x)(x:Pv):Ru f x<=fC x:=by cases x with|T X=>let:=Rv i X;show sum f X<=1+bS X;lia|_=>rwa[bu _]
def OP(i:∀x,f x<=fC x)(x:Pv):1+sum f (yh x)<=fC x:=by
 let h:=mh x;delta yh;split;.ext w r;show 1+sum f _<=1+(fC _+bS r);cases lk w _ with|n=>done|s k=>let H:sum f (B4 r (O k))<=bS r:=Sn i k r;lia
 .done
theorem Jd:∀(n:Ń)(x:Pv),uI n x<=fC x|0,_=>bu _|n+1,x=>OP (KD (Jd n)) x
def NX(n:Ń)(x:Pv):DR n x<=fC x:=KD (Jd n) x
def X1(h:l9 g):Ip g<=fC g:=by erw[UZ h λa b c d _=>?_];let:=NX 5 d;show 1+DR 5 d<=1+(fC a+(fC _+(fC _+(fC d+0))));lia
theorem KG(i:∀x,g x=J->f x<=fC x):∀{xs:ϑ},xs.all g=J->sum f xs<=bS xs|[],_=>au _|x::r,h=>by rwa[Nat.add_le_add (i x (ag h).1) (KG i (ag h).2)]
def YD(g:Pv):Þ:=l9 g&&jl (tH 5) (Km g)
def Fg(x:Pv):Þ:=t4 x λ_ _ f r=>tw f&&((y6 f).all YD&&(jl (tH 5) r&&Í (Fq f r) zp))
def ĺ:Pv->Ń|.T [_,_,f,r]=>Fq f r|_=>0
@[elab_as_elim]def prC{P:Pv->ß}(h:Fg x)(k:∀b l f r,f.all YD=J->jl (tH 5) r->sum Ip f+DR 5 r<=zp->P (.T [b,l,.T f,r])):P x:=by let(_,_,_,_,rfl,h):=yX h;let(c,H,d,a):=oZ h;revert H a;rwa[RP c λf H a=>k _ _ f _ H d (ap.mp a)]
abbrev Br:Ct:=kt Fg λx K=>∀t:ϑ,À t=ĺ x->K (.L t)
def Sr(x:Pv):Þ:=t4 x λb l f r=>dz (.T [b,l,f,r])&&(vh b l&&(pN (pM b++pM l) f&&tw r))
def Xo(x:Pv):Þ:=t4 x yN
@[elab_as_elim]def ajy{P:Pv->ß}(h:Sr x)(k:∀b l f r,dz (.T [b,l,f,r])=J->vh b l->pN (pM b++pM l) f->tw r->P (.T [b,l,f,r])):P x:=by let(_,_,_,_,rfl,h):=yX h;let(H,a,c,d):=oZ h;rwa[k _ _ _ _ H a c d]
abbrev e_:Ct:=fm Sr λx K X=>br (Xo x) (K .N) (X 1)
abbrev IW:Ct:=rg (λb l f r=>dz (.T [b,l,f,r])) λb l f r K X=>eZ (Ad b l f r) X (K (.T [b,l,f,r]))
def Zj(n:b.all YR)(N:l.all YR)(a:f.all YR)(h:o.all dC):(CC (.T b) (.T l) (.T f) o rt).ok=true:=by show(fT (b.map _++o)&&(fT (l.map _)&&((f.map _).all _&&((f.map _).all _&&Ë (À (f.map _)) (À (f.map _))))))=J;rw[ve (by rw[dy,jP n,h];rfl),ve (jP N),jP a,show(f.map _).all _=J by rw[lM];rwa[aG.mpr λ_ _=>Ŗ],ai,ai,f9];rfl
def LD(B:LX ca W)(S:SX W)(D:DX ca W 5 8 (Lj 5)):DX ca W 4 9 Br:=by
 erw[B.e 4 _ [(5,Lj 5)] [] (.set 1 (.FP .nil)<|>.fo (.one 2) (.s (.ix 0 (.i 2))) (.set 3 (.bi d8 (.u 1))<|>.ex (.mt lU 1 (.u (.tup (.u3 3 (.tup (.u2 (.s "def") (.ix 2 (.i 0)))) (.g 3)))))<|>.one (.ex (.cl 5 [0] (.u3 1 (.ix 2 (.i 3)) 3))))<|>.ex (.cl 5 [0] (.u3 1 (.ix 0 (.i 3)) (.g 3)))<|>.re 1) S.s20 rfl (D,Ť) Ť (zw λx Q X H=>?_)];erw[prC H λb l f r o p h3 q=>?_];let q:∀t:ϑ,À t=sum _ f+DR 5 r->Q _ []:=q;erw[nY (λpre post σ h=>(∃t,h=[.L t]/\À t=sum Ip pre)/\∃v n,σ=[O _,O _,v,n]) (([],Ŗ,Ŗ),_,_,Ŗ) (λpre x post σ h e j=>?_) λσ h j=>?_];.obtain⟨⟨t,rfl,l1⟩,v,n,rfl⟩:=j;let(w,G):=ag (aG.mp o x nofun);rw[e,oG]at h3;let h3:=h3;revert G h3;erw[UZ w λa y c d _ G h3=>?_];let h3:sum _ pre+(1+DR 5 d+sum _ _)+DR 5 r<=zp:=h3;let z:Ip (.T [a,.T y,.T c,d])=1+DR 5 d:=Ŗ;erw[aB (mH ()) ?_];erw[aB (by rw[show jl _ d=J from G,ah,ap.mpr (by show(À t)+1+DR 5 d<=zp;lia)];rfl) λk m=>?_];erw[((k,Ŗ,?_),_,_,Ŗ)];rw[ah]at m;rw[oG,m,l1];show _+1+_=_+(Ip _+0);lia
 .obtain⟨⟨t,rfl,l1⟩,v,n,rfl⟩:=j;rwa[aB (by rw[p,ap.mpr ()];rfl) λk m=>q k (by rw[m,l1])]
def Ur(B:LX ca W)(S:uA W.K (ca 3) "Scope.__init__" (iG (top 41) 0) ["self","boxes","lists","param_counts","may_return"])(x:W.mg "Scope"=O (.ref (ca 3))):Di (Lx ca) W 3 2:=by erw[Lk.vC ["self","boxes","lists","param_counts","may_return"] _ J [] [] B (.rn 3 0 1 0<|>.rn 3 1 2 0<|>.rn 3 2 3 0<|>.one (.rn 3 3 4 0)) S x rfl Ť Ť λds h Q X c=>?_];erw[ċ c λi _ c=>ly c λ_ _ c=>ly c λ_ _ c=>ly c λ_ _ c=>ly c λ_ _ c=>lV c λc=>ϴ c λj _ c=>lV c λc=>?_];let(H,c):=bG c;let(H,a):=ag H;rw[aP H,aP a];exact(Ŗ,c)
def BF(B:LX ca W)(S:SX W)(D:DX ca W 24 27 (DI 5))(I:Di (Lx ca) W 3 2):DX ca W 15 28 e_:=by
 erw[B.eN (k:=26) ["program","boxes","lists","functions","rows","param_counts","function","scope"] J [(21,xF),(22,i_),(24,DI 5)] [3] (.unp [1,2,3,4] 0<|>.set 5 (.bi ajS (.u (.comp 1 [] (.one 0) (.s 3) .no (.tup (.u2 (.ix 0 (.i 0)) (.bi d8 (.u (.ix 0 (.i 1)))))))))<|>.fo (.one 6) (.s 3) (.set 7 (.new 3 (.u4 (.b2 cm (.cl 21 [] (.u 1)) (.cl 22 [] (.u 6))) (.cl 21 [] (.u 2)) 5 (.c (.B J))))<|>.one (.iff (.not (.val (.cl 24 [] (.u3 (.ix 6 (.i 3)) 7 (.i 1))))) (.one (.raise 1 (.s "a row of a function is none"))) .nil))<|>.one (.iff (.not (.val (.cl 24 [] (.u3 4 (.new 3 (.u4 (.cl 21 [] (.u 1)) (.cl 21 [] (.u 2)) 5 (.c (.B af)))) (.i 1))))) (.one (.raise 1 (.s "a row of the program is none"))) .nil)) S.s44 rfl ((nV B S).up Ŗ,(vn B S).up Ŗ,D,Ť) (I.le (),Ť) (zw λp Q X E c=>?_)];revert c;erw[ajy E λb l f r t G H h3 c=>?_];let d1:dz f=true:=fM t ⋯;let d2:dz r=true:=fM t ⋯;let(K,L,_):=lT G;let(M,F,H):=lT H;let c:br (yN b l f r) (Q (.p .N) []) (X 1 []):=c;revert c F H d1;erw[fQ K λb lb P=>fQ L λl ll U=>fQ M λf lf A d1 F H c=>?_];let n1:=da (λ_=>Cf) P;let n2:=da (λ_=>yu) U;let n3:=da (λ_=>JT) A;erw[iY Y0 Ŗ (λy Y=>?_) ?_];.let z:=aG.mp A y Y;erw[UZ z λa b c d _=>?_];rwa[λR q=>q]
 erw[bW (Kc (jP n3)) ?_];erw[aB (ap.mpr (by show(À (f.map jG))<=100;rw[ai];lia)) ?_];let e1:=x5 (ks:=f.map jG) (us:=f.map Ly) (ks':=[]) (us':=[]) (by rw[ai,ai]) (jP n3) rfl F λ_ _=>Ŗ;rw[ky,ky]at e1;dsimp only;rw[e1];erw[nY (λpre post σ h=>h=[]/\(∃v m,σ=[O (.p (.T [.T b,.T l,.T f,r])),O (.p (.T b)),O (.p (.T l)),O (.p (.T f)),O (.p r),O (.p (.dct (f.map jG) (f.map Ly))),v,m])/\br ((post.all λg=>rows 5 (CC (.T b) (.T l) (.T f) (zT g) J) (Km g))&&rows 5 (CC (.T b) (.T l) (.T f) [] af) r) (Q (.p .N) []) (X 1 [])) (Ŗ,(_,_,Ŗ),c) (λpre x post σ h e j=>?_) λσ h j=>?_]
 .obtain⟨rfl,⟨v,m,rfl⟩,j⟩:=j;let w:x∈f:=by rw[e];simp
  let z:=aG.mp A x w;let(o1,n,C):=JB z;let dx:=fM d1 w;rw[bC,Bool.and_assoc]at j;let sk:=Zj (rt:=J) n1 n2 n3 n;revert o1 n C dx j sk;erw[UZ z λa p o d _ j o1 n C dx sk=>?_];erw[aB (kK n1) (aB o1 (aB (mH (ay (show(À (b.map jG))+À (zT (.T [a,.T p,.T o,d]))<=12 by rw[ai];lia) ∅)) (aB (kK n2) ?_)))];erw[aB (by show(dz d&&(SQ (CC (.T b) (.T l) (.T f) (zT (.T [a,.T p,.T o,d])) J).pv&&J))=J;rw[fM dx ⋯,yP sk];rfl) ?_];rwa[mY (a:=rows 5 (CC (.T b) _ _ _ J) d) (Z:=X 1 []) j λ_ j=>(Ŗ,(_,_,Ŗ),j)]
 .obtain⟨rfl,⟨v,m,rfl⟩,j⟩:=j;let sk:=Zj (o:=[]) (rt:=af) n1 n2 n3 rfl;let es:CC (.T b) (.T l) (.T f) [] af=(b.map jG,l.map jG,f.map jG,f.map Ly,af):=by delta CC;rw[aQ];rfl
  rw[es]at sk j;rwa[aB (kK n1) (aB (kK n2) (aB (by show(dz r&&(SQ (Sc.pv (_,_,_,_,_))&&J))=J;rw[d2,yP sk];rfl) (IP j)))]
def BG(B:LX ca W)(S:SX W)(D:DX ca W 13 7 NT)(d:DX ca W 14 6 NP)(a:DX ca W 15 28 e_)(o:DX ca W 4 9 Br):DX ca W 12 29 IW:=by
 erw[B.e (k:=27) 5 J [(13,NT),(14,NP),(15,e_),(4,Br),(21,xF)] [] (.ex (.cl 13 [] (.u2 0 1))<|>.ex (.cl 14 [] (.u2 2 (.b2 cm (.cl 21 [] (.u 0)) (.cl 21 [] (.u 1)))))<|>.iff (.not (.val (.bi uK (.u2 3 (.ty 3))))) (.one (.raise 0 (.s "the program's rows are no tuple"))) .nil<|>.set 4 (.tup (.u4 0 1 2 3))<|>.ex (.cl 15 [] (.u 4))<|>.iff (.cmp IU (.bi d8 (.u (.cl 4 [] (.u 4)))) (.g 10)) (.one (.raise 2 (.s "the program has more than 60 numbers"))) .nil<|>.re 4) S.s41 rfl (D.up Ŗ,d.up Ŗ,a,o.up Ŗ,(nV B S).up Ŗ,Ť) Ť (py λb l f r Q X H q=>?_)];let q:eZ (Ad b l f r) (λc=>X c []) (Q (.p (.T [b,l,f,r])) []):=q;let d1:dz b=true:=fM H ⋯;let d2:dz l=true:=fM H ⋯;let t:dz f=true:=fM H ⋯;let m:dz r=true:=fM H ⋯;erw[aB (by show(dz b&&dz l)=J;rw[d1,d2];rfl) (IA (c:=vh b l) q λC q=>?_)];let i:=C;let(v,w,_):=lT C;revert q i H d1 d2;erw[fQ v λb L y=>fQ w λl I z H d1 d2 q C=>?_];let n1:=da (λ_=>Cf) y;let n2:=da (λ_=>yu) z;erw[aB (kK n1) (aB (kK n2) (aB (mH (ay (show(À (b.map jG))+À (l.map jG)<=9 by rw[ai,ai];lia) ∅)) ?_))];erw[aB (by show(dz f&&((b.map jG++l.map jG).all dC&&Í (À (b.map jG++l.map jG)) 9))=J;rw[t,dy,jP n1,jP n2,ap.mpr (by rw[ah,ai,ai];lia)];rfl) (IA (c:=pN (b.map jG++l.map jG) f) q λj q=>?_)];revert q H;erw[D2 m (λ_=>id) (λ_ _=>id) (λ_ _=>id) (λ_ _ _=>id) (λr m H q=>?_) (λ_ _ _=>id) λ_ _ _ _=>id];let q:eZ (R0 (yN (.T b) (.T l) f (.T r)) 1 (R0 (!iQ 60 (Fq f (.T r):Ń)) 2 aa)) (λc=>X c []) (Q (.p (.T [.T b,.T l,f,.T r])) []):=q;erw[aB (by show(dz (.T [.T b,.T l,f,.T r])&&(vh (.T b) (.T l)&&(pN (pM (.T b)++pM (.T l)) f&&J)))=J;rw[H,C,show pN (pM (.T b)++pM (.T l)) f=J from j];rfl) (IA (c:=yN (.T b) (.T l) f (.T r)) q λE q=>?_)];let(F,j):=ag j;let(R,G):=ag E;revert q R H;erw[fQ F λf K A H q R=>?_];let tl:Fq (.T f) (.T r)<=zp:=by let M:sum Ip f<=bS f:=KG (λx h=>X1 h) A;let e2:=NX 5 (.T r);let e3:=ap.mp (ag H).2;let N:fC (.T [.T b,.T l,.T f,.T r])=1+(fC _+(fC _+(1+bS f+(fC _+0)))):=Ŗ;show sum _ f+DR 5 _<=zp;lia
 erw[aB (by show(f.all _&&(jl _ _&&Í _ zp))=J;rw[aG.mpr λg n=>by show(l9 g&&jl _ _)=J;rw[aG.mp A g n,Kp (aG.mp R g n)];rfl,Kp G,ap.mpr tl];rfl) λP lt=>?_];show br _ _ _;rw[lt];rwa[ϭ q λq=>q]
def cy{h:Hs}(H:h[w]?=O o):(h.set w o')[w]?=O o':=cL (aj.mp H).1
def Xy{h:Hs}(H:h[w]?=O o):h.set w o=h:=by
 erw[List.ext_getElem? λi=>?_];by_cases e:w=i;.subst e;rw[cy H,H]
 .rw[aA e]
def K5{ws:ϑ}(H:ws.drop k=x::r):ws[k]?=O x/\k+1<=À ws/\ws.drop (k+1)=r:=by
 let h:(ws.drop k)[0]?=O x:=by rw[H];rfl
 rw[List.getElem?_drop]at h;erw[(h,(aj.mp h).1,?_)];rw[<-List.drop_drop,H];rfl
def ļ{ws:ϑ}(H:k<=À ws)(h:ws.drop k=[]):k=À ws:=by let:=List.drop_eq_nil_iff.mp h;lia
def VP{r:ϑ}(H:k<=À ws)(h:ws.drop k=r):iQ k (À ws)=!r.isEmpty:=by cases r with|i=>rw[ļ H h];rwa[bg.mpr λz=>by let:=dE.mp z;lia]|k x r=>rwa[dE.mpr (by let:=(K5 h).2.1;lia)]
def r_(B:LX ca W)(S:uB W.K (ca 5) "are_left" "Words.are_left" (iG (top 63) 1) ["self"]):Di (Lx ca) W 601 2:=by erw[B.AO 1 af [] [] (.re (.cmp TR (.fld 5 1 0) (.bi d8 (.u (.fld 5 0 0))))) S rfl Ť Ť λds h Q x c=>?_];cases c with|mk o r H w q=>let(s,k,a,b,d,g):=w;rw[<-VP a b]at q;exact(Ŗ,cF (dq H) (cF (dq H) q))
def w_(B:LX ca W)(S:uB W.K (ca 5) "take" "Words.take" (iG (top 63) 2) ["self"])(D:Di (Lx ca) W 601 2):Di (Lx ca) W 600 4:=by erw[B.AO 1 af [] [601] (.iff (.not (.val (.AO 601 0))) (.one (.raise 4 (.s "a row lacks words"))) .nil<|>.ad4 5 1 1 0<|>.re (.ix (.fld 5 0 0) (.b2 DE (.fld 5 1 0) (.i 1)))) S rfl Ť (D,Ť) λds h Q X c=>?_];cases c with
 |@ok w _ _ _ o r R x H f e q=>cases r with|i=>cases e|k y r=>cases e;erw[(Ŗ,?_)];let(a,k,j,b,d,g):=f;let(l,m,n):=K5 b;rwa[dX H (.mk _ _ H (a,k,j,b,d,g) (Z1 H Ŗ Ŗ (cF (dq (cy H)) (cF (dq (cy H)) (bW (show uh a (k+1-1)=O x by rw[show(k:Î)+1-1=k by lia];rwa[l]) (q _ (a,_,m,n,d,g)))))))]
 |no o r H f e q=>cases r with|k y r=>cases e|i=>erw[(Ŗ,?_)];let(a,k,j,b,d,g):=f;rwa[dX H (.mk _ _ H (a,k,j,b,d,g) q)]
def N8(B:LX ca W)(S:uB W.K (ca 5) "take_all" "Words.take_all" (iG (top 63) 3) ["self"]):Di (Lx ca) W 602 2:=by erw[B.AO 2 af [] [] (.set 1 (.sl (.fld 5 0 0) (.of (.fld 5 1 0)) .no)<|>.rn 5 1 (.bi d8 (.u (.fld 5 0 0))) 0<|>.re 1) S rfl Ť Ť λds h Q X c=>?_];cases c with|@ok w _ _ _ o r R x H a e q=>cases e;erw[(Ŗ,?_)];let(s,k,f,b,d,g):=a;subst b;rwa[cF (dq H) (cF (dq H) (cF (dq H) (mE H Ŗ Ŗ (q _ (s,_,au _,K8,d,g)))))]|no o r H a e q=>cases e
def u_(B:LX ca W)(S:uA W.K (ca 5) "Words.__init__" (iG (top 63) 0) ["self","words"])(x:W.mg "Words"=O (.ref (ca 5))):Di (Lx ca) W 5 2:=by erw[Lk.vC ["self","words"] _ af [] [] B (.rn 5 0 1 0<|>.one (.rn 5 1 (.i 0) 0)) S x rfl Ť Ť λds h Q X c=>?_];cases c with|@mk i w _ _ _ H q=>erw[(Ŗ,mE H Ŗ Ŗ (mE (cy H) Ŗ Ŗ ?_))];rw[<-FU ..]at q;rwa[q]
def Xx{l:Hs}(H:h[i]?=O o):(h++l).set i o'=h.set i o'++l:=by rw[List.set_append,cG (aj.mp H).1]
def bK{l:Hs}{i:Ń}(H:h[i]?=O o):(h++l)[i]?=O o:=by rw[aY (aj.mp H).1];rwa[H]
def fW{h l:Hs}(H:h[i]?=O o):(h.set i a++l).set i b=h.set i b++l:=by rw[Xx (cy H),FU]
def t_(B:LX ca W)(S:uA W.K (ca 6) "Reader.__init__" (iG (top 64) 0) ["self"])(x:W.mg "Reader"=O (.ref (ca 6))):Di (Lx ca) W 6 2:=by erw[Lk.vC ["self"] _ af [] [] B (.rn 6 0 (.g 12) 0<|>.rn 6 1 (.FP .nil) 0<|>.rn 6 2 (.FP .nil) 0<|>.rn 6 3 (.FP .nil) 0<|>.rn 6 4 (.FP .nil) 0<|>.one (.rn 6 5 (.lsd .nil) 0)) S x rfl Ť Ť λds h Q X c=>?_];cases c with|@mk i _ _ _ H q=>let ln:∀a,À (h.set i a)=À h:=λa=>bT;erw[(Ŗ,mE H Ŗ Ŗ (mE (bK (cy (o':=.I 6 [.p (.I 0)]) H)) Ŗ Ŗ ?_))];rw[fW H,ln];erw[mE (bK (bK (cy (o':=.I 6 [.p (.I 0),.r (À h)]) H))) Ŗ Ŗ ?_];rw[aN,fW H,ah,ln];erw[mE (bK (bK (cy (o':=.I 6 [.p (.I 0),.r (À h),.r (À h+1)]) H))) Ŗ Ŗ ?_];rw[aN,fW H,ah,ln];erw[mE (bK (bK (cy (o':=.I 6 [.p (.I 0),.r (À h),.r (À h+1),.r (À h+2)]) H))) Ŗ Ŗ ?_];rw[aN,fW H,ah,ln];erw[mE (bK (bK (cy (o':=.I 6 [.p (.I 0),.r (À h),.r (À h+1),.r (À h+2),.r (À h+3)]) H))) Ŗ Ŗ ?_];rw[aN,fW H,ah,ln];rwa[q]
def oa(x:Pv)(K:Pv->ß)(X:Ń->ß):ß:=br (gI (dN x)) (eZ (Ú (dN x)) (λn=>K (.I n)) ŧ) (X 4)
abbrev TZ:Ct:=fm (λx=>dC x&&Í (dN x).length zp) oa
def pF(B:LX ca W)(S:SX W):DX ca W 40 2 TZ:=by
 erw[B.e (k:=0) 1 J [] [] (.iff (.bo (Wm.oc (.cmp IU (.bi d8 (.u 0)) (.g 11)) (Wm.o1 (.not (.val (.bi LK (.u (.comp 1 [] (.one 0) (.c 0) .no (.ch Sz Sz (.s "0") 0 (.s "9")))))))))) (.one (.raise 4 (.s "a number has one to six figures and nothing else"))) .nil<|>.iff (.bo (Wm.ac (.val (.mt xL 0 (.u (.s "0")))) (Wm.a1 (.cmp zu 0 (.s "0"))))) (.one (.raise 4 (.s "a number has no 0 ahead"))) .nil<|>.re (.bi YA (.u 0))) S.HQ rfl Ť Ť (zw λx Q X a=>?_)];let(b,H):=ag a;revert H;erw[tY b λz H q=>?_];let hz:=mH (ap.mp H);let q:br (gI z) (eZ (Ú z) (λn=>Q (.p (.I n)) []) ŧ) (X 4 []):=q;delta gI at q;erw[aB hz (bE (λe=>?_) λe=>?_)];.let e:iQ 6 _=true:=e;rw[e]at q;rwa[q]
 .let e:iQ 6 _=false:=e;rw[e]at q;erw[aB hz ?_];erw[iY (λy=>.B (pJ y)) Ŗ (λy f=>?_) (uD ?_)];.let(c,_,rfl):=bf.mp f;rwa[λR q=>mm (Q:=λd h=>R [d] h) q λ_ q=>q]
  .revert q;cases(lE z).all _ with|f=>rwa[λq=>q]|t=>
    let fin:eZ (Ú z) (λn=>Q (.p (.I n)) []) _->eZ _ (λn=>gd (Í z.length 640) _) ŧ:=λq=>by let(n,E,q):=de q;erw[bW E (aB (ap.mpr ?_) q)];let:=bg.mp e;rw[ne_eq,dE]at this;lia
    intro q;revert q;show br _ _ _->br _ (br (!ax z "0") (X 4 []) _) _;cases ð z "0"with|f=>done|t=>cases ax z "0"with|f=>rwa[λq=>q]|t=>done
theorem Wr.all(h:Wr r o):r.all gW=true:=by let(w,k,b,H,s,g):=h;subst H;rwa[aG.mpr λx a=>aG.mp g x (List.mem_of_mem_drop a)]
@[elab_as_elim]def ï{P:Pv->ß}(h:gW x)(k:∀z,Í z.length 1000000=J->(gI z=J->(Ú z).isSome=J)->P (.S z)):P x:=by
 cases x<;>first|done|skip
 ext z;let(a,H):=ag h;rwa[k z a λe=>by rw[e]at H;rwa[H]]
inductive Bq(f:Ã->ϑ->Ő (Pv×ϑ)):Ct|ok{w:Ń}{k:Ã}{h:Hs}{Q:Dv->Hs->ß}{xc:XP}(o:Ob)(r r':ϑ)(x:Pv)(hw:h[w]?=O o)(wr:Wr r o)(e:f k r=O (x,r'))(q:∀o' l,Wr r' o'->Q (.p x) (h.set w o'++l)):Bq f [.p (.S k),.r w] h Q xc|no{w:Ń}{k:Ã}{h:Hs}{Q:Dv->Hs->ß}{xc:XP}(o:Ob)(r:ϑ)(hw:h[w]?=O o)(wr:Wr r o)(e:f k r=aa)(q:∀o' l,xc 4 (h.set w o'++l)):Bq f [.p (.S k),.r w] h Q xc
inductive T6(R:ϑ->Ő (Pv×ϑ)->ß):Ct|mk{w:Ń}{h:Hs}{Q:Dv->Hs->ß}{xc:XP}(o:Ob)(r:ϑ)(oo:Ő (Pv×ϑ))(hw:h[w]?=O o)(wr:Wr r o)(e:R r oo)(q:∀x r',oo=O (x,r')->∀o' l,Wr r' o'->Q (.p x) (h.set w o'++l))(q':oo=aa->∀o' l,xc 4 (h.set w o'++l)):T6 R [.r w] h Q xc
inductive Gh:Ct|ok{w:Ń}{h:Hs}{Q:Dv->Hs->ß}{xc:XP}(o:Ob)(v:Ã)(r:ϑ)(hw:h[w]?=O o)(wr:Wr (.S v::r) o)(e:(lk v gN).isSome)(q:∀o',Wr r o'->Q (.r (À h)) (h.set w o'++[.L [.S v]])):Gh [.r w] h Q xc|no{w:Ń}{h:Hs}{Q:Dv->Hs->ß}{xc:XP}(o:Ob)(r:ϑ)(hw:h[w]?=O o)(wr:Wr r o)(e:r=[]\/∃v r',r=.S v::r'/\lk v gN=aa)(q:∀o' l,xc 4 (h.set w o'++l)):Gh [.r w] h Q xc
def nu(r:ϑ)(z:Ã):Ő (Pv×ϑ):=match gI z with
 |J=>match Ú z with|O n=>O (.I n,r)|aa=>aa
 |af=>aa
def dQ(k:Ã):ϑ->Ő (Pv×ϑ)|[]=>aa|x::r=>match ax k "number"with|J=>nu r (dN x)|af=>O (x,r)
def Ga{h:Hs}{P:Hs->ß}(H:h[w]?=O o)(q:∀o' l,P (h.set w o'++l)):P h:=by let q:=q o [];rw[aQ,Xy H]at q;rwa[q]
def Cg{h:Hs}{P:Hs->ß}(q:∀l,P (h.set w o++l)):P (h.set w o):=by let q:=q [];rw[aQ]at q;rwa[q]
def DZ(B:LX ca W)(S:SX W)(I:Di (Lx ca) W 600 4):DX ca W 43 6 (Bq dQ):=by erw[B.e (k:=4) 2 af [(40,TZ)] [600] (.iff (.cmp jA 0 (.s "number")) (.re (.cl 40 [] (.u (.AO 600 1)))) .nil<|>.re (.AO 600 1)) S.HW rfl ((pF B S).up Ŗ,Ť) (I,Ť) λds h Q X c=>?_];cases c with
 |@ok w k _ _ _ o r R x H a e q=>erw[(Ŗ,?_)];cases r with|i=>cases e|k y r=>
  let g:=(ag (show(gW y&&r.all gW)=J from a.all)).1;let e:(match ax k "number"with|J=>nu r (dN y)|af=>O (y,r))=O (x,R):=e;let(f,K,i,j,m,p):=id a;erw[bE (λE=>dX H (.ok _ _ _ _ H a rfl λb L=>?_)) λE=>dX H (.ok _ _ _ _ H a rfl λb L=>?_)]
  .let E:ax k "number"=true:=E;rw[E]at e;let e:nu r (dN y)=O (x,R):=e;revert e;erw[ï g λz d hn e=>aB (by show(J&&Í z.length zp)=J;rwa[d]) ?_];let e:nu r z=O (x,R):=e;delta nu at e;split at e
   .ext N;split at e;.ext n t;cases e;show br (gI z) _ _;rw[N];rwa[bW t (Cg λl=>q b l L)]
    .cases e
   .cases e
  .let E:ax k _=false:=E;rw[E]at e;cases e;rwa[Cg λl=>q b l L]
 |@no w k _ _ _ o r H a e q=>erw[(Ŗ,?_)];let(f,K,i,j,m,p):=id a;cases r with|i=>rwa[bE (λ_=>dX H (.no _ _ H a rfl (Ga H q))) λ_=>dX H (.no _ _ H a rfl (Ga H q))]|k y r=>
  let g:=(ag a.all).1;let e:(match ax k _ with|J=>nu r _|af=>O _)=none:=e;erw[bE (λE=>dX H (.ok _ _ _ _ H a rfl λb L=>?_)) λE=>?_]
  .let E:ax k _=true:=E;rw[E]at e;let e:nu r _=none:=e;revert e;erw[ï g λz d hn e=>aB (by done) ?_];let e:nu r z=none:=e;show br (gI z) (eZ (Ú z) _ _) _;delta nu at e;split at e
   .split at e;.cases e
    .left
   .ext N;rw[N];rwa[Cg λl=>q b l]
  .let E:ax k _=false:=E;rw[E]at e;cases e
def xX(B:LX ca W)(S:SX W)(I:Di (Lx ca) W 600 4):DX ca W 42 6 Gh:=by erw[B.e 2 af [(1,Gf _)] [600] (.set 1 (.AO 600 0)<|>.iff (.AH af (.cl 1 [] (.u 1))) (.one (.raise 4 (.s "a value begins with another word"))) .nil<|>.re (.FP (.u 1))) S.zX rfl ((mq B S).up Ŗ,Ť) (I,Ť) λds h Q x c=>?_];cases c with|@ok w _ _ _ o v r H a e q=>erw[(Ŗ,?_)];let(d,k,f,g,i,j):=id a;erw[dX H (.ok _ _ _ _ H a rfl λb L=>aB Ŗ ?_)];let(K,E):=bN.mp e;erw[bW E ?_];let q:=q b L;rw[<-bT]at q;rwa[q]|@no w _ _ _ o r H a e q=>
  erw[(Ŗ,?_)];let(d,k,f,g,i,j):=id a;rcases e with rfl|⟨v,R,rfl,e⟩;.rwa[dX H (.no _ _ H a rfl (Ga H q))]
  .erw[dX H (.ok _ _ _ _ H a rfl λb L=>aB Ŗ ?_)];show eZ (lk v _) _ _;rw[e];rwa[Cg λl=>q b l]
inductive RV:Ń->ϑ->Ł ϑ->ϑ->Ő (Pv×ϑ)->ß|opn{w v:Ã}{ps r:ϑ}{ks:ϐ}{st:Ł ϑ}{o:Ő (Pv×ϑ)}{m:Ń}(e:lk w gN=O ks)(k:ks[À ps]?=O ("value":Ã))(ev:(lk v gN).isSome)(t:RV m [.S v] ((.S w::ps)::st) r o):RV (m+1) (.S w::ps) st (.S v::r) o|afN{w:Ã}{ps r:ϑ}{ks:ϐ}{st:Ł ϑ}(e:lk w gN=O ks)(k:ks[À ps]?=O ("value":Ã))(n:r=[]\/∃v r',r=.S v::r'/\lk v gN=aa):RV 0 (.S w::ps) st r aa|wrd{w kd:Ã}{x:Pv}{ps r r':ϑ}{ks:ϐ}{st:Ł ϑ}{o:Ő (Pv×ϑ)}{m:Ń}(e:lk w gN=O ks)(k:ks[À ps]?=O kd)(nv:ax kd "value"=af)(f:dQ kd r=O (x,r'))(t:RV m (.S w::ps++[x]) st r' o):RV (m+1) (.S w::ps) st r o|ahd{w kd:Ã}{ps r:ϑ}{ks:ϐ}{st:Ł ϑ}(e:lk w gN=O ks)(k:ks[À ps]?=O kd)(nv:ax kd "value"=af)(f:dQ kd r=aa):RV 0 (.S w::ps) st r aa|fin{w:Ã}{ps r:ϑ}{ks:ϐ}(e:lk w gN=O ks)(l:À ps=À ks):RV 0 (.S w::ps) [] r (O (.T (.S w::ps),r))|pop{w:Ã}{ps p2 r:ϑ}{ks:ϐ}{st:Ł ϑ}{o:Ő (Pv×ϑ)}{m:Ń}(e:lk w gN=O ks)(l:À ps=À ks)(t:RV m (p2++[.T (.S w::ps)]) st r o):RV (m+1) (.S w::ps) (p2::st) r o
inductive zG:ϑ->Ő (Pv×ϑ)->ß|go{v:Ã}{r:ϑ}{o:Ő (Pv×ϑ)}{m:Ń}(ev:(lk v gN).isSome)(t:RV m [.S v] [] r o):zG (.S v::r) o|no{r:ϑ}(n:r=[]\/∃v r',r=.S v::r'/\lk v gN=aa):zG r aa
inductive SK(l:Hs):Ϙ->Ł ϑ->ß|nil:SK l [] []|cons{j:Ń}{js:Ϙ}{p:ϑ}{ps:Ł ϑ}(e:l[j]?=O (.L p))(n1:j≠1)(n:j∉js)(t:SK l js ps):SK l (j::js) (p::ps)
theorem SK.set{i:Ń}{o:Ob}:∀{j:Ϙ}{ps:Ł _},i∉j->SK l j ps->SK (l.set i o) j ps:=by intro j ps h k;induction k with|i=>rwa[.nil]|k e N n t I=>rwa[.cons nofun N n (I λz=>h (ak _ z))]
def SK.agB:∀{j:Ϙ}{ps:Ł _},SK l j ps->SK (l.set 1 o) j ps:=by intro j ps k;induction k with|i=>rwa[.nil]|k e N n t i=>rwa[.cons (by rw[aA (cj N)];rwa[e]) N n i]
def SK.app:∀{j:Ϙ}{ps:Ł _},SK l j ps->SK (l++m) j ps:=by intro j ps k;induction k with|i=>rwa[.nil]|k e N n t i=>rwa[.cons (bK e) N n i]
def SK.lt:∀{js:Ϙ}{ps:Ł _},SK l js ps->À l∉js:=by intro js ps k;induction k with|i=>simp|k e N n t i=>rwa[λz=>(aJ.mp z).elim λz=>by left i]
def xj(n:Ń)(s:Ϙ):Ł Dv:=s.map λj=>.r (n+j)
def lB:xj n (s++[j])=xj n s++[.r (n+j)]:=by rw[xj,aR];rfl
def kM:À (xj n j)=À j:=ai ..
inductive VJ(h:Hs)(w N:Ń)(o:Ő (Pv×ϑ))(m:Ń):Es->Hs->ß|mk(ow:Ob)(l:Hs)(r top:ϑ)(st:Ł ϑ)(jt:Ń)(js:Ϙ)(v2 v3 v4:Ő Dv)(wr:Wr r ow)(l1:l[1]?=O (.D (xj (À h) (js.reverse++[jt]))))(hz:À js+1+À r<=N)(hs:∀p∈st,À p<=2)(sk:SK l (jt::js) (top::st))(rv:RV m top st r o):VJ h w N o m [O (.r w),O (.r (À h+1)),v2,v3,v4] (h.set w ow++l)
def FC(e:lk w gN=O ks):À ks<=2:=by
 let k:∀{t:Ł _},(∀p∈t,À p.2<=2)->lk w t=O ks->À ks<=2:=by intro t;induction t with|i=>intro _ e;cases e|k p t i=>
   intro h e;let e:(match ax w p.1 with|J=>O p.2|af=>lk w t)=O ks:=e;split at e;.left
   .rwa[i (λq H=>h q (ak _ H)) e]
 rwa[k ∅ e]
def Sb(e:dQ k r=O (x,r')):À r'+1=À r:=by cases r with|i=>cases e|k y r=>
  let e:(match ax k _ with|J=>nu r _|af=>O _)=O _:=e;split at e
  .delta nu at e;split at e
   .split at e;.left
    .cases e
   .cases e
  .left
def fO{h l:Hs}:(h.set w o++l)[À h+j]?=l[j]?:=by rw[aK ⋯,bT];congr 1;lia
def oF{h l:Hs}:(h.set w o++l).set (À h+j) q=h.set w o++l.set j q:=⋯
def qk(xs:Ł α)(x:α):uh (xs++[x]) (-1)=O x:=by show(match Í 1 _ with|J=>(xs++[x])[À (xs++[x])-1]?|af=>aa)=_;rw[ap.mpr ⋯];simp
def w6{α:Type}(xs:Ł α)(x:α):(xs++[x])[À (xs++[x])-1]?=O x:=⋯
def JU{P:ß}(h:À ps<À ks)(z:ED (À (Pv.S w::ps)) (À (ks.map Pv.S))=af):P:=by let:=bg.mp z;rw[Ne,kJ,aq,ai]at this;lia
def YS{P:ß}(h:À ps=À ks)(z:ED (À (Pv.S w::ps)) (À (ks.map Pv.S))):P:=by rw[kJ,aq,ai]at z;lia
def wZ{ks:ϐ}(e:ks[À ps]?=O k):uh (ks.map Pv.S) (À (Pv.S w::ps)-1)=O (.S k):=by rw[aq,show((À ps+1:Ń):Î)-1=À ps by lia];show(ks.map _)[À ps]?=_;rw[bP,e];rfl
seal uY j4 jZ lu gj in
def BI(B:LX ca W)(S:SX W)(D42:DX ca W 42 6 Gh)(D43:DX ca W 43 6 (Bq dQ)):DX ca W 41 7 (T6 zG):=by erw[B.e (k:=5) 5 af [(1,Gf gN),(42,Gh),(43,Bq dQ)] [] (.set 1 (.lsd (.u (.sG 42 (.u 0))))<|>.one (.whT (.set 2 (.ix 1 (.neg (.i 1)))<|>.set 3 (.cl 1 [] (.u (.ix 2 (.i 0))))<|>.one (.iff (.cmp Sz (.bi d8 (.u 2)) (.bi d8 (.u 3))) (.set 4 (.ix 3 (.b2 DE (.bi d8 (.u 2)) (.i 1)))<|>.one (.iff (.cmp jA 4 (.s "value")) (.one (.ex (.mt lU 1 (.u (.sG 42 (.u 0)))))) (.one (.ex (.mt lU 2 (.u (.sG 43 (.u2 4 0)))))))) (.ex (.m0 Ĩ 1)<|>.iff (.cmp jA (.bi d8 (.u 1)) (.i 0)) (.re (.bi uM (.u 2))) .nil<|>.one (.ex (.mt lU (.ix 1 (.neg (.i 1))) (.u (.bi uM (.u 2)))))))))) S.E9 rfl ((mq B S).up Ŗ,D42,D43,Ť) Ť λds h Q xc c=>?_];cases c with|@mk w _ _ _ o r oo I d e q q'=>erw[(Ŗ,?_)];cases e with|no n=>rwa[.no _ _ I d n (q' Ŗ)]|@go v r _ m ev t=>
 let hN:∃N,N<=Â/\À r+1<=N:=by let(ws,k,hk,hr,T,hg):=d;erw[(À ws,dO T,?_)];let:=cY À hr;rw[fh,aq]at this;lia
 let(N,hN,hN1):=hN;erw[.ok _ _ _ I d ev λo' X=>aB Ŗ ?_];erw[Ô (VJ h w N oo) (Õ (m,?_) λm σ' h' b=>?_)]
 .let z:=VJ.mk (h:=h) (w:=w) (N:=N) (o:=oo) (m:=m) o' [.L [.S v],.D [.r (À h+0)]] r [.S v] [] 0 [] aa aa aa X rfl (by rw[eO];lia) (λp M=>by cases M) (.cons Ŗ ∅ ⋯ .nil) t;let e1:À (h.set w o'++[Ob.L [.S v]])=À h+1:=by rw[ah,bT];rfl
  let e2:h.set w o'++[.L [.S v],.D [.r (À h+0)]]=h.set w o'++[.L [.S v]]++[Ob.D [.r (À h)]]:=by rw[aN];rfl
  rw[<-e1,e2]at z;rwa[z]
 .cases b with|mk ow l r top st jt y v2 v3 v4 d l1 hz T sk rv=>let pT:(h.set w ow++l)[w]?=O ow:=bK (cy I);let Y:=sk;cases sk with|k e n1 n R=>
  let G:=fO (h:=h) (w:=w) (o:=ow) (l:=l) (j:=1);rw[l1,lB]at G;let g:=fO (h:=h) (w:=w) (o:=ow) (l:=l) (j:=jt);rw[e]at g;let lt1:1<À l:=(aj.mp l1).1;erw[fu G (qk _ _) ?_]
  cases rv with|@opn U v0 P r0 A _ _ m0 E K ev0 Z=>
   let H:À P<À A:=(aj.mp K).1;erw[uR g Ŗ (aB Ŗ (aB Ŗ (bW E ?_)))];erw[gY g (ql (bE (λ_=>?_) λz=>JU H z))];erw[gY g (iL (wZ K) ?_)];erw[aB (L6 G) (Gh.ok (h:=h.set w ow++l) _ _ _ pT d ev0 λo' X=>?_)];rw[fW I,aN,ah,bT];erw[nS (fO.trans (bK l1)) (dI ?_) ?_];.rw[kM,ah,eV];rw[aq]at hz;show(À y)+1+1<=_;lia
   .rw[oF];let hn:À l≠1:=()
    erw[(m0,cK _,.mk o' _ r0 [.S v0] ((.S U::P)::st) (À l) (jt::y) _ _ _ X ?_ (by rw[aq]at hz⊢;lia) (λp M=>?_) (.cons ?_ hn (SK.lt Y) (SK.agB (SK.app Y))) Z)];.rw[cy (bK l1),<-lB,lO]
    .rcases aJ.mp M with rfl|M;.let:=FC E;rw[aq];lia
     .rwa[T p M]
    .rw[aA (cj hn),aK (au _),eY];rfl|@afN U P _ A _ E K nn=>let H:À P<À A:=(aj.mp K).1;erw[uR g Ŗ (aB Ŗ (aB Ŗ (bW E ?_)))];erw[gY g (ql (bE (λ_=>?_) λz=>JU H z))];erw[gY g (iL (wZ K) ?_)];erw[aB (L6 G) (Gh.no (h:=h.set w ow++l) _ _ pT d nn λo' l'=>?_)];rw[fW I,aN];rwa[q' Ŗ o' (l++l')]|@wrd U kd x P _ r' A _ _ m0 E K nv f Z=>
   let H:À P<À A:=(aj.mp K).1;erw[uR g Ŗ (aB Ŗ (aB Ŗ (bW E ?_)))];erw[gY g (ql (bE (λ_=>?_) λz=>JU H z))];erw[gY g (iL (wZ K) ?_)];erw[bE (λz=>by let z:ax kd "value"=true:=z;rw[nv]at z;cases z) λ_=>?_];erw[aB (B5 g) (Bq.ok (h:=h.set w ow++l) _ _ _ _ pT d f λo' l' X=>?_)];rw[fW I,aN];erw[gX (fO.trans (bK e)) (dI ?_) ?_];.let:=FC E;rw[aq];rwa[ay (show(À P)+1+1<=100 by lia) ∅]
   .rw[oF];let hx:=Sb f;erw[(m0,cK _,.mk o' _ r' _ st jt y _ _ _ X ?_ () T (.cons (cy (bK e)) n1 n (SK.set n (SK.app R))) Z)];rw[aA n1];rwa[bK l1]|@ahd U kd P _ A _ E K nv f=>let H:À P<À A:=(aj.mp K).1;erw[uR g Ŗ (aB Ŗ (aB Ŗ (bW E ?_)))];erw[gY g (ql (bE (λ_=>?_) λz=>JU H z))];erw[gY g (iL (wZ K) ?_)];erw[bE (λz=>by let z:ax kd "value"=true:=z;rw[nv]at z;cases z) λ_=>?_];erw[aB (B5 g) (Bq.no (h:=h.set w ow++l) _ _ pT d f λo' l'=>?_)];rw[fW I,aN];rwa[q' Ŗ o' (l++l')]|@fin U P _ A E H=>erw[uR g Ŗ (aB Ŗ (aB Ŗ (bW E ?_)))];erw[gY g (ql (bE (λz=>YS H z) λ_=>?_))];cases R;erw[aB (L6 G) (xg (h:=h.set w ow++l) G (w6 _ _) ?_)];rw[oF,nL];erw[dS (fO.trans (cy l1)) (mj (fO.trans ((aA (cj n1)).trans e)) ?_)];rwa[q _ _ rfl ow _ d]|@pop U P p2 _ A st _ m0 E H Z=>erw[uR g Ŗ (aB Ŗ (aB Ŗ (bW E ?_)))];erw[gY g (ql (bE (λz=>YS H z) λ_=>?_))];cases R with|@k j2 y _ _ e2 n2 n3 sk2=>
   let nj:jt≠j2:=λz=>n (z▸ao);erw[aB (L6 G) (xg (h:=h.set w ow++l) G (w6 _ _) ?_)];rw[oF,nL];let C:=cy (o':=.D (xj (À h) (j2::y).reverse)) l1;let e':=(aA (a:=Ob.D (xj (À h) (j2::y).reverse)) (cj n1)).trans e;let F:=(aA (a:=Ob.D (xj (À h) (j2::y).reverse)) (cj n2)).trans e2;let g2:=fO (h:=h) (w:=w) (o:=ow) (l:=l.set 1 (.D (xj (À h) (j2::y).reverse))) (j:=1);rw[C,lO,lB]at g2;erw[dS (fO.trans C) (bE (λz=>?_) λ_=>?_)];.let z:lH (À (xj (À h) (j2::y).reverse):Ń) 0=true:=z;rw[dm,kM,eV,aq]at z;lia
   .rw[lO,lB]at C e' F⊢;erw[fu g2 (qk _ _) (aB (B5 (fO.trans F)) (mj (fO.trans e') (gX (fO.trans F) (dI ?_) ?_)))];.let:=T p2 ao;rwa[ay (show(À p2)+1<=100 by lia) ∅]
    .rw[oF];erw[(m0,cK _,.mk ow _ r _ st j2 y _ _ _ d ?_ (by rw[aq]at hz;lia) (λp M=>T p (ak _ M)) (.cons (cy F) n2 n3 (SK.set n3 (SK.agB sk2))) Z)];rw[aA n2,C,lB]
end
inductive Pc where|p(x:Pv)|l(xs:ϑ)
structure Rp where
 sec:Î
 bs:ϑ
 ls:ϑ
 fs:ϑ
 rs:ϑ
 ops:Ł (Ł Pc×ϑ)
inductive CS(l:Hs):Ϙ->Ł Dv->Ł Pc->ß|nil:CS l [] [] []|p{V:Ϙ}{ds:Ł Dv}{cs:Ł Pc}{x:Pv}(t:CS l V ds cs):CS l V (.p x::ds) (.p x::cs)|l{V:Ϙ}{ds:Ł Dv}{cs:Ł Pc}{k:Ń}{xs:ϑ}(e:l[k]?=O (.L xs))(t:CS l V ds cs):CS l (k::V) (.r (6+k)::ds) (.l xs::cs)
inductive OK(l:Hs):Ϙ->Ϙ->Ł (Ł Pc×ϑ)->ß|nil:OK l [] [] []|cons{U V ids:Ϙ}{ops:Ł (Ł Pc×ϑ)}{i j:Ń}{ds:Ł Dv}{pre:Ł Pc}{rows:ϑ}(e:l[i]?=O (.D (ds++[.r (6+j)])))(f:l[j]?=O (.L rows))(cs:CS l V ds pre)(n1:i∉U)(n2:j∉U)(n3:j∉V)(hp:À pre<=4)(hr:À rows<=100000)(t:OK l U ids ops):OK l (i::j::(V++U)) (i::ids) ((pre,rows)::ops)
def Dh(ids:Ϙ):Ł Dv:=xj 6 ids.reverse
def hR(s:Rp)(ids:Ϙ)(l:Hs):Hs:=.I 6 [.p (.I s.sec),.r 1,.r 2,.r 3,.r 4,.r 5]::.L s.bs::.L s.ls::.L s.fs::.L s.rs::.D (Dh ids)::l
section
variable{l m:Hs}{k:Ń}{o:Ob}
theorem CS.set:∀{V:Ϙ}{ds:Ł Dv}{cs:Ł Pc},k∉V->CS l V ds cs->CS (l.set k o) V ds cs:=by intro V ds cs h c;induction c with|i=>rwa[.nil]|p t i=>rwa[.p (i h)]|l e t i=>rwa[.l (by rw[aA (by intro z;subst z;rwa[h ao])];rwa[e]) (i λz=>h (ak _ z))]
def CS.app:∀{V:Ϙ}{ds:Ł Dv}{cs:Ł Pc},CS l V ds cs->CS (l++m) V ds cs:=by intro V ds cs c;induction c with|i=>rwa[.nil]|p t i=>rwa[.p i]|l e t i=>rwa[.l (bK e) i]
theorem OK.set:∀{U ids:Ϙ}{ops:Ł _},k∉U->OK l U ids ops->OK (l.set k o) U ids ops:=by intro U ids ops h c;induction c with|i=>rwa[.nil]|k e f C n N a H r t i=>rwa[.cons (by rw[aA (by intro z;subst z;rwa[h ao])];rwa[e]) (by rw[aA (by intro z;subst z;rwa[h (ak _ ao)])];rwa[f]) (CS.set (λz=>h (ak _ (ak _ (cx _ z)))) C) n N a H r (i λz=>h (ak _ (ak _ (aS _ z))))]
theorem OK.app:∀{U ids:Ϙ}{ops:Ł _},OK l U ids ops->OK (l++m) U ids ops:=by intro U ids ops c;induction c with|i=>rwa[.nil]|k e f C n N a h H t i=>rwa[.cons (bK e) (bK f) (CS.app C) n N a h H i]
def CS.lt:∀{V:Ϙ}{ds:Ł Dv}{cs:Ł Pc},CS l V ds cs->∀i∈V,i<À l:=by intro V ds cs c;induction c with|i=>simp|p t I=>done|l e t I=>rwa[λi h=>(aJ.mp h).elim (λz=>by rw[z];exact(aj.mp e).1) (I i)]
theorem OK.lt:∀{U ids:Ϙ}{s:Ł _},OK l U ids s->∀i∈U,i<À l:=by intro U ids s c;induction c with|i=>rwa[λ_ h=>nomatch h]|k e f C n N a H r t I=>rwa[λi h=>(aJ.mp h).elim (λz=>by rw[z];exact(aj.mp e).1) λh=>(aJ.mp h).elim (λz=>by rw[z];exact(aj.mp f).1) λh=>(bt.mp h).elim (C.lt i) (I i)]
end
def CS.pI{l:Hs}{V:Ϙ}(h:CS l V ds (.p x::cs)):∃D,ds=.p x::D/\CS l V D cs:=by cases h with|p t=>exact(_,Ŗ,t)
def CS.lI{l:Hs}{V:Ϙ}(h:CS l V ds (.l xs::cs)):∃k v D,V=k::v/\ds=.r (6+k)::D/\l[k]?=O (.L xs)/\CS l v D cs:=by cases h with|l e t=>exact(_,_,_,Ŗ,Ŗ,e,t)
def CS.nI{l:Hs}{V:Ϙ}(h:CS l V ds []):V=[]/\ds=[]:=by cases h;exact(Ŗ,Ŗ)
structure iU(U:Ϙ)(w:Ń)(l:Hs)(U':Ϙ)(l':Hs):ß where
 k:∀j o,j∉U->j≠w->l[j]?=O o->l'[j]?=O o
 u:∀j∈U',j∈U\/À l<=j
 n:À l<=À l'
def iU.trans{l1 l2:Hs}(a:iU U w l c l1)(b:iU c w l1 d l2):iU U w l d l2:=(λj o H f e=>b.k j o (λz=>(a.u j z).elim H λz=>by grind) f (a.k j o H f e),λj h=>(b.u j h).elim (a.u j) λz=>.inr (ay a.n z),ay a.n b.n)
inductive Ti(s:Rp)(l:Hs):Ϙ->Ń->ß|top{ids:Ϙ}(hi:ids=[]):Ti s l ids 4|row{ids:Ϙ}{i j:Ń}{ds:Ł Dv}(e:l[i]?=O (.D (ds++[.r (6+j)]))):Ti s l (i::ids) (6+j)
inductive Ge:Ct|ok{s:Rp}{l:Hs}{ids:Ϙ}{k:Î}{Q:Dv->Hs->ß}{xc:XP}(hi:ids=[])(e:iQ k s.sec=af)(q:Q (.p .N) (hR {s with sec:=k} ids l)):Ge [.r 0,.p (.I k)] (hR s ids l) Q xc|no{s:Rp}{l:Hs}{ids:Ϙ}{k:Î}{Q:Dv->Hs->ß}{xc:XP}(e:ids ≠[]\/iQ k s.sec)(q:∀h',xc 4 h'):Ge [.r 0,.p (.I k)] (hR s ids l) Q xc
inductive IT:Ct|ok{s:Rp}{l:Hs}{ids:Ϙ}{n:Ń}{Q:Dv->Hs->ß}{xc:XP}(e:Ti s l ids n)(q:Q (.r n) (hR s ids l)):IT [.r 0] (hR s ids l) Q xc
def qJ:(hR s ids l)[0]?=O (.I 6 [.p (.I s.sec),.r 1,.r 2,.r 3,.r 4,.r 5]):=rfl
def hH:(hR s ids l)[1]?=O (.L s.bs):=rfl
def lx:(hR s ids l)[2]?=O (.L s.ls):=rfl
def ń:(hR s ids l)[4]?=O (.L s.rs):=rfl
def OJ:(hR s ids l)[5]?=O (.D (Dh ids)):=rfl
def JZ{P:ß}(h:ids=[])(z:iQ 0 (À (Dh ids))):P:=by subst h;rwa[FQ z]
def Ϣ(z:iQ 0 (À (Dh ids))=af):ids=[]:=by let:=bg.mp z;delta Dh at this;rw[Ne,dE,kM,eV]at this;rwa[bQ.mp ()]
def wo:(hR s (i::ids) l)[5]?=O (.D (xj 6 ids.reverse++[.r (6+i)])):=by rw[<-lB,<-lO];rfl
def aaP{P:ß}(z:iQ 0 (À (xj 6 ids++[x]))=af):P:=by let:=bg.mp z;rw[Ne,dE,ah]at this;let e:À [x]=1:=Ŗ;lia
def cE(e:l[j]?=O o):(hR s ids l)[6+j]?=O o:=by rw[show 6+j=j+6 by lia];rwa[e]
def oE:(hR s ids l).set (6+j) o=hR s ids (l.set j o):=by rw[show 6+j=j+6 by lia];rfl
section
variable{ca:Ń->Á}{W:Wd}
seal mz o9 Df o6 uY j4 jZ lu gj in
def wM(B:LX ca W)(S:SX W):DX ca W 54 2 Ge:=by erw[B.e 2 af [] [] (.iff (.bo (Wm.oc (.cmp IU (.bi d8 (.u (.fld 6 5 0))) (.i 0)) (Wm.o1 (.cmp TR 1 (.fld 6 0 0))))) (.one (.raise 4 (.s "a row stands where it may not"))) .nil<|>.one (.rn 6 0 1 0)) S.abt rfl Ť Ť λds h Q x c=>?_];cases c with|@ok s l I k _ _ H e q=>erw[(Ŗ,cF (dq qJ) (dS OJ (bE (λz=>JZ H z) λ_=>cF (dq qJ) (bE (λz=>?_) λ_=>mE qJ Ŗ Ŗ q))))];rw[e]at z;cases z|@no s l I k _ _ e q=>
  erw[(Ŗ,cF (dq qJ) (dS OJ (bE (λ_=>q _) λz=>cF (dq qJ) (bE (λ_=>q _) λZ=>?_))))];rcases e with e|e;.rwa[Ă (Ϣ z) e]
  .left
seal mz o9 Df o6 uY j4 jZ lu gj in
def N6(B:LX ca W)(S:SX W):DX ca W 56 2 IT:=by erw[B.e 1 af [] [] (.iff (.cmp IU (.bi d8 (.u (.fld 6 5 0))) (.i 0)) (.re (.ix (.ix (.fld 6 5 0) (.neg (.i 1))) (.neg (.i 1)))) .nil<|>.re (.fld 6 4 0)) S.zZ rfl Ť Ť λds h Q x c=>?_];cases c with|@ok s l I n _ _ e q=>cases e with|top H=>exact(Ŗ,cF (dq qJ) (dS OJ (bE (λz=>JZ H z) λ_=>cF (dq qJ) q)))|@row I i j ds e=>exact(Ŗ,cF (dq qJ) (dS wo (bE (λ_=>cF (dq qJ) (fu wo (qk _ _) (fu (cE e) (qk _ _) q))) λz=>aaP z)))
inductive Vs:ϑ->ϑ->ß|nil:Vs [] []|cons{y:Pv}{r r':ϑ}{x:Pv}{xs:ϑ}(t:zG (y::r) (O (x,r')))(k:Vs r' xs):Vs (y::r) (x::xs)
inductive î:Ń->ϑ->ß|no{y:Pv}{r:ϑ}(t:zG (y::r) aa):î 0 (y::r)|cons{n:Ń}{y:Pv}{r r':ϑ}{x:Pv}(t:zG (y::r) (O (x,r')))(k:î n r'):î (n+1) (y::r)
inductive Nz:Ã->ϑ->Ő (Pv×ϑ)->ß|val{r:ϑ}{oo:Ő (Pv×ϑ)}(t:zG r oo):Nz "value" r oo|vals{r xs:ϑ}(hz:À xs<=100000)(t:Vs r xs):Nz "values" r (O (.T xs,[]))|Zz{n:Ń}{r:ϑ}(hz:n<=100000)(t:î n r):Nz "values" r aa|wrd{kd:Ã}{r:ϑ}{oo:Ő (Pv×ϑ)}(n1:ax kd "value"=af)(n2:ax kd "values"=af)(f:dQ kd r=oo):Nz kd r oo
inductive ý:Ct|mk{kd:Ã}{w:Ń}{h:Hs}{Q:Dv->Hs->ß}{xc:XP}(o:Ob)(r:ϑ)(oo:Ő (Pv×ϑ))(hw:h[w]?=O o)(wr:Wr r o)(e:Nz kd r oo)(q:∀x r',oo=O (x,r')->∀o' l,Wr r' o'->Q (.p x) (h.set w o'++l))(q':oo=aa->∀h',xc 4 h'):ý [.p (.S kd),.r w] h Q xc
def yQ{h:Hs}(H:h[w]?=O o):h.set w o=h:=by let(l,e):=aj.mp H;rw[<-e,List.set_getElem_self]
inductive PJ(h:Hs)(w:Ń)(xs:ϑ)(m:Ń):Es->Hs->ß|mk(ow:Ob)(l:Hs)(r acc a7:ϑ)(wr:Wr r ow)(t:Vs r a7)(e:acc++a7=xs)(hm:m=À a7):PJ h w xs m [O (.p (.S "values")),O (.r w),O (.r (À h+0))] (h.set w ow++.L acc::l)
inductive PJN(h:Hs)(w:Ń)(m:Ń):Es->Hs->ß|mk(ow:Ob)(l:Hs)(r acc:ϑ)(wr:Wr r ow)(t:î m r)(e:À acc+m<=100000):PJN h w m [O (.p (.S "values")),O (.r w),O (.r (À h+0))] (h.set w ow++.L acc::l)
def kL(x:Pv):Pv:=match Ú (dN x)with|O n=>.I n|aa=>.N
def iB(x:Pv):Þ:=gW x&&gI (dN x)
inductive TY:Ct|mk{w:Ń}{h:Hs}{Q:Dv->Hs->ß}{xc:XP}(o:Ob)(r:ϑ)(hw:h[w]?=O o)(wr:Wr r o)(q:r.all iB->∀o',Wr [] o'->Q (.p (.T (r.map kL))) (h.set w o'))(q':r.all iB=af->∀h',xc 4 h'):TY [.r w] h Q xc
inductive zt(T:Rp->ϑ->Ő (Rp×ϑ)->ß):Ct|mk{s:Rp}{U ids:Ϙ}{l:Hs}{w:Ń}{o:Ob}{r:ϑ}{oo:Ő (Rp×ϑ)}{Q:Dv->Hs->ß}{xc:XP}(ok:OK l U ids s.ops)(hw:l[w]?=O o)(wr:Wr r o)(e:T s r oo)(q:∀s' r',oo=O (s',r')->∀U' iA l' o',OK l' U' iA s'.ops->l'[w]?=O o'->Wr r' o'->iU U w l U' l'->Q (.p .N) (hR s' iA l'))(q':oo=aa->∀h',xc 4 h'):zt T [.r 0,.r (6+w)] (hR s ids l) Q xc
inductive Bc:Rp->ϑ->Ő (Rp×ϑ)->ß|mk{s:Rp}{x y:Pv}{r:ϑ}(e1:s.ops=[])(e2:iQ 0 s.sec=af)(e3:iB y)(e4:À s.bs<=100000):Bc s (x::y::r) (O ({s with sec:=0,bs:=s.bs++[.T [x,kL y]]},r))|yw{s:Rp}{r:ϑ}(e:s.ops ≠[]\/iQ 0 s.sec):Bc s r aa|lg{s:Rp}(e1:s.ops=[])(e2:iQ 0 s.sec=af):Bc s [] aa|Hu{s:Rp}{x:Pv}(e1:s.ops=[])(e2:iQ 0 s.sec=af):Bc s [x] aa|no4{s:Rp}{x y:Pv}{r:ϑ}(e1:s.ops=[])(e2:iQ 0 s.sec=af)(e3:iB y=af):Bc s (x::y::r) aa
inductive Dw:Rp->ϑ->Ő (Rp×ϑ)->ß|mk{s:Rp}{x:Pv}{r:ϑ}(e1:s.ops=[])(e2:iQ 1 s.sec=af)(e3:r.all iB)(e4:À s.ls<=100000):Dw s (x::r) (O ({s with sec:=1,ls:=s.ls++[.T [x,.T (r.map kL)]]},[]))|yw{s:Rp}{r:ϑ}(e:s.ops ≠[]\/iQ 1 s.sec):Dw s r aa|lg{s:Rp}(e1:s.ops=[])(e2:iQ 1 s.sec=af):Dw s [] aa|Hu{s:Rp}{x:Pv}{r:ϑ}(e1:s.ops=[])(e2:iQ 1 s.sec=af)(e3:r.all iB=af):Dw s (x::r) aa
def ui:Dv->Pv|.p x=>x|.r _=>.N
def Ŵ(h:Wr r o):jL (À r)=true:=by let(w,k,a,H,s,g):=h;subst H;erw[dI (ay ?_ (dO s))];rw[fh];lia
theorem Kj:∀r:ϑ,vP (r.map λx=>Dv.p (kL x))=O (r.map kL)|[]=>Ŗ|x::r=>by show(match vP _ with|O X=>O _|aa=>aa)=_;rw[Kj r];rfl
def PZ{K:Pv->ß}(h:iB (.S z))(q:K (kL (.S z))):oa (.S z) K X:=by
 let(a,H):=ag h;let H:gI z=true:=H;show br (gI z) _ _;rw[H];let:=(ag a).2;rw[H]at this;let(n,E):=bN.mp this;let e:kL (.S z)=.I n:=by show(match Ú z with|O n=>Pv.I n|aa=>.N)=_;rw[E]
 rw[e]at q;rwa[bW E q]
def P0{K:Pv->ß}(g:gW (.S z))(h:iB (.S z)=af)(q:X 4):oa (.S z) K X:=by
 let H:gI z=false:=by let h:(gW _&&gI z)=false:=h;rw[g]at h;rwa[h]
 show br (gI z) _ _;rw[H];rwa[q]
def OK.ne(ok:OK l U ids o)(h:o ≠[]):ids ≠[]:=by cases ok with|i=>done|k _ _ _ _ _ _ _ _ _=>simp
def GO{s:Rp}(ok:OK l U ids s.ops)(e:s.ops ≠[]\/iQ k s.sec):ids ≠[]\/iQ k s.sec=true:=e.elim (λh=>.inl (ok.ne h)) .inr
@[elab_as_elim]def afw{P:Pv->ß}(h:iB x)(k:∀z,Í z.length zp=J->iB (.S z)->P (.S z)):P x:=by
 cases x<;>first|done|skip
 ext z;rwa[k z (ag (ag h).1).1 h]
def OK.tF(h:OK l U ids []):U=[]/\ids=[]:=by cases h;exact(Ŗ,Ŗ)
theorem iU.set:iU U w l U (l.set w o):=(λj a _ h e=>by rw[aA (cj h)];rwa[e],λ_ h=>.inl h,⋯)
def CS.wn{l:Hs}(h:l[w]?=O (.I c fs)):∀{V:Ϙ}{ds:Ł Dv}{cs:Ł Pc},CS l V ds cs->w∉V:=by intro V ds cs c;induction c with|i=>simp|p t i=>done|l e t i=>rwa[λz=>(aJ.mp z).elim λz=>by lia i]
theorem OK.wn(h:l[w]?=O (.I c fs)):∀{U ids:Ϙ}{o:Ł _},OK l U ids o->w∉U:=by intro U ids o c;induction c with|i=>simp|k e f C n N a H r t i=>rwa[λz=>(aJ.mp z).elim λz=>by left λz=>(aJ.mp z).elim λz=>by lia λz=>(bt.mp z).elim (CS.wn h C) i]
seal mz o9 Df o6 uY j4 jZ lu gj in
def DY(B:LX ca W)(S:SX W)(T:Di (Lx ca) W 601 2)(D:DX ca W 41 7 (T6 zG))(i:DX ca W 43 6 (Bq dQ)):DX ca W 44 8 ý:=by erw[B.e (k:=6) 3 af [(41,T6 zG),(43,Bq dQ)] [601] (.iff (.cmp jA 0 (.s "value")) (.re (.sG 41 (.u 1))) .nil<|>.iff (.cmp jA 0 (.s "values")) (.set 2 (.FP .nil)<|>.whG (.val (.AO 601 1)) (.one (.ex (.mt lU 2 (.u (.sG 41 (.u 1))))))<|>.re (.bi uM (.u 2))) .nil<|>.re (.sG 43 (.u2 0 1))) S.HV rfl (D,i.up Ŗ,Ť) (T.le ∅,Ť) λds h Q xc c=>?_];cases c with|@mk I w _ _ _ o r U H b e q v=>erw[(Ŗ,?_)];cases e with
 |val t=>rwa[.mk o r _ H b t q λe d l=>v e _]|@vals _ xs Y t=>
  erw[Ô (PJ h w xs) (Õ (À xs,?_) λm A Z j=>?_)];.let z:=PJ.mk (h:=h) (w:=w) (xs:=xs) (m:=À xs) o [] r [] xs b t rfl rfl;rw[show h.set w o=h from yQ H]at z;rwa[z]
  .cases j with|mk ow l r a M b t e hm=>let P:(h.set w ow++Ob.L a::l)[w]?=O ow:=bK (cy H);let g:(h.set w ow++Ob.L a::l)[À h+0]?=O (.L a):=fO;let(C,K,_,_,_,_):=id b;erw[dX P (.mk _ _ P b ?_)];cases t with|i=>rw[aQ]at e;subst e;rwa[mj g (q _ _ rfl _ _ b)]|@k y r0 E x X t k=>
    erw[aB (B5 g) (.mk _ _ _ P b t (λN R e d F G=>?_) λz=>by cases z)];cases e;rw[fW H,aN];erw[gX (show(h.set w d++(Ob.L a::l++F))[À h+0]?=O (.L a)from fO) (dI ?_) ?_];.let:=cY À e;rw[ah,aq]at this;rwa[ay (show(À a)+1<=100000 by lia) ∅]
    .rw[oF];exact(À X,by rw[hm];rwa[cK _],.mk d _ E (a++[x]) X G k (by rw[aN];rwa[e]) rfl)
 |@Zz n _ Y t=>
  erw[Ô (PJN h w) (Õ (n,?_) λm A Z j=>?_)];.let z:=PJN.mk (h:=h) (w:=w) o [] r [] b t nofun;rw[yQ H]at z;rwa[z]
  .cases j with|mk ow l r a b t e=>let P:(h.set w ow++Ob.L a::l)[w]?=O ow:=bK (cy H);let g:(h.set w ow++Ob.L a::l)[À h+0]?=O _:=fO;let(C,K,_,_,_,_):=id b;erw[dX P (.mk _ _ P b ?_)];cases t with|no t=>rwa[aB (B5 g) (.mk _ _ _ P b t (λN R e=>by cases e) λ_ d F=>v Ŗ _)]|@k n y r0 E x t k=>erw[aB (B5 g) (.mk _ _ _ P b t (λN R e d F G=>?_) λz=>by cases z)];cases e;rw[fW H,aN];erw[gX fO (dI (ay (show(À a)+1<=100000 by lia) ∅)) ?_];rw[oF];exact(n,cK _,.mk d _ E _ G k (by rw[ah];show(À a)+1+n<=_;lia))
 |wrd n1 n2 f=>erw[bE (λz=>by let z:ax I _=true:=z;rw[n1]at z;cases z) λ_=>bE (λz=>by let z:ax I _=true:=z;rw[n2]at z;cases z) λ_=>?_];cases U with|n=>rwa[.no _ _ H b f λd l=>v Ŗ _]|s p=>rwa[.ok _ _ _ _ H b f (q _ _ Ŗ)]
seal mz o9 Df o6 uY j4 jZ lu gj in
def xZ(B:LX ca W)(S:SX W)(I:Di (Lx ca) W 602 2):DX ca W 39 4 TY:=by erw[B.e 1 af [(40,TZ)] [602] (.re (.bi uM (.u (.Gp 1 [] 0 (.p (.s (.AO 602 0))) .no (.cl 40 [] (.u 0)) J)))) S.zY rfl ((pF B S).up Ŗ,Ť) (I,Ť) λds h Q X c=>?_];cases c with|@mk w _ _ _ o r i b q l=>
  erw[(Ŗ,?_)];let(t,K,v,A,C,D):=id b;erw[dX i (.ok _ _ _ _ i b rfl λk L=>?_)];erw[qg _ (λpre a H=>a=pre.map (λd=>.p (kL (ui d)))/\H=h.set w k/\(pre.all λd=>iB (ui d))=J) ?_ (Ŗ,Ŗ,Ŗ) (λpre a H j=>Ŗ) (λpre y post a H E j=>?_) λa H j=>?_];.rw[ai];rwa[Ŵ b]
  .let(rfl,rfl,f):=j;let(x,g,rfl):=bf.mp (show y∈r.map .p by left);let m:=aG.mp b.all x g;revert g E;erw[ï m λz F _ g E=>?_];erw[aB (by done) ?_];cases G:iB _ with|t=>rwa[PZ G (by rw[aR];rfl,Ŗ,by rw[dy,f];show(iB (.S z)&&J)=J;rw[G];rfl)]|f=>rwa[P0 (aG.mp b.all _ g) G (Ŗ,l (bg.mpr λe=>nofun) _)]
  .let(rfl,rfl,f):=j;let e:=by rw[lM]at f;rwa[f]
   let q:=q e k L;let n:vP ((r.map Dv.p).map λd=>.p (kL (ui d)))=O (r.map kL):=by rw[cq];rwa[Kj r]
   show(match vP _ with|O M=>_|aa=>ŧ);rw[n];rwa[qw q]
seal mz o9 Df o6 uY j4 jZ lu gj in
def Gy(B:LX ca W)(S:SX W)(M:Di (Lx ca) W 600 4):DX ca W 45 6 (zt Bc):=by erw[B.e (k:=4) 3 af [(54,Ge),(40,TZ)] [600] (.ex (.sG 54 (.u2 0 (.g 12)))<|>.set 2 (.AO 600 1)<|>.one (.ex (.mt lU (.fld 6 1 0) (.u (.tup (.u2 2 (.cl 40 [] (.u (.AO 600 1))))))))) S.MH rfl ((wM B S).up Ŗ,(pF B S).up Ŗ,Ť) (M,Ť) λds h Q X c=>?_];cases c with|@mk s U I l w o r Y _ _ ok H a e q m=>erw[(Ŗ,?_)];cases e with|yw e=>rwa[.no (GO ok e) (m Ŗ)]|lg E d=>rw[E]at ok;erw[.ok ok.tF.2 d ?_];let(n,p,t,v,A,C):=id a;rwa[dX (cE H) (.no _ _ (cE H) a rfl (m Ŗ _))]|@Hu x E d=>rw[E]at ok;erw[.ok ok.tF.2 d ?_];let(n,p,t,v,A,C):=id a;erw[dX (cE H) (.ok _ _ _ _ (cE H) a rfl λo1 j=>?_)];rw[oE];let b:=cy (o':=o1) H;let(f,K,_,_,_,_):=id j;rwa[cF (dq qJ) (aB (B5 hH) (dX (cE b) (.no _ _ (cE b) j rfl (m Ŗ _))))]|@no4 x y r E d i=>rw[E]at ok;erw[.ok ok.tF.2 d ?_];let(n,p,t,v,A,C):=id a;erw[dX (cE H) (.ok _ _ _ _ (cE H) a rfl λo1 j=>?_)];rw[oE];let b:=cy (o':=o1) H;let(f,K,_,_,_,_):=id j;let G:=aG.mp a.all y (.tail _ (.head _));erw[cF (dq qJ) (aB (B5 hH) (dX (cE b) (.ok _ _ _ _ (cE b) j rfl λF N=>?_)))];let D:=G;revert i G;rwa[ï D λz P _ i G=>aB (by done) (P0 G i ((m Ŗ) _))]|@mk x y r E d i R=>rw[E]at ok;let(rfl,L):=ok.tF;erw[.ok L d ?_];let(n,p,t,v,A,C):=id a;erw[dX (cE H) (.ok _ _ _ _ (cE H) a rfl λo1 j=>?_)];rw[oE];let b:=cy (o':=o1) H;let(f,K,_,_,_,_):=id j;erw[cF (dq qJ) (aB (B5 hH) (dX (cE b) (.ok _ _ _ _ (cE b) j rfl λF N=>?_)))];rw[oE];revert q;erw[afw i λz P T q=>aB (by done) (PZ T ?_)];erw[gX hH (dI (ay (mS R) ∅)) ?_];erw[q _ _ rfl [] I _ F ?_ (cy b) N (by rw[FU];rwa[iU.set])];rw[L,E];rwa[.nil]
seal mz o9 Df o6 uY j4 jZ lu gj in
def DW(B:LX ca W)(S:SX W)(I:Di (Lx ca) W 600 4)(D:DX ca W 39 4 TY):DX ca W 46 6 (zt Dw):=by erw[B.e 3 af [(54,Ge),(39,TY)] [600] (.ex (.sG 54 (.u2 0 (.g 13)))<|>.set 2 (.AO 600 1)<|>.one (.ex (.mt lU (.fld 6 2 0) (.u (.tup (.u2 2 (.sG 39 (.u 1)))))))) S.HU rfl ((wM B S).up Ŗ,D.up Ŗ,Ť) (I,Ť) λds h Q X c=>?_];cases c with|@mk s U i l w o r F _ _ ok H a e q d=>erw[(Ŗ,?_)];cases e with|yw e=>rwa[.no (GO ok e) (d Ŗ)]|lg E b=>rw[E]at ok;erw[.ok ok.tF.2 b ?_];let(f,k,m,n,p,t):=id a;rwa[dX (cE H) (.no _ _ (cE H) a rfl (d Ŗ _))]|@Hu x r E b z=>rw[E]at ok;erw[.ok ok.tF.2 b ?_];let(f,k,m,n,p,t):=id a;erw[dX (cE H) (.ok _ _ _ _ (cE H) a rfl λo1 j=>?_)];rw[oE];rwa[cF (dq qJ) (aB (B5 lx) (.mk _ _ (cE (cy H)) j λe=>by left λ_=>d Ŗ))]|@mk x r E b z A=>rw[E]at ok;let(rfl,v):=ok.tF;erw[.ok v b ?_];let(f,k,m,n,p,t):=id a;erw[dX (cE H) (.ok _ _ _ _ (cE H) a rfl λo1 j=>?_)];rw[oE];let y:=cy (o':=o1) H;erw[cF (dq qJ) (aB (B5 lx) (.mk _ _ (cE y) j (λ_ C N=>?_) λe=>nofun))];rw[oE];erw[gX lx (dI (ay (mS A) ∅)) ?_];erw[q _ _ rfl [] i _ C ?_ (cy y) N (by rw[FU];rwa[iU.set])];rw[v,E];rwa[.nil]
def Ej(x:Pv):Pv:=match lk (dN x) eI with|O K=>pd (K.takeWhile λk=>!ax k "rows")|aa=>.N
abbrev Yv:Ct:=Dd (λx=>dC x&&(lk (dN x) eI).isSome) Ej
def sj(s:Rp):Rp:=match s.ops with|[]=>{s with sec:=3}|_=>s
def p0(s:Rp):ϑ:=match s.ops with|[]=>s.rs|(_,rows)::_=>rows
def kD(s:Rp)(x:Pv):Rp:=match s.ops with|[]=>{s with rs:=s.rs++[x]}|(pre,rows)::t=>{s with ops:=(pre,rows++[x])::t}
def wz(s:Rp)(pre:Ł Pc):Rp:={s with ops:=(pre,[])::s.ops}
def IH(s:Rp):(sj s).ops=s.ops:=by
 delta sj;split;.rfl
 .rfl
def Bj(s:Rp):p0 (sj s)=p0 s:=by
 delta sj;split;.rfl
 .rfl
inductive FI:ϐ->ϑ->Ő (ϑ×ϑ)->ß|nil{r:ϑ}:FI [] r (O ([],r))|cons{k:Ã}{ks:ϐ}{r r1 r2 xs:ϑ}{x:Pv}(p:Nz k r (O (x,r1)))(t:FI ks r1 (O (xs,r2))):FI (k::ks) r (O (x::xs,r2))|no{k:Ã}{ks:ϐ}{r:ϑ}(p:Nz k r aa):FI (k::ks) r aa|Yx{k:Ã}{ks:ϐ}{r r1:ϑ}{x:Pv}(p:Nz k r (O (x,r1)))(t:FI ks r1 aa):FI (k::ks) r aa
def NY(a:ϑ):Ő (ϑ×ϑ)->Ő (ϑ×ϑ)|O (b,r)=>O (a++b,r)|aa=>aa
def NZ:∀o,NY [] o=o|O _=>Ŗ|aa=>Ŗ
def Lz:NY a (O (x::b,r))=NY (a++[x]) (O (b,r)):=by show O _=O _;rw[aN];rfl
def kW(ks:ϐ):ϐ:=ks.takeWhile λk=>!ax k "rows"
abbrev hX:Ct:=kt (λx=>dC x&&(lk (dN x) eI).isSome) λx K=>eZ (lk (dN x) eI) (λk=>K (pd (kW k))) ŧ
inductive NA(v:Ã)(s:Rp)(ks:ϐ)(xs r':ϑ):Ő (Rp×ϑ)->ß|pl(hk:kW ks=ks)(hz:À (p0 s)<100000):NA v s ks xs r' (O (kD (sj s) (.T (.S v::xs)),r'))|op(hk:À (kW ks)<À ks)(hx:À xs<=2)(hz:À s.ops<100000):NA v s ks xs r' (O (wz (sj s) ((Pv.S v::xs).map .p),r'))
inductive NB:Ã->Rp->ϑ->Ő (Rp×ϑ)->ß|mk{v:Ã}{s:Rp}{ks:ϐ}{xs r r':ϑ}{oo:Ő (Rp×ϑ)}(ek:lk v eI=O ks)(e1:iQ 3 s.sec=af)(t:FI (kW ks) r (O (xs,r')))(f:NA v s ks xs r' oo):NB v s r oo|yw{v:Ã}{s:Rp}{r:ϑ}(ek:lk v eI=aa):NB v s r aa|lg{v:Ã}{s:Rp}{ks:ϐ}{r:ϑ}(ek:lk v eI=O ks)(e1:iQ 3 s.sec=af)(t:FI (kW ks) r aa):NB v s r aa
inductive ö:Ct|mk{v:Ã}{s:Rp}{U ids:Ϙ}{l:Hs}{w:Ń}{o:Ob}{r:ϑ}{oo:Ő (Rp×ϑ)}{Q:Dv->Hs->ß}{xc:XP}(ok:OK l U ids s.ops)(hw:l[w]?=O o)(wr:Wr r o)(e:NB v s r oo)(q:∀s' r',oo=O (s',r')->∀U' iA l' o',OK l' U' iA s'.ops->l'[w]?=O o'->Wr r' o'->iU U w l U' l'->Q (.p .N) (hR s' iA l'))(q':oo=aa->∀h',xc 4 h'):ö [.r 0,.p (.S v),.r (6+w)] (hR s ids l) Q xc
def OK.len:∀{U ids:Ϙ}{o:Ł _},OK l U ids o->À ids=À o:=by intro U ids o c;induction c with|i=>rfl|k e f C n N a h H t i=>left
structure Ĺ(s:Rp)(U ids:Ϙ)(l:Hs)(n:Ń)(x:Pv):ß where
 fl:Ti s l ids n
 at':(hR s ids l)[n]?=O (.L (p0 s))to:À (p0 s)<100000->∃l',(hR s ids l).set n (.L (p0 s++[x]))=hR (kD s x) ids l'/\OK l' U ids (kD s x).ops/\(∀j o,j∉U->l[j]?=O o->l'[j]?=O o)/\À l'=À l
def Jy(x:Pv)(ok:OK l U ids s.ops):∃n,Ĺ s U ids l n x:=by let(S,bs,L,fs,r,a):=s;cases ok with|i=>exact(4,(.top Ŗ,Ŗ,λ_=>(l,Ŗ,.nil,λ_ _ _ e=>e,Ŗ)))|@k U V ids a i j ds pre rows e f c d N b h m t=>erw[(_,(.row e,cE f,λH=>(_,oE,.cons (by rw[aA λz=>nofun];rwa[e]) (cy f) (CS.set b c) d N b h (by rw[ah];rwa[H]) (OK.set N t),λk o g e=>?_,bT)))];.rw[aA (by intro z;subst z;rwa[g (ak _ ao)])];rwa[e]
def Q6:Dh (i::ids)=Dh ids++[.r (6+i)]:=by delta Dh;rw[lO,lB]
theorem XV:∀xs:ϑ,CS l [] (xs.map .p) (xs.map .p)|[]=>.nil|_::xs=>.p (XV xs)
def aaQ(h:À xs<=4)(ok:OK l U ids s.ops):OK (l++[.L [],.D [.r (6+À l)],.D (xs.map .p++[.r (6+À l)])]) ((À l+2)::À l::([]++U)) ((À l+2)::ids) (wz s (xs.map .p)).ops:=by
 let lt:=ok.lt;erw[.cons ?_ ?_ (XV xs) (λz=>?_) (λz=>?_) ⋯ nofun (bu _) ok.app];.simp
 .simp
 .let:=lt _ z;lia
 .let:=lt _ z;lia
def iU.opn:iU U w l ((À l+2)::À l::([]++U)) (l++m):=(λj o _ _ e=>bK e,λj h=>by
 rcases aJ.mp h with rfl|h;.simp
 rcases aJ.mp h with rfl|h;.rwa[.inr ()]
 rwa[.inl h],⋯)
def iU.app:iU U w l U (l++m):=(λj o _ _ e=>bK e,λ_ h=>.inl h,⋯)
def iz{h:Hs}:(h++[o])[À h]?=O o:=by rw[aK (au _),eY];rfl
def rD:À (hR s ids l)=6+À l:=by show(À l)+6=_;lia
def Qd:hR s ids l++[.L []]++[.D [.r (À (hR s ids l))]]++[.D (xs++[.r (À (hR s ids l))])]=hR s ids (l++[.L [],.D [.r (6+À l)],.D (xs++[.r (6+À l)])]):=by rw[rD,aN,aN];rfl
def JY{a b:Ob}:À (hR s ids l++[a]++[b])=6+(À l+2):=by rw[ah,ah,rD];show 6+À l+1+1=_;lia
def WA:(hR s ids l).set 5 (.D (Dh ids++[.r (6+i)]))=hR s (i::ids) l:=by delta hR;rw[Q6];rfl
def aaR(ok:OK l U ids o)(h:À o<100000):À (Dh ids)+1<=Â:=by delta Dh;rw[kM,eV,ok.len];rwa[ay h ∅]
theorem QY:∀r:ϑ,vP (r.map Dv.p)=O r|[]=>Ŗ|x::r=>by show(match vP _ with|O X=>O _|aa=>aa)=_;rw[QY r]
def yO(e:lk w eI=O ks):À ks<=3:=by
 let:∀(l:Ł _),(l.all λp=>Í (À p.2) 3)=J->lk w l=O ks->À ks<=3:=by intro l;induction l with|i=>intro _ e;cases e|k p l i=>
   intro h e;delta lk at e;split at e;.left
   .rwa[i (ag h).2 e]
 rwa[this _ Ŗ e]
def FI.len:∀{ks:ϐ}{r xs r':ϑ},FI ks r (O (xs,r'))->À xs=À ks:=by intro ks;induction ks with|i=>intro r xs r' h;cases h;rfl|k k ks i=>intro r xs r' h;cases h with|k p t=>rw[aq,aq,i t]
def yW(ks:ϐ):(ks.map Pv.S).all BR=true:=by rw[lM];rwa[aG.mpr λ_ _=>Ŗ]
def BX:À (kW ks)<=À ks:=(List.takeWhile_sublist _).length_le
inductive CJ(s:Rp)(ids:Ϙ)(l:Hs)(w:Ń)(ks:ϐ)(po:Ő (ϑ×ϑ)):Ł Dv->Ł Dv->Hs->ß|mk(k1 k2:ϐ)(x1 r:ϑ)(po2:Ő (ϑ×ϑ))(o':Ob)(m:Hs)(e1:ks=k1++k2)(e2:po=NY x1 po2)(t:FI k2 r po2)(wr:Wr r o'):CJ s ids l w ks po (k1.map λk=>.p (.S k)) (x1.map .p) (hR s ids (l.set w o'++m))
seal mz o9 Df o6 uY j4 jZ lu gj oS in
def GD(B:LX ca W)(S:SX W)(D27:DX ca W 27 4 hX)(D44:DX ca W 44 8 ý):DX ca W 52 10 ö:=by erw[B.e (k:=8) 5 af [(2,Gf eI),(54,Ge),(27,hX),(44,ý),(56,IT)] [] (.iff (.AH af (.cl 2 [] (.u 1))) (.one (.raise 4 (.s "a row begins with another word"))) .nil<|>.cut (.iff (.cmp jA (.bi d8 (.u (.fld 6 5 0))) (.i 0)) (.one (.ex (.sG 54 (.u2 0 (.g 15))))) .nil) (.set 3 (.cl 27 [] (.u 1))<|>.set 4 (.b2 cm (.lst (.u 1)) (.Gp 1 [2] 0 (.p (.s 3)) .no (.sG 44 (.u2 0 1)) J))<|>.one (.iff (.cmp jA 3 (.cl 2 [] (.u 1))) (.one (.ex (.mt lU (.sG 56 (.u 0)) (.u (.bi uM (.u 4)))))) (.one (.ex (.mt lU (.fld 6 5 0) (.u (.b2 œ 4 (.lsd (.u (.FP .nil))))))))))) S.MM rfl ((vo B S).up Ŗ,(wM B S).up Ŗ,D27.up Ŗ,D44.up Ŗ,(N6 B S).up Ŗ,Ť) Ť λds h Q xc c=>?_];cases c with|@mk v s U ids l w o r oo _ _ ok H wr e q q'=>
 erw[(Ŗ,?_)];let e:lk v eI=aa/\oo=aa\/∃ks po,lk v eI=O ks/\iQ 3 s.sec=af/\FI (kW ks) r po/\(po=aa/\oo=aa\/∃X R,po=O (X,R)/\NA v s ks X R oo):=by cases e with|mk E e1 t f=>rwa[.inr (_,_,E,e1,t,.inr (_,_,Ŗ,f))]|yw E=>rwa[.inl (E,Ŗ)]|lg E e1 t=>rwa[.inr (_,_,E,e1,t,.inl (Ŗ,Ŗ))]
 rcases e with ⟨E,rfl⟩|⟨ks,po,E,e0,tt,fin⟩;.erw[aB Ŗ (Cj (λx e=>by let e:lk v eI=O x:=e;rw[E]at e;cases e) λ_=>q' Ŗ _)]
 let qn:po=aa->∀h',xc 4 h':=λz=>fin.elim (λy=>q' y.2) λ(_,_,y,_)=>by rw[z]at y;cases y
 erw[aB Ŗ (bW E ?_)];erw[Ô (λσ h=>σ=pY 5 [.r 0,.p (.S v),.r (6+w)]/\h=hR (sj s) ids l) (Õ ?_ ?_)]
 .erw[cF (dq qJ) (dS OJ (bE (λz=>?_) λz=>(Ŗ,?_)))]
  .let I:ids=[]:=by let z:lH (À (Dh ids):Ń) 0=true:=z;delta Dh at z;rw[dm,kM,eV]at z;rwa[bQ.mp ()]
   let Z:s.ops=[]:=bQ.mp (by rw[<-ok.len,I];rfl);erw[.ok I e0 (Ŗ,?_)];delta sj;rw[Z]
  .let I:ids ≠[]:=λI=>by subst I;rwa[FQ (show af=J from z.symm)]
   let Z:sj s=s:=by
    delta sj;split;.ext Z;rwa[Ă (bQ.mp (by rw[ok.len,Z];rfl)) I]
    .rfl
   rw[Z];rfl
 rintro _ _ ⟨rfl,rfl⟩;let wn:w∉U:=by let(ws,kk,_,_,_,_):=id wr;rwa[OK.wn H ok]
 let ok3:OK l U ids (sj s).ops:=by rw[IH];rwa[ok]
 erw[aB (by show(J&&(lk v eI).isSome)=J;rw[E];rfl) (bW E ?_)];erw[qg ((kW ks).map λk=>.p (.S k)) (CJ (sj s) ids l w (kW ks) po) ?_ ?_ (λ_ _ _ _=>?_) (λpre y post acc h' e1 j=>?_) λacc h' j=>?_];.rw[ai];rwa[dI (ay BX (ay (yO E) ∅))]
 .let z:=CJ.mk (s:=sj s) (ids:=ids) (l:=l) (w:=w) (ks:=kW ks) (po:=po) [] (kW ks) [] r po o [] rfl (NZ _).symm tt wr;rw[yQ H,aQ]at z;rwa[z]
 .rw[cq];rfl
 .cases j with|mk k1 K M r1 po2 d m N A t Y=>rw[N,aR]at e1;let e1:=List.append_cancel_left e1;cases K with|i=>cases e1|k k K=>
  cases e1;let go:∀{x:Pv}{G:ϑ}{P:Ő (ϑ×ϑ)},Nz k r1 (O (x,G))->FI K G P->po=NY (M++[x]) P->∀C l2,Wr G C->CJ (sj s) ids l w (kW ks) po ((k1.map λk=>Dv.p (.S k))++[.p (.S k)]) (M.map Dv.p++[.p x]) ((hR (sj s) ids (l.set w d++m)).set (6+w) C++l2):=λ{x G P}p t e4 C l2 Nr=>by let z:=CJ.mk (s:=sj s) (ids:=ids) (l:=l) (w:=w) (ks:=kW ks) (po:=po) (k1++[k]) K (M++[x]) G P C (m++l2) (by rw[N,aN];rfl) e4 t Nr;rw[aR,aR,<-aN,<-fW (a:=d) H]at z;rw[oE];rwa[z]
  cases t with|@k _ _ _ G _ xs2 x p t=>erw[.mk _ _ _ (cE (bK (cy H))) Y p (λx' r'' e C l2 Nr=>?_) (λe=>by cases e)];cases e;rwa[go p t (by rw[A,Lz]) C l2 Nr]|no p=>rwa[.mk _ _ _ (cE (bK (cy H))) Y p (λx' r'' e=>by cases e) λ_ h'=>(Ŗ,qn A _)]|@Yx _ _ _ G x p t=>erw[.mk _ _ _ (cE (bK (cy H))) Y p (λx' r'' e C l2 Nr=>?_) (λe=>by cases e)];cases e;rwa[go p t A C l2 Nr]
 .generalize hp:(kW ks).map (λk=>Dv.p (Pv.S k))=pre at j;cases j with|mk k1 K M r1 po2 d m N A t Y=>
  rw[N,aR]at hp;let k0:K=[]:=by let:=cY À hp;rw[ah,ai,ai]at this;rwa[bQ.mp ()]
  subst k0;cases t;let A:po=O (M++[],r1):=A;rw[aQ]at A;obtain⟨X,R,ex,ff⟩:∃X R,po=O (X,R)/\NA v s ks X R oo:=fin.elim (λy=>by rw[A]at y;cases y.1) id;rw[A]at ex tt;obtain⟨e5,e6⟩:X=M/\R=r1:=by cases ex;exact(Ŗ,Ŗ)
  subst e5 e6;show(match vP (X.map Dv.p)with|O ys=>_|aa=>ŧ);rw[QY];let xl:À X<=3:=by rw[tt.len];rwa[ay BX (yO E)]
  erw[aB (dI (ay (show 1+À X<=100 by lia) ∅)) ?_];erw[aB Ŗ (bW E ?_)]
  erw[aB (by delta jp;rw[show X2 (pd (kW ks))=J from yW _,show X2 (pd ks)=J from yW _];show(_||(_||J))=J;rw[FT,FT]) ?_];let ok4:OK (l.set w d++m) U ids (sj s).ops:=(OK.set wn ok3).app;cases ff with|pl hk hz=>
   let ee:Ed (pd (kW ks)) (pd ks)=true:=by rw[hk];rwa[AD (yW ks)]
   erw[bE (λ_=>?_) λz=>by let z:Ed (pd (kW ks)) (pd ks)=false:=z;rw[ee]at z;cases z]
   let(n,F):=Jy (.T (.S v::X)) ok4;erw[.ok F.fl (aB (B5 F.at') (qw (gX F.at' (dI ?_) ?_)))];.rw[Bj];rwa[ay hz ∅]
   .let(l',N,ok5,k5,n5):=F.to (by rw[Bj];rwa[hz]);let qq:=q _ _ rfl U ids l' d ok5 (k5 w d wn (bK (cy H))) Y (iU.set.trans (iU.app.trans (λj o h1 _=>k5 j o h1,λ_ h=>.inl h,by rw[n5];rwa[au _])));rw[<-N]at qq;rwa[qq]|op hk hx hz=>
   let ee:Ed (pd (kW ks)) (pd ks)=false:=bg.mpr λz=>by let:=sT (show nc ((kW ks).map .S) (ks.map .S)=J from z);rw[ai,ai]at this;lia
   erw[bE (λz=>by let z:Ed (pd (kW ks)) (pd ks)=true:=z;rw[ee]at z;cases z) λ_=>?_];erw[cF (dq qJ) (aB (L6 OJ) ?_)];erw[Tr (h:=hR (sj s) ids (l.set w d++m)++[.L []]++[.D [.r (À (hR (sj s) ids (l.set w d++m)))]]) (x:=.p (.L (.S v::X))) (a:=(Pv.S v::X).map .p) (b:=[.r (À (hR (sj s) ids (l.set w d++m)))]) (by rfl) (laD iz) (dI (ay (show(À ((Pv.S v::X).map Dv.p))+1<=100 by rw[ai,aq];lia) ∅)) ?_];rw[Qd,JY];erw[nS OJ (dI (aaR ok3 (by rw[IH];rwa[hz]))) ?_];rw[WA];rwa[q _ _ rfl _ _ _ d (aaQ nofun ok4) (bK (bK (cy H))) Y (iU.set.trans (iU.app.trans iU.opn))]
def GX:hR s ids l++m=hR s ids (l++m):=rfl
inductive DH:Ct|ok{s:Rp}{i:Ń}{ids:Ϙ}{l:Hs}{v:Ã}{ds:Ł Dv}{n:Î}{Q:Dv->Hs->ß}{xc:XP}(e:l[i]?=O (.D (.p (.S v)::ds)))(hn:n=(À ds+1:Ń))(q:Q (.r (6+i)) (hR s (i::ids) l)):DH [.r 0,.p (.S v),.p (.I n)] (hR s (i::ids) l) Q xc|no{s:Rp}{ids:Ϙ}{l:Hs}{v:Ã}{n:Î}{Q:Dv->Hs->ß}{xc:XP}(hi:ids=[])(q:∀h',xc 4 h'):DH [.r 0,.p (.S v),.p (.I n)] (hR s ids l) Q xc|lg{s:Rp}{i:Ń}{ids:Ϙ}{l:Hs}{v v':Ã}{ds:Ł Dv}{n:Î}{Q:Dv->Hs->ß}{xc:XP}(e:l[i]?=O (.D (.p (.S v')::ds)))(hn:ax v' v=af\/n≠(À ds+1:Ń))(q:∀h',xc 4 h'):DH [.r 0,.p (.S v),.p (.I n)] (hR s (i::ids) l) Q xc
def CS.len{l:Hs}{V:Ϙ}(c:CS l V ds cs):À ds=À cs:=by induction c with|i=>rfl|p t i=>left|l e t i=>left
def G6{rows:ϑ}(ok:OK l U ids ((.p (.S a)::pre,rows)::t))(hn:ax a v=af\/n≠À pre+2)(q:∀H,xc 4 H):DH [.r 0,.p (.S v),.p (.I n)] (hR s ids l) Q xc:=by cases ok with|@k U V ids o i j ds pre rows E f c N b d g k t=>let(ds,rfl,C):=c.pI;erw[.lg (show l[i]?=O (.D (.p _::(ds++[.r _])))from E) (hn.imp id λh z=>h ?_) q];rw[ah,C.len]at z;let e:À [Dv.r (6+j)]=1:=Ŗ;lia
def BL{P:ß}(z:lH (À (xj 6 ids++[x])) 0):P:=by rw[dm,ah]at z;let e:À [x]=1:=Ŗ;lia
def Ju{P:ß}(h:ids=[])(z:lH (À (Dh ids)) 0=af):P:=by subst h;rwa[FQ z.symm]
def ϊ{P:ß}(z:Cd J (ax v v)):P:=by rw[aI.mpr Ŗ]at z;cases z
def aaq{P:ß}(e:a=b)(z:Cd J (lH a b)):P:=by rw[dm.mpr e]at z;cases z
inductive Dq:Rp->ϑ->Ő (Rp×ϑ)->ß|ok{s:Rp}{x:Pv}{r rows:ϑ}{t:Ł (Ł Pc×ϑ)}(e:s.ops=([.p (.S "try")],rows)::t):Dq s (x::r) (O ({s with ops:=([.p (.S "try"),.l rows,.p x],[])::t},r))|no{s:Rp}{r:ϑ}(e:s.ops=[]):Dq s r aa|lg{s:Rp}{v:Ã}{pre:Ł Pc}{r rows:ϑ}{t:Ł (Ł Pc×ϑ)}(e:s.ops=(.p (.S v)::pre,rows)::t)(hn:ax v "try"=af\/À pre≠0):Dq s r aa|Hu{s:Rp}{rows:ϑ}{t:Ł (Ł Pc×ϑ)}(e:s.ops=([.p (.S "try")],rows)::t):Dq s [] aa
inductive F1:Rp->ϑ->Ő (Rp×ϑ)->ß|mk{s:Rp}{x:Pv}{r rows:ϑ}{t:Ł (Ł Pc×ϑ)}(e:s.ops=([.p (.S "if"),.p x],rows)::t):F1 s r (O ({s with ops:=([.p (.S "if"),.p x,.l rows],[])::t},r))|no{s:Rp}{r:ϑ}(e:s.ops=[]):F1 s r aa|lg{s:Rp}{v:Ã}{pre:Ł Pc}{r rows:ϑ}{t:Ł (Ł Pc×ϑ)}(e:s.ops=(.p (.S v)::pre,rows)::t)(hn:ax v "if"=af\/À pre≠1):F1 s r aa
inductive Be:Rp->ϑ->Ő (Rp×ϑ)->ß|mk{s:Rp}{nm ps x:Pv}{r ows:ϑ}(e:s.ops=[([.p (.S "def"),.p nm,.p ps,.l ows],[])])(hz:À ows<=100000):Be s (x::r) (O ({s with ops:=[([.p (.S "def"),.p nm,.p ps,.l (ows++[x])],[])]},r))|no{s:Rp}{r:ϑ}(e:s.ops=[]):Be s r aa|lg{s:Rp}{v:Ã}{pre:Ł Pc}{r rows:ϑ}{t:Ł (Ł Pc×ϑ)}(e:s.ops=(.p (.S v)::pre,rows)::t)(hn:ax v "def"=af\/À pre≠3):Be s r aa|Hu{s:Rp}{nm ps:Pv}{r ows rows:ϑ}(e:s.ops=[([.p (.S "def"),.p nm,.p ps,.l ows],rows)])(hn:rows ≠[]):Be s r aa|no4{s:Rp}{nm ps:Pv}{ows:ϑ}(e:s.ops=[([.p (.S "def"),.p nm,.p ps,.l ows],[])]):Be s [] aa
inductive FY:Rp->ϑ->Ő (Rp×ϑ)->ß|mk{s:Rp}{x:Pv}{r:ϑ}(e1:s.ops=[])(e2:iQ 2 s.sec=af):FY s (x::r) (O ({s with sec:=2,ops:=[([.p (.S "def"),.p x,.p (.L r),.l []],[])]},[]))|yw{s:Rp}{r:ϑ}(e:s.ops ≠[]\/iQ 2 s.sec):FY s r aa|lg{s:Rp}(e1:s.ops=[])(e2:iQ 2 s.sec=af):FY s [] aa
def YQ(z:Cd J b=af):b=true:=by cases b with|t=>rfl|f=>done
seal mz o9 Df o6 uY j4 jZ lu gj oS in
def pE(B:LX ca W)(S:SX W):DX ca W 55 2 DH:=by erw[B.e 4 af [] [] (.iff (.cmp jA (.bi d8 (.u (.fld 6 5 0))) (.i 0)) (.one (.raise 4 (.s "a row stands where it may not"))) .nil<|>.set 3 (.ix (.fld 6 5 0) (.neg (.i 1)))<|>.iff (.bo (Wm.oc (.cmp zu (.ix 3 (.i 0)) 1) (Wm.o1 (.cmp zu (.bi d8 (.u 3)) 2)))) (.one (.raise 4 (.s "a row stands where it may not"))) .nil<|>.re 3) S.HP rfl Ť Ť λds h Q x c=>?_];cases c with|@ok s i I l v ds n _ _ e hn q=>exact(Ŗ,cF (dq qJ) (dS wo (bE (λz=>BL z) λ_=>cF (dq qJ) (fu wo (qk _ _) (fu (cE e) Ŗ (bE (λz=>ϊ z) λ_=>dS (cE e) (bE (λz=>aaq nofun z) λ_=>q)))))))|@no s I l v n _ _ H q=>exact(Ŗ,cF (dq qJ) (dS OJ (bE (λz=>q _) λz=>Ju H z)))|@lg s i I l v a ds n _ _ e hn q=>
  erw[(Ŗ,cF (dq qJ) (dS wo (bE (λz=>BL z) λ_=>cF (dq qJ) (fu wo (qk _ _) (fu (cE e) Ŗ (bE (λ_=>q _) λz=>dS (cE e) (bE (λ_=>q _) λZ=>?_)))))))];rcases hn with hn|hn;.let z:=YQ (b:=ax a v) z;rw[hn]at z;cases z
  .let Z:=YQ (b:=lH _ n) Z;rw[dm]at Z;rwa[Ă Z.symm hn]
seal mz o9 Df o6 uY j4 jZ lu gj oS in
def BH(B:LX ca W)(S:SX W)(M:Di (Lx ca) W 600 4):DX ca W 50 6 (zt Dq):=by erw[B.e (k:=4) 3 af [(55,DH)] [600] (.set 2 (.sG 55 (.u3 0 (.s "try") (.i 2)))<|>.ex (.mt lU 2 (.u (.AO 600 1)))<|>.one (.ex (.mt lU 2 (.u (.FP .nil))))) S.E8 rfl ((pE B S).up Ŗ,Ť) (M,Ť) λds h Q xc c=>?_];cases c with|@mk s U I l w o r oo _ _ ok H a e q b=>erw[(Ŗ,?_)];cases e with
 |no e=>rw[e]at ok;rwa[.no ok.tF.2 (b Ŗ)]|@lg v pre r rows t e hn=>rw[e]at ok;rwa[G6 (n:=2) ok (hn.imp id λh z=>h ()) (b Ŗ)]|@Hu rows t e=>rw[e]at ok;cases ok with|@k U V I d i j ds pre rows E f C N P R T X t=>let(_,rfl,g):=C.pI;let(rfl,rfl):=g.nI;erw[.ok E Ŗ ?_];let(y,K,_,_,_,_):=id a;rwa[aB (L6 (cE E)) (dX (cE H) (.no _ _ (cE H) a rfl (b Ŗ _)))]
 |@ok x r rows t e=>
  let wn:w∉U:=by let(y,K,_,_,_,_):=id a;rwa[OK.wn H ok]
  rw[e]at ok;cases ok with|@k U V I d i j ds pre rows E f C N P R T X t=>
  let(_,rfl,g):=C.pI;let(rfl,rfl):=g.nI;erw[.ok E Ŗ ?_];let m:w≠i:=λz=>wn (z▸ao);let Y:w≠j:=λz=>wn (z▸ak _ ao);let Z:w∉U:=λz=>wn (ak _ (ak _ z));let A:i≠j:=λz=>by rw[z,f]at E;cases E
  let li:=(aj.mp E).1;let lj:=(aj.mp f).1;let(y,K,_,_,_,_):=id a;erw[aB (L6 (cE E)) (dX (cE H) (.ok _ _ _ _ (cE H) a rfl λo1 uj=>?_))];rw[oE];let F:(l.set w o1)[i]?=O (.D [.p (.S "try"),.r (6+j)]):=by rw[aA m];rwa[E]
  erw[nS (cE F) Ŗ ?_];rw[oE];let e3:=cy (o':=.D ([.p (.S "try"),.r (6+j)]++[.p x])) F;let ln:À ((l.set w o1).set i (.D ([.p (.S "try"),.r (6+j)]++[.p x])))=À l:=by rw[bT,bT]
  erw[aB (L6 (cE e3)) ?_];erw[nS (bK (cE e3)) Ŗ ?_];let L:À (hR s (i::I) ((l.set w o1).set i (.D ([.p (.S "try"),.r (6+j)]++[.p x]))))=6+À l:=by rw[rD,ln]
  rw[GX,oE,L];erw[q _ _ rfl (i::À l::([j]++U)) (i::I) _ o1 (.cons (ds:=[.p (.S "try"),.r (6+j),.p x]) (cy (bK e3)) ?_ (.p (.l ?_ (.p .nil))) N λz=>by let:=t.lt _ z;lia λz=>by let:=aL.mp z;lia (show 3<=4 by ext) (bu _) (OK.set N (OK.app (OK.set N (OK.set Z t))))) ?_ uj (λk o h1 h2 ek=>?_,λk h=>?_,?_)];.rw[aA (),<-ln];rwa[iz]
  .rw[aA A];erw[bK ?_];rw[aA A,aA Y];rwa[f]
  .rw[aA (cj m)];erw[bK ?_];rw[aA (cj m)];rwa[cy H]
  .let G:i≠k:=λz=>h1 (z▸ao);rw[aA G];erw[bK ?_];rw[aA G,aA (cj h2)];rwa[ek]
  .rcases aJ.mp h with rfl|h;.rwa[.inl ao]
   rcases aJ.mp h with rfl|h;.rwa[.inr (au _)]
   rcases aJ.mp h with rfl|h;.rwa[.inl (ak _ ao)]
   .rwa[.inl (ak _ (ak _ h))]
  .simp
seal mz o9 Df o6 uY j4 jZ lu gj oS in
def DU(B:LX ca W)(S:SX W):DX ca W 49 6 (zt F1):=by erw[B.e 2 af [(55,DH)] [] (.one (.ex (.mt lU (.sG 55 (.u3 0 (.s "if") (.i 3))) (.u (.FP .nil))))) S.HR rfl ((pE B S).up Ŗ,Ť) Ť λds h Q X c=>?_];cases c with|@mk s U I l w o r G _ _ ok H a e q b=>erw[(Ŗ,?_)];cases e with|no e=>rw[e]at ok;rwa[.no ok.tF.2 (b Ŗ)]|@lg v pre r rows t e hn=>rw[e]at ok;rwa[G6 ok (hn.imp id λh z=>h ()) (b Ŗ)]|@mk x r rows t e=>
  let wn:w∉U:=by let(K,L,_,_,_,_):=id a;rwa[OK.wn H ok]
  rw[e]at ok;cases ok with|@k U V I d i j ds pre rows E f C n N M P R t=>
  let(_,rfl,g):=C.pI;let(_,rfl,m):=g.pI;let(rfl,rfl):=m.nI;erw[.ok E Ŗ ?_];let y:w≠i:=λz=>wn (z▸ao);let A:i≠j:=λz=>nofun
  let T:=(aj.mp E).1;let Y:=(aj.mp f).1;erw[aB (L6 (cE E)) (nS (bK (cE E)) Ŗ ?_)];rw[GX,oE,rD];erw[q _ _ rfl _ _ _ o (.cons (cy (bK E)) ?_ (.p (.p (.l ?_ .nil))) n λz=>by let:=t.lt _ z;lia λz=>by let:=aL.mp z;lia (show 3<=4 by simp) (bu _) (OK.set n (OK.app t))) ?_ a (λk o D Z F=>?_,λk h=>?_,?_)];.rw[aA ()];rwa[iz]
  .rw[aA A];rwa[bK f]
  .rw[aA (cj y)];rwa[bK H]
  .rw[aA (show i≠k from λz=>D (z▸ao))];rwa[bK F]
  .grind
  .simp
seal mz o9 Df o6 uY j4 jZ lu gj oS in
def GC(B:LX ca W)(S:SX W)(I0:Di (Lx ca) W 600 4):DX ca W 48 6 (zt Be):=by erw[B.e (k:=4) 3 af [(55,DH)] [600] (.set 2 (.sG 55 (.u3 0 (.s "def") (.i 5)))<|>.iff (.cmp IU (.bi d8 (.u (.ix 2 (.i 4)))) (.i 0)) (.one (.raise 4 (.s "an own stands behind a row"))) .nil<|>.one (.ex (.mt lU (.ix 2 (.i 3)) (.u (.AO 600 1))))) S.ML rfl ((pE B S).up Ŗ,Ť) (I0,Ť) λds h Q xc c=>?_];cases c with|@mk s U I l w o r oo _ _ ok H g e q K=>erw[(Ŗ,?_)];cases e with
 |no e=>rw[e]at ok;rwa[.no ok.tF.2 (K Ŗ)]|@lg v pre r rows t e hn=>rw[e]at ok;rwa[G6 (n:=5) ok (hn.imp id λh z=>h ()) (K Ŗ)]|@Hu M P r b rows e hn=>rw[e]at ok;cases ok with|@k U V I m i j ds pre rows E f C R T N X Y t=>let(_,rfl,y):=C.pI;let(_,rfl,A):=y.pI;let(_,rfl,D):=A.pI;let(k,_,_,rfl,rfl,d,F):=D.lI;let(rfl,rfl):=F.nI;erw[.ok E Ŗ ?_];erw[fu (cE E) Ŗ (gY (cE f) (bE (λ_=>K Ŗ _) λz=>?_))];exfalso;let z:iQ 0 (À rows:Ń)=false:=z;let:=bg.mp z;rw[Ne,dE]at this;rwa[hn (bQ.mp ())]
 |@no4 M P b e=>rw[e]at ok;cases ok with|@k U V I m i j ds pre rows E f C R T N X Y t=>let(_,rfl,y):=C.pI;let(_,rfl,A):=y.pI;let(_,rfl,D):=A.pI;let(k,_,_,rfl,rfl,d,F):=D.lI;let(rfl,rfl):=F.nI;erw[.ok E Ŗ ?_];let(Z,kk,_,_,_,_):=id g;erw[fu (cE E) Ŗ (gY (cE f) ?_)];rwa[fu (cE E) Ŗ (aB (B5 (cE d)) (dX (cE H) (.no _ _ (cE H) g rfl (K Ŗ _))))]
 |@mk M P x r b e hz=>
  let wn:w∉U:=by let(Z,kk,_,_,_,_):=id g;rwa[OK.wn H ok]
  rw[e]at ok;cases ok with|@k U V I m i j ds pre rows E f C R T N X Y t=>
  let(_,rfl,y):=C.pI;let(_,rfl,A):=y.pI;let(_,rfl,D):=A.pI;let(k,_,_,rfl,rfl,d,F):=D.lI;let(rfl,rfl):=F.nI;let(rfl,rfl):=t.tF;erw[.ok E Ŗ ?_];let wi:w≠i:=λz=>wn (z▸ao);let wj:w≠j:=λz=>wn (z▸ak _ ao);let wk:w≠k:=λz=>wn (by rw[z];simp);let kj:k≠j:=λz=>N (by rw[z];simp);let ki:k≠i:=λz=>by rw[z,E]at d;cases d
  let(Z,kk,_,_,_,_):=id g;erw[fu (cE E) Ŗ (gY (cE f) ?_)];erw[fu (cE E) Ŗ (aB (B5 (cE d)) (dX (cE H) (.ok _ _ _ _ (cE H) g rfl λo1 uj=>?_)))];rw[oE];let G:(l.set w o1)[k]?=O (.L b):=by rw[aA wk];rwa[d]
  erw[gX (cE G) (dI (ay (mS hz) ∅)) ?_];rw[oE];erw[q _ _ rfl _ [i] _ o1 (.cons ?_ ?_ (.p (.p (.p (.l (cy G) .nil)))) ⋯ ⋯ N (show 4<=4 by simp) (bu _) .nil) ?_ uj (λa o h1 h2 ea=>?_,λk h=>.inl h,?_)];.rw[aA ki,aA wi];rwa[E]
  .rw[aA kj,aA wj];rwa[f]
  .rw[aA (cj wk)];rwa[cy H]
  .rw[aA λz=>h1 (by rw[z];simp),aA (cj h2)];rwa[ea]
  .simp
seal mz o9 Df o6 uY j4 jZ lu gj oS in
def GA(B:LX ca W)(S:SX W)(I:Di (Lx ca) W 600 4)(C:Di (Lx ca) W 602 2):DX ca W 47 6 (zt FY):=by erw[B.e (k:=4) 3 af [(54,Ge)] [600,602] (.ex (.sG 54 (.u2 0 (.g 14)))<|>.set 2 (.AO 600 1)<|>.one (.ex (.mt lU (.fld 6 5 0) (.u (.lsd (.u5 (.s "def") 2 (.AO 602 1) (.FP .nil) (.FP .nil))))))) S.MJ rfl ((wM B S).up Ŗ,Ť) (I,C.le ∅,Ť) λds h Q xc c=>?_];cases c with|@mk s U F l w o r oo _ _ ok H d e q n=>erw[(Ŗ,?_)];cases e with|yw e=>rwa[.no (GO ok e) (n Ŗ)]|lg E f=>rw[E]at ok;erw[.ok ok.tF.2 f ?_];let(G,M,N,P,R,T):=id d;rwa[dX (cE H) (.no _ _ (cE H) d rfl (n Ŗ _))]|@mk x r E f=>
 rw[E]at ok;let(rfl,t):=ok.tF;erw[.ok t f ?_];let(G,M,N,P,R,T):=id d;erw[dX (cE H) (.ok _ _ _ _ (cE H) d rfl λo1 v=>?_)];rw[oE];let i:=cy (o':=o1) H;let(j,K,_,_,_,_):=id v;erw[cF (dq qJ) (aB (L6 OJ) (dX (cE i) (.ok _ _ _ _ (cE i) v rfl λm X=>?_)))];rw[oE];subst t;erw[nS (bK (bK (bK OJ))) (by rfl) ?_];let b:=cy (o':=m) i;generalize y:(l.set w (Wo j K)).set w m=L at b⊢;let lL:À l=À L:=by rw[<-y,bT,bT]
 let Y:(L++[.L [],.L [],.D [.p (.S "def"),.p x,.p (.L r),.r (6+À L),.r (6+(À L+1))]])[À L]?=O (.L []):=by rw[aK (au _),eY];rfl
 let Z:(L++[.L [],.L [],.D [.p (.S "def"),.p x,.p (.L r),.r (6+À L),.r (6+(À L+1))]])[À L+1]?=O (.L []):=by rw[aK (),show(À L)+1-À L=1 by lia];rfl
 let g2:(L++[.L [],.L [],.D [.p (.S "def"),.p x,.p (.L r),.r (6+À L),.r (6+(À L+1))]])[À L+2]?=O (.D [.p (.S "def"),.p x,.p (.L r),.r (6+À L),.r (6+(À L+1))]):=by rw[aK (),show(À L)+2-À L=2 by lia];rfl
 let qq:=q _ _ rfl ((À L+2)::(À L+1)::([À L]++[])) [À L+2] _ m (.cons (ds:=[.p (.S "def"),.p x,.p (.L r),.r (6+À L)]) g2 Z (.p (.p (.p (.l Y .nil)))) ⋯ ⋯ ⋯ (show 4<=4 by ext) (bu _) .nil) (bK b) X (λa o z A ea=>bK (by rw[<-y,aA (cj A),aA (cj A)];rwa[ea]),λk h=>.inr (by simp at h;lia),by rw[ah];lia);let e3:∀S:Rp,(hR S [] L++[Ob.L []]++[Ob.L []]++[Ob.D [.p (.S "def"),.p x,.p (.L r),.r (À (hR S [] L)),.r (À (hR S [] L++[Ob.L []]))]]).set 5 (.D (Dh []++[.r (À (hR S [] L++[Ob.L []]++[Ob.L []]))]))=hR S [À L+2] (L++[.L [],.L [],.D [.p (.S "def"),.p x,.p (.L r),.r (6+À L),.r (6+(À L+1))]]):=λS=>by
  let z:À (hR S [] L++[Ob.L []])=6+(À L+1):=by rw[ah,rD];rfl
  rw[JY,z,rD,aN,aN];rfl
 exact(e3 _)▸qq
def zv:Pc->Pv|.p (.L X)=>.T X|.p x=>x|.l X=>.T X
def PQ:Ő Þ->Þ|O af=>J|_=>af
def Wt:Pc->Þ|.p (.L _)=>J|.p x=>PQ (He 4 x)|.l _=>J
def kF(v:Ã)(n:Ń):ϑ:=match ax v "if"&&Ë n 3 with|J=>[.T []]|af=>[]
inductive ZN(s:Rp)(v:Ã)(xs:ϑ)(t:Ł (Ł Pc×ϑ)):Rp->ß|row(h2:ax v "def"=af)(hz:À (p0 {s with ops:=t})<100000):ZN s v xs t (kD {s with ops:=t} (.T (.S v::xs)))|df(h2:ax v "def"=J)(hz:À s.fs<100000):ZN s v xs t {s with ops:=t,fs:=s.fs++[.T xs]}
inductive zF:Rp->ϑ->Ő (Rp×ϑ)->ß|mk{s s':Rp}{v:Ã}{pre:Ł Pc}{r rows:ϑ}{t:Ł (Ł Pc×ϑ)}(e:s.ops=(.p (.S v)::pre,rows)::t)(h1:(ax v "try"&&Ë (À pre+2) 2)=af)(hc:pre.all Wt)(f:ZN s v (pre.map zv++.T rows::kF v (À pre+2)) t s'):zF s r (O (s',r))|yw{s:Rp}{r:ϑ}(e:s.ops=[]):zF s r aa|lg{s:Rp}{v:Ã}{pre:Ł Pc}{r rows:ϑ}{t:Ł (Ł Pc×ϑ)}(e:s.ops=(.p (.S v)::pre,rows)::t)(h1:(ax v "try"&&Ë (À pre+2) 2)):zF s r aa
inductive FZ(l:Hs):Ł Dv->ϑ->ß|nil:FZ l [] []|p{x:Pv}{ds:Ł Dv}{xs:ϑ}(h:PQ (He 4 x))(t:FZ l ds xs):FZ l (.p x::ds) (x::xs)|u{ys:ϑ}{ds:Ł Dv}{xs:ϑ}(t:FZ l ds xs):FZ l (.p (.L ys)::ds) (.T ys::xs)|l{k:Ń}{ys:ϑ}{ds:Ł Dv}{xs:ϑ}(e:l[k]?=O (.L ys))(t:FZ l ds xs):FZ l (.r (6+k)::ds) (.T ys::xs)
def FZ.adj{l:Hs}:∀{a b:Ł Dv}{x y:ϑ},FZ l a x->FZ l b y->FZ l (a++b) (x++y):=by intro a b x y h q;induction h with|i=>rwa[q]|p h t i=>rwa[.p h i]|u t i=>rwa[.u i]|l e t i=>rwa[.l e i]
def FZ.of{l:Hs}:∀{V:Ϙ}{ds:Ł Dv}{cs:Ł Pc},CS l V ds cs->cs.all Wt->FZ l ds (cs.map zv):=by intro V ds cs c h;induction c with
 |i=>rwa[.nil]|@p _ _ _ x t i=>let(a,H):=ag h;cases x with|L y=>rwa[.u (i H)]|_=>rwa[.p a (i H)]
 |l e t i=>rwa[.l e (i (ag h).2)]
def FZ.len{l:Hs}:∀{a:Ł Dv}{x:ϑ},FZ l a x->À a=À x:=by intro a x h;induction h with|i=>rfl|p h t i=>left|u t i=>left|l e t i=>left
def FZ.at{l:Hs}:∀{a b:Ł Dv}{y:Dv}{x:ϑ},FZ l (a++y::b) x->∃z,x[À a]?=O z/\(y=.p z/\PQ (He 4 z)=J\/(∃ys,y=.p (.L ys)/\z=.T ys)\/∃k ys,y=.r (6+k)/\l[k]?=O (.L ys)/\z=.T ys):=by intro a;induction a with
 |i=>rwa[λh=>by cases h with|p h t=>exact(_,Ŗ,.inl (Ŗ,h))|u t=>exact(_,Ŗ,.inr (.inl (_,Ŗ,Ŗ)))|l e t=>exact(_,Ŗ,.inr (.inr (_,_,Ŗ,e,Ŗ)))]
 |k c a i=>rwa[λh=>by cases h<;>rwa[i ‹_›]]
def FZ.mono{l:Hs}(h:∀(k:Ń)(ys:ϑ),l[k]?=O (Ob.L ys)->m[k]?=O (Ob.L ys)):∀{a:Ł Dv}{x:ϑ},FZ l a x->FZ m a x:=by intro a x z;induction z with|i=>rwa[.nil]|p q t i=>rwa[.p q i]|u t i=>rwa[.u i]|l e t i=>rwa[.l (h _ _ e) i]
def VE(q:Q (.p (.B J)) h):EN [.p (.L ys),.p (.ty 4)] h Q:=q
def ww:(hR s ids l)[3]?=O (.L s.fs):=rfl
def Kb:(hR s (i::ids) l).set 5 (.D (xj 6 ids.reverse))=hR s ids l:=rfl
inductive EJ(s:Rp)(U:Ϙ)(l:Hs)(w i:Ń)(v:Ã)(xs:ϑ):Es->Hs->ß|mk(U' ids:Ϙ)(l':Hs)(ds:Ł Dv)(ok:OK l' U' ids s.ops)(e:l'[i]?=O (.D ds))(fz:FZ l' ds (.S v::xs))(hz:jL (À ds))(kp:iU U w l U' l')(hw:l'[w]?=l[w]?):EJ s U l w i v xs [O (.r 0),O (.r (6+w)),O (.r (6+i)),aa] (hR s ids l')
seal mz o9 Df o6 uY j4 jZ lu gj oS EN in
def GB(B:LX ca W)(S:SX W):DX ca W 51 6 (zt zF):=by erw[B.e (k:=4) 4 af [(56,IT)] [] (.iff (.cmp jA (.bi d8 (.u (.fld 6 5 0))) (.i 0)) (.one (.raise 4 (.s "an end has no row that it belongs to"))) .nil<|>.set 2 (.m0 Ĩ (.fld 6 5 0))<|>.cut (.iff (.bo (Wm.ac (.cmp jA (.ix 2 (.i 0)) (.s "try")) (Wm.a1 (.cmp jA (.bi d8 (.u 2)) (.i 2))))) (.one (.raise 4 (.s "a catch lacks"))) .nil) (.cut (.iff (.bo (Wm.ac (.cmp jA (.ix 2 (.i 0)) (.s "if")) (Wm.a1 (.cmp jA (.bi d8 (.u 2)) (.i 3))))) (.one (.ex (.mt lU 2 (.u (.FP .nil))))) .nil) (.set 3 (.bi uM (.u (.Je 1 [] 0 (.l 2) .no (.ife (.val (.bi uK (.u2 0 (.ty 4)))) (.bi uM (.u 0)) 0) J)))<|>.one (.iff (.cmp jA (.ix 3 (.i 0)) (.s "def")) (.one (.ex (.mt lU (.fld 6 3 0) (.u (.sl 3 (.of (.i 1)) .no))))) (.one (.ex (.mt lU (.sG 56 (.u 0)) (.u 3)))))))) S.MK rfl ((N6 B S).up Ŗ,Ť) Ť λds h Q xc c=>?_];cases c with|@mk s U I l w o r oo _ _ ok g R e q q'=>erw[(Ŗ,?_)];cases e with
 |yw e=>rw[e]at ok;rwa[cF (dq qJ) (dS OJ (bE (λ_=>q' Ŗ _) λz=>Ju ok.tF.2 z))]|@lg v pre _ rows t e H=>rw[e]at ok;cases ok with|@k x V I ops i j ds _ rows E f X n1 n2 n3 hp hr Y=>
  let(ds,rfl,K):=X.pI;let dl:=K.len;let(k1,M):=ag H;erw[cF (dq qJ) (dS wo (bE (λz=>BL z) λ_=>cF (dq qJ) (aB (L6 wo) (xg wo (w6 _ _) ?_))))];rw[nL,Kb];erw[Ô (λ_ _=>ŧ) (Õ ?_ λ_ _ h=>h.elim)];erw[fu (cE E) Ŗ (bE (λ_=>dS (cE E) (bE (λ_=>q' Ŗ _) λz=>?_)) λz=>?_)];.let z:lH ((À (.p (.S v)::ds++[Dv.r (6+j)]):Ń):Î) 2=false:=z;let:=bg.mp z;rw[Ne,dm,ah,aq,dl]at this;let e3:À [Dv.r (6+j)]=1:=Ŗ;let:=aP M;lia
  .let z:ax v "try"=false:=z;rw[k1]at z;cases z
 |@mk s' v pre _ rows t e H hc ff=>
  let wn:w∉U:=by let(ws,kk,_,_,_,_):=id R;rwa[OK.wn g ok]
  rw[e]at ok;cases ok with|@k x V I ops i j ds _ rows E f X n1 n2 n3 hp hr Y=>
  let(ds,rfl,K):=X.pI;let hps:À pre<=3:=YP hp;let f0:=FZ.of K hc;let dl:À ds=À pre:=K.len;let C:FZ l (.p (.S v)::ds++[.r (6+j)]) (.S v::(pre.map zv++[.T rows])):=.p Ŗ (FZ.adj f0 (.l f .nil));let wi:w≠i:=λz=>wn (z▸ao);let li:=(aj.mp E).1;erw[cF (dq qJ) (dS wo (bE (λz=>BL z) λ_=>cF (dq qJ) (aB (L6 wo) (xg wo (w6 _ _) ?_))))];rw[nL,Kb];erw[Ô (λσ h=>σ=[O (.r 0),O (.r (6+w)),O (.r (6+i)),aa]/\h=hR {s with ops:=t} I l) (Õ ?_ ?_)];.erw[fu (cE E) Ŗ (bE (λZ=>dS (cE E) (bE (λa=>?_) λ_=>(Ŗ,Ŗ))) λ_=>(Ŗ,Ŗ))];let Z:ax v "try"=true:=Z;let a:lH ((À (.p (.S v)::ds++[Dv.r (6+j)]):Ń):Î) 2=true:=a;rw[dm,ah,aq,dl]at a;let e3:À [Dv.r (6+j)]=1:=Ŗ;rw[Z,show Ë (À pre+2) 2=J by rw[show(À pre)+2=2 by lia];rfl]at H;cases H
  rintro _ _ ⟨rfl,rfl⟩;erw[Ô (EJ {s with ops:=t} (i::j::(V++x)) l w i v (pre.map zv++.T rows::kF v (À pre+2))) (Õ ?_ ?_)]
  .let ln:À (.p (.S v)::ds++[Dv.r (6+j)])=À pre+2:=by rw[ah,aq,dl];rfl
   let no:kF v (À pre+2)=[]->EJ {s with ops:=t} (i::j::(V++x)) l w i v (pre.map zv++.T rows::kF v (À pre+2)) [O (.r 0),O (.r (6+w)),O (.r (6+i)),aa] (hR {s with ops:=t} I l):=λee=>by rw[ee];rwa[.mk x I l _ Y E C (by rw[ln];rwa[dI (ay (show(À pre)+2<=100 by lia) ∅)]) (λ_ _ _ _ e=>e,λk h=>.inl (ak _ (ak _ (aS _ h))),au _) rfl]
   erw[fu (cE E) Ŗ (bE (λZ=>dS (cE E) (bE (λa=>?_) λa=>no ?_)) λZ=>no ?_)]
   .let Z:ax v "if"=true:=Z;let a:lH ((À (.p (.S v)::ds++[Dv.r (6+j)]):Ń):Î) 3=true:=a;rw[dm,ln]at a;let ee:kF v (À pre+2)=[.T []]:=by delta kF;rw[Z,show(À pre)+2=3 by lia];rfl
    erw[aB (L6 (cE E)) (nS (bK (cE E)) (by rw[ln];rwa[dI (ay (show(À pre)+2+1<=100 by lia) ∅)]) ?_)];let ln2:À (hR {s with ops:=t} I l)=6+À l:=rD;rw[GX,oE,ln2,ee];let kl:∀(k:Ń)(ys:ϑ),l[k]?=O (Ob.L ys)->((l++[Ob.L []]).set i (Ob.D (Dv.p (.S v)::ds++[Dv.r (6+j)]++[Dv.r (6+À l)])))[k]?=O (Ob.L ys):=λk ys b=>by rw[aA λz=>by rw[<-z,E]at b;cases b];rwa[bK b]
    erw[.mk x I _ _ (OK.set n1 Y.app) (cy (bK E)) ?_ (by rw[ah,ln];rwa[dI (ay (show(À pre)+2+1<=100 by lia) ∅)]) (λk o H _ b=>?_,λk h=>.inl (ak _ (ak _ (aS _ h))),by rw[bT,ah];lia) ?_]
    .let:=FZ.adj (FZ.mono kl C) (.l (k:=À l) (ys:=[]) (by rw[aA ()];rwa[iz]) .nil);let e4:Pv.S v::(pre.map zv++[.T rows])++[.T []]=Pv.S v::(pre.map zv++[.T rows,.T []]):=by rw[mP,aN];rfl
     rw[e4]at this;rwa[this]
    .rw[aA (show i≠k from λz=>H (z▸ao))];rwa[bK b]
    .rw[aA (cj wi),g];rwa[bK g]
   .let a:lH ((À (.p (.S v)::ds++[Dv.r (6+j)]):Ń):Î) 3=false:=a;delta kF;rw[show Ë (À pre+2) 3=af from bg.mpr λz=>by let:=aP z;let z3:=bg.mp a;rw[Ne,dm,ln]at z3;lia,lJ]
   .let Z:ax v "if"=false:=Z;delta kF;rw[Z];rfl
  rintro _ _ ⟨U',iA,l',D_,zx,e',d,hz',vE,pT⟩;erw[aB (by rw[B8 (cE e')];rfl) (qg D_ (λP A N=>N=hR {s with ops:=t} iA l'/\A=((Pv.S v::(pre.map zv++.T rows::kF v (À pre+2))).take (À P)).map .p) hz' (Ŗ,Ŗ) (λP A N j=>?_) (λP y post A N E j=>?_) λA N j=>?_)];.let(rfl,_):=j;rwa[B8 (cE e')]
  .let(rfl,rfl):=j;rw[E]at d;let(z,ez,cz):=FZ.at d;let tk:((Pv.S v::(pre.map zv++.T rows::kF v (À pre+2))).take (À P)).map Dv.p++[.p z]=((Pv.S v::(pre.map zv++.T rows::kF v (À pre+2))).take (À (P++[y]))).map .p:=by rw[ah,show(À [y])=1 from Ŗ,uv ez,aR];rfl
   rcases cz with ⟨rfl,hn⟩|⟨ys,rfl,rfl⟩|⟨k,ys,rfl,b,rfl⟩
   .erw[VD ?_ (Ŗ,tk)];delta PQ at hn;split at hn;.assumption
    .cases hn
   .rwa[VE (qw (Ŗ,tk))]
   .rwa[VC (cE b) (mj (cE b) (Ŗ,tk))]
  .let(rfl,rfl):=j;let fl:=d.len;rw[fl,gT];show(match vP ((Pv.S v::(pre.map zv++.T rows::kF v (À pre+2))).map Dv.p)with|O xs=>_|aa=>ŧ);rw[QY];let wU:w∉U':=λz=>(vE.u w z).elim wn λz=>by let:=(aj.mp g).1;lia
   erw[qw (iL Ŗ (bE (λz=>?_) λz=>?_))];.let z:ax v "def"=true:=z;cases ff with|row G m=>rw[G]at z;cases z|df G m=>erw[cF (dq qJ) (aB (B5 ww) ?_)];erw[gX (z:=.T (pre.map zv++.T rows::kF v (À pre+2))) ww (dI (ay m ∅)) ?_];rwa[q _ _ rfl U' iA l' o zx (pT.trans g) R vE]
   .let z:ax v "def"=false:=z;cases ff with|df G m=>rw[G]at z;cases z|row G m=>let(n,F):=Jy (.T (.S v::(pre.map zv++.T rows::kF v (À pre+2)))) zx;erw[.ok F.fl (aB (B5 F.at') (gX F.at' (dI (ay m ∅)) ?_))];let(l2,e2,ok2,M,n2):=F.to m;let qq:=q _ _ rfl U' _ l2 o ok2 (M w o wU (pT.trans g)) R (vE.trans (λj o H _=>M j o H,λ_ h=>.inl h,nofun));rw[<-e2]at qq;rwa[qq]
inductive Sub:Ã->Rp->ϑ->Ő (Rp×ϑ)->ß|box{s:Rp}{r:ϑ}{oo:Ő (Rp×ϑ)}(t:Bc s r oo):Sub "box" s r oo|list{s:Rp}{r:ϑ}{oo:Ő (Rp×ϑ)}(t:Dw s r oo):Sub "list" s r oo|cat{s:Rp}{r:ϑ}{oo:Ő (Rp×ϑ)}(t:Dq s r oo):Sub "catch" s r oo|Oh{s:Rp}{r:ϑ}{oo:Ő (Rp×ϑ)}(t:F1 s r oo):Sub "else" s r oo|own{s:Rp}{r:ϑ}{oo:Ő (Rp×ϑ)}(t:Be s r oo):Sub "own" s r oo|dfn{s:Rp}{r:ϑ}{oo:Ő (Rp×ϑ)}(t:FY s r oo):Sub "def" s r oo|fin{s:Rp}{r:ϑ}{oo:Ő (Rp×ϑ)}(t:zF s r oo):Sub "end" s r oo|row{v:Ã}{s:Rp}{r:ϑ}{oo:Ő (Rp×ϑ)}(nl:lk v EG=aa)(t:NB v s r oo):Sub v s r oo
def ajP:Ő (Rp×ϑ)->Ő Rp|O (s,[])=>O s|_=>aa
theorem Pn{x:α}:∀{l:Ł _},lk v l=O x->∃p∈l,v=p.1
 |[],e=>by cases e|p::l,e=>by
  let e:(match ax v p.1 with|J=>O p.2|af=>lk v l)=O x:=e;split at e;.ext h;exact(p,ao,aI.mp h)
  .let(q,H,e):=Pn e;exact(q,ak _ H,e)
def JV(e:lk v eI=O ks):lk v EG=none:=by
 let(p,h,e):=Pn e;let:∀p∈eI,(lk p.1 EG).isNone=true:=∅
 rw[e];rwa[Option.isNone_iff_eq_none.mp (this p h)]
inductive eH:Rp->ϑ->Ő Rp->ß|mk{v:Ã}{s:Rp}{r:ϑ}{oo:Ő (Rp×ϑ)}(e:Sub v s r oo):eH s (.S v::r) (ajP oo)
inductive Ì:Ct|mk{s:Rp}{U ids:Ϙ}{l:Hs}{w:Ń}{o:Ob}{r:ϑ}{oo:Ő Rp}{Q:Dv->Hs->ß}{xc:XP}(ok:OK l U ids s.ops)(hw:l[w]?=O o)(wr:Wr r o)(e:eH s r oo)(q:∀s',oo=O s'->∀U' iA l',OK l' U' iA s'.ops->iU U w l U' l'->Q (.p .N) (hR s' iA l'))(q':oo=aa->∀h',xc 4 h'):Ì [.r 0,.r (6+w)] (hR s ids l) Q xc
inductive LJ(U:Ϙ)(l:Hs)(w:Ń)(v:Ã)(oo:Ő (Rp×ϑ)):Es->Hs->ß|mk(s:Rp)(r:ϑ)(U' iA:Ϙ)(l':Hs)(o:Ob)(e:oo=O (s,r))(ok:OK l' U' iA s.ops)(hw:l'[w]?=O o)(wr:Wr r o)(kp:iU U w l U' l'):LJ U l w v oo [O (.r 0),O (.r (6+w)),O (.p (.S v))] (hR s iA l')
seal mz o9 Df o6 uY j4 jZ lu gj oS EN in
def DV(B:LX ca W)(S:SX W)(K:Di (Lx ca) W 600 4)(M:Di (Lx ca) W 601 2)(D:DX ca W 45 6 (zt Bc))(g:DX ca W 46 6 (zt Dw))(m:DX ca W 47 6 (zt FY))(n:DX ca W 48 6 (zt Be))(y:DX ca W 49 6 (zt F1))(A:DX ca W 50 6 (zt Dq))(C:DX ca W 51 6 (zt zF))(F:DX ca W 52 10 ö):DX ca W 53 12 Ì:=by erw[B.e (k:=10) 3 af [(45,zt Bc),(46,zt Dw),(47,zt FY),(48,zt Be),(49,zt F1),(50,zt Dq),(51,zt zF),(52,ö)] [600,601] (.set 2 (.AO 600 1)<|>.cut (.iff (.tin 100 2) (.one (.ex (.clf 100 2 (.u2 0 1)))) (.one (.ex (.sG 52 (.u3 0 2 1))))) (.one (.iff (.val (.AO 601 1)) (.one (.raise 4 (.s "a row has more words than it may have"))) .nil))) S.HS rfl (D.up Ŗ,g.up Ŗ,m.up Ŗ,n.up Ŗ,y.up Ŗ,A.up Ŗ,C.up Ŗ,F.up Ŗ,Ť) (K.le ∅,M.le ∅,Ť) λds h Q xc c=>?_];cases c with|@mk s U T l w o r G _ _ ok H I e q d=>cases e with|@mk v _ r G e=>
 erw[(Ŗ,?_)];let(ws,kk,_,_,_,_):=id I;let wn:=OK.wn H ok;erw[dX (cE H) (.ok _ _ _ _ (cE H) I rfl λo1 j=>?_)];rw[oE];let N:=OK.set (o:=o1) wn ok;let f:=cy (o':=o1) H;erw[Ô (LJ U l w v G) (Õ ?_ ?_)];.cases e with|box t=>rwa[.mk N f j t (λa R e u i b o' Z P L E=>.mk a R u i b o' e Z P L (iU.set.trans E)) λe=>d (by rw[e];rfl)]|list t=>rwa[.mk N f j t (λa R e u i b o' Z P L E=>.mk a R u i b o' e Z P L (iU.set.trans E)) λe=>d (by rw[e];rfl)]|cat t=>rwa[.mk N f j t (λa R e u i b o' Z P L E=>.mk a R u i b o' e Z P L (iU.set.trans E)) λe=>d (by rw[e];rfl)]|Oh t=>rwa[.mk N f j t (λa R e u i b o' Z P L E=>.mk a R u i b o' e Z P L (iU.set.trans E)) λe=>d (by rw[e];rfl)]|own t=>rwa[.mk N f j t (λa R e u i b o' Z P L E=>.mk a R u i b o' e Z P L (iU.set.trans E)) λe=>d (by rw[e];rfl)]|dfn t=>rwa[.mk N f j t (λa R e u i b o' Z P L E=>.mk a R u i b o' e Z P L (iU.set.trans E)) λe=>d (by rw[e];rfl)]|fin t=>rwa[.mk N f j t (λa R e u i b o' Z P L E=>.mk a R u i b o' e Z P L (iU.set.trans E)) λe=>d (by rw[e];rfl)]|row X t=>let go:ö [.r 0,.p _,.r _] _ (λ_ Y=>LJ U l w v G _ Y) xc:=.mk N f j t (λa R e u i b o' Z P L E=>.mk a R u _ b o' e Z P L (iU.set.trans E)) λe=>d (by rw[e];rfl);erw[bE (λz=>?_) λ_=>go];let z:((lk v _).map _).isSome=true:=z;rw[X]at z;cases z
 .rintro _ _ ⟨a,R,u,i,b,o',e',Z,P,L,E⟩;subst e';let(ws',kk',_,_,_,_):=id L;erw[dX (cE P) (.mk _ _ (cE P) L ?_)];cases R with|i=>rwa[q a rfl u _ b Z E]|k x R=>rwa[d Ŗ _]
def yt:Pv->Þ|.S z=>!ax z ""|_=>af
def dA(z:Ã):ϑ:=((Ø z " ").map Pv.S).filter yt
def VQ(n:Ń)(x:Pv):Þ:=dC x&&Í (dN x).length n
def g9:Pv->Þ|.L (.S z::_)=>!Txt.startswith z "#"|_=>af
def du(t:Ã):ϑ:=((Ø t "\n").map λz=>Pv.L (dA z)).filter g9
def IB:Pv->Ob|.L w=>Wo w 0|_=>.L []
def Ic(n:Ń):Ł Dv:=(Û n).map λk=>.r k
def Fi{h:Hs}{a:Ob}:(h++[a]).set (À h) b=h++[b]:=⋯
inductive T9:Ct|mk{t:Ã}{Q:Dv->Hs->ß}{xc:XP}(ht:t.length<=900000)(q:Q (.r (À (du t))) ((du t).map IB++[.D (Ic (À (du t)))])):T9 [.p (.S t)] [] Q xc
def lF(h:y.length=1)(H:z.length<=900000):(!Nat.beq y.length 0&&(jL z.length&&(jL (À (ÿ z (ä z y 0 z.length (z.length+1)) y.length))&&jL (À (Ø z y)))))=true:=by let h2:=PyProof.Rows.len_partsBetween z (ä z y 0 z.length (z.length+1)) y.length;let h3:=xx z y 0 z.length (z.length+1);rw[h]at h2⊢;rw[mH (ay H ∅),mH (ay (xv z y) (by show z.length+2<=1000000;lia)),mH (show(À (ÿ z _ 1))<=zp by rw[h2];show _<=1000000;lia)];rfl
def GG(B:LX ca W)(S:SX W):DX ca W 38 2 (Dd (VQ 900000) λx=>.L (dA (dN x))):=by
 erw[B.e 1 _ [] [] (.re (.comp 1 [] (.one 0) (.s (.mt Hm 0 (.u (.s " ")))) (.one (.cmp zu 0 (.s ""))) 0)) S.MN rfl Ť Ť (zw λx Q X H=>?_)];let(a,h):=ag H;revert h;erw[tY a λz h q=>?_];erw[aB (lF Ŗ (ap.mp h)) ?_];erw[sH yt id Ŗ (λy b=>?_) ?_];.let(w,_,rfl):=bf.mp b;exact(λR q=>q,λ_ R q=>q)
 .rw[kQ];rwa[q]
def D1(B:LX ca W)(S:SX W)(I:Di (Lx ca) W 5 2):DX ca W 37 4 T9:=by erw[B.e (k:=2) 2 af [(38,Dd (VQ 900000) λx=>.L (dA (dN x)))] [5] (.setC 1 1 [] (.one 0) (.s (.mt Hm 0 (.u (.s "\n")))) .no (.cl 38 [] (.u 0))<|>.re (.Je 1 [] 0 (.p (.s 1)) (.one (.bo (Wm.ac (.cmp IU (.bi d8 (.u 0)) (.i 0)) (Wm.a1 (.not (.val (.mt xL (.ix 0 (.i 0)) (.u (.s "#"))))))))) (.nw 5 (.u 0)) af)) S.HX rfl ((GG B S).up Ŗ,Ť) (I,Ť) λds h Q X c=>?_];cases c with|@mk t Q _ b q=>
 erw[(Ŗ,aB (lF Ŗ b) ?_)];let l:∀z∈Ø t "\n",z.length<=900000:=λz d=>ay (uq d) b;erw[iY (λy=>.L (dA (dN y))) Ŗ (λy f=>?_) ?_];.let(w,g,rfl):=bf.mp f;rwa[λR q=>aB (show VQ 900000 (.S w)=J by delta VQ;rw[show Í (dN (.S w)).length 900000=J from ap.mpr (l w g)];rfl) q]
 .rw[cq];erw[qg (((Ø t "\n").map λz=>Pv.L (dA z)).map Dv.p) (λpre a H=>H=((pre.map ui).filter g9).map IB/\a=Ic (À ((pre.map ui).filter g9))) ?_ (Ŗ,Ŗ) (λpre a H j=>Ŗ) (λpre y post a H E j=>?_) λa H j=>?_];.rw[ai,ai];let:=xv t "\n";rwa[mH (ay this (by show _<=1000000;lia))]
  .let(rfl,rfl):=j;let(p,m,rfl):=bf.mp (show y∈((Ø t "\n").map λz=>Pv.L (dA z)).map Dv.p by rw[E];simp);let(z,d,rfl):=bf.mp m;clear E;let no:g9 (.L (dA z))=af->((pre.map ui).filter g9).map IB=(((pre++[Dv.p (.L (dA z))]).map ui).filter g9).map IB/\Ic (À ((pre.map ui).filter g9))=Ic (À (((pre++[Dv.p (.L (dA z))]).map ui).filter g9)):=λe=>by rw[aR,ij,show([Dv.p (.L (dA z))].map ui).filter g9=[]from gQ (by show ¬g9 (.L (dA z))=J;rw[e];rwa[aD]),aQ];exact(Ŗ,Ŗ)
   let Y:g9 (.L (dA z))->((pre.map ui).filter g9).map IB++[Wo (dA z) 0]=(((pre++[Dv.p (.L (dA z))]).map ui).filter g9).map IB/\Ic (À ((pre.map ui).filter g9))++[.r (À (((pre.map ui).filter g9).map IB))]=Ic (À (((pre++[Dv.p (.L (dA z))]).map ui).filter g9)):=λe=>by rw[aR,ij,show([Dv.p (.L (dA z))].map ui).filter g9=[.L (dA z)]from gR e,aR,ah,ai];exact(Ŗ,by show _=Ic (_+1);delta Ic;rw[List.range_succ,aR];rfl)
   let st:∀x∈dA z,∃w,x=Pv.S w:=λx n=>by let(w,_,rfl):=bf.mp (eP.mp n).1;exact(w,Ŗ)
   revert no Y st;cases dA z with|i=>rwa[λno _ _=>no Ŗ]|k x v=>intro no Y st;let(w,rfl):=st x ao;erw[bE (λe=>h_.mk iz ?_) λe=>no e];rw[Fi];rwa[Y e]
  .let(rfl,rfl):=j;let o:(((Ø t "\n").map λz=>Pv.L (dA z)).map Dv.p).map ui=(Ø t "\n").map λz=>Pv.L (dA z):=by rw[cq];rwa[kQ _]
   rw[o];let q:Q (.r (À ((du t).map IB))) ((du t).map IB++[.D (Ic (À (du t)))]):=by rw[ai ..];rwa[q]
   rwa[q]
inductive oY:Rp->ϑ->Ő Rp->ß|nil{s:Rp}:oY s [] (O s)|cons{s s':Rp}{r:ϑ}{rs:ϑ}{o:Ő Rp}(e:eH s r (O s'))(t:oY s' rs o):oY s (.L r::rs) o|no{s:Rp}{r:ϑ}{rs:ϑ}(e:eH s r aa):oY s (.L r::rs) aa
def s0:Rp:=(0,[],[],[],[],[])
def Ec(o:Ő Rp)(K:Pv->ß)(X:Ń->ß):ß:=match o with|aa=>X 4|O s=>match s.ops with|[]=>gd (dz (.T [.T s.bs,.T s.ls,.T s.fs,.T s.rs])) (eZ (Ad (.T s.bs) (.T s.ls) (.T s.fs) (.T s.rs)) X (K (.T [.T s.bs,.T s.ls,.T s.fs,.T s.rs])))|_=>X 4
def GU:Pv->Þ|.L w=>w.all gW&&Í (À w) zp|_=>af
inductive NS:Ct|mk{t:Ã}{o:Ő Rp}{Q:Dv->Hs->ß}{xc:XP}(ht:t.length<=900000)(hg:(du t).all GU)(e:oY s0 (du t) o)(q:Ec o (λx=>Q (.p x) []) λc=>xc c []):NS [.p (.S t)] [] Q xc
def Wa{os:Hs}:V8 [] n [] os h=h++os.map (IJ [] n):=by cases os with|i=>rw[List.map_nil,aQ];rfl|k _ _=>rfl
theorem Py:∀{rows:ϑ},rows.all GU=J->(rows.map IB).map (IJ [] n)=rows.map IB|[],_=>Ŗ|.L w::rows,h=>by rw[bV,bV,Py (ag h).2];rfl|.N::_,h=>by cases h|.B _::_,h=>by cases h|.I _::_,h=>by cases h|.S _::_,h=>by cases h|.T _::_,h=>by cases h|.scr _::_,h=>by cases h|.dct _ _::_,h=>by cases h|.obj _ _::_,h=>by cases h|.fn _::_,h=>by cases h|.ty _::_,h=>by cases h
def ϱ:(Ic m).map (Yt [] n)=xj n (Û m):=by delta Ic xj;rw[cq];rfl
def abB{rows:ϑ}(h:rows.all GU)(H:k<À rows):∃ws,rows[k]?=O (.L ws)/\GU (.L ws)=true:=by let e:=aE H;let g:=aG.mp h _ (dY H);revert e g;cases rows[k]<;>first|(intro e g;cases g)|rwa[λe g=>(_,e,g)]
inductive RJ(t:Ã)(rows:ϑ)(o:Ő Rp):Ł Dv->Ł Dv->Es->Hs->ß|mk(pre post:Ł Dv)(s:Rp)(U ids:Ϙ)(l:Hs)(v:Ő Dv)(ok:OK l U ids s.ops)(hN:l[À rows]?=O (.D (xj 6 (Û (À rows)))))(nN:À rows∉U)(hk:∀k ws,À pre<=k->rows[k]?=O (.L ws)->l[k]?=O (Wo ws 0)/\k∉U)(e:oY s (rows.drop (À pre)) o):RJ t rows o pre post [O (.p (.S t)),O (.r 0),v] (hR s ids l)
seal mz o9 Df o6 uY j4 jZ lu gj oS EN in
def v_(B:LX ca W)(S:SX W)(I6:Di (Lx ca) W 6 2)(C:DX ca W 37 4 T9)(F:DX ca W 53 12 Ì)(Yo:DX ca W 12 29 IW):DX ca W 36 30 NS:=by erw[B.e (k:=28) 3 J [(37,T9),(53,Ì),(12,IW)] [6] (.set 1 (.nw0 6)<|>.foG 2 (.l (.cl 37 [] (.u 0))) (.one (.ex (.sG 53 (.u2 1 2))))<|>.iff (.cmp IU (.bi d8 (.u (.fld 6 5 1))) (.i 0)) (.one (.raise 4 (.s "an end lacks"))) .nil<|>.re (.cl 12 [] (.u4 (.bi uM (.u (.fld 6 1 1))) (.bi uM (.u (.fld 6 2 1))) (.bi uM (.u (.fld 6 3 1))) (.bi uM (.u (.fld 6 4 1)))))) S.af6 rfl (C.up Ŗ,F.up Ŗ,Yo,Ť) (I6.le ∅,Ť) λds h Q X c=>?_];cases c with|@mk t o Q X ht Y e q=>
 erw[(Ŗ,.mk Ŗ (.mk ht ?_))];rw[Wa,aR,Py Y];let f:((du t).map IB++[Ob.D (xj 6 (Û (À (du t))))])[À (du t)]?=O (.D (xj 6 (Û (À (du t))))):=by let:=iz (h:=(du t).map IB) (o:=Ob.D (xj 6 (Û (À (du t)))));rw[ai]at this;rwa[this]
 let e0:[Ob.D (Ic (À (du t)))].map (IJ [] 6)=[Ob.D (xj 6 (Û (À (du t))))]:=by show[Ob.D ((Ic (À (du t))).map (Yt [] 6))]=_;rw[ϱ]
 erw[aB ?_ (Jz (xj 6 (Û (À (du t)))) (RJ t (du t) o) ?_ (λpre post g K j=>?_) (λpre x post g K Z j=>?_) λg K j=>?_)];.show(o7 (hR s0 [] ((du t).map IB++[Ob.D (Ic (À (du t)))].map (IJ [] 6))) (.r (6+À (du t)))).isSome=J;rw[e0,B8 (cE f)];rfl
 .show RJ t (du t) o [] _ [O (.p (.S t)),O (.r 0),aa] (hR s0 [] ((du t).map IB++[Ob.D (Ic (À (du t)))].map (IJ [] 6)));rw[e0];erw[.mk [] _ s0 [] [] _ aa .nil f ⋯ (λk w _ d=>(?_,⋯)) e];erw[bK ?_];rw[bP,d];rfl
 .cases j with|mk s U I l v ok N y d e=>rwa[B8 (cE N)]
 .let rE:À pre<À (du t):=by let:=cY À Z;rw[kM,dk,ah,aq]at this;lia
  let hx:x=.r (6+À pre):=by
   let H:(pre++x::post)[À pre]?=O x:=by rw[aK (au _),eY];rfl
   rw[<-Z]at H;delta xj at H;rw[bP,A7 rE]at H;cases H;rfl
  subst hx;cases j with|mk s U I l v ok N y d e=>
  let(w,m,G):=abB Y rE;let ed:(du t).drop (À pre)=.L w::(du t).drop (À pre+1):=by let(hl,E):=aj.mp m;rw[<-E,lN]
  rw[ed]at e;let(hw,wU):=d (À pre) w (au _) m;let wr:Wr w (Wo w 0):=(w,0,bu _,Ŗ,mH (ap.mp (ag G).2),(ag G).1);let wN:À (du t)≠À pre:=()
  cases e with|@k _ s' _ _ _ E t'=>
   erw[.mk ok hw wr E (λs2 M U' iA l' zx A=>?_) (λe=>by cases e)];cases M;erw[.mk _ _ s' U' iA l' _ zx (A.k _ _ y wN N) (λz=>(A.u _ z).elim y λz=>by let:=(aj.mp N).1;lia) (λk P H h2=>?_) (by rw[ah];rwa[t'])];let H:À pre+1<=k:=by rw[ah]at H;rwa[H]
   let(h3,h4):=d k P () h2;exact(A.k _ _ h4 () h3,λz=>(A.u _ z).elim h4 λz=>by let:=(aj.mp h3).1;lia)|no E=>rwa[.mk ok hw wr E (λs2 M=>by cases M) λ_ K=>q]
 .cases j with|mk s U I l v ok N y d e=>
  rw[kM,dk,K8]at e;cases e;let n:=ok.len;let q:match s.ops with|[]=>gd (dz (.T [.T s.bs,.T s.ls,.T s.fs,.T s.rs])) (eZ (Ad (.T s.bs) (.T s.ls) (.T s.fs) (.T s.rs)) (λc=>X c []) (Q (.p (.T [.T s.bs,.T s.ls,.T s.fs,.T s.rs])) []))|_=>X 4 []:=q;erw[cF (dq qJ) (dS OJ (bE (λz=>?_) λz=>?_))];.let z:iQ 0 (À (Dh I):Ń)=true:=z;delta Dh at z;rw[dE,kM,eV,n]at z;cases R:s.ops with|i=>left|k a b=>rw[R]at q;rwa[q]
  .let R:s.ops=[]:=by let z:=bg.mp z;delta Dh at z;rw[Ne,dE,kM,eV,n]at z;rwa[bQ.mp ()]
   rw[R]at q;rwa[cF (dq qJ) (mj hH (cF (dq qJ) (mj lx (cF (dq qJ) (mj ww (cF (dq qJ) (mj ń q)))))))]
def qu(n:Î):Þ:=ED 0 n&&iQ n 2147483629
def Ii:qu n=J↔0<=n/\n<2147483629:=by delta qu;rw[aM,kJ,dE]
def JH:Pv->Þ|.scr x=>x.all isInt|_=>af
def aeZ:Pv->Þ|.I (.ofNat _)=>J|_=>af
abbrev NO:Ct:=cR2 (λs k=>JH s&&aeZ k) λ_ _ K=>∀i:Î,K (.I i)
def Gi:Ct:=λds h Q _=>iC ds λ_ r=>iC r λ_ r=>nC r (nC h (∀n:Î,qu n=J->Q (.r 0) [.L [.I n]]))
def oP:Ct:=λds h Q _=>rC ds λi r=>iC r λm r=>nC r (mC h λn g=>nC g (gd (Ë i 0&&(qu n&&(ED 1 m&&ED m 1000000))) (∀(N:Î)(k:Ń),qu N=J->k<m->Q (.p (.I k)) [.L [.I N]])))
def ft(h:qu n)(H:1<=m)(a:m<=1000000):(J&&(qu n&&(ED 1 m&&ED m 1000000)))=true:=by rw[h,kJ.mpr H,kJ.mpr a];rfl
def EL(h:qu n)(H:(ED 1 m&&ED m 1000000)):(J&&(qu n&&(ED 1 m&&ED m 1000000)))=true:=by rw[h,H];rfl
def DC{xs:ϑ}{k:Ń}(h:(k:Î)<À xs):∃x,x∈xs/\uh xs k=O x:=by
 let h:k<À xs:=()
 exact(_,dY h,aE h)
def Ż{b:Ss}(H:∀(m v:Î)(Q:Dv->Hs->ß)(x:XP),qu v=J->1<=m->m<=1000000->(∀(n':Î)(k:Ń),qu n'=J->k<m->Q (.p (.I k)) [.L [.I n']])->b (hU J 1 Q x) (pY n [.r 0,.p (.I m)]) [.L [.I v]]):∀ds h Q x,oP ds h Q x->À ds=2/\b (hU J (À h) Q x) (pY n ds) h:=by intro ds h Q x c;erw[ċ c λi _ c=>Y' c λm _ c=>lV c λc=>alc c λn _ c=>lV c λc=>?_];let(a,c):=bG c;let(d,e,f,g):=oZ a;rw[aP d];exact(Ŗ,H _ _ Q x e (kJ.mp f) (kJ.mp g) c)
def SF(h:i0 i):Gg i j=true:=by delta Gg;rw[h,FT]
def T'(h:0<=j)(H:j<2147483647):Gg i j=true:=by delta Gg i0;rw[bR (),bR ()];rfl
def p_(B:LX ca W)(S:SX W):DX ca W 28 2 NO:=by
 erw[B.e 2 _ [] [] (.iff (.cmp TR 1 (.bi d8 (.u 0))) (.re (.ix 0 1)) .nil<|>.re (.i 0)) S.zU rfl Ť Ť (rl λs k Q X h q=>?_)];let(H,b):=ag h;cases s<;>first|done|skip
 cases k<;>first|done|skip
 ext k;cases k with|negSucc k=>done|ofNat k=>erw[bE (λc=>?_) λ_=>q 0];let(x,a,e):=DC (dE.mp c);revert e;rwa[OR (aG.mp H x a) λi e=>bW e (q i)]
def Us(B:LX ca W)(S:SX W):DX ca W 29 2 Gi:=by rwa[B.e 3 af [] [] (.set 2 (.b2 NI (.b2 Li (.b2 cm (.b2 cm 0 (.b2 Li (.i 7919) 1)) (.i 1)) (.i 48271)) (.i 2147483647))<|>.re (.FP (.u (.b2 NI (.b2 cm (.b2 cm (.b2 Li 2 2) (.b2 Li (.i 7) 2)) 1) (.i 2147483629))))) S.E6 rfl Ť Ť λds h Q X c=>Y' c λx _ c=>Y' c λk _ c=>lV c λc=>lV c λc=>(Ŗ,aB (SF Ŗ) (aB (T' (wF _ ∅) (qB _ ⋯)) (aB (SF Ŗ) (c _ (Ii.mpr (wF _ ∅,qB _ ⋯))))))]
def nW(B:LX ca W)(S:SX W):DX ca W 30 2 oP:=by erw[B.e 3 _ [] [] (.put (.b2 NI (.b2 cm (.b2 Li (.ix 0 (.i 0)) (.i 69621)) (.i 11)) (.i 2147483629)) 0 (.i 0)<|>.set 2 (.b2 NI (.b2 Li (.ix 0 (.i 0)) (.ix 0 (.i 0))) (.i 2147483587))<|>.re (.b2 NI (.b2 ŕ 2 (.i 7)) 1)) S.HM rfl Ť Ť (Ż λm v Q x H a b q=>?_)];let h:qu ((v*69621+11)%2147483629)=true:=Ii.mpr (wF _ ∅,qB _ ⋯);let(g,G):=Ii.mp h;erw[aB (T' g ()) ?_];erw[aB (bR (show(0)<m by lia)) ?_];let k:0<=(v*69621+11)%2147483629*((v*69621+11)%2147483629)%2147483587/7%m:=wF _ ();let q:=q _ _ h (by rw[Ĵ k];exact(qB _ ()));rw[Ĵ k]at q;rwa[q]
def oM(f:ϑ->Ő (Pv×ϑ)):ϐ->ϑ->Ő (ϑ×ϑ)|[],r=>O ([],r)|k::K,r=>match match ax k "value"with|J=>f r|af=>dQ k r with
  |O (x,R)=>match oM f K R with|O (X,a)=>O (x::X,a)|aa=>aa
  |aa=>aa
def CP:Ń->ϑ->Ő (Pv×ϑ)|0,_=>aa|_+1,[]=>aa|n+1,y::r=>match lk (dN y) gN with
  |O k=>match oM (CP n) k r with|O (x,R)=>O (.T (y::x),R)|aa=>aa
  |aa=>aa
def eK(r:ϑ):Þ:=r.all dC
def qy(e:dQ k r=O (x,r')):∃y,r=y::r':=by cases r with|i=>cases e|k y r=>
  let e:(match ax k _ with|J=>nu r _|af=>O _)=O _:=e;split at e
  .delta nu at e;split at e;.grind
   .lia
  .grind
def Suf(r' r:ϑ):ß:=∃a,r=a++r'
def Suf.refl(r:ϑ):Suf r r:=([],Ŗ)
def Suf.trans(h:Suf a b)(k:Suf b c):Suf a c:=by let(x,rfl):=h;let(y,rfl):=k;exact(_,(aN ..).symm)
def Suf.len(h:Suf a b):À a<=À b:=by let(x,rfl):=h;rw[ah];lia
theorem Suf.eK{a b:ϑ}(h:Suf a b)(k:eK b):eK a=true:=by let(x,rfl):=h;rw[W2.eK,dy]at k;exact(ag k).2
def K0(H:∀r x r',f r=O (x,r')->Suf r' r):∀{ks:ϐ}{r r':ϑ}{xs:ϑ},oM f ks r=O (xs,r')->Suf r' r/\À xs=À ks:=by intro ks;induction ks with
 |i=>intro r r' xs e;cases e;exact(.refl _,Ŗ)
 |k k ks i=>intro r r' xs e;let e:(match match ax k _ with|J=>f r|af=>dQ k r with
   |O (x,R)=>match oM f ks R with|O (xs,c)=>O _|aa=>aa
   |aa=>aa)=O _:=e;cases E:match ax k "value"with|J=>f r|af=>dQ k r with|n=>left|s p=>
   let(x,R):=p;rw[E]at e;let h1:=by cases h:ax k _ with|t=>rw[h]at E;rwa[H _ _ _ E]|f=>rw[h]at E;let(y,rfl):=qy E;exact([y],Ŗ)
   cases a:oM f ks R with|n=>left|s p=>simp only[a]at e;cases e;let(b,d):=i a;exact(b.trans h1,nofun)
def ze:∀{n:Ń}{r r':ϑ}{x:Pv},CP n r=O (x,r')->Suf r' r/\À r'<À r:=by intro n;induction n with|z=>intro r r' x e;cases e|v n i=>intro r r' x e;cases r with|i=>cases e|k y r=>
   let e:(match lk _ _ with
    |O k=>match oM _ k r with|O (X,r')=>O _|aa=>aa
    |aa=>aa)=O _:=e;split at e
   .split at e;.ext X R E;cases e;let:=(K0 (λr x r' e=>(i e).1) E).1;exact(this.trans ([y],Ŗ),by let:=this.len;rw[aq];lia)
    .cases e
   .cases e
def R8(b:∀r x r',f r=O (x,r')->Suf r' r)(h:∀r,À r<=N->f r=g r):∀{ks:ϐ}{r:ϑ},À r<=N->oM f ks r=oM g ks r:=by intro ks;induction ks with|i=>intro r _;rfl|k k ks i=>
  intro r H;show(match match ax k _ with|J=>f r|af=>dQ k r with
   |O (x,R)=>match oM f ks R with|O (X,c)=>O _|aa=>aa
   |aa=>aa)=match match ax k _ with|J=>g r|af=>dQ k r with
   |O (x,R)=>match oM g ks R with|O (X,c)=>O _|aa=>aa
   |aa=>aa;rw[<-h r H];cases e:match ax k _ with|J=>f r|af=>dQ k r with|n=>rfl|s p=>
   let h1:=by cases a:ax k _ with|t=>rw[a]at e;rwa[b _ _ _ e]|f=>rw[a]at e;let(y,rfl):=qy e;exact([y],Ŗ)
   simp only[i (ay h1.len H)]
def Yg:∀{n m:Ń}{r:ϑ},À r<n->À r<m->CP n r=CP m r:=by intro n;induction n with|z=>intro m r h;rwa[Ă h (fX _)]|v n i=>intro m r H a;cases m with|z=>left|v m=>cases r with
  |i=>rfl
  |k y r=>rw[aq]at H a;show(match lk _ _ with
    |O k=>match oM _ k r with|O (X,R)=>O _|aa=>aa
    |aa=>aa)=match lk _ _ with
    |O k=>match oM _ k r with|O (X,R)=>O _|aa=>aa
    |aa=>aa;cases lk _ _ with|n=>rfl|s k=>show(match oM _ k r with|O (X,R)=>O _|aa=>aa)=_;rw[R8 (N:=À r) (g:=CP m) (λr x R e=>(ze e).1) λR b=>i () ()];rwa[au _]
def gM(r:ϑ):Ő (Pv×ϑ):=CP (À r+1) r
def nE{y:Pv}{r:ϑ}:gM (y::r)=match lk (dN y) gN with
  |O ks=>match oM gM ks r with|O (xs,r')=>O (.T (y::xs),r')|aa=>aa
  |aa=>aa:=by
 show(match lk _ _ with
  |O ks=>match oM (CP (À r+1)) ks r with|O (xs,r')=>O _|aa=>aa
  |aa=>aa)=_;cases lk _ _ with|n=>rfl|s ks=>show(match oM _ ks r with|O (xs,r')=>O _|aa=>aa)=_;rw[R8 (N:=À r) (g:=gM) (λr x r' e=>(ze e).1) λr' h=>Yg () ()];rwa[au _]
def oK(e:gM r=O (x,r')):Suf r' r/\À r'<À r:=ze e
structure ZU(v:Ã)(r:ϑ)(oo:Ő (Pv×ϑ)):ß where
 sm:∀x r',oo=O (x,r')->∀p2 st o m,RV m (p2++[x]) st r' o->∃m',RV m' [.S v] (p2::st) r o
 top:∀x r',oo=O (x,r')->∃m',RV m' [.S v] [] r (O (x,r'))no:oo=aa->∀st,∃m',RV m' [.S v] st r aa
def TW{ks:ϐ}(H:lk v gN=O ks)(j:∀r x r',f r=O (x,r')->Suf r' r){N:Ń}(l:∀r,eK r=J->(r=[]\/∃w r',r=.S w::r'/\lk w gN=aa)->f r=aa)(q:∀w r,eK r=J->À r<N->(lk w gN).isSome->ZU w r (f (.S w::r))):∀{k2 k1:ϐ}{ps r:ϑ}{st:Ł ϑ},ks=k1++k2->À ps=À k1->eK r->À r<=N->(∀xs r',oM f k2 r=O (xs,r')->∀o m,RV m (.S v::(ps++xs)) st r' o->∃M,RV M (.S v::ps) st r o)/\(oM f k2 r=aa->∃M,RV M (.S v::ps) st r aa):=by intro k2;induction k2 with|i=>intro k1 ps r st _ _ _ _;erw[(λxs r' e o m h=>?_,λe=>by cases e)];cases e;rw[aQ]at h;exact(m,h)|k k k2 I=>
  intro k1 ps r st e0 u s z;let a:ks[À ps]?=O k:=by rw[e0,u,aK (au _),eY];rfl
  let n:∀{x:Pv}{R:ϑ},eK R=J->À R<=N->_:=λ{x R}h1 A=>I (k1:=k1++[k]) (ps:=ps++[x]) (st:=st) nofun nofun h1 A;let ex:oM f (k::k2) r=match match ax k _ with|J=>f r|af=>dQ k r with
   |O (x,R)=>match oM f k2 R with|O (xs,d)=>O _|aa=>aa
   |aa=>aa:=Ŗ;rw[ex];clear ex;let key:(∀x R,(match ax k "value"with|J=>f r|af=>dQ k r)=O (x,R)->∀o m,RV m (.S v::(ps++[x])) st R o->∃M,RV M (.S v::ps) st r o)/\((match ax k "value"with|J=>f r|af=>dQ k r)=aa->∃M,RV M (.S v::ps) st r aa):=by cases hk:ax k _ with
   |t=>
    let hk:=aI.mp hk;subst hk;by_cases c:r=[]\/∃w r',r=.S w::r'/\lk w gN=aa;.erw[(λx R e=>?_,λ_=>(0,.afN H a c))];simp only[l r s c]at e;cases e
    .cases r with|i=>rwa[Ă (.inl Ŗ) c]|k y r=>
      let(D,L):=ag s;cases y<;>first|done|skip
      ext w;let b:(lk w gN).isSome=true:=by cases b:lk w _ with|n=>rwa[Ă (.inr (w,r,Ŗ,b)) c]|s _=>rfl
      let F:=q w r L (by done) b;erw[(λx R e o m h=>?_,λe=>?_)];.let(M,t):=F.sm x R e (.S v::ps) st o m h;exact(_,.opn H a b t)
      .let(M,t):=F.no e _;exact(_,.opn H a b t)
   |f=>exact(λx R e o m h=>(_,.wrd H a hk e h),λe=>(_,.ahd H a hk e))
  cases E:match ax k _ with|J=>f r|af=>dQ k r with|n=>exact(λxs r' e=>(by cases e),λ_=>key.2 E)|s p=>
   let(x,R):=p;let h1:=by cases hk:ax k _ with|t=>rw[hk]at E;rwa[j _ _ _ E]|f=>rw[hk]at E;let(y,rfl):=qy E;exact([y],Ŗ)
   let(B,C):=n (h1.eK s) (ay h1.len z);erw[(λxs r' e o m h=>?_,λe=>?_)]
   .let e:(match oM f k2 R with|O (xs,d)=>O _|aa=>aa)=O _:=e;split at e;.ext Y d g;cases e;let(i,t):=B Y _ g o m (by rw[aN];rwa[h]);rwa[key.1 x R E o i t]
    .cases e
   .let e:(match oM f k2 R with|O (xs,d)=>O _|aa=>aa)=none:=e;split at e;.cases e
    .ext g;let(i,t):=C g;rwa[key.1 x R E _ i t]
def abD:∀N v r,eK r=J->À r<N->(lk v gN).isSome->ZU v r (gM (.S v::r)):=by intro N;induction N with|z=>intro v r _ h;rwa[Ă h (fX _)]|v N i=>
  intro v r s b a;let(k,H):=bN.mp a;let f:∀r,eK r=J->(r=[]\/∃w R,r=.S w::R/\lk w gN=aa)->gM r=none:=λr _ h=>by
   rcases h with rfl|⟨w,R,rfl,h⟩;.rfl
   .rw[nE,show dN _=w from Ŗ,h]
  obtain⟨a1,A⟩:(∀(st:Ł _)X R,oM _ k r=O _->∀o m,RV m (.S v::([]++X)) st R o->∃M,RV M _ st r o)/\∀st:Ł _,oM _ k r=aa->∃M,RV M [.S v] st r _:=(λst=>(TW H (λr x R e=>(oK e).1) f i (k1:=[]) rfl rfl s ()).1,λst=>(TW H (λr x R e=>(oK e).1) f i (k1:=[]) rfl rfl s ()).2);rw[nE,show dN _=v from Ŗ,H];show ZU v r (match oM _ k r with|O (X,R)=>O _|aa=>aa);cases e:oM _ k r with|n=>exact(λx R e=>(by cases e),λx R e=>(by cases e),λ_ st=>A st e)|s p=>
   let hl:=(K0 (λr x R e=>(oK e).1) e).2;erw[(λx R E P st o m h=>?_,λx R E=>?_,λE=>by done)];.cases E;rwa[a1 _ _ _ e o _ (.pop H hl h)]
   .cases E;rwa[a1 _ _ _ e _ _ (.fin H hl)]
def xz(r:ϑ)(s:eK r):zG r (gM r):=by cases r with|i=>rwa[.no (.inl Ŗ)]|k y r=>
  let(a,L):=ag s;cases y<;>first|done|skip
  ext v;cases H:lk v _ with|n=>rw[nE,show dN _=v from Ŗ,H];rwa[.no (.inr (v,r,Ŗ,H))]|s k=>
   let h:(lk v gN).isSome=true:=by rw[H];rfl
   let F:=abD _ v r L (cK _) h;cases e:gM _ with|n=>let(m,t):=F.no e [];rwa[.go h t]|s p=>let(x,R):=p;let(m,t):=F.top x R e;rwa[.go h t]
def iS:Ń->ϑ->Ő ϑ|_,[]=>O []|0,_::_=>aa|n+1,y::r=>match gM (y::r)with
  |O (x,R)=>match iS n R with|O X=>O (x::X)|aa=>aa
  |aa=>aa
def R7:∀(n:Ń)(r:ϑ),eK r=J->À r<=n->(∀xs,iS n r=O xs->Vs r xs/\À xs<=À r)/\(iS n r=aa->∃m,m<=À r/\î m r):=by intro n;induction n with
 |z=>intro r h H;cases r with|i=>exact(λxs e=>by cases e;exact(.nil,au _),λe=>by cases e)|k y r=>left
 |v n i=>intro r h H;cases r with
  |i=>exact(λxs e=>by cases e;exact(.nil,au _),λe=>by cases e)
  |k y r=>let R:=xz _ h;let ex:iS (n+1) (y::r)=match gM _ with
    |O (x,a)=>match iS n a with|O xs=>O _|aa=>aa
    |aa=>aa:=Ŗ;rw[ex];cases E:gM _ with|n=>rw[E]at R;exact(λxs e=>(by cases e),λ_=>(0,bu _,.no R))|s p=>let(x,a):=p;rw[E]at R;let(c,f):=oK E;let(I,d):=i a (c.eK h) ();show(∀xs,(match iS n a with|O xs=>O _|aa=>aa)=O xs->_)/\((match iS n a with|O xs=>O _|aa=>aa)=aa->_);cases b:iS n a with|n=>let(m,g,k):=d b;exact(λxs e=>(by cases e),λ_=>(_,(),.cons R k))|s Y=>let(K,j):=I Y b;exact(λxs e=>by cases e;exact(.cons R K,by rw[aq];lia),λe=>by cases e)
def KY(r:ϑ):Ő ϑ:=iS (À r) r
def iD(kd:Ã)(r:ϑ):Ő (Pv×ϑ):=match ax kd "value"with|J=>gM r|af=>match ax kd "values"with
  |J=>match KY r with|O x=>O (.T x,[])|aa=>aa
  |af=>dQ kd r
def Qg(h:eK r)(H:À r<=100000):Nz kd r (iD kd r):=by delta iD;cases h1:ax kd _ with|t=>let h1:=aI.mp h1;subst h1;rwa[.val (xz r h)]|f=>cases h2:ax kd _ with
  |t=>let h2:=aI.mp h2;subst h2;let(i,I):=R7 _ r h (au _);show Nz _ r (match iS _ r with|O x=>O _|aa=>aa);cases e:iS _ r with|n=>let(m,a,k):=I e;rwa[.Zz (ay a H) k]|s x=>let(K,b):=i x e;rwa[.vals (ay b H) K]
  |f=>rwa[.wrd h1 h2 Ŗ]
def ER(e:iD kd r=O (x,r')):Suf r' r:=by
 delta iD at e;split at e;.exact(oK e).1
 .split at e
  .split at e;.cases e;exact(r,(aQ _).symm)
   .cases e
  .let(y,rfl):=qy e;exact([y],Ŗ)
def rN:ϐ->ϑ->Ő (ϑ×ϑ)|[],r=>O ([],r)|k::K,r=>match iD k r with
  |O (x,R)=>match rN K R with|O (X,a)=>O (x::X,a)|aa=>aa
  |aa=>aa
def HG:∀{ks:ϐ}{r:ϑ},eK r=J->À r<=100000->FI ks r (rN ks r):=by intro ks;induction ks with|i=>intro r _ _;rwa[.nil]|k k ks i=>
  intro r h H;let p:=Qg (kd:=k) h H;show FI _ r (match iD k r with
   |O (x,R)=>match rN ks R with|O (X,a)=>O _|aa=>aa
   |aa=>aa);cases e:iD k r with|n=>rw[e]at p;rwa[.no p]|s q=>let(x,R):=q;rw[e]at p;let h1:=ER e;let t:=i (h1.eK h) (ay h1.len H);show FI _ r (match rN ks R with|O (X,a)=>O _|aa=>aa);cases E:rN ks R with|n=>rw[E]at t;rwa[.Yx p t]|s q=>rw[E]at t;rwa[.cons p t]
def Aa:ϑ->Ő Pv|[]=>aa|y::r=>match lk (dN y) eI with|aa=>aa|O k=>match rN (kW k) r with|O (x,[])=>O (.T (y::x))|_=>aa
def zS(v:Ã):Þ:=ax v "if"||(ax v "while"||ax v "try")
def og{P:Ã×α->Þ}(h:l.all P)(e:lk v l=O x):P (v,x)=true:=by induction l with|i=>cases e|k p l i=>
  let(H,a):=ag h;let e:(match ax v p.1 with|J=>O p.2|af=>lk v l)=O x:=e;split at e;.ext b;cases e;rw[aI.mp b];rwa[H]
  .rwa[i a e]
def yB(e:lk v eI=O ks):zS v=af/\kW ks=ks\/zS v/\À (kW ks)<À ks/\À (kW ks)<=2:=by
 let h:=og (P:=λp=>!zS p.1&&Đ (kW p.2=p.2)||zS p.1&&(Đ (À (kW p.2)<À p.2)&&Đ (À (kW p.2)<=2))) Ŗ e;rcases(bF _ _).mp h with h|h;.let(a,H):=ag h;rwa[.inl (nofun,aO H)]
 .let(a,H):=ag h;let(H,b):=ag H;rwa[.inr (a,aO H,aO b)]
def Ş(E:lk v eI=O ks)(o:zS v=af)(a:iQ 3 s.sec=af)(H:eK r)(b:À r<=100000)(e:rN (kW ks) r=O (xs,[]))(z:À (p0 s)<100000):eH s (.S v::r) (O (kD (sj s) (.T (.S v::xs)))):=by let p:=HG (ks:=kW ks) H b;rw[e]at p;rwa[.mk (.row (JV E) (.mk E a p (.pl ((yB E).elim (λh=>h.2) λh=>nofun) z)))]
def VY(E:lk v eI=O ks)(o:zS v)(a:iQ 3 s.sec=af)(H:eK r)(b:À r<=100000)(e:rN (kW ks) r=O (xs,[]))(z:À s.ops<100000):eH s (.S v::r) (O (wz (sj s) ((Pv.S v::xs).map .p))):=by let p:=HG (ks:=kW ks) H b;rw[e]at p;obtain⟨c,d⟩:À (kW ks)<À ks/\À (kW ks)<=2:=(yB E).elim λh=>by lia λh=>h.2;rwa[.mk (.row (JV E) (.mk E a p (.op c (by rw[p.len];rwa[d]) z)))]
def aah(n:lk v EG=aa)(a:iQ 3 s.sec=af)(H:eK r)(c:À r<=100000)(e:Aa (.S v::r)=aa)(d:À (p0 s)<100000)(h:À s.ops<100000):eH s (.S v::r) none:=by let e:(match lk v eI with|aa=>aa|O ks=>match rN _ r with|O (x,[])=>O _|_=>aa)=none:=e;cases E:lk v _ with|n=>rwa[.mk (.row n (.yw E))]|s ks=>rw[E]at e;let p:=HG (ks:=kW ks) H c;cases b:rN _ r with|n=>rw[b]at p;rwa[.mk (.row n (.lg E a p))]|s q=>let(x,R):=q;rw[b]at p;let e:(match rN _ r with|O (x,[])=>O _|_=>aa)=none:=e;rw[b]at e;cases R with|i=>cases e|k z R=>
    rcases yB E with ⟨_,k⟩|⟨_,f,g⟩;.rwa[.mk (.row n (.mk E a p (.pl k d)))]
    .rwa[.mk (.row n (.mk E a p (.op f (by rw[p.len];rwa[g]) h)))]
inductive Sh where|df(nm:Pv)(ps ows:ϑ)|if1(x:Pv)|if2(x:Pv)(a:ϑ)|wh(x:Pv)|wC|Np(a:ϑ)(x:Pv)
def Sh.pc:Sh->Ł Pc|.df n P o=>[.p (.S "def"),.p n,.p (.L P),.l o]|.if1 x=>[.p (.S "if"),.p x]|.if2 x a=>[.p (.S "if"),.p x,.l a]|.wh x=>[.p (.S "while"),.p x]|.wC=>[.p (.S "try")]|.Np a x=>[.p (.S "try"),.l a,.p x]
def JR(x:Pv):Þ:=match x with|.L _=>af|x=>PQ (He 4 x)
def Sh.ok:Sh->Þ|.df n _ _=>JR n|.if1 x=>JR x|.if2 x _=>JR x|.wh x=>JR x|.wC=>J|.Np _ x=>JR x
def uX(h:JR x):Wt (.p x)/\zv (.p x)=x:=by cases x<;>first|done|exact(h,Ŗ)
def Sh.row:Sh->ϑ->Ő Pv|.if1 x,rows=>O (.T [.S "if",x,.T rows,.T []])|.if2 x a,rows=>O (.T [.S "if",x,.T a,.T rows])|.wh x,rows=>O (.T [.S "while",x,.T rows])|.Np a x,rows=>O (.T [.S "try",.T a,x,.T rows])|_,_=>aa
def wR{rows:ϑ}(e:s.ops=(.p (.S v)::pre,rows)::t)(h:(ax v "try"&&Ë (À pre+2) 2)=af)(H:pre.all Wt)(x:pre.map zv++.T rows::kF v (À pre+2)=xs)(d:ax v "def"=af)(z:À (p0 {s with ops:=t})<100000):zF s r (O (kD {s with ops:=t} (.T (.S v::xs)),r)):=by subst x;rwa[.mk e h H (.row d z)]
def BN{n:Ń}(h:(ax v "if"&&Ë n 3)=af):kF v n=[]:=by delta kF;rw[h]
def ju(g:JR x):zv (.p x)::xs=x::xs:=by rw[(uX g).2]
def Jw{S:Sh}{rows:ϑ}{row:Pv}(e:s.ops=(S.pc,rows)::t)(g:S.ok)(h:S.row rows=O row)(H:À (p0 {s with ops:=t})<100000):zF s r (O (kD {s with ops:=t} row,r)):=by cases S with|df n p o=>done|wC=>done|if1 x=>cases h;erw[wR e (show(ax _ _&&Ë 3 2)=af by rfl) (by show(Wt _&&J)=J;rw[(uX g).1];rfl) ?_ (by rfl) H];show zv _::.T _::kF _ 3=_;rw[ju g];delta kF;rw[show(ax _ _&&Ë 3 3)=J by rfl]|if2 x a=>cases h;erw[wR e (show(ax _ _&&Ë 4 2)=af by rfl) (by show(Wt _&&(J&&J))=J;rw[(uX g).1];rfl) ?_ (by rfl) H];show zv _::.T a::.T _::kF _ 4=_;rw[ju g,BN (by rfl)]|wh x=>cases h;erw[wR e (show(ax _ _&&Ë 3 2)=af by rfl) (by show(Wt _&&J)=J;rw[(uX g).1];rfl) ?_ (by rfl) H];show zv _::.T _::kF _ 3=_;rw[ju g,BN (by rfl)]|Np a x=>cases h;erw[wR e (show(ax _ _&&Ë 4 2)=af by rfl) (by show(J&&(Wt _&&J))=J;rw[(uX g).1];rfl) ?_ (by rfl) H];show .T a::zv _::.T _::kF _ 4=_;rw[ju g,BN (by rfl)]
def Jv{rows:ϑ}(e:s.ops=((Sh.df nm ps o).pc,rows)::t)(g:JR nm)(h:À s.fs<100000):zF s r (O ({s with ops:=t,fs:=s.fs++[.T [nm,.T ps,.T o,.T rows]]},r)):=by
 let ex:[nm,.T ps,.T o,.T rows]=[Pc.p nm,.p (.L ps),.l o].map zv++.T rows::kF "def" (À [Pc.p nm,.p (.L ps),.l o]+2):=by show _=zv _::.T ps::.T o::.T _::kF _ 5;rw[ju g,BN (by rfl)]
 rw[ex];rwa[.mk e (show(ax _ _&&Ë 5 2)=af by rfl) (by show(Wt _&&(J&&(J&&J)))=J;rw[(uX g).1];rfl) (.df (by rfl) h)]
def Ma(h:s.ops=[]\/∃(b:Sh)(rows:ϑ)(t:Ł _),s.ops=(b.pc,rows)::t/\b.ok)(H:∀t,À (p0 {s with ops:=t})<100000\/s.ops.tail≠t)(f:À s.fs<100000):eH s (.S "end"::z::r) none:=by
 rcases h with h|⟨b,rows,t,e,g⟩;.rwa[.mk (.fin (.yw h))]
 .let row:∀row,b.row _=O row->eH s (.S "end"::z::r) none:=λrow c=>.mk (.fin (Jw e g c ((H t).elim id λh=>Ă (by rw[e];rfl) h)));cases b with|df n p o=>rwa[.mk (.fin (Jv e g f))]|wC=>rwa[.mk (.fin (.lg e Ŗ))]|if1 x=>rwa[row _ Ŗ]|if2 x a=>rwa[row _ Ŗ]|wh x=>rwa[row _ Ŗ]|Np a x=>rwa[row _ Ŗ]
def Pq{h:Sh}{rows:ϑ}{row:Pv}(e:s.ops=(h.pc,rows)::t)(g:h.ok)(H:h.row rows=O row)(z:À (p0 {s with ops:=t})<100000):eH s [.S "end"] (O (kD {s with ops:=t} row)):=.mk (.fin (Jw e g H z))
def VU(e:s.ops=[]):eH s (.S "end"::r) none:=.mk (.fin (.yw e))
def VW{rows:ϑ}(e:s.ops=(Sh.wC.pc,rows)::t):eH s (.S "end"::r) none:=.mk (.fin (.lg e ∅))
def VT{rows:ϑ}(e:s.ops=((Sh.if1 x).pc,rows)::t):eH s [.S "else"] (O {s with ops:=((Sh.if2 x rows).pc,[])::t}):=.mk (oo:=O (_,[])) (.Oh (.mk e))
def yo(h:s.ops=[]\/∃(b:Sh)(rows:ϑ)(t:Ł _),s.ops=(b.pc,rows)::t/\((∀x,b≠.if1 x)\/r ≠[])):eH s (.S "else"::r) none:=by
 rcases h with h|⟨b,rows,t,e,h⟩;.rwa[.mk (.Oh (.no h))]
 .cases b with
  |df n p o=>rwa[.mk (.Oh (.lg e (.inl (by rfl))))]|wC=>rwa[.mk (.Oh (.lg e (.inl (by rfl))))]|if1 x=>cases r with|i=>rwa[h.elim (λh=>Ă Ŗ (h x)) λh=>Ă Ŗ h]|k z r=>rwa[.mk (.Oh (.mk e))]
  |if2 x a=>rwa[.mk (.Oh (.lg e (.inr (show 2≠1 by ext))))]|wh x=>rwa[.mk (.Oh (.lg e (.inl (by rfl))))]|Np a x=>rwa[.mk (oo:=aa) (.Oh (.lg e (.inl (by rfl))))]
def Pp{rows:ϑ}(e:s.ops=(Sh.wC.pc,rows)::t):eH s [.S "catch",x] (O {s with ops:=((Sh.Np rows x).pc,[])::t}):=.mk (oo:=O (_,[])) (.cat (.ok e))
def vH(h:s.ops=[]\/∃(b:Sh)(rows:ϑ)(t:Ł _),s.ops=(b.pc,rows)::t/\(b≠.wC\/À r≠1)):eH s (.S "catch"::r) none:=by
 rcases h with h|⟨b,rows,t,e,h⟩;.rwa[.mk (.cat (.no h))]
 .cases b with|df n p o=>rwa[.mk (.cat (.lg e (.inl (by rfl))))]|wC=>
   rcases r with _|⟨x,_|⟨y,r⟩⟩;.rwa[.mk (.cat (.Hu e))]
   .rwa[h.elim (λh=>Ă Ŗ h) λh=>Ă Ŗ h]
   .rwa[.mk (.cat (.ok e))]|if1 x=>rwa[.mk (oo:=aa) (.cat (.lg e (.inl (by rfl))))]|if2 x a=>rwa[.mk (oo:=aa) (.cat (.lg e (.inl (by rfl))))]|wh x=>rwa[.mk (oo:=aa) (.cat (.lg e (.inl (by rfl))))]|Np a x=>rwa[.mk (oo:=aa) (.cat (.lg e (.inr (show 2≠0 by ext))))]
def Hj{v:Ã}(h:s.ops ≠[]\/s.sec=3)(H:v="box"\/v="list"\/v="def"):eH s (.S v::r) none:=by
 let q:∀k:Î,k<3->s.ops ≠[]\/iQ k s.sec:=λk a=>h.imp id λh=>by rw[h,dE];rwa[a]
 rcases H with rfl|rfl|rfl;.rwa[.mk (.box (.yw (q 0 ⋯)))]
 .rwa[.mk (.list (.yw (q 1 ⋯)))]
 .rwa[.mk (.dfn (.yw (q 2 ⋯)))]
def Mb(h:s.ops=[]\/∃(b:Sh)(rows:ϑ)(t:Ł _),s.ops=(b.pc,rows)::t/\((∀nm ps o,b≠.df nm ps o)\/t=[]/\rows ≠[])):eH s (.S "own"::r) none:=by
 rcases h with h|⟨b,rows,t,e,h⟩;.rwa[.mk (.own (.no h))]
 .cases b with
   |df nm ps o=>
   rcases h with h|⟨rfl,h⟩;.rwa[Ă Ŗ (h nm ps o)]
   .rwa[.mk (.own (.Hu e h))]|wC=>rwa[.mk (.own (.lg e (.inl Ŗ)))]|if1 x=>rwa[.mk (oo:=aa) (.own (.lg e (.inl Ŗ)))]|if2 x a=>rwa[.mk (oo:=aa) (.own (.lg e (.inl Ŗ)))]|wh x=>rwa[.mk (oo:=aa) (.own (.lg e (.inl Ŗ)))]|Np a x=>rwa[.mk (oo:=aa) (.own (.lg e (.inl Ŗ)))]
def kX:ϑ->Ã|y::_=>dN y|[]=>""
def wX(ws:ϑ):Þ:=ax (kX ws) "else"||(ax (kX ws) "catch"||ax (kX ws) "end")
abbrev cM:=Ł ϑ
def wA(v:Ã)(xs a:ϑ):Pv:=match ax v "if"with|J=>.T (.S v::(xs++[.T a,.T []]))|af=>.T (.S v::(xs++[.T a]))
def va(v:Ã)(xs a b:ϑ)(x:Pv):Pv:=match ax v "if"with|J=>.T (.S v::(xs++[.T a,.T b]))|af=>.T [.S v,.T a,x,.T b]
def pV(v:Ã)(ws:ϑ):Þ:=ax v "if"&&(ax (kX ws) "else"&&Ë (À ws) 1)||ax v "try"&&(ax (kX ws) "catch"&&Ë (À ws) 2)
def fN(ws:ϑ):Þ:=ax (kX ws) "end"&&Ë (À ws) 1
def gD(B:cM->Ő (ϑ×cM))(v:Ã)(xs:ϑ)(R:cM):Ő (Pv×cM):=match B R with|aa=>aa|O (_,[])=>aa|O (a,w::R2)=>match fN w&&!ax v "try"with|J=>O (wA v xs a,R2)|af=>match pV v w with|af=>aa|J=>match B R2 with|aa=>aa|O (_,[])=>aa|O (b,q::r)=>match fN q with|J=>O (va v xs a b (w.getLast?.getD .N),r)|af=>aa
def j5(b:cM->Ő (ϑ×cM))(ws:ϑ)(R:cM):Ő (Pv×cM):=match Aa ws with
 |O (.T (y::x))=>match zS (dN y)with|J=>gD b (dN y) x R|af=>O (.T (y::x),R)
 |_=>aa
def cg:Ń->cM->Ő (ϑ×cM)|0,_=>aa|_+1,[]=>O ([],[])|n+1,w::R=>match wX w with|J=>O ([],w::R)|af=>match j5 (cg n) w R with|aa=>aa|O (x,r)=>match cg n r with|aa=>aa|O (X,R2)=>O (x::X,R2)
def jW(a b:cM):ß:=∃c,b=c++a
def jW.trans(h:jW a b)(k:jW b c):jW a c:=by let(x,rfl):=h;let(y,rfl):=k;exact(_,(aN ..).symm)
def jW.tl:jW a (ws::a):=([ws],Ŗ)
def jW.len(h:jW a b):À a<=À b:=by let(x,rfl):=h;rw[ah];lia
def jW.all(h:jW a b){P:ϑ->ß}(k:∀ws∈b,P ws):∀ws∈a,P ws:=by let(x,rfl):=h;rwa[λws H=>k ws (aS _ H)]
structure Af(R:cM)(xs:ϑ)(R':cM):ß where
 kq:jW R' R
 len:À xs+À R'<=(À R)stop:R'=[]\/∃ws R2,R'=ws::R2/\wX ws=J
def IK(h:∀R xs r,B R=O (xs,r)->Af R xs r)(e:gD B v xs R=O (x,r)):jW r R/\À r<À R:=by
 delta gD at e;split at e;.cases e
 .cases e
 .ext a w R2 E;let h1:=h _ _ _ E;let h2:=jW.tl.trans h1.kq;let H:À R2<À R:=by let:=h1.kq.len;rw[aq]at this;lia
  split at e;.left
  .split at e;.cases e
   .split at e;.cases e
    .cases e
    .ext b q d c;let k1:=h _ _ _ c;split at e;.cases e;exact((jW.tl.trans k1.kq).trans h2,by let:=k1.kq.len;rw[aq]at this;lia)
     .cases e
def xb(h:∀R xs r,b R=O (xs,r)->Af R xs r)(e:j5 b ws R=O (x,r)):jW r R:=by
 delta j5 at e;split at e
 .split at e;.exact(IK h e).1
  .cases e;exact([],Ŗ)
 .cases e
def kZ:∀{n:Ń}{R:cM}{xs:ϑ}{R':cM},cg n R=O (xs,R')->Af R xs R':=by intro n;induction n with|z=>intro R xs R' e;cases e|v n i=>intro R xs R' e;cases R with|i=>cases e;exact(([],Ŗ),au _,.inl Ŗ)|k w R=>
   delta cg at e;split at e;.ext h;cases e;exact(([],Ŗ),⋯,.inr (_,_,Ŗ,h))
   .split at e;.cases e
    .ext x r E;let h1:=xb (λR xs R' e=>i e) E;split at e;.cases e
     .ext y R2 a;cases e;let h2:=i a;exact((h2.kq.trans h1).trans jW.tl,by let:=h1.len;let:=h2.len;rw[aq,aq];lia,h2.stop)
inductive Sw:Ł (Ł Pc×ϑ)->ß|nil:Sw []|df{nm:Pv}{ps ows rows:ϑ}(g:JR nm):Sw [((Sh.df nm ps ows).pc,rows)]|cons{sh:Sh}{rows:ϑ}{t:Ł (Ł Pc×ϑ)}(nd:∀nm ps ows,sh≠.df nm ps ows)(g:sh.ok)(k:Sw t):Sw ((sh.pc,rows)::t)
def Sw.top(h:Sw o):o=[]\/∃(s:Sh)(rows:ϑ)(t:Ł _),o=(s.pc,rows)::t/\s.ok/\((∀nm ps a,s≠.df nm ps a)\/t=[]):=by cases h with|i=>rwa[.inl Ŗ]|@df nm ps a rows g=>rwa[.inr (_,_,[],Ŗ,g,.inr Ŗ)]|@k s rows t nd g k=>rwa[.inr (s,_,t,Ŗ,g,.inl nd)]
structure MI(s:Rp)(k:Ń):ß where
 q:s.ops ≠[]\/s.sec=3
 e3:iQ 3 s.sec=af
 sh:Sw s.ops
 zr:À s.rs+k<100000zf:À s.fs+k<100000zo:À s.ops+k<100000zb:∀b∈s.ops,À b.2+k<100000
def F8(q:s.ops ≠[]\/s.sec=3):sj s=s:=by let(S,bs,l,fs,r,o):=s;delta sj;cases o with|i=>left|k a b=>rfl
def MI.top(m:MI s k):À (p0 s)+k<100000:=by
 delta p0;split;.rwa[m.zr]
 .ext pre rows t e;rwa[m.zb _ (by rw[e];rwa[ao])]
def MI.le(m:MI s k)(h:j<=k):MI s j:=(m.q,m.e3,m.sh,by let:=m.zr;lia,by let:=m.zf;lia,by let:=m.zo;lia,λb H=>by let:=m.zb b H;lia)
def Ak{rows:ϑ}(e:s.ops=(pc,rows)::t):kD s x={s with ops:=(pc,rows++[x])::t}:=by delta kD;rw[e]
def DA(e:s.ops=[]):kD s x={s with rs:=s.rs++[x]}:=by delta kD;rw[e]
theorem Sw.rows{pc:Ł Pc}{rows a:ϑ}{t:Ł _}(h:Sw ((pc,rows)::t)):Sw ((pc,a)::t):=by cases h with|df g=>rwa[.df g]|k nd g k=>rwa[.cons nd g k]
def MI.add(m:MI s (k+1)):MI (kD s x) k:=by
 cases e:s.ops with|i=>
  rw[DA e];erw[(.inr (m.q.elim (λh=>Ă e h) id),m.e3,m.sh,?_,?_,?_,λb H=>?_)];.rw[ah];let:=m.zr;show(À s.rs)+1+k<_;lia
  .let:=m.zf;show(À s.fs)+k<_;lia
  .let:=m.zo;show(À s.ops)+k<_;lia
  .let:=m.zb b H;lia|k b t=>
  let(pc,rows):=b;rw[Ak e];let hs:=m.sh;let H:=m.zb;let ho:=m.zo;rw[e]at hs H ho;erw[(.inl ⋯,m.e3,hs.rows,?_,?_,?_,λb h=>?_)];.let:=m.zr;show(À s.rs)+k<_;lia
  .let:=m.zf;show(À s.fs)+k<_;lia
  .rw[aq]at ho⊢;lia
  .rcases aJ.mp h with rfl|h;.let:=H _ ao;rw[ah];show(À rows)+1+k<_;lia
   .let:=H b (ak _ h);lia
def qO(s:Rp):ϑ->Rp|[]=>s|x::X=>qO (kD s x) X
def rf:∀{xs:ϑ}{s:Rp}{pc:Ł Pc}{rows:ϑ}{t:Ł _},s.ops=(pc,rows)::t->qO s xs={s with ops:=(pc,rows++xs)::t}:=by intro xs;induction xs with|i=>intro s pc rows t e;rw[aQ,<-e];rfl|k x xs i=>intro s pc rows t e;show qO _ xs=_;rw[Ak e,i Ŗ,aN];rfl
def Ow(s:Rp)(R:cM):ß:=∀n p o t,s.ops=((Sh.df n p o).pc,[])::t->∀w r,R=w::r->ax (kX w) "own"=af
def Ow.add:Ow (kD s x) R:=by
 intro n p o t e w r _;exfalso;delta kD at e;split at e;.left
 .left
def rL(R:cM):ϑ:=R.map .L
def ajm:Ő Rp->ß|aa=>æ|O s=>s.ops ≠[]
def wJ(s:Rp)(R:cM):ß:=∃o,oY s (rL R) o/\ajm o
structure gL(ws:ϑ):ß where ex:∃v r,ws=.S v::r/\eK r/\À r<=100000
theorem wJ.no{R:cM}(e:eH s ws aa):wJ s (ws::R):=(_,.no e,Ť)
def wJ.go{ws:ϑ}{R:cM}(e:eH s ws (O s'))(b:wJ s' R):wJ s (ws::R):=by let(o,h,k):=b;exact(o,.cons e h,k)
def Yh(e:gM r=O (x,r')):∃xs,x=.T xs:=by cases r with|i=>cases e|k y r=>
  rw[nE]at e;split at e;.grind
  .lia
def Fd{row:Pv}(e:Aa (.S v::r)=O row):∃ks xs,lk v eI=O ks/\rN (kW ks) r=O (xs,[])/\row=.T (.S v::xs):=by
 let e:(match lk v eI with|aa=>aa|O ks=>match rN _ r with|O (xs,[])=>O _|_=>aa)=O row:=e;split at e;.cases e
 .ext ks E;split at e;.ext xs p;cases e;exact(ks,xs,E,p,Ŗ)
  .cases e
inductive Lc:Ã->ϑ->Sh->ß|if1{x:Pv}(g:JR x):Lc "if" [x] (.if1 x)|wh{x:Pv}(g:JR x):Lc "while" [x] (.wh x)|wC:Lc "try" [] .wC
theorem Lc.pc(h:Lc v xs s):(Pv.S v::xs).map Pc.p=s.pc:=by cases h<;>rfl
theorem Lc.ok(h:Lc v xs s):s.ok=true:=by cases h with|if1 g=>rwa[g]|wh g=>rwa[g]|wC=>rfl
def Lc.nd(h:Lc v xs s):∀nm ps ows,s≠.df nm ps ows:=by cases h<;>rwa[λ_ _ _ e=>by cases e]
def JX(e:rN ["value"] r=O (xs,[])):∃x,xs=[x]/\JR x=true:=by
 let e:(match iD _ r with
  |O (x,R)=>match rN [] R with|O _=>O _|aa=>aa
  |aa=>aa)=O _:=e;cases E:iD "value" r with|n=>left|s p=>let(x,R):=p;rw[E]at e;cases e;let(y,rfl):=Yh E;exact(_,Ŗ,Ŗ)
def YY(e:lk v eI=O ks)(H:zS v)(E:rN (kW ks) r=O (xs,[])):∃sh,Lc v xs sh:=by
 rcases(bF _ _).mp H with h|h;.let h:=aI.mp h;subst h;cases e;let(x,rfl,g):=JX (by done);exact(_,.if1 g)
 rcases(bF _ _).mp h with h|h;.let h:=aI.mp h;subst h;cases e;let(x,rfl,g):=JX (by done);exact(_,.wh g)
 .let h:=aI.mp h;subst h;cases e;cases E;exact(_,.wC)
def đ:Sh->ϑ->Þ|.wC,w=>ax (kX w) "catch"&&Ë (À w) 2|.if1 _,w=>fN w||ax (kX w) "else"&&Ë (À w) 1|_,w=>fN w
def alj{m:Ń}(h:n≠m):Ë n m=false:=bg.mpr λe=>h (aP e)
def oU(h:(a||b)=af):a=af/\b=false:=nofun
def CO{rows:ϑ}(e:s.ops=(b.pc,rows)::t)(g:b.ok)(w:gL ws)(c:wX ws)(h:đ b ws=af)(f:À (p0 {s with ops:=t})<100000)(i:À s.fs<100000):eH s ws none:=by
 let(v,r,rfl,j,d):=w.ex;let c:(ax v _||(ax v _||ax v _))=true:=c;rcases(bF _ _).mp c with H|H;.let H:=aI.mp H;subst H;erw[yo (.inr (b,_,t,e,?_))];cases b with|if1 x=>erw[.inr λd=>?_];subst d;rwa[Ă (oU (show(fN [Pv.S "else"]||ax (kX [Pv.S "else"]) "else"&&Ë _ 1)=af from h)).2 ∅]|_=>simp
 rcases(bF _ _).mp H with H|H
 .let H:=aI.mp H;subst H;erw[vH (.inr (b,_,t,e,?_))];cases b with
   |wC=>
   erw[.inr λd=>?_];rcases r with _|⟨x,_|⟨y,r⟩⟩<;>first|left|skip
   let h:(ax "catch" "catch"&&Ë 2 2)=false:=h;rwa[Ă h ∅]|_=>simp
 .let H:=aI.mp H;subst H;cases r with
  |k z r=>rwa[Ma (.inr (b,_,t,e,g)) (λT=>by
    by_cases c:s.ops.tail=T;.rw[e]at c;subst c;rwa[.inl f]
    .rwa[.inr c]) i]|i=>cases b with|wC=>rwa[VW e]|if1 x=>done|df n p o=>done|if2 x a=>cases h|wh x=>done|Np a x=>done
def ya(H:gL ws)(h:fN ws):ws=[.S "end"]:=by let(v,r,rfl,s,b):=H.ex;let(a,c):=ag (show(ax v "end"&&Ë _ 1)=J from h);rw[aI.mp a,bQ.mp (show(À r)=0 by left)]
def YZ{S:Sh}{rows:ϑ}(e:s.ops=(S.pc,rows)::t)(nd:∀nm ps o,S≠.df nm ps o):Ow s R:=by
 intro nm ps o T E w r _;exfalso;rw[e]at E;injection E with E _;injection E with E _;let K:∀z:Ã,ax z "def"=af->z≠"def":=λz h k=>by rw[k]at h;rwa[Ă h ∅]
 cases S with|df a b c=>rwa[nd a b c Ŗ]|wC=>injection E with E _;injection E with E;injection E with E;rwa[K _ Ŗ E]|if1 x=>injection E with E _;injection E with E;injection E with E;rwa[K _ Ŗ E]|if2 x a=>injection E with E _;injection E with E;injection E with E;rwa[K _ Ŗ E]|wh x=>injection E with E _;injection E with E;injection E with E;rwa[K _ Ŗ E]|Np a x=>injection E with E _;injection E with E;injection E with E;rwa[K _ Ŗ E]
def Nu(n:Ń):ß:=∀(R:cM)(s:Rp),À R<n->(∀w∈R,gL w)->MI s (À R)->Ow s R->(∀x r,cg n R=O (x,r)->∀o,oY (qO s x) (rL r) o->oY s (rL R) o)/\(cg n R=aa->wJ s R)
def MI.opn{S:Sh}(m:MI s (k+1))(nd:∀nm ps o,S≠.df nm ps o)(g:S.ok):MI (wz s S.pc) k:=(.inl (by delta wz;simp),m.e3,.cons nd g m.sh,by let:=m.zr;show(À s.rs)+k<_;lia,by let:=m.zf;show(À s.fs)+k<_;lia,by let:=m.zo;show(À ((S.pc,[])::s.ops))+k<_;rw[aq];lia,λb h=>by
  rcases aJ.mp h with rfl|h;.let:=m.zr;rw[eO];lia
  .let:=m.zb b h;lia)
def MI.put{S:Sh}{rows:ϑ}(m:MI s k)(nd:∀nm ps o,S≠.df nm ps o)(g:S.ok)(h:À rows+j+1<=k):MI {s with ops:=(S.pc,rows)::s.ops} j:=(.inl ⋯,m.e3,.cons nd g m.sh,by let:=m.zr;show(À s.rs)+j<_;lia,by let:=m.zf;show(À s.fs)+j<_;lia,by let:=m.zo;rw[aq];lia,λb H=>by
  rcases aJ.mp H with rfl|H;.let:=m.zr;lia
  .let:=m.zb b H;lia)
def Z7(H:Nu n){R:cM}(hn:À R<n)(E:∀ws∈R,gL ws)(q:MI s (À R+1))(S:Lc v xs c):(∀x d,gD (cg n) v xs R=O (x,d)->∀o,oY (kD s x) (rL d) o->oY (wz s c.pc) (rL R) o)/\(gD (cg n) v xs R=aa->wJ (wz s c.pc) R):=by let e1:(wz s c.pc).ops=(c.pc,[])::s.ops:=Ŗ;let(j,H2):=H R (wz s c.pc) hn E (q.opn S.nd S.ok) (YZ e1 S.nd);delta gD;cases P:cg n R with|n=>exact(λx d e=>(by cases e),λ_=>H2 P)|s p=>
  let(a,R1):=p;let F:=kZ P;let j:=j a R1 P;let ea:qO (wz s c.pc) a={s with ops:=(c.pc,a)::s.ops}:=by rw[rf e1];rfl
  rw[ea]at j;cases R1 with|i=>exact(λx d e=>(by cases e),λ_=>(_,j _ .nil,by show(_::_:Ł _)≠[];simp))|k ws R2=>
  let u:wX ws=true:=by
   rcases F.stop with h|⟨_,_,h,u⟩;.cases h
   .cases h;rwa[u]
  let l:gL ws:=F.kq.all E ws ao;let hl:=F.len;rw[aq]at hl;let m2:MI {s with ops:=(c.pc,a)::s.ops} (À R2):=q.put S.nd S.ok ();let G:À (p0 s)<100000:=by let:=q.top;lia
  let hf:À s.fs<100000:=by let:=q.zf;lia
  let Q:eH {s with ops:=(c.pc,a)::s.ops} ws aa->wJ (wz s c.pc) R:=λL=>(aa,j _ (.no L),Ť);show(∀x d,(match fN ws&&!ax v "try"with|J=>O (Prod.mk (wA v xs a) R2)|af=>match pV v ws with|af=>aa|J=>match cg n R2 with|aa=>aa|O (_,[])=>aa|O (b,qX::I)=>match fN qX with|J=>O (Prod.mk (va v xs a b (ws.getLast?.getD .N)) I)|af=>aa)=O (Prod.mk x d)->_)/\((match fN ws&&!ax v "try"with|J=>O (Prod.mk (wA v xs a) R2)|af=>match pV v ws with|af=>aa|J=>match cg n R2 with|aa=>aa|O (_,[])=>aa|O (b,qX::I)=>match fN qX with
      |J=>O (Prod.mk (va v xs a b (ws.getLast?.getD .N)) I)|af=>aa)=aa->_);cases i:fN ws&&!ax v "try"with|t=>
   let(i,h2):=ag i;let hw:=ya l i;subst hw;let hr:c.row a=O (wA v xs a):=by cases S with|if1 g=>show O _=O _;delta wA;rw[aI.mpr Ŗ];rfl|wh g=>show O _=O _;delta wA;rw[show ax ("while":Ã) "if"=af by ext];rfl|wC=>rwa[Ă h2 ∅]
   erw[(λx d e o h=>?_,λe=>by cases e)];cases e;rwa[j _ (.cons (Pq (s:={s with ops:=(c.pc,a)::s.ops}) Ŗ S.ok hr G) h)]|f=>cases h2:pV v ws with
   |f=>erw[(λx d e=>(by cases e),λ_=>Q (CO (t:=s.ops) rfl S.ok l u ?_ G hf))];cases S with|if1 g=>show(fN ws||_)=af;rw[show fN ws=af by rw[show ax ("if":Ã) "try"=af by ext]at i;rw[<-i];exact(iM _).symm];delta pV at h2;let h2:=(oU h2).1;rw[aI.mpr Ŗ]at h2;rwa[h2]|wh g=>show fN ws=af;rw[show ax ("while":Ã) "try"=af by ext]at i;rw[<-i];exact(iM _).symm|wC=>delta pV at h2;let h2:=(oU h2).2;rw[aI.mpr Ŗ]at h2;rwa[h2]
   |t=>
    let mid:∃f:Sh,f.ok=J/\(∀nm ps T,f≠.df nm ps T)/\eH {s with ops:=(c.pc,a)::s.ops} ws (O {s with ops:=(f.pc,[])::s.ops})/\(∀b,f.row b=O (va v xs a b (ws.getLast?.getD .N)))/\∀qX,đ f qX=fN qX:=by
     let(w,r,rfl,hs,hr):=l.ex;delta pV at h2;rcases(bF _ _).mp h2 with h|h;.let(z,K):=ag h;let(K,M):=ag K;let U:w="else":=aI.mp K;let X:r=[]:=bQ.mp (by let:À r+1=1:=aP M;lia);subst U X;cases S with|@if1 x g=>exact(.if2 x a,g,λ_ _ _ e=>(by cases e),VT Ŗ,λb=>by show O _=O _;delta va;rw[aI.mpr Ŗ];rfl,λ_=>Ŗ)|wh g=>rwa[Ă z ∅]|wC=>rwa[Ă z ∅]
     .let(z,K):=ag h;let(K,M):=ag K;let U:w="catch":=aI.mp K;let X:À r+1=2:=aP M;subst U;clear K M h i h2;rcases r with _|⟨x,_|⟨y,r⟩⟩<;>first|(cases X;all_goals fail)|skip
      cases S with|if1 g=>rwa[Ă z ∅]|wh g=>rwa[Ă z ∅]|wC=>
       let Y:JR x=true:=by let(Y,_):=ag (show(dC x&&J)=J from hs);cases x<;>first|(cases Y;all_goals fail)|rfl
       exact(.Np a x,Y,λ_ _ _ e=>(by cases e),Pp Ŗ,λb=>by show O _=O _;delta va;rw[show ax ("try":Ã) "if"=af by ext];rfl,λ_=>Ŗ)
    let(f,Z,B,L2,akJ,pO):=mid;let m3:MI {s with ops:=(f.pc,[])::s.ops} (À R2):=q.put B Z (by rw[eO];lia);let A:jW R2 R:=jW.tl.trans F.kq;let(m,K2):=H R2 {s with ops:=(f.pc,[])::s.ops} (by let:=A.len;lia) (A.all E) m3 (YZ Ŗ B);let back:∀o,oY {s with ops:=(f.pc,[])::s.ops} (rL R2) o->oY (wz s c.pc) (rL R) o:=λo h=>j _ (.cons L2 h);cases e2:cg n R2 with|n=>erw[(λx d e=>(by cases e),λ_=>?_)];let(o,h,k):=K2 e2;exact(o,back o h,k)|s p=>let(b,R3):=p;let C:=kZ e2;let m:=m b R3 e2;rw[show qO _ b={s with ops:=(f.pc,b)::s.ops}by rw[rf Ŗ];rfl]at m;cases R3 with|i=>exact(λx d e=>(by cases e),λ_=>(_,back _ (m _ .nil),by show(_::_)≠[];simp))|k qX I=>
     let ht3:wX qX=true:=by
      rcases C.stop with h|⟨_,_,h,u⟩;.cases h
      .cases h;rwa[u]
     let D:=(C.kq.trans A).all E qX ao;show(∀x d,(match fN qX with|J=>O _|af=>aa)=O _->_)/\((match fN qX with|J=>O _|af=>aa)=aa->_);cases h3:fN qX with|t=>let hw:=ya D h3;subst hw;erw[(λx d e o h=>?_,λe=>by cases e)];cases e;rwa[back _ (m _ (.cons (Pq Ŗ Z (akJ b) G) h))]|f=>exact(λx d e=>(by cases e),λ_=>(_,back _ (m _ (.no (CO rfl Z D ht3 (by rw[pO];rwa[h3]) G hf))),Ť))
def Pu(h:(lk v EG).isSome)(H:wX [.S v]=af):(v="box"\/v="list"\/v="def")\/v="own":=by
 let(k,e):=bN.mp h;let h:=og (P:=λp=>wX [.S p.1]||(ax p.1 "box"||(ax p.1 "list"||ax p.1 "def")||ax p.1 "own")) Ŗ e;rcases(bF _ _).mp h with h|h;.lia
 rcases(bF _ _).mp h with h|h
 .rcases(bF _ _).mp h with h|h;.rwa[.inl (.inl (aI.mp h))]
  rcases(bF _ _).mp h with h|h;.rwa[.inl (.inr (.inl (aI.mp h)))]
  .rwa[.inl (.inr (.inr (aI.mp h)))]
 .rwa[.inr (aI.mp h)]
def VX{R:cM}(d:eK r)(a:À r<=100000)(H:MI s k)(f:Ow s ((.S v::r)::R))(i:wX (.S v::r)=af)(E:Aa (.S v::r)=aa):eH s (.S v::r) none:=by cases l:lk v _ with|n=>rwa[aah l H.e3 d a E (by let:=H.top;lia) (by let:=H.zo;lia)]|s k=>
  rcases Pu (by rw[l];rfl) i with b|b;.rwa[Hj H.q b]
  .subst b;erw[Mb ?_];rcases H.sh.top with h|⟨c,rows,t,e,g,h⟩;.rwa[.inl h]
   .erw[.inr (c,_,t,e,?_)];rcases h with h|h;.rwa[.inl h]
    .cases c with|df n p o=>erw[.inr (h,λa=>?_)];subst a;let z:ax "own" "own"=false:=f n p o t e _ _ rfl;rwa[Ă z ∅]|_=>rwa[.inl λ_ _ _ z=>by cases z]
def IM:∀n,Nu n:=by intro n;induction n with|z=>intro R s h;rwa[Ă h (fX _)]|v n j=>intro R s hn l H z;cases R with|i=>exact(λX b e o h=>by cases e;rwa[h],λe=>by cases e)|k ws R=>let(v,r,rfl,c,d):=(l _ ao).ex;rw[aq]at hn H;let Z:∀ws∈R,gL ws:=λws h=>l ws (ak _ h);delta cg;cases A:wX (.S v::r)with
   |t=>exact(λX b e o h=>by cases e;rwa[h],λe=>by cases e)
   |f=>cases E:Aa (.S v::r)with|n=>
     let f:j5 (cg n) (.S v::r) R=none:=by delta j5;rw[E]
     rw[f];exact(λX b e=>(by cases e),λ_=>wJ.no (VX c d H z A E))|s row=>
     let(M,X,g,i,rfl):=Fd E;let f:j5 (cg n) (.S v::r) R=match zS v with|J=>gD (cg n) v X R|af=>O (.T (.S v::X),R):=by delta j5;rw[E];rfl
     rw[f];let K:∀s1,eH s (.S v::r) (O s1)->(∀x a,(match zS v with|J=>gD (cg n) v X R|af=>O (Pv.T (.S v::X),R))=O (x,a)->jW a R/\∀o,oY (kD s x) (rL a) o->oY s1 (rL R) o)/\((match zS v with|J=>gD (cg n) v X R|af=>O (Pv.T (.S v::X),R))=aa->wJ s1 R)->(∀y b,(match match zS v with|J=>gD (cg n) v X R|af=>O (Pv.T (.S v::X),R)with|aa=>aa|O (x,a)=>match cg n a with|aa=>aa|O (X,R2)=>O (Prod.mk (x::X) R2))=O (Prod.mk y b)->∀o,oY (qO s y) (rL b) o->oY s (rL ((.S v::r)::R)) o)/\((match match zS v with|J=>gD (cg n) v X R|af=>O (Pv.T (.S v::X),R)with|aa=>aa|O (x,a)=>match cg n a with|aa=>aa|O (X,R2)=>O (Prod.mk (x::X) R2))=aa->wJ s _):=λs1 L (B,C)=>by cases m:match zS v with|J=>gD _ v X R|af=>O _ with|n=>exact(λy b e=>(by cases e),λ_=>wJ.go L (C m))|s p=>let(x,a):=p;let(u,t):=B x a m;let hl:=u.len;let(D,F):=j a _ () (u.all Z) (MI.add (H.le (show(À a)+1<=À R+1 by lia))) Ow.add;show(∀y b,(match cg n a with|aa=>aa|O (X,R2)=>O _)=O _->_)/\((match cg n a with|aa=>aa|O (X,R2)=>O _)=aa->_);cases w:cg n a with|n=>erw[(λy b e=>(by cases e),λ_=>?_)];let(o,h,k):=F w;exact(o,.cons L (t o h),k)|s p=>erw[(λy b e o h=>?_,λe=>by cases e)];cases e;rwa[.cons L (t o (D _ _ w o h))]
     cases I:zS v with|f=>rw[I]at K;let L:=Ş g I H.e3 c d i (by let:=H.top;lia);rw[F8 H.q]at L;rwa[K _ L (λx a e=>by cases e;exact(([],Ŗ),λo h=>h),λe=>by cases e)]|t=>rw[I]at K;let(N,S):=YY g I i;let L:=VY g I H.e3 c d i (by let:=H.zo;lia);rw[F8 H.q,S.pc]at L;let(G,b2):=Z7 j () Z H S;rwa[K _ L (λx a e=>((IK (λR X b e=>kZ e) e).1,G x a e),b2)]
def dD(w:Ã)(f:ϑ->Ő Pv):cM->Ő (ϑ×cM)|[]=>O ([],[])|s::R=>match ax (kX s) w with|af=>O ([],s::R)|J=>match f s with|aa=>aa|O x=>match dD w f R with|aa=>aa|O (X,r)=>O (x::X,r)
def zH:ϑ->Ő Pv
 |[_,x,y]=>match iB y with|J=>O (.T [x,kL y])|af=>aa
 |_=>aa
def wx:ϑ->Ő Pv
 |_::x::n=>match n.all iB with|J=>O (.T [x,.T (n.map kL)])|af=>aa
 |_=>aa
def yC:ϑ->Ő Pv|[_,x]=>O x|_=>aa
structure Ė(w:Ã)(R:cM)(xs:ϑ)(R':cM):ß where
 kq:jW R' R
 len:À xs+À R'<=(À R)stop:∀ws R2,R'=ws::R2->ax (kX ws) w=af
 nil:xs=[]->R'=R
def pQ:∀{R:cM}{xs:ϑ}{R':cM},dD w f R=O (xs,R')->Ė w R xs R':=by intro R;induction R with|i=>intro xs R' e;cases e;exact(([],Ŗ),au _,λs R2 e=>(by cases e),λ_=>Ŗ)|k s R i=>
  intro xs R' e;delta dD at e;split at e;.cases e;exact(([],Ŗ),⋯,λs R2 e=>(),λ_=>Ŗ)
  .split at e;.cases e
   .split at e;.cases e
    .ext y R2 E;cases e;let h:=i E;exact(h.kq.trans jW.tl,by let:=h.len;rw[aq,aq];lia,h.stop,λz=>by cases z)
def G0(S:ϑ->Ń->Rp->ß)(step:∀xs k s ws x,gL ws->ax (kX ws) w->S xs (k+1) s->f ws=O x->∃s',eH s ws (O s')/\S (xs++[x]) k s')(no:∀xs k s ws,gL ws->ax (kX ws) w->S xs (k+1) s->f ws=aa->eH s ws aa):∀(R:cM)(xs:ϑ)(s:Rp),(∀ws∈R,gL ws)->S xs (À R) s->(∀ys r,dD w f R=O (ys,r)->∃s',S (xs++ys) (À r) s'/\∀o,oY s' (rL r) o->oY s (rL R) o)/\(dD w f R=aa->wJ s R):=by intro R;induction R with|i=>intro xs s _ h;exact(λys r e=>by cases e;rw[aQ];exact(s,h,λo h=>h),λe=>by cases e)|k ws R i=>intro xs s H h;let hw:=H ws ao;delta dD;cases v:ax _ w with|f=>exact(λys r e=>by cases e;rw[aQ];exact(s,h,λo h=>h),λe=>by cases e)|t=>cases E:f ws with|n=>exact(λys r e=>(by cases e),λ_=>wJ.no (no xs _ s ws hw v h E))|s x=>let(s',L,b):=step xs _ s ws x hw v h E;let(I,c):=i _ s' (λws h=>H ws (ak _ h)) b;cases a:dD w f R with|n=>exact(λys r e=>(by cases e),λ_=>wJ.go L (c a))|s p=>let(z,R2):=p;erw[(λys r e=>?_,λe=>by cases e)];cases e;let(s2,K,d):=I z R2 a;rw[aN]at K;exact(s2,K,λo h=>.cons L (d o h))
inductive Ą:ϑ->Ń->Rp->ß|mk{bs:ϑ}{k:Ń}(h:À bs+k<100000):Ą bs k (0,bs,[],[],[],[])
def b_(R:cM)(g:∀ws∈R,gL ws)(l:À R<100000):(∀ys d,dD "box" zH R=O (ys,d)->∃s',Ą ys (À d) s'/\∀o,oY s' (rL d) o->oY s0 (rL R) o)/\(dD "box" zH R=aa->wJ s0 R):=by
 erw[G0 Ą (λX k s ws x w H h e=>?_) (λX k s ws w H h e=>?_) R [] s0 g (.mk nofun)]
 .obtain⟨h⟩:=h;let(v,r,rfl,f,i):=w.ex;let H:=aI.mp (show ax v _=J from H);subst H;rcases r with _|⟨a,_|⟨b,_|⟨c,r⟩⟩⟩<;>first|done|skip
  let e:(match iB b with|J=>O _|af=>aa)=O x:=e;split at e;.ext hn;cases e;exact(_,.mk (.box (.mk Ŗ (show iQ 0 0=af by rfl) hn (show(À X)<=100000 by lia))),.mk (by rw[ah];show(À X)+1+k<_;lia))
  .done
 .obtain⟨h⟩:=h;let(v,r,rfl,f,i):=w.ex;let H:=aI.mp (show ax v _=J from H);subst H;rcases r with _|⟨a,_|⟨b,r⟩⟩;.rwa[.mk (.box (.lg Ŗ (show iQ 0 0=af by rfl)))]
  .rwa[.mk (.box (.Hu Ŗ (show iQ 0 0=af by rfl)))]
  .cases hn:iB b with|f=>rwa[.mk (.box (.no4 Ŗ (show iQ 0 0=af by rfl) hn))]|t=>cases r with|k c r=>rwa[.mk (.box (.mk Ŗ (show iQ 0 0=af by rfl) hn (show(À X)<=100000 by lia)))]|i=>let e:(match iB b with|J=>O _|af=>aa)=none:=e;rw[hn]at e;cases e
inductive ı(bs:ϑ):ϑ->Ń->Rp->ß|mk{k:Ń}{ls:ϑ}{j:Î}(h:À ls+k<100000)(hj:ls=[]/\j=0\/ls ≠[]/\j=1):ı bs ls k (j,bs,ls,[],[],[])
def aam(R:cM)(g:∀ws∈R,gL ws)(i:À R<100000):(∀ys c,dD "list" wx R=O (ys,c)->∃s',ı bs ys (À c) s'/\∀o,oY s' (rL c) o->oY (0,bs,[],[],[],[]) (rL R) o)/\(dD "list" wx R=aa->wJ (0,bs,[],[],[],[]) R):=by
 let E:∀{l:ϑ}{j:Î},l=[]/\j=0\/l ≠[]/\j=1->iQ 1 j=false:=λh=>by rcases h with ⟨_,rfl⟩|⟨_,rfl⟩<;>decide+kernel
 erw[G0 _ (λX k s ws x w H h e=>?_) (λX k s ws w H h e=>?_) R [] _ g (.mk nofun (.inl (Ŗ,Ŗ)))];.let(h,b):=h;let(v,r,rfl,d,f):=w.ex;let H:=aI.mp (show ax v _=J from H);subst H;cases r with|i=>done|k a r=>
   let e:(match r.all _ with|J=>O _|af=>aa)=O x:=e;split at e;.ext hn;cases e;exact(_,.mk (.list (.mk Ŗ (E b) hn (show(À X)<=100000 by lia))),.mk (by rw[ah];show(À X)+1+k<_;lia) (.inr (⋯,Ŗ)))
   .done
 .let(h,b):=h;let(v,r,rfl,d,f):=w.ex;let H:=aI.mp (show ax v _=J from H);subst H;cases r with|i=>rwa[.mk (.list (.lg Ŗ (E b)))]|k a r=>cases hn:r.all _ with|f=>rwa[.mk (.list (.Hu Ŗ (E b) hn))]|t=>let e:(match r.all _ with|J=>O _|af=>aa)=none:=e;rw[hn]at e;cases e
inductive Ĕ(s:Rp)(nm:Pv)(ps:ϑ):ϑ->Ń->Rp->ß|mk{k:Ń}{os:ϑ}(h:À os+k<100000):Ĕ s nm ps os k {s with ops:=[((Sh.df nm ps os).pc,[])]}
def u0(R:cM)(g:∀ws∈R,gL ws)(l:À R<100000):(∀ys c,dD "own" yC R=O (ys,c)->∃s',Ĕ s nm ps ys (À c) s'/\∀o,oY s' (rL c) o->oY {s with ops:=[((Sh.df nm ps []).pc,[])]} (rL R) o)/\(dD "own" yC R=aa->wJ {s with ops:=[((Sh.df nm ps []).pc,[])]} R):=by
 erw[G0 _ (λX k s' ws x w H h e=>?_) (λX k s' ws w H h e=>?_) R [] _ g (.mk nofun)]
 .obtain⟨h⟩:=h;let(v,r,rfl,d,f):=w.ex;let H:=aI.mp (show ax v _=J from H);subst H;rcases r with _|⟨a,_|⟨b,r⟩⟩<;>first|done|skip
  cases e;exact(_,.mk (.own (.mk Ŗ (show(À X)<=100000 by lia))),.mk (by rw[ah];show(À X)+1+k<_;lia))
 .obtain⟨h⟩:=h;let(v,r,rfl,d,f):=w.ex;let H:=aI.mp (show ax v _=J from H);subst H;rcases r with _|⟨a,_|⟨b,r⟩⟩;.rwa[.mk (.own (.no4 Ŗ))]
  .done
  .rwa[.mk (.own (.mk Ŗ (show(À X)<=100000 by lia)))]
def nX(n:Ń)(ws:ϑ)(R:cM):Ő (Pv×cM):=match ws with
 |_::N::p=>match dD "own" yC R with|aa=>aa|O (os,r)=>match cg n r with
   |O (rows,w::R2)=>match fN w with|J=>O (.T [N,.T p,.T os,.T rows],R2)|af=>aa
   |_=>aa
 |_=>aa
def d9(n:Ń):Ń->cM->Ő (ϑ×cM)|0,_=>aa|_+1,[]=>O ([],[])|k+1,w::R=>match ax (kX w) "def"with|af=>O ([],w::R)|J=>match nX n w R with|aa=>aa|O (x,r)=>match d9 n k r with|aa=>aa|O (X,R2)=>O (x::X,R2)
def pH(e:nX n ws R=O (x,r)):jW r R/\À r<À R:=by
 delta nX at e;split at e
 .split at e;.cases e
  .ext os b E;let h1:=pQ E;split at e
   .ext rows w R2 a;let h2:=kZ a;split at e;.cases e;exact((jW.tl.trans h2.kq).trans h1.kq,by let:=h2.kq.len;let:=h1.kq.len;rw[aq]at*;lia)
    .cases e
   .cases e
 .cases e
def abL(h:dC x):JR x=true:=by cases x<;>first|done|rfl
def Ux{R:cM}(l:iQ 2 j=af)(hw:gL ws)(f:ax (kX ws) "def"=J)(g:∀ws∈R,gL ws)(hn:À R<n)(z:À R+1<100000)(A:À fs+À R<100000):(∀x a,nX n ws R=O (x,a)->∀o,oY (2,bs,ls,fs++[x],[],[]) (rL a) o->oY (j,bs,ls,fs,[],[]) (rL (ws::R)) o)/\(nX n ws R=aa->wJ (j,bs,ls,fs,[],[]) (ws::R)):=by let(v,r,rfl,t,C):=hw.ex;let f:=aI.mp (show ax v "def"=J from f);subst f;cases r with
 |i=>exact(λx a e=>(by cases e),λ_=>wJ.no (.mk (oo:=aa) (.dfn (.lg Ŗ l))))
 |k nm ps=>let H:=abL (ag (show(dC nm&&ps.all dC)=J from t)).1;let L:eH (j,bs,ls,fs,[],[]) (.S "def"::nm::ps) (O {((2,bs,ls,fs,[],[]):Rp)with ops:=[((Sh.df nm ps []).pc,[])]}):=.mk (oo:=O (_,[])) (.dfn (.mk Ŗ l));let(o1,u):=u0 (s:=(2,bs,ls,fs,[],[])) (nm:=nm) (ps:=ps) R g ();show(∀x a,(match dD "own" yC R with|aa=>aa|O (os,c)=>match cg n c with
    |O (rows,w::R2)=>match fN w with|J=>O (Prod.mk (Pv.T [nm,.T ps,.T os,.T rows]) R2)|af=>aa
    |_=>aa)=O (Prod.mk x a)->_)/\((match dD "own" yC R with|aa=>aa|O (os,c)=>match cg n c with
    |O (rows,w::R2)=>match fN w with|J=>O (Prod.mk (Pv.T [nm,.T ps,.T os,.T rows]) R2)|af=>aa
    |_=>aa)=aa->_);cases E:dD "own" _ R with
  |n=>exact(λx a e=>(by cases e),λ_=>wJ.go L (u E))
  |s p=>let(os,c):=p;let h1:=pQ E;let(D,S,K):=o1 os c E;obtain⟨_⟩:=S;let l1:=h1.kq.len;let back:∀o,oY _ _ o->oY _ _ o:=λo h=>.cons L (K o h);let m:MI {((2,bs,ls,fs,[],[]):Rp)with ops:=[((Sh.df nm ps os).pc,[])]} _:=(.inl ⋯,show iQ 3 2=af by rfl,.df H,show 0+À c<100000 by lia,show(À fs)+À c<100000 by lia,show 1+À c<100000 by lia,λb y=>by rw[aL.mp y];show 0+À c<100000;lia);let(B,b2):=IM n c _ () (h1.kq.all g) m λ_ _ _ _ _ ws a e=>h1.stop ws a e;show(∀x a,(match cg n c with
    |O (rows,w::R2)=>match fN w with|J=>O _|af=>aa
    |_=>aa)=O _->_)/\((match cg n c with
    |O (rows,w::R2)=>match fN w with|J=>O _|af=>aa
    |_=>aa)=aa->_);cases i:cg n c with|n=>erw[(λx a e=>(by cases e),λ_=>?_)];let(o,h,k):=b2 i;exact(o,back o h,k)|s p=>let(rows,R2):=p;let h2:=kZ i;let B:=B _ R2 i;rw[show qO _ _={((2,bs,ls,fs,[],[]):Rp)with ops:=[((Sh.df nm ps os).pc,rows)]}by rw[rf Ŗ];rfl]at B;cases R2 with|i=>exact(λx a e=>(by cases e),λ_=>(_,back _ (B _ .nil),by show(_::_)≠[];simp))|k w F=>let d:=(h2.kq.trans h1.kq).all g w ao;show(∀x a,(match fN w with|J=>O _|af=>aa)=O _->_)/\((match fN w with|J=>O _|af=>aa)=aa->_);cases q:fN w with|t=>let hw:=ya d q;subst hw;erw[(λx a e o h=>?_,λe=>by cases e)];cases e;rwa[back _ (B _ (.cons (.mk (.fin (Jv Ŗ H (show(À fs)<100000 by lia)))) h))]|f=>exact(λx a e=>(by cases e),λ_=>(_,back _ (B _ (.no (CO rfl H d (by
      rcases h2.stop with h|⟨_,_,h,G⟩;.cases h
      .lia) q (show 0<100000 by simp) (show(À fs)<100000 by lia)))),Ť))
def Uy:∀(k:Ń)(R:cM)(fs:ϑ)(j:Î),À R<k->À R<n->iQ 2 j=af->(∀ws∈R,gL ws)->À R+1<100000->À fs+À R<100000->(∀ys r,d9 n k R=O (ys,r)->(∃b,(ys=[]/\b=j\/ys ≠[]/\b=2)/\∀o,oY (b,bs,ls,fs++ys,[],[]) (rL r) o->oY (j,bs,ls,fs,[],[]) (rL R) o)/\Ė "def" R ys r)/\(d9 n k R=aa->wJ (j,bs,ls,fs,[],[]) R):=by intro k;induction k with|z=>intro R fs j h;rwa[Ă h (fX _)]|v k i=>intro R fs j d hn f g l m;cases R with|i=>exact(λys r e=>by cases e;exact((j,.inl (Ŗ,Ŗ),λo h=>by rw[aQ]at h;rwa[h]),([],Ŗ),au _,λws R2 e=>(by cases e),λ_=>Ŗ),λe=>by cases e)|k ws R=>rw[aq]at d hn l m;let hw:=g ws ao;let Z:∀ws∈R,gL ws:=λws h=>g ws (ak _ h);delta d9;cases v:ax (kX ws) "def"with|f=>exact(λys r e=>by cases e;exact((j,.inl (Ŗ,Ŗ),λo h=>by rw[aQ]at h;rwa[h]),([],Ŗ),by rw[eO];lia,λws R2 e=>by cases e;rwa[v],λ_=>Ŗ),λe=>by cases e)|t=>let(d1,d2):=Ux (n:=n) (bs:=bs) (ls:=ls) (fs:=fs) f hw v Z () () ();cases E:nX n ws R with|n=>exact(λys r e=>(by cases e),λ_=>d2 E)|s p=>let(x,a):=p;let(s1,s2):=pH E;let(I,q):=i a (fs++[x]) 2 () () rfl (s1.all Z) () (by rw[ah];show(À fs)+1+_<_;lia);show(∀ys r,(match d9 n k a with|aa=>aa|O (X,R2)=>O _)=O _->_)/\((match d9 n k a with|aa=>aa|O (X,R2)=>O _)=aa->_);cases c:d9 n k a with|n=>erw[(λys r e=>(by cases e),λ_=>?_)];let(o,h,s):=q c;exact(o,d1 x a E o h,s)|s p=>let(t,R2):=p;erw[(λys r e=>?_,λe=>by cases e)];cases e;obtain⟨⟨b,H,K⟩,P⟩:=I t R2 c;erw[((2,.inr (⋯,Ŗ),λo h=>d1 x a E o (K o ?_)),(P.kq.trans s1).trans jW.tl,by let:=P.len;rw[aq,aq];lia,P.stop,λz=>by cases z)];rw[H.elim (λh=>h.2) λh=>h.2,aN];rwa[h]
def Al:∀{xs:ϑ}{s:Rp},s.ops=[]->qO s xs={s with rs:=s.rs++xs}:=by intro xs;induction xs with|i=>intro s e;rw[aQ];rfl|k x xs i=>intro s e;show qO _ xs=_;rw[DA e,i (s:={s with rs:=s.rs++[x]}) e,aN];rfl
def Po(H:s.ops=[])(b:iQ 3 s.sec=af)(g:ax (kX ws) "def"=af)(c:ax (kX ws) "box"=J->iQ 0 s.sec)(l:ax (kX ws) "list"=J->iQ 1 s.sec)(L:eH (sj s) ws o):eH s ws o:=by
 let d:sj s={s with sec:=3}:=by delta sj;rw[H]
 let a:(sj s).sec=3:=by rw[d]
 cases L with|@mk v _ r i e=>erw[.mk ?_];cases e with
  |box t=>cases t with|yw _=>rwa[.box (.yw (.inr (c (aI.mpr Ŗ))))]|lg _ h=>rw[a]at h;rwa[Ă h ∅]|Hu _ h=>rw[a]at h;rwa[Ă h ∅]|no4 _ h _=>rw[a]at h;rwa[Ă h ∅]|mk _ h _ _=>rw[a]at h;rwa[Ă h ∅]
  |list t=>cases t with|yw _=>rwa[.list (.yw (.inr (l (aI.mpr Ŗ))))]|lg _ h=>rw[a]at h;rwa[Ă h ∅]|Hu _ h _=>rw[a]at h;rwa[Ă h ∅]|mk _ h _ _=>rw[a]at h;rwa[Ă h ∅]
  |dfn t=>done|cat t=>cases t with|no _=>rwa[.cat (.no H)]|ok h=>left|lg h _=>left|Hu h=>left
  |Oh t=>cases t with|no _=>rwa[.Oh (.no H)]|mk h=>left|lg h _=>left
  |own t=>cases t with|no _=>rwa[.own (.no H)]|mk h _=>left|lg h _=>left|Hu h _=>left|no4 h=>left
  |fin t=>cases t with|yw _=>rwa[.fin (.yw H)]|mk h _ _ _=>left|lg h _=>left
  |row n t=>erw[.row n ?_];cases t with|yw E=>rwa[.yw E]|lg E _ t=>rwa[.lg E b t]|mk E _ t f=>erw[.mk E b t ?_];let A:=F8 (.inr a);cases f with|pl k z=>rw[Bj]at z;rw[A];rwa[.pl k z]|op k x z=>rw[A];rwa[.op k x nofun]
def u6(n:Ń)(R:cM):Ő (ϑ×ϑ×ϑ×ϑ):=match dD "box" zH R with|aa=>aa|O (b,a)=>match dD "list" wx a with|aa=>aa|O (l,R2)=>match d9 n n R2 with|aa=>aa|O (f,c)=>match cg n c with|O (r,[])=>O (b,l,f,r)|_=>aa
def abV{n:Ń}{bs ls fs:ϑ}{j:Î}{R:cM}(d:iQ 3 j=af)(g:∀ws∈R,gL ws)(hn:À R<n)(x:À R+1<100000)(l:À fs+À R<100000)(u:∀ws c,R=ws::c->ax (kX ws) "def"=af/\(ax (kX ws) "box"=J->iQ 0 j=J)/\(ax (kX ws) "list"=J->iQ 1 j=J)):(∀r,cg n R=O (r,[])->∃s,oY (j,bs,ls,fs,[],[]) (rL R) (O s)/\s.ops=[]/\s.bs=bs/\s.ls=ls/\s.fs=fs/\s.rs=r)/\((∀r,cg n R≠O (r,[]))->wJ (j,bs,ls,fs,[],[]) R):=by cases R with
 |i=>cases n with|z=>left|v n=>exact(λr e=>by cases e;exact(_,.nil,Ŗ,Ŗ,Ŗ,Ŗ,Ŗ),λh=>Ă Ŗ (h []))
 |k ws R=>
  let(d1,d2,D):=u ws R Ŗ;let m:MI (3,bs,ls,fs,[],[]) _:=(.inr Ŗ,show iQ 3 3=af by rfl,.nil,by show 0+_<_;lia,l,by show 0+_<_;lia,λb y=>by done);let(B,b2):=IM n _ _ hn g m (λ_ _ _ _ e=>by cases e);let back:∀o,oY (3,bs,ls,fs,[],[]) (rL (ws::R)) o->oY _ (rL (ws::R)) o:=λo h=>by let f:sj (j,bs,ls,fs,[],[])=(3,bs,ls,fs,[],[]):=Ŗ;cases h with|k L t=>rwa[.cons (Po rfl d d1 d2 D (f▸L)) t]|no L=>rwa[.no (Po rfl d d1 d2 D (f▸L))]
  erw[(λr e=>?_,λh=>?_)];.let:=B r [] e;rw[Al Ŗ]at this;exact(_,back _ (this _ .nil),Ŗ,Ŗ,Ŗ,Ŗ,Ŗ)
  .cases E:cg n _ with|n=>let(o,h,k):=b2 E;exact(o,back o h,k)|s p=>let(r,c):=p;cases c with|i=>rwa[Ă E (h r)]|k w R2=>
     let i:=kZ E;let a:wX w=true:=by
      rcases i.stop with h|⟨_,_,h,a⟩;.cases h
      .lia
     let(v,q,rfl,_,_):=(i.kq.all g w ao).ex;let B:=B r _ E;rw[Al Ŗ]at B;erw[(_,back _ (B _ (.no ?_)),Ť)];let a:(ax v _||(ax v _||ax v _))=true:=a;rcases(bF _ _).mp a with H|H;.rw[aI.mp H];rwa[yo (.inl Ŗ)]
     rcases(bF _ _).mp H with H|H;.rw[aI.mp H];rwa[vH (.inl Ŗ)]
     .rw[aI.mp H];rwa[VU Ŗ]
def Qi{R:cM}(i:∀ws∈R,gL ws)(hn:À R<n)(d:À R+1<100000):(∀b l f r,u6 n R=O (b,l,f,r)->∃s,oY s0 (rL R) (O s)/\s.ops=[]/\s.bs=b/\s.ls=l/\s.fs=f/\s.rs=r)/\(u6 n R=aa->wJ s0 R):=by let(a1,A):=b_ R i ();delta u6;cases E:dD "box" zH R with|n=>exact(λb l f r e=>(by cases e),λ_=>A E)|s p=>let(b,c):=p;obtain⟨s1,⟨_⟩,K⟩:=a1 b c E;let g:=pQ E;let l1:=g.kq.len;let(C,D):=aam (bs:=b) c (g.kq.all i) ();show(∀B l f r,(match dD "list" wx c with|aa=>aa|O (l,R2)=>match d9 n n R2 with|aa=>aa|O (f,a)=>match cg n a with|O (r,[])=>O (Prod.mk b (Prod.mk l (Prod.mk f r)))|_=>aa)=O (Prod.mk B (Prod.mk l (Prod.mk f r)))->_)/\((match dD "list" wx c with|aa=>aa|O (l,R2)=>match d9 n n R2 with|aa=>aa|O (f,a)=>match cg n a with|O (r,[])=>O (Prod.mk b (Prod.mk l (Prod.mk f r)))|_=>aa)=aa->_);cases m:dD "list" wx c with|n=>erw[(λb l f r e=>(by cases e),λ_=>?_)];let(o,h,k):=D m;exact(o,K o h,k)|s p=>let(l,R2):=p;let p2:=pQ m;let l2:=p2.kq.len;let(s2,S,q):=C l R2 m;cases S with|@mk _ _ j _ t=>let G:∀ws∈R2,gL ws:=(p2.kq.trans g.kq).all i;let(d1,d2):=Uy (n:=n) (bs:=b) (ls:=l) n R2 [] j () () (by rcases t with ⟨_,rfl⟩|⟨_,rfl⟩<;>decide+kernel) G () (by rw[eO];lia);show(∀B L f r,(match d9 n n R2 with|aa=>aa|O (f,a)=>match cg n a with|O (r,[])=>O (Prod.mk b (Prod.mk l (Prod.mk f r)))|_=>aa)=O (Prod.mk B (Prod.mk L (Prod.mk f r)))->_)/\((match d9 n n R2 with|aa=>aa|O (f,a)=>match cg n a with|O (r,[])=>O (Prod.mk b (Prod.mk l (Prod.mk f r)))|_=>aa)=aa->_);cases w:d9 n n R2 with|n=>erw[(λb l f r e=>(by cases e),λ_=>?_)];let(o,h,k):=d2 w;exact(o,K o (q o h),k)|s p=>
    let(f,a):=p;obtain⟨⟨F,H,x⟩,P⟩:=d1 f a w;let N:=P.len;let T:=abV (n:=n) (bs:=b) (ls:=l) (fs:=[]++f) (j:=F) (R:=a) (by rcases H with ⟨_,rfl⟩|⟨_,rfl⟩<;>first|(rcases t with ⟨_,rfl⟩|⟨_,rfl⟩<;>decide+kernel)|rfl) (P.kq.all G) () () (by rw[ky];lia) (λws u e=>by
     erw[(P.stop ws u e,λI=>?_,λd=>?_)]
     .rcases H with ⟨v,rfl⟩|⟨_,rfl⟩
      .rcases t with ⟨d,rfl⟩|⟨_,rfl⟩;.let z:=g.stop ws u (by rw[<-p2.nil d,<-P.nil v];rwa[e]);rw[I]at z;cases z
       .rfl
      .rfl
     .rcases H with ⟨v,rfl⟩|⟨_,rfl⟩;.let z:=p2.stop ws u (by rw[<-P.nil v];rwa[e]);rw[d]at z;cases z
      .rfl);show(∀B L M r,(match cg n a with|O (r,[])=>O _|_=>aa)=O _->_)/\((match cg n a with|O (r,[])=>O _|_=>aa)=aa->_);erw[(λB L M r e=>?_,λe=>?_)]
    .split at e;.ext Q y;cases e;let(s,h,k):=T.1 _ y;exact(s,K _ (q _ (x _ h)),k)
     .cases e
    .let(o,h,k):=T.2 (λr y=>nofun);exact(o,K _ (q _ (x _ h)),k)
def Ϥ(c:Ń):(! Đ ((⟨#[c]⟩:Ã).cps.toList<("0":Ã).cps.toList))=Đ (48<=c):=by
 let e:("0":Ã).cps.toList=[48]:=by rfl
 rw[e];by_cases h:48<=c
 .rw[bR h,dP];.rfl
  .intro z;simp[mJ]at z;lia
 .rw[dP h,bR];.rfl
  .simp[mJ];lia
def ala(c:Ń):(! Đ (("9":Ã).cps.toList<(⟨#[c]⟩:Ã).cps.toList))=Đ (c<=57):=by
 let e:("9":Ã).cps.toList=[57]:=by rfl
 rw[e];by_cases h:c<=57
 .rw[bR h,dP];.rfl
  .intro z;simp[mJ]at z;lia
 .rw[dP h,bR];.rfl
  .simp[mJ];lia
def Oa:Ã:="0123456789"
def Wl(c:Ń):(!(ä Oa ⟨#[c]⟩ 0 Oa.length 1).isEmpty)=pJ (.S ⟨#[c]⟩):=by rw[StrLaws.found_one];show Đ _=(! Đ _&&! Đ (("9":Ã).cps.toList<(⟨_⟩:Ã).cps.toList));rw[Ϥ,ala,show Oa.cps.toList=List.range' 48 10 by rfl,cZ,aM,qF,qF,qF,List.mem_range'_1];lia
def Kz(e:x.cps.toList=c::r):ð x ⟨#[d]⟩=ax ⟨#[c]⟩ ⟨#[d]⟩:=by
 let z:=PySem.StrLaws.subAt_one x d 0;rw[e]at z;rw[cZ,aI];constructor;.intro w;let w:=w;let:=z.mp (aO (ag w).1,(ag w).2);rw[show c=d by simpa using this]
 .intro h;let h:c=d:=by injection h with h;injection h with h;injection h
  let(a,b):=z.mpr (by rw[h];rfl);show(Đ _&&Builtin.Str.subAt x _ 0)=J;rw[b,iM];rwa[bR a]
def ŋ:("0":Ã)=⟨#[48]⟩:=rfl
def qI(x:Pv):Þ:=gW x&&Í 1 (dN x).length
def kG(x:Pv):Pv:=match gI (dN x)with|J=>kL x|af=>.N
def Yy(B:LX ca W)(S:SX W):DX ca W 35 2 (Dd qI kG):=by
 erw[B.e (k:=0) 1 J [] [] (.iff (.bo (Wm.oc (.cmp jA 0 (.s "")) (Wm.oc (.cmp IU (.bi d8 (.u 0)) (.i 6)) (Wm.o1 (.cmp zu (.comp 1 [] (.one 0) (.c 0) (.one (.cmp TX 0 (.s "0123456789"))) 0) (.lst .nil)))))) (.re (.c .N)) .nil<|>.iff (.bo (Wm.ac (.cmp jA (.ix 0 (.i 0)) (.s "0")) (Wm.a1 (.cmp zu 0 (.s "0"))))) (.re (.c .N)) .nil<|>.re (.bi YA (.u 0))) S.zW rfl Ť Ť (zw λx Q X l q=>?_)];let(m,H):=ag l;revert H q;erw[ï m λz o hn q H=>?_];let q:Q (.p (kG (.S z))) []:=q;let H:1<=z.length:=ap.mp H;let hs:=mH (ap.mp o);let no:gI z=af->Q (.p .N) []:=λe=>by let q:Q (.p (match gI z with|J=>kL (.S z)|af=>.N)) []:=q;rw[e]at q;rwa[q]
 erw[bE (λe=>?_) λ_=>aB hs (bE (λe=>?_) λe=>aB hs (Jc (λy=>!pJ y) Ŗ (λy d=>?_) ?_))];.let e:ax z ""=true:=e;rw[aI.mp e]at H;rwa[Ă H ∅]
 .erw[no ?_];let e:iQ 6 (z.length:Ń)=true:=e;delta gI;rw[e];rfl
 .let(c,_,rfl):=bf.mp d;erw[(λR q=>?_,λR q=>q)];show R [.p (.B (Cd J !(ä Oa ⟨#[c]⟩ 0 Oa.length 1).isEmpty))] [];rw[Wl];rwa[q]
 .let e:iQ 6 (z.length:Ń)=false:=e;let D:(lE z).all pJ=af->gI z=false:=λh=>by delta gI;rw[e,h];rfl
  let F:Ed (.L ((lE z).filter λy=>!pJ y)) (.L [])=(lE z).all pJ:=by show nc _ []=_;cases h:(lE z).all pJ with|t=>rw[show((lE z).filter λy=>!pJ y)=[]from U2.mpr λy d=>by rw[aG.mp h y d];simp];rfl|f=>cases t:(lE z).filter λy=>!pJ y with|k a b=>rfl|i=>let:=U2.mp t;rw[bg]at h;rwa[Ă (aG.mpr λy d=>by let:=this y d;simpa using this) h]
  erw[bE (λE=>?_) λE=>?_];.let E:(!Ed (.L ((lE z).filter λy=>!pJ y)) (.L []))=true:=E;rw[F]at E;rwa[no (D (by cases h:(lE z).all pJ with|f=>rfl|t=>rw[h]at E;cases E))]
  .let E:(!Ed (.L ((lE z).filter λy=>!pJ y)) (.L []))=false:=E;rw[F]at E;let E:(lE z).all pJ=true:=by cases h:(lE z).all pJ with|t=>rfl|f=>rw[h]at E;cases E
   obtain⟨c,r,f⟩:∃c r,z.cps.toList=c::r:=by cases f:z.cps.toList with|i=>rwa[Ă H (by show ¬ 1<=z.cps.size;rw[<-aX,f];decide)]|k c r=>exact(c,r,Ŗ)
   let g:gI z=!(ax ⟨#[c]⟩ "0"&&!ax z "0"):=by delta gI;rw[e,E,ŋ,Kz f];rfl
   let Y:gI z->eZ (Ú z) (λn=>gd (Í z.length 640) (Q (.p (.I n)) [])) ŧ:=λh=>by
    let(n,j):=bN.mp (hn h);erw[bW j (aB (ap.mpr ?_) ?_)];.let:=bg.mp e;rw[ne_eq,dE]at this;lia
    .let q:Q (.p (match gI z with|J=>(match Ú z with|O n=>Pv.I n|aa=>.N)|af=>.N)) []:=q;rw[h,j]at q;rwa[q]
   erw[aB hs (bW (x:=c) (by rw[f];rfl) (bE (λa=>bE (λb=>?_) λb=>?_) λa=>?_))];.let a:ax _ "0"=true:=a;let b:(!ax z "0")=true:=b;rwa[no (by rw[g,a,b];rfl)]
   .let a:ax _ "0"=true:=a;let b:(!ax z "0")=false:=b;rwa[Y (by rw[g,a,b];rfl)]
   .let a:ax _ "0"=false:=a;rwa[Y (by rw[g,a];rfl)]
def fK(l:Ł (Ã×Pv)):ϑ:=l.map λp=>.S p.1
def fU(l:Ł (Ã×Pv)):ϑ:=l.map λp=>p.2
theorem uL:∀{l:Ł _},(fK l).all dC=J/\pZ (fK l)=l.map (·.1)|[]=>(Ŗ,Ŗ)|p::r=>(uL (l:=r).1,by show p.1::pZ (fK r)=_;rw[uL.2];rfl)
theorem JP:∀{a b:ϐ},Mj (a++b)=J->Mj b/\∀x∈b,jY x a=af|[],b,h=>(h,λ_ _=>Ŗ)|y::a,b,h=>by let(H,d):=ag (show(!jY y (a++b)&&Mj (a++b))=J from h);let(i,I):=JP d;erw[(i,λx c=>?_)];show(ax x y||jY x a)=af;rw[I x c,gq];erw[bg.mpr λe=>?_];rw[sY (aS a (by rw[<-aI.mp e];rwa[c]))]at H;cases H
def pG(h:Mj ((l'++l).map (·.1))):F.gE (fK l) (fU l) (fK l',fU l')=(fK (l'++l),fU (l'++l)):=by rw[aR]at h;let(a,b):=JP h;rw[x5 (by delta fK fU;rw[ai,ai]) uL.1 uL.1 (by rw[uL.2];rwa[a]) λx H=>by rw[uL.2]at H⊢;rwa[b x H]];delta fK fU;rw[aR,aR]
def MV(h:ax a b=af):ax b a=false:=bg.mpr λe=>by rw[aI.mp e,aI.mpr Ŗ]at h;cases h
def fZ(a b:Ã):ax a b=ax b a:=by cases h:ax a b with|t=>rw[aI.mp h,aI.mpr Ŗ]|f=>rw[MV h]
theorem wQ:∀{l:Ł _},jc (.S w) (fK l) (fU l)=lk w l|[]=>Ŗ|p::l=>by show(match ax p.1 w with|J=>O p.2|af=>jc _ (fK l) (fU l))=match ax w p.1 with|J=>O p.2|af=>lk w l;rw[wQ,fZ]
def vi:Ł (Ã×Pv):=[("number",.I 0),("box",.I 0),("size",.I 0),("not",.I 1),("item",.I 1),("plus",.I 2),("minus",.I 2),("times",.I 2),("over",.I 2)]
def rZ:Ł (Ã×Pv):=[("rest",.I 2),("less",.I 2),("same",.I 2)]
abbrev vN(m:Ń):ϐ:=Ó m "value"
def vJ(w:Ã):Ń:=match lk w (vi++rZ)with|O (.I (.ofNat n))=>n|_=>0
def pkL:ϑ:=[.S "number",.S "box",.S "size",.S "item"]
def eL(w:Ã):Þ:=uQ (.S w) pkL
def ZA(e:lk w gN=O ks):lk w (vi++rZ)=O (.I (vJ w))/\((eL w=J/\∃k,ks=k::vN (vJ w)/\ax k "value"=af/\ax k "number"=ax w "number")\/eL w=af/\ks=vN (vJ w)):=by
 let h:=og (P:=λp=>(match lk p.1 (vi++rZ)with|O (.I (.ofNat n))=>J|_=>af)&&match p.2 with|k::ks=>eL p.1&&(Đ (ks=vN (vJ p.1))&&(!ax k "value"&&ax k "number"==ax p.1 "number"))||!eL p.1&&Đ (k::ks=vN (vJ p.1))|[]=>af) (by rfl) e;let(H,c):=ag h;constructor
 .delta vJ;dsimp only at H;split at H;.done
  .done
 .cases ks with|i=>done|k k ks=>
   dsimp only at c;rcases(bF _ _).mp c with h|h;.let(a,K):=ag h;let(K,b):=ag K;let(b,d):=ag b;rwa[.inl (a,k,by rw[aO K],dU b,kR d)]
   .let(a,K):=ag h;rwa[.inr (dU a,aO K)]
def Yj(e:lk w gN=aa):lk w (vi++rZ)=none:=by cases h:lk w _ with|n=>rfl|s x=>let:=og (P:=λp=>(lk p.1 gN).isSome) (by rfl) h;let t:=this;rw[e]at t;cases t
def FO(f:ϑ->Ő (Pv×ϑ)):Ń->ϑ->ϑ->Ő (ϑ×ϑ)|0,F,r=>O (F,r)|m+1,F,r=>match f r with|O (x,R)=>FO f m (F++[x]) R|aa=>aa
def KZ{f:ϑ->Ő _}:∀{m:Ń}{F r:ϑ},FO f m F r=match oM f (vN m) r with|O (xs,r')=>O (F++xs,r')|aa=>aa:=by intro m;induction m with
 |z=>intro F r;show O _=O _;rw[aQ]|v m i=>intro F r;show(match f r with|O (x,r')=>FO f m _ r'|aa=>aa)=(match(match match ax "value" "value"with|J=>f r|af=>dQ "value" r with
    |O (x,R)=>match oM f (vN m) R with|O (xs,a)=>O (Prod.mk (x::xs) a)|aa=>aa
    |aa=>aa) with|O (Prod.mk xs r')=>O _|aa=>aa);cases f r with|n=>rfl|s p=>let(x,R):=p;show FO f m _ R=match match oM f _ R with|O (xs,a)=>O (Prod.mk (x::xs) a)|aa=>aa with|O (Prod.mk xs r')=>O _|aa=>aa;rw[i];cases oM f _ R with|n=>rfl|s p=>simp
def vy:Ő (ϑ×ϑ)->Pv|O (f,r)=>.L [.T f,.L r]|aa=>.N
def SU(ws:ϑ):Pv:=match gM ws with|O (x,r)=>.L [x,.L r]|aa=>.N
def nA(w:Ã)(r:ϑ):Ő (ϑ×ϑ):=match eL w with
 |J=>match dQ (match ax w "number"with|J=>"number"|af=>"box") r with|O (x,R)=>FO gM (vJ w) [.S w,x] R|aa=>aa
 |af=>FO gM (vJ w) [.S w] r
def Yi(e:lk w gN=O ks):SU (.S w::r)=vy (nA w r):=by
 delta SU;rw[nE,show dN _=w from Ŗ,e];let(_,h):=ZA e;delta nA;rcases h with ⟨H,k,rfl,c,d⟩|⟨H,rfl⟩
 .rw[H];let E:dQ k r=dQ (match ax w "number"with|J=>"number"|af=>"box") r:=by cases r with|i=>rfl|k y r=>show(match ax k _ with|J=>nu r _|af=>O _)=match ax _ _ with|J=>nu r _|af=>O _;rw[d];cases ax w _ with|t=>rfl|f=>rfl
  show(match match oM _ _ r with|O (X,a)=>O (Prod.mk (Pv.T _) a)|aa=>aa with|O (Prod.mk x r)=>Pv.L _|aa=>.N)=vy (match dQ _ r with|O (x,R)=>FO _ _ _ R|aa=>aa);rw[show oM _ _ r=match match ax k "value"with|J=>gM r|af=>dQ k r with
   |O (x,R)=>match oM _ _ R with|O (X,b)=>O _|aa=>aa
   |aa=>aa from Ŗ,c,E];cases dQ _ r with|n=>rfl|s p=>let(x,R):=p;show _=vy (FO _ _ _ R);rw[KZ];show(match match match oM _ _ R with|O (X,b)=>O (Prod.mk (x::X) b)|aa=>aa with|O (Prod.mk X a)=>O (Prod.mk (Pv.T _) a)|aa=>aa with|O (Prod.mk x r)=>Pv.L _|aa=>.N)=_;cases oM _ _ R with|n=>rfl|s p=>rfl
 .rw[H,KZ];show(match match oM _ _ r with|O (X,a)=>O (Prod.mk (Pv.T _) a)|aa=>aa with|O (Prod.mk x r)=>Pv.L _|aa=>.N)=_;cases oM _ _ r with|n=>rfl|s p=>rfl
def sw(x:Pv):Þ:=!Nat.beq (vJ (dN x)) 0
def zy(ws:ϑ):Ń:=ws.countP sw
def De:Pv->ϑ|.L w=>w|_=>[]
def g6(n:Ń):Pv->Þ|.L w=>w.all qI&&(Í (À w) 100000&&Í (zy w) n)|_=>af
@[elab_as_elim]def ĝ{P:Pv->ß}(h:g6 n x)(k:∀ws,ws.all qI=J->À ws<=100000->zy ws<=n->P (.L ws)):P x:=by
 cases x<;>first|done|skip
 ext ws;let(H,a,b):=lT h;rwa[k ws H (ap.mp a) (ap.mp b)]
def CT(h:ws.all qI)(H:À ws<=100000)(a:zy ws<=n):g6 n (.L ws)=true:=by show(ws.all qI&&(Í _ _&&Í _ n))=J;rw[h,ap.mpr H,ap.mpr a];rfl
abbrev ii(n:Ń):Ct:=Dd (g6 n) λx=>SU (De x)
def ě:Ń->Ct|0=>SA|n+1=>ii n
@[elab_as_elim]def U3{P:Pv->ß}(h:qI x)(k:∀z,qI (.S z)=J->P (.S z)):P x:=by let H:=(ag h).1;revert h;rwa[ï H λz _ _ h=>k z h]
inductive ĥ(w:Ã)(r a0 b0:ϑ)(T:Ő (ϑ×ϑ)):Es->Hs->ß|mk(fd r1:ϑ)(v4:Ő Dv)(e:T=FO gM (vJ w) fd r1)(g:r1.all qI)(hl:À r1<=100000)(ho:zy r1<=zy r)(hf:À fd<=2):ĥ w r a0 b0 T [O (.p (.L (.S w::r))),O (.r 0),O (.p (.T fd)),O (.p (.L r1)),v4,aa,aa] [.C (fK (vi++rZ)) (fU (vi++rZ)),.C a0 b0]
inductive ę(w:Ã)(r a0 b0:ϑ)(T:Ő (ϑ×ϑ)):ϑ->ϑ->Es->Hs->ß|mk(pre post fd r1:ϑ)(v4 v5 v6:Ő Dv)(e:T=FO gM (À post) fd r1)(g:r1.all qI)(hl:À r1<=100000)(ho:zy r1<=zy r)(hf:À fd+À post<=4):ę w r a0 b0 T pre post [O (.p (.L (.S w::r))),O (.r 0),O (.p (.T fd)),O (.p (.L r1)),v4,v5,v6] [.C (fK (vi++rZ)) (fU (vi++rZ)),.C a0 b0]
def aan(w:Ã):vJ w<=2:=by
 delta vJ;split;.ext n e;rwa[aO (og (P:=λp=>match p.2 with|.I (.ofNat n)=>Đ (n<=2)|_=>J) Ŗ e)]
 .simp
def T2(h:qI (.S z))(k:gI z):(Ú z).isSome=true:=by let h:=(ag (ag h).1).2;rw[k]at h;rwa[h]
def abA(e:lC 0 n=pre++x::post):x=.I (0+À pre)/\À pre<n:=by
 let h:(lC 0 n)[À pre]?=O x:=nofun
 simp only[lC,bP]at h;let H:À pre<n:=by
  let:À (lC 0 n)=À (pre++x::post):=by rw[e]
  simp only[lC,ai,dk,ah,aq]at this;lia
 rw[A7 H]at h;cases h;exact(Ŗ,H)
def Yz(B:LX ca W)(S:SX W)(n:Ń)(D:DX ca W 57 (n+3) (ě n)):DX ca W 57 (n+4) (ii n):=by
 erw[B.e (k:=n+2) 7 J [(35,Dd qI kG),(57,ě n)] [] (.set 1 (.dsp (.cons "number" (.i 0) (.cons "box" (.i 0) (.cons "size" (.i 0) (.cons "not" (.i 1) (.cons "item" (.i 1) (.cons "plus" (.i 2) (.cons "minus" (.i 2) (.cons "times" (.i 2) (.cons "over" (.i 2) .nil))))))))))<|>.cut (.ex (.upd 1 (.dsp (.cons "rest" (.i 2) (.cons "less" (.i 2) (.cons "same" (.i 2) .nil)))))) (.iff (.bo (Wm.oc (.cmp jA 0 (.lst .nil)) (Wm.o1 (.din J (.ix 0 (.i 0)) 1)))) (.re (.c .N)) .nil<|>.set 2 (.tup (.u (.ix 0 (.i 0))))<|>.set 3 (.sl 0 (.of (.i 1)) .no)<|>.cut (.iff (.cmp TN (.ix 0 (.i 0)) (.lst (.u4 (.s "number") (.s "box") (.s "size") (.s "item")))) (.set 4 (.c .N)<|>.iff (.cmp zu 3 (.lst .nil)) (.one (.set 4 (.ix 3 (.i 0)))) .nil<|>.iff (.bo (Wm.ac (.cmp jA (.ix 0 (.i 0)) (.s "number")) (Wm.a1 (.AH J 4)))) (.one (.set 4 (.cl 35 [] (.u 4)))) .nil<|>.iff (.AH af 4) (.re (.c .N)) .nil<|>.set 2 (.b2 cm 2 (.tup (.u 4)))<|>.one (.set 3 (.sl 3 (.of (.i 1)) .no))) .nil) (.fo (.one 5) (.r (.u (.dix 1 (.ix 0 (.i 0))))) (.set 6 (.cl 57 [] (.u 3))<|>.iff (.AH af 6) (.re (.c .N)) .nil<|>.set 2 (.b2 cm 2 (.tup (.u (.ix 6 (.i 0)))))<|>.one (.set 3 (.ix 6 (.i 1))))<|>.re (.lst (.u2 2 3))))) S.nz rfl ((Yy B S).le (),D,Ť) Ť (zw λx Q xc hd=>?_)];erw[ĝ hd λZ G g2 v q=>?_];let q:Q (.p (SU Z)) []:=q;erw[Ô (λσ h=>σ=[O (.p (.L Z)),O (.r 0),aa,aa,aa,aa,aa]/\∃a b,h=[.C (fK (vi++rZ)) (fU (vi++rZ)),.C a b]) (Õ ?_ ?_)];.erw[Õ Ŗ (Ô (F.gE (fK rZ) (fU rZ) (fK [],fU [])).1 (Ô (F.gE (fK rZ) (fU rZ) (fK [],fU [])).2 ?_))];show[Ob.C (F.gE (fK rZ) (fU rZ) ((F.gE (fK vi) (fU vi) (fK [],fU [])).1,(F.gE (fK vi) (fU vi) (fK [],fU [])).2)).1 (F.gE (fK rZ) (fU rZ) ((F.gE (fK vi) (fU vi) (fK [],fU [])).1,(F.gE (fK vi) (fU vi) (fK [],fU [])).2)).2,Ob.C (F.gE (fK rZ) (fU rZ) (fK [],fU [])).1 (F.gE (fK rZ) (fU rZ) (fK [],fU [])).2]=_;rw[pG (l:=vi) ∅,pG (l:=rZ) (l':=[]++vi) ∅];rfl
 rintro _ _ ⟨rfl,a0,b0,rfl⟩;cases Z with|i=>rwa[q]|k y r=>
 let gy:=(ag G).1;let X:r.all qI=true:=(ag G).2;revert G v q;erw[U3 gy λw gw G v q=>?_]
 let H:jc (.S w) (fK (vi++rZ)) (fU (vi++rZ))=lk w (vi++rZ):=wQ;cases e:lk w gN with|n=>
  rw[Yj e]at H;erw[bE (λ_=>?_) λz=>?_];.delta SU at q;rw[nE,show dN (.S w)=w from Ŗ,e]at q;rwa[q]
  .let z:Cd J (jc (.S w) (fK (vi++rZ)) (fU (vi++rZ))).isSome=false:=z;rw[H]at z;cases z|s ks=>
 let(hm,_):=ZA e;rw[hm]at H;rw[Yi e]at q;erw[bE (λz=>?_) λ_=>?_];.let z:Cd J (jc (.S w) (fK (vi++rZ)) (fU (vi++rZ))).isSome=true:=z;rw[H]at z;cases z
 let sz:∀{a:ϑ},À a<=100000->jL (À a)=true:=λh=>dI (ay h ∅);let lr:À r+1<=100000:=g2;erw[Ô (ĥ w r a0 b0 (nA w r)) (Õ ?_ ?_)]
 .erw[aB Ŗ (bE (λz=>?_) λz=>?_)]
  .let z:eL w=true:=z;let E:nA w r=match dQ (match ax w "number"with|J=>"number"|af=>"box") r with|O (x,r1)=>FO gM (vJ w) [.S w,x] r1|aa=>aa:=by delta nA;rw[z]<;>rfl
   cases r with|i=>
    let q:Q (.p .N) []:=by rw[E]at q;rwa[q]
    rwa[bE (λ_=>q) λ_=>q]|k p r1=>
    let gp:=(ag (show(qI p&&r1.all qI)=J from X)).1;let K:r1.all qI=true:=(ag (show(qI p&&r1.all qI)=J from X)).2;let M:À r1<=100000:=by rw[aq]at lr;lia
    let o:zy r1<=zy (p::r1):=by delta zy;rw[uo];lia
    clear G v X lr g2;revert o q E;erw[U3 gp λz gz q E o=>?_];erw[bE (λa=>aB gz ?_) λa=>?_]
    .let a:ax w "number"=true:=a;rw[a]at E;let E:nA w (.S z::r1)=match nu r1 z with|O (x,r1)=>FO gM (vJ w) [.S w,x] r1|aa=>aa:=E;delta nu at E
     cases P:gI z with|f=>
      rw[P]at E;let E:nA w (.S z::r1)=none:=E;rw[E]at q;let f:kG (.S z)=.N:=by show(match gI z with|J=>kL (.S z)|af=>.N)=_;rw[P]
      dsimp only;rw[f];rwa[q]|t=>
      let(m,em):=bN.mp ((T2 gz) P);rw[P,em]at E;let E:nA w (.S z::r1)=FO gM (vJ w) [.S w,.I m] r1:=E;let f:kG (.S z)=.I m:=by show(match gI z with|J=>(match Ú z with|O n=>Pv.I n|aa=>.N)|af=>.N)=_;rw[P,em]
      dsimp only;rw[f];rwa[.mk [.S w,.I m] r1 _ E K M o (show 2<=2 by ext)]
    .let a:ax w "number"=false:=a;rw[a]at E;let E:nA w (.S z::r1)=FO gM (vJ w) [.S w,.S z] r1:=E;rwa[.mk [.S w,.S z] r1 _ E K M o (show 2<=2 by ext)]
  .let z:eL w=false:=z;let E:nA w r=FO gM (vJ w) [.S w] r:=by delta nA;rw[z]
   rwa[.mk [.S w] r aa E X () (au _) (show 1<=2 by ext)]
 rintro _ _ ⟨d,r1,v4,g,t,R,T,e5⟩;let m2:vJ w<=2:=aan w;erw[bW H (aB (by show(jL (vJ w)&&Đ ((-4611686018427387904:Î)<=(vJ w:Ń)))=J;rw[mH (ay m2 ∅),bR ()];rfl) ?_)];erw[nY (ę w r a0 b0 (nA w r)) (.mk [] _ d r1 v4 aa aa (by rw[show(À (lC 0 (Int.toNat (vJ w:Ń))))=vJ w by delta lC;rw[ai,dk];rfl];rwa[g]) t R T (by rw[show(À (lC 0 (Int.toNat (vJ w:Ń))))=vJ w by delta lC;rw[ai,dk];rfl];lia)) (λpre x post σ h e j=>?_) λσ h j=>?_];.let(rfl,hk):=abA e;let hk:À pre<vJ w:=hk;cases j with|mk d r1 v4 v5 v6 g t R T e5=>
  let on:zy (.S w::r)=zy r+1:=by delta zy;rw[uo,cG (show sw (.S w)=J by delta sw;rw[show dN (.S w)=w from Ŗ,alj (show vJ w≠0 by lia)];rfl)]
  rw[on]at v;cases n with|z=>rwa[Ă v ()]|v n=>
  erw[aB (CT t R ()) ?_];rw[aq]at g e5;let Y:nA w r=match gM r1 with|O (x,r')=>FO gM (À post) (d++[x]) r'|aa=>aa:=g
  cases U:gM r1 with|n=>
   rw[U]at Y;rw[Y]at q;let f:SU (De (.L r1))=.N:=by show(match gM r1 with|O (x,r)=>Pv.L [x,.L r]|aa=>.N)=_;rw[U]
   dsimp only;rw[f];rwa[q]|s p=>
   let(y,r2):=p;rw[U]at Y;let f:SU (De (.L r1))=.L [y,.L r2]:=by show(match gM r1 with|O (x,r)=>Pv.L [x,.L r]|aa=>.N)=_;rw[U]
   dsimp only;rw[f];let(s1,s2):=oK U;let(A,rfl):=s1;rw[dy]at t;erw[aB (mH (ay (show(À d)+1<=5 by lia) ∅)) ?_];rwa[.mk _ _ (d++[y]) r2 _ _ _ Y (ag t).2 (by rw[ah]at R;lia) (by delta zy at T⊢;rw[Dk]at T;lia) (by rw[ah];show(À d)+1+_<=_;lia)]
 .cases j with|mk d r1 v4 v5 v6 g t R T e5=>rw[g]at q;rwa[q]
def l6(ws:ϑ):Pv:=match KY ws with|O x=>.L [.T x,.L []]|aa=>.N
def YM(k:Ń)(f r:ϑ):Ő ϑ:=match iS k r with|O x=>O (f++x)|aa=>aa
def alI:Ő ϑ->Pv|O f=>.L [.T f,.L []]|aa=>.N
inductive SJ(T:Ő ϑ)(N:Ń)(m:Ń):Es->Hs->ß|mk(fd r:ϑ)(v2:Ő Dv)(k:Ń)(e:T=YM k fd r)(hk:À r<=k)(g:r.all qI)(ho:zy r<=N)(hf:À fd+À r<=100000)(hm:m=À r):SJ T N m [O (.p (.L r)),O (.p (.T fd)),v2] []
theorem x_(B:LX ca W)(S:SX W):∀n,DX ca W 57 (n+4) (ii n)|0=>Yz B S 0 (Dt.no S.nz)|n+1=>Yz B S _ (x_ B S n)
def adW(B:LX ca W)(S:SX W)(n:Ń):DX ca W 59 (n+5) (Dd (g6 n) λx=>l6 (De x)):=by
 erw[B.e (k:=n+3) 3 J [(57,ii n)] [] (.set 1 (.tup .nil)<|>.whG (.cmp zu 0 (.lst .nil)) (.set 2 (.cl 57 [] (.u 0))<|>.iff (.AH af 2) (.re (.c .N)) .nil<|>.set 1 (.b2 cm 1 (.tup (.u (.ix 2 (.i 0)))))<|>.one (.set 0 (.ix 2 (.i 1))))<|>.re (.lst (.u2 1 (.lst .nil)))) S.tJ rfl ((x_ B S n).le (),Ť) Ť (zw λx Q z H=>?_)];erw[ĝ H λw G C o q=>?_];let q:Q (.p (alI (YM (À w) [] w))) []:=by let q:Q (.p (match iS (À w) w with|O X=>.L [.T X,.L []]|aa=>.N)) []:=q;delta YM;revert q;cases iS (À w) w<;>rwa[λq=>q]
 erw[Ô (SJ (YM (À w) [] w) n) (Õ (À w,.mk [] w aa (À w) rfl (au _) G o (by rw[eO];lia) rfl) λm s D j=>?_)];cases j with|mk f r F k e t g h I v=>
 cases r with|i=>
  let e:YM (À w) [] w=O (f++[]):=by rw[e];delta YM;cases k<;>rfl
  rw[e,aQ]at q;rwa[q]|k y r=>erw[aB (CT g () h) ?_];cases k with|z=>rwa[Ă t (by rw[aq];lia)]|v k=>
  let a:YM (À w) [] w=match gM (y::r)with
   |O (x,R)=>YM k (f++[x]) R|aa=>aa:=by rw[e];show(match match gM (y::r)with
    |O (x,R)=>match iS k R with|O X=>O (x::X)|aa=>aa
    |aa=>aa with|O X=>O (f++X)|aa=>aa)=_;cases gM (y::r)with|n=>rfl|s p=>let(x,R):=p;show(match match iS k R with|O X=>O (x::X)|aa=>aa with|O X=>O (f++X)|aa=>aa)=match iS k R with|O X=>O (f++[x]++X)|aa=>aa;cases iS k R with|n=>rfl|s X=>show O _=O _;rw[aN];rfl
  cases E:gM (y::r)with|n=>
   rw[E]at a;rw[a]at q;let b:SU (De (.L (y::r)))=.N:=by show(match gM (y::r)with|O (x,r)=>Pv.L _|aa=>.N)=_;rw[E]
   dsimp only;rw[b];rwa[q]|s p=>
   let(x,d):=p;rw[E]at a;let b:SU (De (.L (y::r)))=.L [x,.L d]:=by show(match gM (y::r)with|O (x,r)=>Pv.L _|aa=>.N)=_;rw[E]
   dsimp only;rw[b];obtain⟨⟨A,l⟩,s2⟩:=oK E;rwa[aB (dI (ay (show(À f)+1<=100001 by lia) ∅)) (_,by rw[v];rwa[s2],.mk _ d _ k a () (by rw[l,dy]at g;exact(ag g).2) (by delta zy at h⊢;rw[l,Dk]at h;lia) (by rw[ah];show(À f)+1+_<=_;lia) rfl)]
def vR:Ł (Ã×Pv):=[("set",.S "nv"),("push",.S "nv"),("pop",.S "nn"),("put",.S "nvv"),("ask",.S "nn"),("tell",.S "v"),("fail",.S "v"),("return",.S "v")]
def tL:Ł (Ã×Pv):=[("call",.S "nna"),("if",.S "v"),("while",.S "v"),("try",.S "")]
def VN(k:Ã):Ã:=match ax k "value"with|J=>"v"|af=>match ax k "values"with|J=>"a"|af=>"n"
def rx(z:Ã):ϐ:=z.cps.toList.map λc=>⟨#[c]⟩
def agC(z:Ã):lE z=(rx z).map .S:=by delta rx;rw[cq];rfl
def agp(e:lk w eI=O ks):∃z,lk w (vR++tL)=O (.S z)/\lE z=(kW ks).map (λk=>.S (VN k))/\z.length<=3/\∀k∈kW ks,ax k "number"=false:=by
 let h:=og (P:=λp=>match lk p.1 (vR++tL)with|O (.S z)=>Đ (rx z=(kW p.2).map VN)&&(Đ (z.length<=3)&&(kW p.2).all λk=>!ax k "number")|_=>af) Ŗ e;dsimp only at h;split at h;.ext z E;let(H,a,b):=lT h;erw[(z,E,?_,aO a,λk c=>dU (aG.mp b k c))];rw[agC,aO H,cq];rfl
 .cases h
def Xq(e:lk w eI=aa):lk w (vR++tL)=none:=by cases h:lk w _ with|n=>rfl|s x=>let t:(lk w eI).isSome=true:=og (P:=λp=>(lk p.1 _).isSome) Ŗ h;rw[e]at t;cases t
def SO(ws:ϑ):Pv:=match Aa ws with|O row=>row|aa=>.N
def Zd(n:Ń):Pv->Þ|.L (y::r)=>g6 n (.L (y::r))|_=>af
@[elab_as_elim]def û{P:Pv->ß}(h:Zd n x)(k:∀w r,qI (.S w)=J->r.all qI->À r+1<=100000->zy r<=n->P (.L (.S w::r))):P x:=by
 cases x<;>first|done|skip
 ext s;cases s with|i=>cases h|k y r=>let(H,a,b):=lT h;let(c,H):=ag H;revert a;rwa[U3 c λw g a=>k w r g H (ap.mp a) (by let:=ap.mp b;delta zy at this⊢;rw[uo]at this;lia)]
def g4(ks:ϐ)(f r:ϑ):Ő (ϑ×ϑ):=match rN ks r with|O (x,R)=>O (f++x,R)|aa=>aa
def Pr{k:Ã}{ks:ϐ}{f r:ϑ}:g4 (k::ks) f r=match iD k r with
  |O (x,R)=>g4 ks (f++[x]) R
  |aa=>aa:=by show(match match iD k r with
  |O (x,R)=>match rN ks R with|O (X,a)=>O (Prod.mk (x::X) a)|aa=>aa
  |aa=>aa with|O (Prod.mk X b)=>O _|aa=>aa)=_;cases iD k r with|n=>rfl|s p=>let(x,R):=p;show(match match rN ks R with|O (X,a)=>O (Prod.mk (x::X) a)|aa=>aa with|O (Prod.mk X b)=>O _|aa=>aa)=match rN ks R with|O (X,b)=>O _|aa=>aa;cases rN ks R with|n=>rfl|s p=>simp
def Gc:Ő (ϑ×ϑ)->Pv|O (f,[])=>.T f|_=>.N
def Xk(e:lk w eI=O ks):SO (.S w::r)=Gc (g4 (kW ks) [.S w] r):=by delta SO;rw[show Aa _=match lk w eI with|aa=>aa|O ks=>match rN _ r with|O (x,[])=>O _|_=>aa from Ŗ,e];show(match match rN _ r with|O (x,[])=>O _|_=>aa with|O row=>row|aa=>.N)=Gc (match rN _ r with|O (x,R)=>O _|aa=>aa);cases rN _ r with|n=>rfl|s p=>let(x,R):=p;cases R with|i=>rfl|k _ _=>rfl
def tP:Ő (Pv×ϑ)->Pv|O (x,r)=>.L [x,.L r]|aa=>.N
inductive ė(w:Ã)(r a0 b0:ϑ)(n:Ń)(T:Ő (ϑ×ϑ)):ϑ->ϑ->Es->Hs->ß|mk(pre:ϑ)(ks:ϐ)(fd r1:ϑ)(v4 v5:Ő Dv)(e:T=g4 ks fd r1)(hk:∀k∈ks,ax k "number"=af)(g:r1.all qI)(hl:À r1<=100000)(ho:zy r1<=n)(hf:À fd+À ks<=4):ė w r a0 b0 n T pre (ks.map λk=>.S (VN k)) [O (.p (.L (.S w::r))),O (.r 0),O (.p (.T fd)),O (.p (.L r1)),v4,v5] [.C (fK (vR++tL)) (fU (vR++tL)),.C a0 b0]
def ajI(B:LX ca W)(S:SX W)(n:Ń):DX ca W 58 (n+6) (Dd (Zd n) λx=>SO (De x)):=by
 erw[B.e (k:=n+4) 6 J [(57,ii n),(59,Dd (g6 n) λx=>l6 (De x))] [] (.set 1 (.dsp (.cons "set" (.s "nv") (.cons "push" (.s "nv") (.cons "pop" (.s "nn") (.cons "put" (.s "nvv") (.cons "ask" (.s "nn") (.cons "tell" (.s "v") (.cons "fail" (.s "v") (.cons "return" (.s "v") .nil)))))))))<|>.cut (.ex (.upd 1 (.dsp (.cons "call" (.s "nna") (.cons "if" (.s "v") (.cons "while" (.s "v") (.cons "try" (.s "") .nil))))))) (.iff (.din J (.ix 0 (.i 0)) 1) (.re (.c .N)) .nil<|>.set 2 (.tup (.u (.ix 0 (.i 0))))<|>.set 3 (.sl 0 (.of (.i 1)) .no)<|>.fo (.one 4) (.c (.dix 1 (.ix 0 (.i 0)))) (.set 5 (.c .N)<|>.cut (.iff (.bo (Wm.ac (.cmp jA 4 (.s "n")) (Wm.a1 (.cmp zu 3 (.lst .nil))))) (.one (.set 5 (.lst (.u2 (.ix 3 (.i 0)) (.sl 3 (.of (.i 1)) .no))))) (.one (.iff (.cmp jA 4 (.s "v")) (.one (.set 5 (.cl 57 [] (.u 3)))) (.one (.iff (.cmp jA 4 (.s "a")) (.one (.set 5 (.cl 59 [] (.u 3)))) .nil))))) (.iff (.AH af 5) (.re (.c .N)) .nil<|>.set 2 (.b2 cm 2 (.tup (.u (.ix 5 (.i 0)))))<|>.one (.set 3 (.ix 5 (.i 1)))))<|>.re (.ix (.lst (.u2 (.c .N) 2)) (.bi N_ (.u (.cmp jA 3 (.lst .nil))))))) S.yH rfl ((x_ B S n).le (),(adW B S n).le (),Ť) Ť (zw λx Q xc hd=>?_)];erw[û hd λw r gw gr lr g3 q=>?_];let q:Q (.p (SO (.S w::r))) []:=q;erw[Ô (λσ h=>σ=[O (.p (.L (.S w::r))),O (.r 0),aa,aa,aa,aa]/\∃a b,h=[.C (fK (vR++tL)) (fU (vR++tL)),.C a b]) (Õ ?_ ?_)];.erw[Õ Ŗ (Ô (F.gE (fK tL) (fU tL) (fK [],fU [])).1 (Ô (F.gE (fK tL) (fU tL) (fK [],fU [])).2 ?_))];show[Ob.C (F.gE (fK tL) (fU tL) ((F.gE (fK vR) (fU vR) (fK [],fU [])).1,(F.gE (fK vR) (fU vR) (fK [],fU [])).2)).1 (F.gE (fK tL) (fU tL) ((F.gE (fK vR) (fU vR) (fK [],fU [])).1,(F.gE (fK vR) (fU vR) (fK [],fU [])).2)).2,Ob.C (F.gE (fK tL) (fU tL) (fK [],fU [])).1 (F.gE (fK tL) (fU tL) (fK [],fU [])).2]=_;rw[pG (l:=vR) ∅,pG (l:=tL) (l':=[]++vR) ∅];rfl
 rintro _ _ ⟨rfl,a0,b0,rfl⟩
 let D:jc (.S w) (fK (vR++tL)) (fU (vR++tL))=lk w (vR++tL):=wQ;cases e:lk w eI with|n=>
  rw[Xq e]at D;erw[bE (λ_=>?_) λz=>?_];.delta SO at q;rw[show Aa (.S w::r)=match lk w eI with|aa=>aa|O K=>match rN (kW K) r with|O (X,[])=>O (.T (.S w::X))|_=>aa from Ŗ,e]at q;rwa[q]
  .let z:Cd J (jc (.S w) (fK (vR++tL)) (fU (vR++tL))).isSome=false:=z;rw[D]at z;cases z|s K=>
 let(z,hm,hz,lz,hn):=agp e;rw[hm]at D;rw[Xk e]at q;erw[bE (λz=>?_) λ_=>?_];.let z:Cd J (jc (.S w) (fK (vR++tL)) (fU (vR++tL))).isSome=true:=z;rw[D]at z;cases z
 erw[bW D (aB (mH (ay lz ∅)) ?_)];dsimp only;rw[hz];let hl:À (kW K)<=3:=ay BX (yO e);erw[nY (ė w r a0 b0 n (g4 (kW K) [.S w] r)) (.mk [] (kW K) [.S w] r aa aa rfl hn gr () g3 (show 1+_<=4 by lia)) (λpre x post σ h ex j=>?_) λσ h j=>?_];.generalize Y:x::post=P at j;cases j with|mk Ω G r1 v4 v5 E H m I t e5=>cases Ω with|i=>cases Y|k k Ω=>
  injection Y with M o;let M:x=.S (VN k):=M;obtain⟨kk,d⟩:∃kk,VN k=kk:=(_,Ŗ);rw[d]at M;let o:post=Ω.map λk=>.S (VN k):=o;subst M o;rw[aq]at e5;rw[Pr]at E;erw[Ô (λσ h=>σ=[O (.p (.L (.S w::r))),O (.r 0),O (.p (.T G)),O (.p (.L r1)),O (.p (.S kk)),O (.p (tP (iD k r1)))]/\h=[.C (fK (vR++tL)) (fU (vR++tL)),.C a0 b0]) (Õ ?_ ?_)];.let nk:=H k ao;cases g:ax k "value"with
   |t=>
    let v:kk="v":=by rw[<-d];delta VN;rw[g]
    let f:tP (iD k r1)=SU r1:=by delta iD;rw[g];rfl
    subst v;rw[f];rwa[aB (CT m I t) (Ŗ,Ŗ)]
   |f=>cases R:ax k "values"with|t=>
     let v:kk="a":=by rw[<-d];delta VN;rw[g,R]
     let f:tP (iD k r1)=l6 r1:=by delta iD l6;rw[g,R];show tP (match KY r1 with|O X=>O (.T X,[])|aa=>aa)=_;cases KY r1<;>rfl
     subst v;rw[f];rwa[aB (CT m I t) (Ŗ,Ŗ)]|f=>
     let v:kk="n":=by rw[<-d];delta VN;rw[g,R]
     let f:iD k r1=dQ k r1:=by delta iD;rw[g,R]
     subst v;rw[f];cases r1 with|i=>exact(Ŗ,Ŗ)|k y r1=>
      let ew:dQ k (y::r1)=O (y,r1):=by show(match ax k "number"with|J=>nu r1 (dN y)|af=>O (y,r1))=_;rw[nk]
      rw[ew];exact(Ŗ,Ŗ)
  .rintro _ _ ⟨rfl,rfl⟩;cases f:iD k r1 with|n=>rw[f]at E;rw[E]at q;rwa[q]|s p=>
    let(y,U):=p;rw[f]at E;let(A,Z):=ER f;let g':U.all qI=true:=by rw[Z,dy]at m;exact(ag m).2
    let o':zy U<=n:=by delta zy at t⊢;rw[Z,Dk]at t;lia
    let l':À U<=100000:=by rw[Z,ah]at I;lia
    rwa[aB (mH (ay (show(À G)+1<=5 by lia) ∅)) (.mk _ Ω _ U _ _ E (λk h=>H k (ak _ h)) g' l' o' (by rw[ah];show(À G)+1+_<=_;lia))]
 .generalize Y:[]=P at j;cases j with|mk Ω G r1 v4 v5 E H m I t e5=>cases Ω with|k k Ω=>done|i=>let E:g4 _ [.S w] r=O _:=E;rw[E,aQ]at q;cases r1 with|i=>rwa[q]|k _ _=>rwa[q]
def Z4(H:∀R xs r,f R=O (xs,r)->Af R xs r)(h:∀R,À R<=N->f R=g R){R:cM}(hR:À R<=N):gD f v xs R=gD g v xs R:=by delta gD;rw[<-h R hR];cases e:f R with|n=>rfl|s p=>let(a,b):=p;cases b with|i=>rfl|k w R2=>let hl:=(H _ _ _ e).kq.len;rw[aq]at hl;show(match fN w&&!ax v "try"with|J=>_|af=>_)=match fN w&&!ax v "try"with|J=>_|af=>_;rw[h R2 ()]
def P7(H:∀R xs r,f R=O (xs,r)->Af R xs r)(h:∀R,À R<=N->f R=g R){R:cM}(hR:À R<=N):j5 f ws R=j5 g ws R:=by
 delta j5;split;.rw[Z4 H h hR]
 .rfl
def pz:∀{n m:Ń}{R:cM},À R<n->À R<m->cg n R=cg m R:=by intro n;induction n with|z=>intro m R h;rwa[Ă h (fX _)]|v n i=>intro m R H b;cases m with|z=>left|v m=>cases R with|i=>rfl|k ws R=>rw[aq]at H b;delta cg;rw[<-P7 (f:=cg n) (g:=cg m) (N:=À R) (λR X a e=>kZ e) (λa c=>i () ()) (ws:=ws) (au _)];cases wX ws with|t=>rfl|f=>show(match j5 _ ws R with|aa=>aa|O (x,r)=>match cg n r with|aa=>aa|O (X,R2)=>O _)=match j5 _ ws R with|aa=>aa|O (x,r)=>match cg m r with|aa=>aa|O (X,R2)=>O _;cases e:j5 _ ws R with|n=>rfl|s p=>let(x,r):=p;let hl:=(xb (λR X a e=>kZ e) e).len;show(match cg n r with|aa=>aa|O (X,R2)=>O _)=_;rw[i (m:=m) () ()]
def cJ(R:cM):Ő (ϑ×cM):=cg (À R+1) R
def Ar{ws:ϑ}{R:cM}:cJ (ws::R)=match wX ws with|J=>O ([],ws::R)|af=>match j5 cJ ws R with|aa=>aa|O (x,r)=>match cJ r with|aa=>aa|O (xs,R2)=>O (x::xs,R2):=by rw[<-P7 (f:=cg (À R+1)) (g:=cJ) (N:=À R) (λR xs a e=>kZ e) (λa h=>pz () ()) (ws:=ws) (au _)];show(match wX ws with|J=>O _|af=>match j5 (cg (À R+1)) ws R with|aa=>aa|O (x,r)=>match cg (À R+1) r with|aa=>aa|O (xs,R2)=>O _)=_;cases wX ws with|t=>rfl|f=>cases e:j5 _ ws R with|n=>rfl|s p=>let(x,r):=p;let hl:=(xb (λR xs a e=>kZ e) e).len;show(match cg _ r with|aa=>aa|O (xs,R2)=>O _)=match cJ r with|aa=>aa|O (xs,R2)=>O _;rw[show cg _ r=cJ r from pz () ()]
def sr(e:cJ R=O (xs,R')):Af R xs R':=kZ e
def wt(ws:ϑ):Î:=match zS (kX ws)||ax (kX ws) "def"with|J=>1|af=>match ax (kX ws) "end"with|J=>-1|af=>0
def vg:cM->Î|[]=>0|w::R=>wt w+vg R
def Fn:∀{A B:cM},vg (A++B)=vg A+vg B:=by intro A;induction A with|i=>intro B;show vg B=0+vg B;lia|k w A i=>intro B;show wt w+vg (A++B)=wt w+vg A+vg B;rw[i];lia
def PB(d:Î)(R:cM):ß:=∀A B,R=A++B->vg A<=d
def PB.kq(h:PB d (C++R)):PB (d-vg C) R:=λA B e=>by let:=h (C++A) B nofun;rw[Fn]at this;lia
def CU(h:ax (kX ws) "else"=J\/ax (kX ws) "catch"=J):wt ws=0:=by
 delta wt;rcases h with h|h;.rw[aI.mp h];decide+kernel
 .rw[aI.mp h];decide+kernel
def IC(h:fN ws):wt ws=-1:=by delta wt;rw[aI.mp (ag h).1];decide+kernel
structure Ev(c:Î)(R R':cM):ß where ex:∃C,R=C++R'/\vg C=c
def Ev.trans{R2:cM}(h:Ev a R r)(k:Ev b r R2):Ev (a+b) R R2:=by let(C,rfl,rfl):=h.ex;let(D,rfl,rfl):=k.ex;exact(_,(aN ..).symm,Fn)
def Ev.one{R:cM}:Ev (wt ws) (ws::R) R:=([ws],Ŗ,by show wt ws+0=_;lia)
def Ev.pb(h:Ev c R R')(p:PB d R):PB (d-c) R':=by let(C,rfl,rfl):=h.ex;rwa[p.kq]
def aao(h:pV v ws):wt ws=0:=by
 rcases(bF _ _).mp h with h|h;.rwa[CU (.inl (ag (ag h).2).1)]
 .rwa[CU (.inr (ag (ag h).2).1)]
def Z5(H:∀R xs R',f R=O (xs,R')->Ev 0 R R')(e:gD f v xs R=O (x,R')):Ev (-1) R R':=by
 delta gD at e;split at e;.cases e
 .cases e
 .ext a w R2 E;let h1:=H _ _ _ E;split at e;.ext h;cases e;let h2:=h1.trans Ev.one;rw[IC (ag h).1]at h2;rwa[h2]
  .split at e;.cases e
   .ext m;split at e;.cases e
    .cases e
    .ext b q r c;split at e;.ext h;cases e;let h2:=((h1.trans Ev.one).trans (H _ _ _ c)).trans Ev.one;rw[IC h,aao m]at h2;rwa[h2]
     .cases e
def P8(b:∀R xs a,f R=O (xs,a)->Ev 0 R a)(t:wX ws=af)(e:j5 f ws R=O (x,R1)):Ev 0 (ws::R) R1:=by
 delta j5 at e;split at e
 .ext y Y E;let h:kX ws=dN y/\ax (kX ws) "def"=false:=by cases ws with|i=>done|k z r=>
    let E:(match lk _ eI with|aa=>aa|O k=>match rN _ r with|O (xs,[])=>O _|_=>aa)=O _:=E;split at E;.done
    .ext k c;split at E;.cases E;exact(Ŗ,dU (og (P:=λp=>!ax p.1 _) (by rfl) c))
     .done
  let(h,nd):=h;split at e;.ext H;let h2:=Ev.one (ws:=ws).trans (Z5 b e);rw[show wt ws=1 by delta wt;rw[h,H];rfl]at h2;rwa[h2]
  .ext H;cases e;let h2:=Ev.one (ws:=ws) (R:=R);rw[show wt ws=0 by delta wt;rw[nd,h,H];let:=(oU (oU t).2).2;rw[h]at this;show(match ax _ _ with|J=>-1|af=>0)=0;rw[this]]at h2;rwa[h2]
 .done
def Bp:∀{n:Ń}{R:cM}{xs:ϑ}{R':cM},cg n R=O (xs,R')->Ev 0 R R':=by intro n;induction n with|z=>intro R xs R' e;cases e|v n i=>intro R xs R' e;cases R with|i=>cases e;exact([],Ŗ,Ŗ)|k w R=>
   delta cg at e;split at e;.cases e;exact([],Ŗ,Ŗ)
   .ext h;split at e;.cases e
    .ext x r E;split at e;.cases e
     .ext y R2 a;cases e;exact(P8 (λR xs R' e=>i e) h E).trans (i a)
def hJ(R:cM):Ł Dv:=R.map λw=>.p (.L w)
def qR(e:ϑ):cM->Þ|[]=>uQ (.S "") e|w::_=>uQ (.S (kX w)) e
def NJ(e:ϑ)(T:Ő (ϑ×cM)):Ő (ϑ×cM):=match T with
 |O (x,R)=>match qR e R with|J=>O (x,R)|af=>aa
 |aa=>aa
structure LR(n:Ń)(R:cM):ß where
 g:∀ws∈R,Zd n (.L ws)=J
 l:À R<=100000
inductive Nh(n d:Ń):Ct|mk{t:Hs}{R:cM}{ends:ϑ}{Q:Dv->Hs->ß}{xc:XP}(g:LR n R)(p:PB d R)(he:fT ends)(q:∀xs R',NJ ends (cJ R)=O (xs,R')->∀t,Q (.p (.T xs)) (.D (hJ R')::t))(q':NJ ends (cJ R)=aa->∀h,Q (.p .N) h):Nh n d [.r 0,.p (.L ends)] (.D (hJ R)::t) Q xc
inductive cBk(n d:Ń):Ct|mk{t:Hs}{R:cM}{v:Ã}{ys:ϑ}{sh:Sh}{Q:Dv->Hs->ß}{xc:XP}(g:LR n R)(p:PB d R)(S:Lc v ys sh)(q:∀x R',gD cJ v ys R=O (x,R')->∀t,Q (.p x) (.D (hJ R')::t))(q':gD cJ v ys R=aa->∀h,Q (.p .N) h):cBk n d [.p (.T (.S v::ys)),.r 0] (.D (hJ R)::t) Q xc
def FR(n:Ń):Ń->Ct|0=>SA|d+1=>cBk n d
def LR.tl{R:cM}(h:LR n (ws::R)):LR n R:=(λws H=>h.g ws (ak _ H),by let:=h.l;rw[aq]at this;lia)
def LR.kq(h:LR n R)(s:jW R' R):LR n R':=(s.all h.g,ay s.len h.l)
def gc(f:ϑ)(R:cM):Ő (ϑ×cM):=match cJ R with|O (x,r)=>O (f++x,r)|aa=>aa
inductive BJ(n d:Ń)(ends:ϑ)(T:Ő (ϑ×cM))(m:Ń):Es->Hs->ß|mk(fd:ϑ)(R:cM)(v3:Ő Dv)(t:Hs)(e:T=gc fd R)(g:LR n R)(p:PB d R)(hf:À fd+À R<=100000)(hm:m=À R):BJ n d ends T m [O (.r 0),O (.p (.L ends)),O (.p (.T fd)),v3] (.D (hJ R)::t)
inductive BC(ends fd:ϑ)(T:Ő (Pv×cM)):Es->Hs->ß|ok(ys:ϑ)(R3:cM)(t:Hs)(e:T=O (.T ys,R3)):BC ends fd T [O (.r 0),O (.p (.L ends)),O (.p (.T fd)),O (.p (.T ys))] (.D (hJ R3)::t)|no(h:Hs)(e:T=aa):BC ends fd T [O (.r 0),O (.p (.L ends)),O (.p (.T fd)),O (.p .N)] h
def O8:wX (.S w::r)=uQ (.S w) [.S "else",.S "catch",.S "end"]:=by show(ax w "else"||(ax w "catch"||ax w "end"))=(ax _ w||(ax _ w||(ax _ w||af)));rw[gq,fZ w,fZ w,fZ w]
def P9:zS w=uQ (.S w) [.S "if",.S "while",.S "try"]:=by show(ax w "if"||(ax w "while"||ax w "try"))=(ax _ w||(ax _ w||(ax _ w||af)));rw[gq,fZ w,fZ w,fZ w]
def fP(a:uh xs j=O z)(q:Q (.p z) h):uY (.p (.L xs)) (.p (.I j)) h Q:=bW a q
def TJ(e:gD f v xs R=O (x,r)):∃ys,x=.T ys:=by
 let c:∀a,∃ys,wA v xs a=.T ys:=λa=>by delta wA;cases ax v _<;>exact(_,Ŗ)
 let d:∀a b y,∃ys,va v xs a b y=.T ys:=λa b y=>by delta va;cases ax v _<;>exact(_,Ŗ)
 delta gD at e;split at e;.cases e
 .cases e
 .split at e;.cases e;rwa[c _]
  .split at e;.cases e
   .split at e;.cases e
    .cases e
    .split at e;.cases e;rwa[d _ _ _]
     .cases e
def qp(h:Zd n (.L ws)):∃w r,ws=.S w::r:=by let k:∀x,Zd n x=J->∃w r,x=.L (.S w::r):=λx h=>û h λw r _ _ _ _=>(w,r,Ŗ);let(w,r,e):=k _ h;injection e with e;exact(w,r,e)
def qo(h:(!b)=af):b=true:=()
seal uY j4 jZ lu gj Ml yA in
def Ji(B:LX ca W)(S:SX W)(n d:Ń)(F:DX ca W 61 (2*d+n+7) (FR n d)):DX ca W 60 (2*d+n+8) (Nh n d):=by erw[B.e (k:=2*d+n+6) 4 af [(58,Dd (Zd n) λx=>SO (De x)),(61,FR n d)] [] (.set 2 (.tup .nil)<|>.whG (.bo (Wm.ac (.cmp TV 0 (.lst .nil)) (Wm.a1 (.cmp TX (.ix (.ix 0 (.i 0)) (.i 0)) (.lst (.u3 (.s "else") (.s "catch") (.s "end"))))))) (.set 3 (.cl 58 [] (.u (.mt AN 0 (.u (.i 0)))))<|>.cut (.iff (.bo (Wm.ac (.AH J 3) (Wm.a1 (.cmp TN (.ix 3 (.i 0)) (.lst (.u3 (.s "if") (.s "while") (.s "try"))))))) (.one (.set 3 (.sG 61 (.u2 3 0)))) .nil) (.iff (.AH af 3) (.re (.c .N)) .nil<|>.one (.set 2 (.b2 cm 2 (.tup (.u 3))))))<|>.iff (.bo (Wm.oc (.bo (Wm.ac (.cmp ŵ 0 (.lst .nil)) (Wm.a1 (.cmp TX (.s "") 1)))) (Wm.o1 (.bo (Wm.ac (.cmp TV 0 (.lst .nil)) (Wm.a1 (.cmp TX (.ix (.ix 0 (.i 0)) (.i 0)) 1))))))) (.re (.c .N)) .nil<|>.re 2) S.HH rfl ((ajI B S n).le (),F,Ť) Ť λds h Q xc c=>?_];cases c with|@mk t R E _ _ g p U q G=>
 erw[(Ŗ,Ô (BJ n d E (cJ R)) (Õ (À R,?_) λm Z h' j=>?_))];.rwa[BJ.mk [] R aa t (by delta gc;cases cJ R<;>rfl) g p (by let:=g.l;show 0+_<=_;lia) rfl]
 .cases j with|mk f v v3 t e g p hf hm=>
  let eT:cJ v=O ([],v)->NJ E (cJ R)=match qR E v with|J=>O (f,v)|af=>none:=λo=>by rw[e];delta gc NJ;simp only[o,aQ]
  let K:∀w:Ã,(J&&fT E)=true:=λ_=>by rw[U];rfl
  cases v with|i=>
   let eT:=eT Ŗ;erw[mw Ŗ (mw Ŗ (aB (K "") (bE (λa=>G ?_ _) λa=>mw Ŗ (q f [] ?_ _))))];.rw[eT,show qR E []=af from dU a]
   .rw[eT,show qR E []=J from qo a]|k ws R2=>
  let(w,r,rfl):=qp (g.g _ ao);erw[mw Ŗ (fu Ŗ Ŗ (fP Ŗ (aB Ŗ (bE (λa=>?_) λa=>?_))))]
  .let a:wX (.S w::r)=false:=by rw[O8];rwa[dU a]
   let g2:=g.tl;rw[aq]at hf hm;let et:gc f ((.S w::r)::R2)=match j5 cJ (.S w::r) R2 with|O (x,y)=>gc (f++[x]) y|aa=>aa:=by delta gc;simp only[Ar,a];cases j5 cJ (.S w::r) R2 with|n=>rfl|s q=>simp only;cases cJ q.2<;>simp
   rw[et]at e;erw[aB Ŗ (oz Ŗ (aB (g.g _ ao) ?_))];erw[Ô (BC E f (j5 cJ (.S w::r) R2)) (Õ ?_ ?_)]
   .cases A:Aa (.S w::r)with|n=>
     let H:SO (De (.L (.S w::r)))=.N:=by delta SO;simp only[De,A]
     dsimp only;rw[H];rwa[BC.no _ (by delta j5;rw[A])]|s row=>
     let(ks,X,ek,ep,rfl):=Fd A;let H:SO (De (.L (.S w::r)))=.T (.S w::X):=by delta SO;simp only[De,A]
     let C:j5 cJ (.S w::r) R2=match zS w with|J=>gD cJ w X R2|af=>O (.T (.S w::X),R2):=by delta j5;rw[A];rfl
     dsimp only;rw[H];erw[iL Ŗ (aB Ŗ (bE (λb=>?_) λb=>?_))]
     .let b:zS w=true:=by rw[P9];rwa[b]
      rw[b]at C;let M:wt (.S w::r)=1:=by delta wt;rw[show kX (.S w::r)=w from Ŗ,b];rfl
      let(sh,OS):=YY ek b ep;cases d with|z=>rwa[Ă (p [.S w::r] R2 Ŗ) (by show ¬ wt (.S w::r)+0<=0;rw[M];decide)]|v d=>let pb:=Ev.one (ws:=.S w::r) (R:=R2).pb p;rw[M,show((d+1:Ń):Î)-1=((d:Ń):Î)by lia]at pb;erw[cBk.mk g2 pb OS (λx I o t=>?_) λo h=>BC.no h (C.trans o)];let(Y,rfl):=TJ o;rwa[BC.ok Y I t (C.trans o)]
     .let b:zS w=false:=by rw[P9];rwa[b]
      rw[b]at C;rwa[BC.ok (.S w::X) R2 t C]
   .rintro _ _ c;cases c with|no h D=>rw[D]at e;rwa[G (by delta NJ;rw[e]) _]|ok Y y t D=>rw[D]at e;let P:jW y R2:=xb (λR X I e=>sr e) D;let hl:=P.len;let z:=(P8 (λR X I e=>Bp e) a D).pb p;rw[show(d:Î)-0=d by lia]at z;rwa[aB (dI (ay (show(À f)+1<=100001 by lia) ∅)) (À y,(),BJ.mk (f++[.T Y]) y _ t e (g2.kq P) z (by rw[ah];show(À f)+1+_<=_;lia) rfl)]
  .let a:wX (.S w::r)=true:=by rw[O8];rwa[qo a]
   let eT:=eT (by rw[Ar,a]);erw[mw Ŗ (mw Ŗ (fu Ŗ Ŗ (fP Ŗ (aB (K w) (bE (λb=>G ?_ _) λb=>q f _ ?_ _)))))];.rw[eT,show qR _ ((.S w::r)::R2)=af from dU b]
   .rw[eT,show qR _ ((.S w::r)::R2)=J from qo b]
end
def GN(v:Ã):ϑ:=match ax v "if"with|J=>[.S "else",.S "end"]|af=>match ax v "while"with|J=>[.S "end"]|af=>[.S "catch"]
def M_:Ł (Ã×Pv):=[("if",.L [.S "else",.S "end"]),("while",.L [.S "end"]),("try",.L [.S "catch"])]
def eg(q:Q (.p (.I (À xs))) h):j4 [.p (.L xs)] h Q:=q
def wL(e:NJ E (cJ R)=O (xs,r)):cJ R=O (xs,r)/\qR E r=true:=by
 delta NJ at e;split at e;.lia
 .cases e
def Bn(e:NJ E (cJ R)=aa)(h:cJ R=O (xs,r)):qR E r=false:=by cases z:qR _ r with|f=>rfl|t=>simp only[NJ,h,z,reduceCtorEq]at e
def sQ:fN (.S w::r)=(ax w "end"&&Ë (À r+1) 1):=rfl
def kb{n k:Ń}:lH n k=Ë n k:=rfl
section
variable{v w:Ã}{r ys a b ws qX:ϑ}{R R2 R4:cM}
def UD(h:uQ (.S w) [.S "end"]):w="end":=by rw[show uQ _ _=(ax _ w||af)from Ŗ,gq]at h;exact(aI.mp h).symm
def MR(e:cJ R=O (a,(.S "end"::r)::R2))(h:ax v "try"=af):gD cJ v ys R=match Ë (À r+1) 1 with|J=>O (wA v ys a,R2)|af=>none:=by
 delta gD;simp only[e,sQ,h,Bool.not_false,iM];let m:pV v (.S "end"::r)=false:=by delta pV;rw[h];cases ax v _<;>rfl
 rw[m];cases Ë _ 1<;>rfl
def ng(e:cJ R=O (a,(.S w::r)::R2))(h:ax w "end"=af)(m:pV v (.S w::r)=af):gD cJ v ys R=none:=by delta gD;simp only[e,sQ,h,m,SW]
def ϟ(e:cJ R=O (a,(.S w::r)::R2))(h:ax w "end"=af)(m:pV v (.S w::r))(E:cJ R2=O (b,qX::R4))(n:qR [.S "end"] (qX::R4)):gD cJ v ys R=match Ë (À qX) 1 with|J=>O (va v ys a b ((.S w::r).getLast?.getD .N),R4)|af=>none:=by delta gD;simp only[e,sQ,h,m,SW,E];delta fN;rw[UD n];cases Ë _ 1<;>rfl
def ų(e:cJ R=O (a,(.S w::r)::R2))(h:ax w "end"=af)(E:NJ [.S "end"] (cJ R2)=aa):gD cJ v ys R=none:=by cases m:pV v _ with|f=>rwa[ng e h m]|t=>
  delta gD;simp only[e,sQ,h,m,SW];split;.rfl
  .rfl
  .ext qX R4 c;rw[show fN qX=af by delta fN;rw[show ax _ _=af by rw[fZ];exact(oU (Bn E c)).1];rfl]
end
def Z6(o:Lc v ys S)(e:NJ (GN v) (cJ R)=aa):gD cJ v ys R=none:=by
 delta gD;split;.rfl
 .rfl
 .ext a w R2 E;let e:=Bn e E;let s:∀{a b:Ã},ax a b=af->ax b a=false:=(fZ _ _).trans;delta fN pV;cases o with|if1 g=>let(c,d):=oU e;rw[s c,s (oU d).1];rfl|wh g=>rw[s (oU e).1];rfl|wC=>rw[s (oU e).1];cases ax _ _&&Ë _ 1<;>rfl
def uT{ws:ϑ}(z:(!lH (À ws) 1)):Ë (À ws) 1=false:=(kb).symm.trans (dU z)
def uU{ws:ϑ}(z:(!lH (À ws) 1)=af):Ë (À ws) 1=true:=(kb).symm.trans (qo z)
section
variable{ca:Ń->Á}{W:Wd}
seal uY j4 jZ lu gj Ml yA in
def N5(B:LX ca W)(S:SX W)(n d:Ń)(G:DX ca W 60 (2*d+n+8) (Nh n d)):DX ca W 61 (2*d+n+9) (cBk n d):=by erw[B.e (k:=2*d+n+7) 6 af [(60,Nh n d)] [] (.cut (.set 2 (.dix (.dsp (.cons "if" (.lst (.u2 (.s "else") (.s "end"))) (.cons "while" (.lst (.u (.s "end"))) (.cons "try" (.lst (.u (.s "catch"))) .nil)))) (.ix 0 (.i 0)))) (.set 3 (.sG 60 (.u2 1 2))<|>.iff (.AH af 3) (.re (.c .N)) .nil<|>.set 4 (.mt AN 1 (.u (.i 0)))<|>.set 5 (.tup .nil)<|>.iff (.cmp zu (.ix 4 (.i 0)) (.s "end")) (.iff (.cmp zu (.bi d8 (.u 4)) (.b2 cm (.i 1) (.bi N_ (.u (.cmp jA (.ix 4 (.i 0)) (.s "catch")))))) (.re (.c .N)) .nil<|>.set 5 (.sG 60 (.u2 1 (.lst (.u (.s "end")))))<|>.iff (.AH af 5) (.re (.c .N)) .nil<|>.set 0 (.b2 cm 0 (.ife (.cmp jA (.ix 4 (.i 0)) (.s "catch")) (.tup (.u (.ix 4 (.neg (.i 1))))) (.tup .nil)))<|>.one (.set 4 (.mt AN 1 (.u (.i 0))))) .nil<|>.iff (.cmp zu (.bi d8 (.u 4)) (.i 1)) (.re (.c .N)) .nil<|>.iff (.cmp jA (.ix 0 (.i 0)) (.s "while")) (.re (.b2 cm 0 (.tup (.u 3)))) .nil<|>.iff (.cmp jA (.ix 0 (.i 0)) (.s "try")) (.re (.tup (.u4 (.s "try") 3 (.ix 0 (.i 1)) 5))) .nil<|>.re (.b2 cm 0 (.tup (.u2 3 5))))) S.vQ rfl (G,Ť) Ť λds h Q xc c=>?_];cases c with|@mk t R v ys sh _ _ g p o q f=>
 erw[(Ŗ,Ô (λσ h1=>σ=[O (.p (.T (.S v::ys))),O (.r 0),O (.p (.L (GN v))),aa,aa,aa]/\∃t,h1=.D (hJ R)::t) (Õ ?_ ?_))];.generalize hh:Ob.D (hJ R)::t=h;show(match(h++[Ob.C [] []])[À h]? with|O (.C [] [])=>gd J _|_=>ŧ);rw[iz];show gd J _;erw[aB Ŗ ?_];rw[Fi];erw[iL Ŗ ?_];show(match match(h++[Ob.C (gE (fK M_) (fU M_) (fK [],fU [])).1 (gE (fK M_) (fU M_) (fK [],fU [])).2])[À h]? with|O (.C H U)=>O (Prod.mk H U)|_=>aa with|O (Prod.mk H U)=>eZ (jc (.S v) H U) (λp=>_) ŧ|aa=>ŧ);rw[iz,pG (l:=M_) (l':=[]) ∅];show eZ (jc (.S v) (fK ([]++M_)) (fU ([]++M_))) _ ŧ;erw[bW (x:=.L (GN v)) ?_ (Ŗ,_,by rw[<-hh];rfl)];rw[wQ];cases o<;>rfl
 rintro _ _ ⟨rfl,t,rfl⟩;erw[Nh.mk g p (by cases o<;>rfl) (λa R1 I t=>?_) λI h=>f (Z6 o I) h];let(E,F):=wL I;cases R1 with|i=>cases o<;>rwa[Ă F ∅]|k ws R2=>
 let g1:LR n (ws::R2):=g.kq (sr E).kq;let(w,r,rfl):=qp (g1.g _ ao);let g2:=g1.tl;let two:ax w "end"=af->wt (.S w::r)=0->pV v (.S w::r)->∀(t:Hs)(C:Dv->Hs->ß),(∀b X j t,(∃w3 r3,X=.S w3::r3)->gD cJ v ys R=(match Ë (À X) 1 with|J=>O (va v ys a b ((.S w::r).getLast?.getD .N),j)|af=>aa)->C (.p (.T b)) (.D (hJ (X::j))::t))->(∀h,Q (.p .N) h->C (.p .N) h)->Nh n d [.r 0,.p (.L [.S "end"])] (.D (hJ R2)::t) C xc:=λhw w0 m t C K N=>by let pb:=((Bp E).trans (Ev.one (ws:=.S w::r) (R:=R2))).pb p;rw[w0,show(d:Î)-(0+0)=d by lia]at pb;erw[Nh.mk g2 pb Ŗ (λb R3 M t=>?_) λM h=>N h (f (ų E hw M) h)];let(y,A):=wL M;cases R3 with|i=>rwa[Ă A ∅]|k X j=>rwa[K b X j t (qp ((g2.kq (sr y).kq).g _ ao)) (ϟ E hw m y A)]
 erw[aB Ŗ (oz Ŗ (fP Ŗ (bE (λc=>?_) λc=>?_)))]
 .let c:ax w "end"=false:=dU c
  cases o with|@if1 x P=>
   rcases(bF _ _).mp (show(ax "else" w||(ax "end" w||af))=J from F)with z|z
   .cases aI.mp z;erw[eg (fP Ŗ (bE (λz=>f (ng E c ?_) _) λz=>?_))];.delta pV;rw[uT z,lJ,lJ];rfl
    .let Y:r=[]:=bQ.mp (by let:=aP (uU z);rw[aq]at this;lia);subst Y;erw[two c (CU (.inl (aI.mpr Ŗ))) ∅ _ _ (λb X j t Z e=>?_) λh N=>N];rwa[fP Ŗ (aB Ŗ (oz Ŗ (eg (bE (λz=>f (by rw[e,uT z]) _) λz=>iL Ŗ (iL Ŗ (q _ _ (by rw[e,uU z];rfl) _))))))]
   .let e:w="end":=UD z;rw[e]at c;cases c|wh P=>let e:w="end":=UD F;rw[e]at c;cases c|wC=>
   cases aI.mp ((gq (ax "catch" w)).symm.trans F);erw[eg (fP Ŗ (bE (λz=>f (ng E c ?_) _) λz=>?_))];.delta pV;rw[show Ë (À (Pv.S "catch"::r)) 2=af from(kb (k:=2)).symm.trans (dU z),lJ,lJ];rfl
   .obtain⟨x,Y⟩:∃x,r=[x]:=List.length_eq_one_iff.mp (by let:=aP (kb (k:=2).symm.trans (qo z));rw[aq]at this;lia);subst Y;erw[two c (CU (.inr (aI.mpr Ŗ))) (show(ax ("try":Ã) "if"&&(ax ("catch":Ã) "else"&&Ë 2 1)||ax ("try":Ã) "try"&&(ax ("catch":Ã) "catch"&&Ë 2 2))=J by ext) _ _ (λb X j t Z e=>?_) λh N=>N];rwa[fP Ŗ (fP Ŗ (aB Ŗ (oz Ŗ (eg (bE (λz=>f (by rw[e,uT z]) _) λz=>iL Ŗ (iL Ŗ (iL Ŗ (q _ _ (by rw[e,uU z];rfl) _))))))))]
 .cases aI.mp (qo c);cases o with|@if1 x P=>let e:=MR (v:="if") (ys:=[x]) E ∅;rwa[eg (bE (λz=>f (by rw[e,show Ë (À r+1) 1=af from uT z]) _) λz=>iL Ŗ (iL Ŗ (q _ _ (by rw[e,show Ë (À r+1) 1=J from uU z];rfl) _)))]|@wh x P=>let e:=MR (v:="while") (ys:=[x]) E ∅;rwa[eg (bE (λz=>f (by rw[e,show Ë (À r+1) 1=af from uT z]) _) λz=>iL Ŗ (q _ _ (by rw[e,show Ë (À r+1) 1=J from uU z];rfl) _))]|wC=>done
theorem KE(B:LX ca W)(S:SX W)(n:Ń):∀d,DX ca W 60 (2*d+n+8) (Nh n d)|0=>Ji B S n 0 (Dt.no S.vQ)|d+1=>Ji B S n _ ((N5 B S n d (KE B S n d)).le ())
def GZ(w:Ã):ϑ->Ő Pv:=match ax w "list"with|J=>wx|af=>match ax w "box"with|J=>zH|af=>yC
def Vb(w:Ã):Þ:=ax w "box"||(ax w "list"||ax w "own")
def ji(w:Ã)(f:ϑ)(R:cM):Ő (ϑ×cM):=match dD w (GZ w) R with|O (x,r)=>O (f++x,r)|aa=>aa
inductive Ll(n:Ń):Ct|mk{t:Hs}{R:cM}{w:Ã}{Q:Dv->Hs->ß}{xc:XP}(g:LR n R)(hw:Vb w)(q:∀xs R',dD w (GZ w) R=O (xs,R')->∀t,Q (.p (.T xs)) (.D (hJ R')::t))(q':dD w (GZ w) R=aa->∀h,Q (.p .N) h):Ll n [.r 0,.p (.S w)] (.D (hJ R)::t) Q xc
inductive HJ(n:Ń)(w:Ã)(T:Ő (ϑ×cM))(m:Ń):Es->Hs->ß|mk(fd:ϑ)(R:cM)(v3 v4:Ő Dv)(t:Hs)(e:T=ji w fd R)(g:LR n R)(hf:À fd+À R<=100000)(hm:m=À R):HJ n w T m [O (.r 0),O (.p (.S w)),O (.p (.T fd)),v3,v4] (.D (hJ R)::t)
theorem Kh:∀{r:ϑ},vP ((r.map Dv.p).map λd=>.p (kG (ui d)))=O (r.map kG)|[]=>Ŗ|x::r=>by show(match vP _ with|O X=>O _|aa=>aa)=_;rw[Kh];rfl
def O_{s:ϑ}(h:s.all qI):fT (s.map kG)/\uQ .N (s.map kG)=!s.all iB/\(s.all iB=J->s.map kG=s.map kL):=by induction s with|i=>exact(Ŗ,Ŗ,λ_=>Ŗ)|k x s i=>
  let(H,a):=ag h;let(b,c,d):=i a;let k:∀x,qI x=J->sU (kG x)/\uQ .N [kG x]=!iB x/\(iB x=J->kG x=kL x):=λx f=>U3 f λz g=>by
   let G:iB (.S z)=gI z:=by show(gW _&&gI z)=_;rw[(ag g).1];rfl
   let E:kG (.S z)=match gI z with|J=>kL _|af=>.N:=Ŗ;rw[G,E];cases j:gI z with|f=>exact(Ŗ,Ŗ,λz=>by cases z)|t=>
    let(m,l):=bN.mp (T2 g j);let o:kL (.S z)=.I m:=by show(match Ú z with|O n=>Pv.I n|aa=>.N)=_;rw[l]
    rw[o];exact(Ŗ,Ŗ,λ_=>Ŗ)
  let(K,p,q):=k x H;erw[(?_,?_,λhn=>?_)];.show(sU _&&fT _)=J;rw[K,b];rfl
  .let e:uQ .N ((x::s).map kG)=(uQ .N [kG x]||uQ .N (s.map kG)):=by show(_||uQ _ _)=(_||af||uQ _ _);rw[gq]
   rw[e,p,c,bC,Bool.not_and]
  .let(r,t):=ag hn;rw[bV,bV,q r,d t]
def L3(v:Ã)(n:ϑ):ß:=(v="box"/\∃u,n=[u])\/v="list"\/v="own"/\n=[]
def hdX(v:Ã)(x:Pv)(n:ϑ):Pv:=match ax v "list"with|J=>.T [x,.T n]|af=>match n with|[]=>x|y::_=>.T [x,y]
seal uY j4 jZ lu gj Ml yA in
def adP(B:LX ca W)(S:SX W)(n:Ń):DX ca W 63 4 (Ll n):=by erw[B.e (k:=2) 5 af [(35,Dd qI kG)] [] (.set 2 (.tup .nil)<|>.whG (.bo (Wm.ac (.cmp TV 0 (.lst .nil)) (Wm.a1 (.cmp jA (.ix (.ix 0 (.i 0)) (.i 0)) 1)))) (.set 3 (.mt AN 0 (.u (.i 0)))<|>.cut (.iff (.bo (Wm.oc (.cmp TR (.bi d8 (.u 3)) (.i 2)) (Wm.oc (.bo (Wm.ac (.cmp jA 1 (.s "own")) (Wm.a1 (.cmp zu (.bi d8 (.u 3)) (.i 2))))) (Wm.o1 (.bo (Wm.ac (.cmp jA 1 (.s "box")) (Wm.a1 (.cmp zu (.bi d8 (.u 3)) (.i 3))))))))) (.re (.c .N)) .nil) (.setG 4 1 [] 0 (.p (.s (.sl 3 (.of (.i 2)) .no))) .no (.cl 35 [] (.u 0)) J<|>.iff (.cmp TN (.c .N) 4) (.re (.c .N)) .nil<|>.one (.iff (.cmp jA 1 (.s "list")) (.one (.set 2 (.b2 cm 2 (.tup (.u (.tup (.u2 (.ix 3 (.i 1)) (.bi uM (.u 4))))))))) (.one (.iff (.cmp jA 1 (.s "box")) (.one (.set 2 (.b2 cm 2 (.tup (.u (.tup (.u2 (.ix 3 (.i 1)) (.ix 4 (.i 0))))))))) (.one (.set 2 (.b2 cm 2 (.tup (.u (.ix 3 (.i 1))))))))))))<|>.re 2) S.E2 rfl ((Yy B S).le (),Ť) Ť λds h Q xc c=>?_];cases c with|@mk t R w _ _ g X q q'=>
 erw[(Ŗ,Ô (HJ n w (dD w (GZ w) R)) (Õ (À R,?_) λm σ' C f=>?_))];.rwa[HJ.mk [] R aa aa t (by delta ji;cases dD w (GZ w) R<;>rfl) g (by let:=g.l;show 0+_<=_;lia) rfl]
 .cases f with|mk F M P E t e g hf hm=>let fin:dD w (GZ w) M=O ([],M)->Q (.p (.T F)) (.D (hJ M)::t):=λeb=>q F M (by rw[e];simp only[ji,eb,aQ]) t;cases M with|i=>rwa[mw Ŗ (fin Ŗ)]|k ws R2=>
  let(v,r,rfl):=qp (g.g _ ao);erw[mw Ŗ (fu Ŗ Ŗ (fP Ŗ (bE (λa=>?_) λa=>fin ?_)))]
  .let a:ax v w=true:=a;let gw:r.all qI=true:=by let K:∀x,Zd n x=J->(De x).tail.all qI=true:=λx h=>û h λw r _ gr _ _=>gr;rwa[K _ (g.g _ ao)]
   erw[aB Ŗ (oz Ŗ ?_)];let hv:=aI.mp a;subst hv;let g2:=g.tl;rw[aq]at hf hm;let Z:dD v (GZ v) ((.S v::r)::R2)=match GZ v (.S v::r)with|aa=>aa|O x=>match dD v (GZ v) R2 with|aa=>aa|O (xs,R')=>O (x::xs,R'):=by simp only[dD];rw[show kX (Pv.S v::r)=v from Ŗ,a]<;>rfl
   let no:GZ v (.S v::r)=aa->∀h,Q (.p .N) h:=λz=>q' (by rw[e];simp only[ji,Z,z]);let Y:∀x,GZ v (.S v::r)=O x->∀P E t,∃m',m'<m/\HJ n v (dD v (GZ v) R) m' [O (.r 0),O (.p (.S v)),O (.p (.T (F++[x]))),P,E] (.D (hJ R2)::t):=λx G P E t=>(À R2,(),.mk (F++[x]) R2 P E t (by rw[e];simp only[ji,Z,G];cases dD v (GZ v) R2<;>simp) g2 (by rw[ah];show(À F)+1+_<=_;lia) rfl);let I:jL (À F+1)=true:=dI (ay (show(À F)+1<=100001 by lia) ∅);erw[Ô (λσ C=>∃x o E,r=x::o/\L3 v o/\σ=[O (.r 0),O (.p (.S v)),O (.p (.T F)),O (.p (.L (.S v::x::o))),E]/\C=.D (hJ R2)::t) (Õ ?_ ?_)];.cases r with|i=>erw[eg (no ?_ _)];delta GZ;cases ax v "list"<;>cases ax v "box"<;>rfl|k x o=>
     erw[eg ?_];delta Vb at X;rcases(bF _ _).mp X with z|z
     .cases aI.mp z;erw[eg (bE (λz=>no ?_ _) λz=>(x,o,_,Ŗ,?_,Ŗ,Ŗ))];.rcases o with _|⟨a,_|⟨b,o⟩⟩<;>first|rfl|cases z
      .rcases o with _|⟨a,_|⟨b,o⟩⟩<;>first|rwa[.inl (Ŗ,a,Ŗ)]|cases z
     rcases(bF _ _).mp z with z|z;.cases aI.mp z;exact(x,o,_,Ŗ,.inr (.inl Ŗ),Ŗ,Ŗ)
     .cases aI.mp z;erw[eg (bE (λz=>no ?_ _) λz=>(x,o,_,Ŗ,?_,Ŗ,Ŗ))];.cases o<;>first|rfl|cases z
      .cases o<;>first|rwa[.inr (.inr (Ŗ,Ŗ))]|cases z
   rintro _ _ ⟨x,o,E,rfl,ok,rfl,rfl⟩;let gn:o.all qI=true:=(ag (show(qI x&&o.all qI)=J from gw)).2;let K:∀y,Zd n y=J->À (De y)<=100000:=λy h=>û h λw r _ _ lr _=>lr;let U:jL (À (o.map Dv.p))=true:=by let:À o+1+1<=100000:=K _ (g.g _ ao);rw[ai];rwa[dI (ay (show(À o)<=100000 by lia) ∅)]
   let(f1,f2,f3):=O_ gn;erw[qg (o.map .p) (λpre A C=>A=pre.map (λd=>.p (kG (ui d)))/\C=.D (hJ R2)::t) U (Ŗ,Ŗ) (λpre A C j=>Ŗ) (λpre y post A C e1 j=>?_) λA C j=>?_];.let(rfl,rfl):=j;let(z,H,rfl):=bf.mp (show y∈o.map .p by rw[e1];simp);rwa[aB (aG.mp gn z H) (by rw[aR];rfl,Ŗ)]
   .let(rfl,rfl):=j;show(match vP ((o.map Dv.p).map λd=>.p (kG (ui d)))with|O xs=>_|aa=>ŧ);rw[Kh];let G:GZ v (.S v::x::o)=match o.all iB with|J=>O (hdX v x (o.map kG))|af=>none:=by cases H:o.all iB with
     |f=>
      rcases ok with ⟨rfl,u,rfl⟩|rfl|⟨rfl,rfl⟩;.show(match iB u with|J=>_|af=>aa)=aa;rw[show iB u=af by rw[<-H];exact(iM _).symm]
      .show(match o.all iB with|J=>_|af=>aa)=aa;rw[H]
      .cases H|t=>
      rw[f3 H];rcases ok with ⟨rfl,u,rfl⟩|rfl|⟨rfl,rfl⟩;.show(match iB u with|J=>_|af=>aa)=_;rw[(ag (show(iB u&&J)=J from H)).1];rfl
      .show(match o.all iB with|J=>_|af=>aa)=_;rw[H];rfl
      .rfl
    erw[aB (by show(J&&fT (o.map kG))=J;rw[f1];rfl) (bE (λz=>no ?_ _) λz=>?_)];.let z:uQ .N (o.map kG)=true:=z;rw[f2]at z;rw[G,dU z]
    .let z:uQ .N (o.map kG)=false:=z;rw[f2]at z;let z:o.all iB=true:=by simpa using z
     rw[z]at G;rcases ok with ⟨rfl,u,rfl⟩|rfl|⟨rfl,rfl⟩;.rwa[fP Ŗ (fP Ŗ (aB I (Y _ G _ _ _)))]
     .rwa[fP Ŗ (qw (aB I (Y _ G _ _ _)))]
     .rwa[fP Ŗ (aB I (Y _ G _ _ _))]
  .let a:ax v w=false:=a;rw[dD,show kX _=v from Ŗ,a]
def fL(t:Ã):cM:=(du t).map De
def yI(t:Ã):rL (fL t)=du t:=by
 delta rL fL;rw[cq];let:∀x∈du t,(Pv.L ∘ De) x=x:=λx h=>by let(z,_,rfl):=bf.mp (eP.mp h).1;rfl
 rw[A8 this];rwa[kQ _]
def Xn(t:Ã):hJ (fL t)=(du t).map .p:=by rw[<-yI];delta hJ rL;rw[cq];rfl
def eqH:("#":Ã)=⟨#[35]⟩:=rfl
inductive T8:Ct|mk{t:Ã}{Q:Dv->Hs->ß}{xc:XP}(ht:t.length<=900000)(q:Q (.r 0) [.D (hJ (fL t))]):T8 [.p (.S t)] [] Q xc
def adV(B:LX ca W)(S:SX W):DX ca W 62 2 T8:=by erw[B.e (k:=0) 2 af [] [] (.setC 1 1 [] (.one 0) (.s (.mt Hm 0 (.u (.s "\n")))) .no (.N0 1 [] (.one 0) (.s (.mt Hm 0 (.u (.s " ")))) (.one (.cmp zu 0 (.s ""))) 0)<|>.re (.Je 1 [] 0 (.p (.s 1)) (.one (.bo (Wm.ac (.cmp zu 0 (.lst .nil)) (Wm.a1 (.cmp zu (.ix (.ix 0 (.i 0)) (.i 0)) (.s "#")))))) 0 af)) S.E5 rfl Ť Ť λds h Q X c=>?_];cases c with|@mk t Q _ g q=>
 erw[(Ŗ,aB (lF Ŗ g) ?_)];let l:∀z∈Ø t "\n",z.length<=900000:=λz b=>ay (uq b) g;erw[iY (λy=>.L (dA (dN y))) Ŗ (λy d=>?_) ?_]
 .let(w,f,rfl):=bf.mp d;erw[λR q=>aB (lF Ŗ (l w f)) (sH yt id Ŗ (λy d=>?_) ?_)];.let(w,_,rfl):=bf.mp d;exact(λR q=>q,λ_ R q=>q)
  .rw[kQ];rwa[q]
 .rw[cq];erw[qg (((Ø t "\n").map λz=>Pv.L (dA z)).map Dv.p) (λpre A H=>H=[]/\A=((pre.map ui).filter g9).map .p) ?_ (Ŗ,Ŗ) (λpre A H j=>Ŗ) (λpre y post A H E j=>?_) λA H j=>?_];.rw[ai,ai];let:=xv t "\n";rwa[mH (ay this (by show _<=1000000;lia))]
  .let(rfl,rfl):=j;let(p,o,rfl):=bf.mp (show y∈((Ø t "\n").map λz=>Pv.L (dA z)).map Dv.p by rw[E];simp);let(z,b,rfl):=bf.mp o;clear E;let no:g9 (.L (dA z))=af->([]:Hs)=[]/\((pre.map ui).filter g9).map Dv.p=(((pre++[Dv.p (.L (dA z))]).map ui).filter g9).map Dv.p:=λe=>by rw[aR,ij,show([Dv.p (.L (dA z))].map ui).filter g9=[]from gQ (by show ¬g9 (.L (dA z))=J;rw[e];rwa[aD]),aQ];exact(Ŗ,Ŗ)
   let Y:g9 (.L (dA z))->([]:Hs)=[]/\((pre.map ui).filter g9).map Dv.p++[.p (.L (dA z))]=(((pre++[Dv.p (.L (dA z))]).map ui).filter g9).map Dv.p:=λe=>by rw[aR,ij,show([Dv.p (.L (dA z))].map ui).filter g9=[.L (dA z)]from gR e,aR];exact(Ŗ,Ŗ)
   let st:∀x∈dA z,∃w,x=Pv.S w/\w.length<=900000/\yt (.S w)=true:=λx v=>by let(C,D):=eP.mp v;let(w,f,rfl):=bf.mp C;exact(w,Ŗ,ay (uq f) (l z b),D)
   revert no Y st;cases dA z with|i=>rwa[λno _ _=>no Ŗ]|k x F=>
    intro no Y st;let(w,rfl,G,nw):=st x ao;obtain⟨c,r,m⟩:∃c r,w.cps.toList=c::r:=by
     cases e:w.cps.toList with|i=>
      let:w="":=by rw[show w=⟨w.cps⟩ from Ŗ,show w.cps=#[]from K7.mp e];rfl
      rw[this]at nw;rwa[Ă nw ∅]|k c r=>exact(c,r,Ŗ)
    let n:g9 (.L (.S w::F))=!ax ⟨#[c]⟩ "#":=by show(!Txt.startswith w "#")=_;rw[eqH,Kz m]
    erw[aB (dI (ay G ∅)) (bW (by rw[m];rfl) (bE (λa=>Y ?_) λa=>no ?_))];.rw[n];rwa[a]
    .rw[n];rwa[a]
  .let(rfl,rfl):=j;let I:(((Ø t "\n").map λz=>Pv.L (dA z)).map Dv.p).map ui=(Ø t "\n").map λz=>Pv.L (dA z):=by rw[cq];rwa[kQ _]
   rw[I];rw[Xn]at q;rwa[q]
def BY(H:∀ws,ax (kX ws) w=J->wt ws=0):∀{R:cM}{xs:ϑ}{R':cM},dD w f R=O (xs,R')->Ev 0 R R':=by intro R;induction R with|i=>intro xs R' e;cases e;exact([],Ŗ,Ŗ)|k ws R i=>
  intro xs R' e;delta dD at e;split at e;.cases e;exact([],Ŗ,Ŗ)
  .ext h;split at e;.cases e
   .split at e;.cases e
    .ext E;cases e;let h2:=Ev.one (ws:=ws).trans (i E);rw[H ws h]at h2;rwa[h2]
def ύ(h:ax (kX ws) "box"=J):wt ws=0:=by delta wt;rw[aI.mp h];decide+kernel
def Yl(h:ax (kX ws) "list"=J):wt ws=0:=by delta wt;rw[aI.mp h];decide+kernel
def Si(h:ax (kX ws) "own"=J):wt ws=0:=by delta wt;rw[aI.mp h];decide+kernel
def Sf(h:ax (kX ws) "def"=J):wt ws=1:=by delta wt;rw[aI.mp h];decide+kernel
def Jl{R:cM}(h:À R<n)(H:À R<m):nX n ws R=nX m ws R:=by
 delta nX;split;.cases e:dD _ _ R with|n=>rfl|s p=>let(os,r):=p;let:=(pQ e).kq.len;show(match cg n r with|O (rows,w::R2)=>_|_=>aa)=match cg m r with|O (rows,w::R2)=>_|_=>aa;rw[pz (m:=m) () ()]
 .rfl
def Jo:∀{k:Ń}{n m j:Ń}{R:cM},À R<n->À R<m->À R<k->À R<j->d9 n k R=d9 m j R:=by intro k;induction k with|z=>intro n m j R _ _ h;rwa[Ă h (fX _)]|v k i=>intro n m j R H a b c;cases j with|z=>left|v j=>cases R with|i=>rfl|k w R=>rw[aq]at*;delta d9;rw[Jl (m:=m) () ()];cases ax _ _ with|f=>rfl|t=>show(match nX m w R with|aa=>aa|O (x,r)=>match d9 n k r with|aa=>aa|O (X,R2)=>O _)=match nX m w R with|aa=>aa|O (x,r)=>match d9 m j r with|aa=>aa|O (X,R2)=>O _;cases e:nX m w R with|n=>rfl|s p=>let(x,r):=p;let:=(pH e).2;show(match d9 n k r with|aa=>aa|O (X,R2)=>O _)=_;rw[i (m:=m) (j:=j) () () () ()]
def wb(ws:ϑ)(R:cM):Ő (Pv×cM):=nX (À R+1) ws R
def la(R:cM):Ő (ϑ×cM):=d9 (À R+1) (À R+1) R
def km(R:cM):Ő (ϑ×ϑ×ϑ×ϑ):=u6 (À R+1) R
def Jn{v nm:Pv}{ps:ϑ}{R:cM}:wb (v::nm::ps) R=match dD "own" yC R with|aa=>aa|O (os,r)=>match cJ r with
   |O (rows,w::R2)=>match fN w with|J=>O (.T [nm,.T ps,.T os,.T rows],R2)|af=>aa
   |_=>aa:=by delta wb nX;cases e:dD _ _ R with
 |n=>rfl
 |s p=>let(os,r):=p;let:=(pQ e).kq.len;show(match cg _ r with
   |O (rows,w::R2)=>match fN w with|J=>O _|af=>aa
   |_=>aa)=match cJ r with
   |O (rows,w::R2)=>match fN w with|J=>O (Prod.mk (Pv.T _) R2)|af=>aa
   |_=>aa;rw[show cg _ r=cJ r from pz () ()]
def Az{ws:ϑ}{R:cM}:la (ws::R)=match ax (kX ws) "def"with|af=>O ([],ws::R)|J=>match wb ws R with|aa=>aa|O (x,r)=>match la r with|aa=>aa|O (xs,R2)=>O (x::xs,R2):=by show(match ax _ "def"with|af=>O _|J=>match nX (À R+1+1) ws R with|aa=>aa|O (x,r)=>match d9 (À R+1+1) (À R+1) r with|aa=>aa|O (xs,R2)=>O _)=_;rw[show nX _ ws R=wb ws R from Jl () ()];cases ax _ _ with|f=>rfl|t=>show(match wb ws R with|aa=>aa|O (x,r)=>match d9 _ _ r with|aa=>aa|O (xs,R2)=>O _)=match wb ws R with|aa=>aa|O (x,r)=>match la r with|aa=>aa|O (xs,R2)=>O _;cases e:wb ws R with|n=>rfl|s p=>let(x,r):=p;let:=(pH e).2;show(match d9 _ _ r with|aa=>aa|O (xs,R2)=>O _)=_;rw[show d9 _ _ r=la r from Jo () () () ()]
def A_(h:ax (kX ws) "def"=J)(e:wb ws R=O (x,R1)):Ev 0 (ws::R) R1:=by
 delta wb nX at e;split at e
 .ext v n p;split at e;.cases e
  .ext os R2 E;split at e
   .ext rows w r a;split at e;.ext H;cases e;let:=((Ev.one (ws:=v::n::p).trans (BY (λ_=>Si) E)).trans (Bp a)).trans Ev.one;rw[Sf h,IC H]at this;rwa[this]
    .cases e
   .cases e
 .cases e
def Qh{R:cM}:km R=match dD "box" zH R with|aa=>aa|O (b,c)=>match dD "list" wx c with|aa=>aa|O (l,R2)=>match la R2 with|aa=>aa|O (f,a)=>match cJ a with|O (r,[])=>O (b,l,f,r)|_=>aa:=by delta km u6;cases e:dD "box" _ R with|n=>rfl|s p=>let(b,c):=p;let h1:=(pQ e).kq.len;show(match dD _ _ c with|aa=>aa|O (l,R2)=>match d9 _ _ R2 with|aa=>aa|O (f,a)=>match cg _ a with|O (r,[])=>O _|_=>aa)=match dD _ _ c with|aa=>aa|O (l,R2)=>match la R2 with|aa=>aa|O (f,a)=>match cJ a with|O (r,[])=>O _|_=>aa;cases e:dD _ _ c with|n=>rfl|s p=>let(l,R2):=p;let h2:=(pQ e).kq.len;show(match d9 _ _ R2 with|aa=>aa|O (f,a)=>match cg _ a with|O (r,[])=>O _|_=>aa)=match la R2 with|aa=>aa|O (f,a)=>match cJ a with|O (r,[])=>O _|_=>aa;rw[show d9 _ _ R2=la R2 from Jo () () () ()];cases e:la R2 with|n=>rfl|s p=>
 let(f,a):=p;let h3:=by
  let K:∀k(R:cM)x d,d9 (À R2+1) k R=O (x,d)->À d<=À R:=by intro k;induction k with|z=>intro R x d e;cases e|v k i=>intro R x d e;cases R with|i=>cases e;rwa[au _]|k w R=>
     delta d9 at e;split at e;.left
     .split at e;.cases e
      .ext E;split at e;.cases e
       .ext g;let:=i _ _ _ g;let:=(pH E).2;rw[aq];lia
  rwa[K _ _ _ _ e]
 show(match cg _ a with|O (r,[])=>O _|_=>aa)=match cJ a with|O (r,[])=>O _|_=>aa;rw[show cg _ a=cJ a from pz () ()]
def Qf(R:cM):Pv:=match km R with|O (b,l,f,r)=>.T [.T b,.T l,.T f,.T r]|aa=>.N
def HB(b l fs:ϑ)(R:cM):Pv:=match la R with|aa=>.N|O (f,a)=>match cJ a with|O (r,[])=>.T [.T b,.T l,.T (fs++f),.T r]|_=>.N
inductive T5(n d:Ń):Ct|mk{t:Ã}{Q:Dv->Hs->ß}{xc:XP}(ht:t.length<=900000)(g:LR n (fL t))(p:PB d (fL t))(q:∀h,Q (.p (Qf (fL t))) h):T5 n d [.p (.S t)] [] Q xc
def PB.mono(h:PB a R)(k:a<=c):PB c R:=λA B e=>Int.le_trans (h A B e) k
inductive PtJ(n d:Ń)(t:Ã)(b l:ϑ)(T:Pv)(m:Ń):Es->Hs->ß|mk(fs:ϑ)(R:cM)(v5 v6 v7:Ő Dv)(h:Hs)(e:T=HB b l fs R)(g:LR n R)(p:PB d R)(hf:À fs+À R<=100000)(hm:m=À R):PtJ n d t b l T m [O (.p (.S t)),O (.r 0),O (.p (.T b)),O (.p (.T l)),O (.p (.T fs)),v5,v6,v7] (.D (hJ R)::h)
seal uY j4 jZ lu gj Ml yA in
def adT(B:LX ca W)(S:SX W)(n d:Ń):DX ca W 64 (2*d+n+9) (T5 n d):=by erw[B.e (k:=2*d+n+7) 8 af [(62,T8),(63,Ll n),(60,Nh n d)] [] (.set 1 (.sG 62 (.u 0))<|>.set 2 (.sG 63 (.u2 1 (.s "box")))<|>.set 3 (.c .N)<|>.iff (.AH J 2) (.one (.set 3 (.sG 63 (.u2 1 (.s "list"))))) .nil<|>.iff (.AH af 3) (.re (.c .N)) .nil<|>.set 4 (.tup .nil)<|>.whG (.bo (Wm.ac (.cmp TV 1 (.lst .nil)) (Wm.a1 (.cmp jA (.ix (.ix 1 (.i 0)) (.i 0)) (.s "def"))))) (.set 5 (.mt AN 1 (.u (.i 0)))<|>.set 6 (.sG 63 (.u2 1 (.s "own")))<|>.set 7 (.c .N)<|>.iff (.bo (Wm.ac (.cmp IU (.bi d8 (.u 5)) (.i 1)) (Wm.a1 (.AH J 6)))) (.one (.set 7 (.sG 60 (.u2 1 (.lst (.u (.s "end"))))))) .nil<|>.iff (.bo (Wm.oc (.AH af 7) (Wm.o1 (.cmp zu (.bi d8 (.u (.mt AN 1 (.u (.i 0))))) (.i 1))))) (.re (.c .N)) .nil<|>.one (.set 4 (.b2 cm 4 (.tup (.u (.tup (.u4 (.ix 5 (.i 1)) (.bi uM (.u (.sl 5 (.of (.i 2)) .no))) 6 7)))))))<|>.set 7 (.sG 60 (.u2 1 (.lst (.u (.s "")))))<|>.iff (.AH af 7) (.re (.c .N)) .nil<|>.re (.tup (.u4 2 3 4 7))) S.E4 rfl ((adV B S).le (),(adP B S n).le (),KE B S n d,Ť) Ť λds h Q xc c=>?_];cases c with|@mk t _ _ H g p q=>
 erw[(Ŗ,T8.mk H ?_)];let K:=Qh (R:=fL t);let G:∀h,km (fL t)=aa->Q (.p .N) h:=λh e=>by let:=q h;delta Qf at this;rw[e]at this;rwa[this]
 erw[Ll.mk g ∅ (λb A E t1=>?_) λE h=>G h ?_]
 .let E:dD "box" zH (fL t)=O (b,A):=E;let h1:=pQ E;let v1:=BY (λ_=>ύ) E;erw[Ll.mk (R:=A) (g.kq h1.kq) ∅ (λl R2 C t2=>?_) λC h=>G h ?_]
  .let C:dD "list" wx A=O (l,R2):=C;let h2:=pQ C;let v2:=v1.trans (BY (λ_=>Yl) C);let pp:Qf (fL t)=HB b l [] R2:=by delta Qf HB;simp only[K,E,C];cases la R2 with|n=>rfl|s p=>simp only;cases cJ p.2 with|n=>rfl|s q=>obtain⟨r,_|⟨_,_⟩⟩:=q<;>rfl
   rw[pp]at q;let p2:=v2.pb p;rw[show(d:Î)-(0+0)=d by lia]at p2;let g2:=(g.kq h1.kq).kq h2.kq;clear K G E C h1 h2 v1 v2 pp p g;erw[Ô (PtJ n d t b l (HB b l [] R2)) (Õ (À R2,?_) λm σ' h' j=>?_)];.rwa[PtJ.mk [] R2 aa aa aa _ rfl g2 p2 (by rw[eO];let:=g2.l;lia) rfl]
   .cases j with|mk fs R v5 v6 v7 h e g p hf hm=>
    rw[e]at q;let fin:la R=O ([],R)->Xs (Rf 7 (Rc (Nh n d) (qU (sV 1) (qU (sN Wj (qU (sC (Pv.S "")) CB)) CB)))) (Xs (oe (s1 (P2 af) (sV 7)) (Xr (sC Pv.N)) lv) (Xr (sN Wk (qU (sV 2) (qU (sV 3) (qU (sV 4) (qU (sV 7) CB))))))) (hU af 0 Q xc) [O (.p (.S t)),O (.r 0),O (.p (.T b)),O (.p (.T l)),O (.p (.T fs)),v5,v6,v7] (.D (hJ R)::h):=λed=>by
     simp only[HB,ed,aQ]at q;erw[Nh.mk g p Ŗ (λX U f t'=>?_) λf h=>?_]
     .let(f,o):=wL f;rcases(sr f).stop with h|⟨ws,R2,rfl,H⟩;.subst h;simp only[f]at q;rwa[q _]
      .let o:(ax "" (kX ws)||af)=true:=o;rw[gq]at o;let H:(ax (kX ws) "else"||(ax (kX ws) "catch"||ax (kX ws) "end"))=true:=H;rw[<-aI.mp o]at H;rwa[Ă H ∅]
     .cases y:cJ R with|n=>simp only[y]at q;rwa[q _]|s z=>let(X,U):=z;let o:=Bn f y;simp only[y]at q;cases U with|i=>rwa[Ă o ∅]|k ws R2=>rwa[q _]
    cases R with|i=>rwa[mw Ŗ (fin Ŗ)]|k ws R=>
    let(v,r,rfl):=qp (g.g _ ao);erw[mw Ŗ (fu Ŗ Ŗ (fP Ŗ (bE (λa=>?_) λa=>fin ?_)))]
    .let a:ax v "def"=true:=a;let I:=Ev.one (ws:=.S v::r) (R:=R);rw[Sf (ws:=.S v::r) a]at I;let Y:la ((.S v::r)::R)=match wb (.S v::r) R with|aa=>aa|O (x,A)=>match la A with|aa=>aa|O (X,R2)=>O (x::X,R2):=by rw[Az,show ax (kX (.S v::r)) "def"=J from a]<;>rfl
     let G:∀h,wb (.S v::r) R=aa->Q (.p .N) h:=λh e=>by let:=q h;simp only[HB,Y,e]at this;rwa[this]
     let g1:=g.tl;erw[aB Ŗ (oz Ŗ (Ll.mk (R:=R) g1 ∅ (λos A E t1=>?_) λE h=>?_))];.let E:dD "own" yC R=O (os,A):=E;let h1:=pQ E;let v1:=I.trans (BY (λ_=>Si) E);cases r with|i=>rwa[eg (G _ Ŗ)]|k L P=>
      let F:wb (.S v::L::P) R=_:=Jn;simp only[E]at F;let pb:=(v1.pb p).mono (c:=d) ();erw[eg (Nh.mk (R:=A) (g1.kq h1.kq) pb rfl (λrows R2 f t2=>?_) λf h=>G _ ?_)];.let(f,o):=wL f;simp only[f]at F;cases R2 with|i=>rwa[Ă o ∅]|k M R2=>
       let g2:=(g1.kq h1.kq).kq (sr f).kq;let(w,s,rfl):=qp (g2.g _ ao);cases show w="end"from UD o;simp only[sQ,aI.mpr Ŗ,CV]at F;erw[aB Ŗ (oz Ŗ (eg (bE (λc=>G _ ?_) λc=>?_)))];.rw[F,show Ë (À s+1) 1=af from uT c]
       .rw[show Ë (À s+1) 1=J from uU c]at F;rw[aq]at hf;let hl:=(pH F).2;let Z:=(A_ (ws:=.S v::L::P) a F).pb p;rw[show(d:Î)-0=d by lia]at Z;erw[fP Ŗ (qw (aB (mH (ay (show(À fs)+1<=100000 by lia) ∅)) (À R2,by rw[hm,aq];lia,?_)))];erw[PtJ.mk _ R2 _ _ _ _ ?_ g2.tl Z (by rw[ah];show(À fs)+1+_<=_;lia) rfl];rw[e];simp only[HB,Y,F];cases la R2<;>simp<;>rfl
      .rw[F];cases y:cJ A with|n=>rfl|s z=>let(rows,R2):=z;let o:=Bn f y;cases R2 with|i=>rfl|k M R2=>simp only;rw[show fN M=af by delta fN;rw[show ax (kX M) "end"=af from(fZ _ _).trans (oU o).1];rfl]
     .let E:dD "own" yC R=none:=E;cases r with|i=>rwa[eg (G _ Ŗ)]|k L P=>rwa[eg (G _ (by rw[Jn,E]))]
    .rw[Az,show ax (kX (.S v::r)) _=af from a]
  .let C:dD _ wx A=none:=C;simp only[K,E,C]
 .let E:dD _ zH _=none:=E;simp only[K,E]
end
end W2
namespace FJ
open L2
seal L2.PE L2.PS L2.ph L2.PT L2.PW L2.PA L2.PG L2.Tp L2.PI L2.PO L2.qH L2.PC L2.jz L2.dW L2.Ah L2.IG L2.Ld L2.Ys
def top(i:Ń):È:=PySem.Challenge.pw_retrace_k12_whole_other_texts.main.body.getD i (.Pass (0,0,0,0))
def sz0:0<=Â:=⋯
def PM:4<=Â:=∅
def sz9:9<=Â:=∅
def W'{B:ß}(h:c=af)(x:B):if c=J then A else B:=nofun
structure Tc(mg:b1):ß where
 dF:mg "isinstance"=aa
 oN:mg "ValueError"=aa
structure One(K:Æ)(R C:Á)(Cs:Ł Á)(bs:Ł Þ):ß where
 exc:Lb K C
 at_:Du K C
 cl:(clsIn K C).isSome=J
 sub:subIn K (.ref C) (.ref R)=O J
 kv:kitOne K (.ref C) (.type "ValueError")=O J
 is:Paired (λD b=>kitOne K (.ref C) (.ref D)=O b) Cs bs
structure ZM(K:Æ)(mg:b1)(R C1 C2 C3 C4 C5 C6 C7 C8 C9:Á):ß where
 m0:mg "RunError"=O (.ref R)m1:mg "NoProgram"=O (.ref C1)m2:mg "NoRow"=O (.ref C2)m3:mg "TooLong"=O (.ref C3)m4:mg "NoWorld"=O (.ref C4)m5:mg "NoText"=O (.ref C5)m6:mg "NoStep"=O (.ref C6)m7:mg "NoCell"=O (.ref C7)m8:mg "NoDoor"=O (.ref C8)m9:mg "NoWord"=O (.ref C9)hit:ZP K R
 o1:One K R C1 [C1,C2,C3,C4,C5,C6,C7,C8,C9] [J,af,af,af,af,af,af,af,af]o2:One K R C2 [C1,C2,C3,C4,C5,C6,C7,C8,C9] [af,J,af,af,af,af,af,af,af]o3:One K R C3 [C1,C2,C3,C4,C5,C6,C7,C8,C9] [af,af,J,af,af,af,af,af,af]o5:One K R C5 [C1,C2,C3,C4,C5,C6,C7,C8,C9] [af,af,af,af,J,af,af,af,af]
def zI:b' "ValueError"=O (.type "ValueError"):=rfl
section
variable{P:bn}{w:a9}{K:Æ}{mg:b1}{base:É}{R pB Bu uF As xG DL DJ DK DM:Á}
def tQ:dR ["_law_e","_law_found","_law_kind"] ["_law_e"] (aU (top 104)):=(Ŗ,Ŗ,Ŗ,∅,Ŗ,∅,∅)
def xk(c b d e:Á):Á->Á->Sp:=λa C v H Q _=>v=[.A a]/\((C=c/\∀h,jF H h->Q (.S "program") h)\/(C=b/\∀h,jF H h->Q (.S "row") h)\/(C=d/\∀h,jF H h->Q (.S "long") h)\/C=e/\∀h,jF H h->Q (.S "text") h)
inductive Wh:Þ->Þ->Þ->Þ->Ã->ß|a:Wh J af af af "program"|b:Wh af J af af "row"|c:Wh af af J af "long"|d:Wh af af af J "text"
def JN(e:H f=aa)(s0:jF H d)(v:d f=O (.L (cs.map V.B)))(r:d t=O (.T (bs.map V.B)))(n:t≠f)(y:À bs+À cs<=100){D:Ò}(h:∀(X:Ő V)(H':Hp),jF H H'->H' f=O (.L ((cs++bs).map V.B))->D.nx [O (.A a),O (.A f),X] H'):∃W:Ń->Ń->Ç->Hp->ß,(∃m,W 0 m [O (.A a),O (.A f),k] d)/\∀i m σ H,W i m σ H->(Sv K t).stop i H/\D.nx σ H\/(Sv K t).go i H/\∃N:Ç->Hp->ß,(∀σ' H',N σ' H'->∃M,M<m/\W (i+1) M σ' H')/\∀x H',(Sv K t).yld i H x H'->oQ 2 x σ H' λg s=>Zq (sv K "list" Cw (Il 1) (Fp (Il 2) CM)) {D with nx:=N,ct:=N,bk:=D.nx} g s:=by
 erw[UW (λi σ H'=>∃X,σ=[O _,O _,X]/\jF H H'/\H' f=O (.L ((cs++bs.take i).map V.B))/\H' t=O _) (k,Ŗ,s0,nofun,r) (λi σ H' _ q=>by let(_,_,_,_,q):=q;rwa[fS.of q]) ?_ ?_];.rintro i x σ H' j ⟨X,rfl,s1,l,u⟩;rw[bP]at j;cases p:bs[i]? with|n=>left|s b=>
   rw[p]at j;cases j;erw[(_,Ŗ,.inl (Ŗ,_,ie.of l),_,Ŗ,f,_,_,Ŗ,Ŗ,l,?_,?_)];.rw[ai,ah,bX];rwa[Dl (show _<=100 by omega) ∅]
   .erw[(_,Ŗ,λz o c=>?_,?_,?_)];.rw[bJ (bZ c e)];rwa[s1 _ _ c]
    .rw[bA,List.take_add_one,p,<-aN,aR (l₁:=cs++bs.take i)];rfl
    .rw[bJ n];rwa[u]
 .rintro σ H' ⟨X,rfl,s1,l,_⟩;rw[ai,gT]at l;rwa[h X H' s1 l]
def ĸ{R:Á->Þ->ß}(h:Paired R [a1,a,A,b,c,d,e,f,g] [B,b2,i,j,k,l,m,n,b9]):R a1 B/\R a b2/\R A i/\R b j/\R c k/\R d l/\R e m/\R f n/\R g b9:=by cases h with|k r h=>cases h with|k o h=>cases h with|k p h=>cases h with|k q h=>cases h with|k s h=>cases h with|k t h=>cases h with|k u h=>cases h with|k v h=>cases h with|k x h=>done
unseal L2.PE in def VB(d:Hd X a C)(F:Du X.K C)(e:(clsIn X.K C).isSome)(z:X.mg "isinstance"=aa)(f:PE X e0 (Il 0))(g:Gl X "isinstance"/\Gl X x/\cA e0/\(x==("__debug__":Ã))=af)(m:X.mg x=O (.ref D))(k:kitOne X.K (.ref C) (.ref D)=O b):PE X (.Call (.Name "isinstance" p) [e0,.Name x q] [] pos) λσ H Q=>σ[0]?=O (O (.A a))/\Q (.B b) H:=λc s σ H Q I h=>J3 (Au d F e) g.1 z mn (o8 f (o8 (oq (v:=.A D) g.2.1 m Ŗ g.2.2.2) fw Ŗ) g.2.2.1) ∅ ∅ (by rw[bC,g.2.2.1];rfl) c s σ H Q I (_,h.1,_,_,_,Ŗ,.inl (_,Ŗ,Ŗ),k,h.2)
def Uo(T:Tc mg)(Z:ZM K mg R pB Bu uF As xG DL DJ DK DM)(S:Src K mg "_law_class" (top 104) ["_law_e"]):Dr P w K mg base 1 "_law_class" ["_law_e"] (xk pB Bu uF xG):=by
 erw[S.okH tQ (λa C vs H Q E h=>?_) λf0 fR A D s H vs Q a C t0 tb0 hr h f=>?_];.let(rfl,_):=h;rfl
 let(rfl,h):=h;let hO:∃(j b2 k l:Þ)(W:Ã),One K R C [pB,Bu,uF,As,xG,DL,DJ,DK,DM] [j,b2,k,af,l,af,af,af,af]/\Wh j b2 k l W/\∀H',jF H H'->Q (.S W) H':=by
  rcases h with ⟨p,q⟩|⟨p,q⟩|⟨p,q⟩|⟨p,q⟩;.exact(_,_,_,_,_,p▸Z.o1,.a,q)
  .exact(_,_,_,_,_,p▸Z.o2,.b,q)
  .exact(_,_,_,_,_,p▸Z.o3,.c,q)
  .exact(_,_,_,_,_,p▸Z.o5,.d,q)
 let(j,b2,k,l,W,e,M,q):=hO;let(k1,k2,k3,k4,k5,k6,k7,k8,k9):=ĸ e.is;let F:=e.at_;let hc:=e.cl;erw[(_,jk (Kg 1 tQ.nd (yF fw)) (jk (Ke f wH (HD (o8 (VB f F hc T.dF (pv 0) (Ŗ,Ŗ,Ŗ,Ŗ) Z.m1 k1) (o8 (VB f F hc T.dF (pv 0) (Ŗ,Ŗ,Ŗ,Ŗ) Z.m2 k2) (o8 (VB f F hc T.dF (pv 0) (Ŗ,Ŗ,Ŗ,Ŗ) Z.m3 k3) (o8 (VB f F hc T.dF (pv 0) (Ŗ,Ŗ,Ŗ,Ŗ) Z.m4 k4) fw))))) (Cq (i:=2) tQ.nd) (g8 (xh (yD cV j9 kf nr (pv 1) (o8 (pv 2) fw))))) (jk (Ke f wH (HD (o8 (VB f F hc T.dF (pv 0) (Ŗ,Ŗ,Ŗ,Ŗ) Z.m5 k5) (o8 (VB f F hc T.dF (pv 0) (Ŗ,Ŗ,Ŗ,Ŗ) Z.m6 k6) (o8 (VB f F hc T.dF (pv 0) (Ŗ,Ŗ,Ŗ,Ŗ) Z.m7 k7) (o8 (VB f F hc T.dF (pv 0) (Ŗ,Ŗ,Ŗ,Ŗ) Z.m8 k8) fw))))) (Cq (i:=2) tQ.nd) (g8 (xh (yD cV j9 kf nr (pv 1) (o8 (pv 2) fw))))) (jk (xh (yD cV j9 kf nr (pv 1) (o8 (VB f F hc T.dF (pv 0) (Ŗ,Ŗ,Ŗ,Ŗ) Z.m9 k9) fw))) (jk (QP (abn (PW.pt (Y6 (QU (QW (J3 (Au f F hc) Ŗ T.dF mn (o8 (pv 0) (o8 (Y4 T.oN zI Ŗ) fw))))) (QZ (xi ŏ (yD cV w1 PySem.F.type_list_count Mg (pv 1) (o8 Ql fw)) rM (PR _)))))) (g8 (oA jj)) Cu) (g8 (oA (tI JK (yF (o8 jj (o8 jj (o8 jj (o8 jj (o8 jj (o8 jj (o8 jj (o8 jj (o8 jj fw)))))))))) (yD cV Y_ PySem.F.type_list_index Mh (pv 1) (o8 Ql fw))))))))),?_)];try dsimp only[cxK]
 erw[(sz0,λfd n=>?_)];let s0:=iR n (.L []);erw[(Ŗ,Ŗ,Ŗ,Ŗ,PM,λt G=>?_)];let N:t≠fd:=λz=>by rw[z,bA]at G;cases G
 erw[(t,Ŗ,(_,fS.of bA),JN (bs:=[j,b2,k,af]) (cs:=[]) n (s0.trans (iR G _)) (by rw[bJ (cj N)];rwa[bA]) bA N (by show 4<=100;decide) λx2 H1 s1 U=>?_)];erw[(Ŗ,Ŗ,Ŗ,Ŗ,PM,λX r=>?_)];let v:X≠fd:=λz=>by rw[z,U]at r;cases r
 erw[(X,Ŗ,(_,fS.of bA),JN (bs:=[l,af,af,af]) (cs:=[j,b2,k,af]) n (s1.trans (iR r _)) (by rw[bJ (cj v)];rwa[U]) bA v (by show 8<=100;decide) λx3 I s2 x=>?_)];erw[(_,Ŗ,.inl (Ŗ,_,ie.of x),Ŗ,fd,_,_,Ŗ,Ŗ,x,by show 8<Â;decide,?_)];let s3:jF H (upd I fd (.L (([j,b2,k,af]++[l,af,af,af]).map V.B++[V.B af]))):=λb o hb=>by rw[bJ (bZ hb n)];rwa[s2 _ _ hb]
 let g:(upd I fd (.L (([j,b2,k,af]++[l,af,af,af]).map V.B++[V.B af]))) fd=O (.L ([j,b2,k,af,l,af,af,af,af].map V.B)):=bA;generalize upd I fd (.L (([j,b2,k,af]++[l,af,af,af]).map V.B++[V.B af]))=H3 at s3 g⊢;erw[(λt H'=>H3=H'/\t=af,(_,Ŗ,_,_,_,Ŗ,.inr (_,Ŗ,Ŗ),e.kv,_,Ŗ,W' Ŗ (_,Ŗ,.inl (Ŗ,_,ie.of g),fd,_,Ŗ,Ŗ,g,Ŗ,_,Ŗ,Ŗ,by cases M<;>decide)),?_)];rintro t H' ⟨rfl,rfl⟩;erw[W' Ŗ ?_];erw[(sz9,λL hL=>?_)];let y:=s3.trans (iR hL (.L [V.S "program",.S "row",.S "long",.S "world",.S "text",.S "step",.S "cell",.S "door",.S "word"]));let Y:(upd H3 L (.L [V.S "program",.S "row",.S "long",.S "world",.S "text",.S "step",.S "cell",.S "door",.S "word"])) fd=O (.L ([j,b2,k,af,l,af,af,af,af].map V.B)):=by rw[bJ (bZ g hL)];rwa[g]
 cases M with
 |a=>exact(_,Ŗ,.inl (Ŗ,_,ie.of Y),fd,_,0,Ŗ,Ŗ,Y,⋯,Ŗ,λm u=>Ă u (fX _),L,_,0,_,Ŗ,Ŗ,ie.of bA,lZ Ŗ,q _ y)|b=>erw[(_,Ŗ,.inl (Ŗ,_,ie.of Y),fd,_,1,Ŗ,Ŗ,Y,⋯,Ŗ,λm u=>?_,L,_,1,_,Ŗ,Ŗ,ie.of bA,lZ Ŗ,q _ y)];match m,u with|0,_=>rfl
 |c=>erw[(_,Ŗ,.inl (Ŗ,_,ie.of Y),fd,_,2,Ŗ,Ŗ,Y,⋯,Ŗ,λm u=>?_,L,_,2,_,Ŗ,Ŗ,ie.of bA,lZ Ŗ,q _ y)];match m,u with|0,_=>rfl|1,_=>rfl
 |d=>erw[(_,Ŗ,.inl (Ŗ,_,ie.of Y),fd,_,4,Ŗ,Ŗ,Y,⋯,Ŗ,λm u=>?_,L,_,4,_,Ŗ,Ŗ,ie.of bA,lZ Ŗ,q _ y)];match m,u with|0,_=>rfl|1,_=>rfl|2,_=>rfl|3,_=>rfl
end
end FJ
namespace W2
open L2 F
def eJ(c:Ń):Pv:=match c with|0=>.S "program"|1=>.S "row"|2=>.S "long"|_=>.S "text"
inductive RC:Ń->ß|a:RC 0|b:RC 1|c:RC 2|d:RC 4
def Qb{B B':ß}(h:eZ o A B)(i:∀x,o=O x->A x->a x)(j:B->B'):eZ o a B':=by cases o with|n=>rwa[j h]|s x=>rwa[i x Ŗ h]
def CQ(h:Ad b l f r=O c):RC c:=by
 delta Ad R0 at h;repeat' split at h
 all_goals first|(cases h;constructor)|done
def uc(b l f r:Pv):Pv:=match Ad b l f r with|O c=>eJ c|aa=>.T [b,l,f,r]
inductive IV:Ct|mk{b l f r:Pv}{Q:Dv->Hs->ß}{xc:XP}(hd:dz (.T [b,l,f,r]))(q:Q (.p (uc b l f r)) []):IV [.p (.T [b,l,f,r])] [] Q xc
inductive TQ:Ct|mk{t:Ã}{o:Ő Rp}{Q:Dv->Hs->ß}{xc:XP}(ht:t.length<=900000)(hg:(du t).all GU)(e:oY s0 (du t) o)(q:Ec o (λx=>Q (.p x) []) λc=>Q (.p (eJ c)) []):TQ [.p (.S t)] [] Q xc
def UE{K:Pv->ß}(h:Ec o K X)(i:∀x,K x->k x)(j:∀c,RC c->X c->X' c):Ec o k X':=by cases o with|n=>rwa[j 4 .d h]|s s=>delta Ec at h⊢;dsimp only at h⊢;cases H:s.ops with|i=>rw[H]at h;let(f,g):=bG h;rwa[aB f (Qb g (λc e h=>j c (CQ e) h) (i _))]|k a b=>rw[H]at h;rwa[j 4 .d h]
def Ri:dR ["_law_text","_law_e"] ["_law_text"] (aU (top 106)):=pL Ŗ
def Rj:dR ["_law_parts_here","_law_e"] ["_law_parts_here"] (aU (top 105)):=pL Ŗ
section
variable{ca:Ń->Á}{W:Wd}{R C3 C6 C7 C8 C9 C10:Á}
def Sa{Q:V->Hp->ß}(f:RC k)(C:Á)(e:C=ca k)(q:∀z,eJ k=.S z->∀h,jF H h->Q (.S z) h):FJ.xk (ca 0) (ca 1) (ca 2) (ca 4) a C [.A a] H Q λ_ _ _=>ŧ:=by subst e;erw[(Ŗ,?_)];cases f with|a=>rwa[.inl (Ŗ,q _ Ŗ)]|b=>rwa[.inr (.inl (Ŗ,q _ Ŗ))]|c=>rwa[.inr (.inr (.inl (Ŗ,q _ Ŗ)))]|d=>rwa[.inr (.inr (.inr (Ŗ,q _ Ŗ)))]
def Jt(Z:FJ.ZM W.K W.mg R (ca 0) (ca 1) (ca 2) C3 (ca 4) C6 C7 C8 C9)(h:RC k):subIn W.K (.ref (ca k)) (.ref R)=O true:=by cases h with|a=>rwa[Z.o1.sub]|b=>rwa[Z.o2.sub]|c=>rwa[Z.o3.sub]|d=>rwa[Z.o5.sub]
seal L2.PE L2.PS L2.ph L2.PT L2.PW L2.PA L2.PG L2.Tp L2.PI L2.PO L2.qH L2.PC L2.jz L2.dW L2.Ah L2.IG L2.Ld L2.Ys in
def Up(Z:FJ.ZM W.K W.mg R (ca 0) (ca 1) (ca 2) C3 (ca 4) C6 C7 C8 C9)(D:DX ca W 36 30 NS)(N:Dr W.P W.w W.K W.mg W.base 30 "_law_class" ["_law_e"] (FJ.xk (ca 0) (ca 1) (ca 2) (ca 4)))(S:SX W):DX ca W 66 31 TQ:=by let(ps,D):=D;erw[(_,S.HN.okX Ri (λT H Q E t=>t.ln λ_ _ _ _ c=>by cases c;rfl) λf fR A u s H T Q E I U=>?_)];let(G,M,h,ds,B,xc,r,i,c,out,X):=U;cases c with|@mk t o _ _ Y hg e q=>
 let(v,rfl,iv):=i.om;let hM:=bQ.mp r.ln;subst hM;erw[(_,g8 (QS (i:=1) uO Ri.nd rfl rfl rfl rfl Z.m0 Z.hit (λpn E1=>g8 (oA (xf D I KO Ŗ (o8 (pv 0) fw)))) λpn a C hh=>g8 (oA (J4 N hh (I.hand a) Ŗ (o8 (pv 1) fw)))),?_)];erw[(λcls _ b=>∃k m,cls=.ref (ca k)/\Ext [] H m b/\bw (((Lx ca).y W).z G) m b []/\RC k/\B (.p (eJ k)) [],?_,?_)]
 .erw[(_,Ŗ,?_)];erw[(G,[],[],[.p _],λd g=>∃x,d=.p x/\g=[]/\B (.p x) [],λk g=>g=[]/\RC k/\B _ [],r,(iv,Ť),.mk Y hg e (UE q (λx h=>(x,Ŗ,Ŗ,h)) λc k h=>(Ŗ,k,h)),?_,?_)];.rintro d g m b v F j i' ⟨x,rfl,rfl,l⟩;rwa[out _ [] m b v F j i' l]
  .rintro k g m b F j ⟨rfl,l⟩;exact(k,m,Ŗ,F,j,l)
 .rintro C od b a' σ' ⟨k,m,e,ex,j,L,l⟩ n;injection e with e;subst e;exact(Jt Z L,_,by rw[cL (by rw[n];rwa[cK 1])],Sa L _ Ŗ λz hz H2 s2=>out _ [] m H2 _ (ex.trans (iu s2)) (lA j s2) (by rfl) (hz▸l))
seal L2.PE L2.PS L2.ph L2.PT L2.PW L2.PA L2.PG L2.Tp L2.PI L2.PO L2.qH L2.PC L2.jz L2.dW L2.Ah L2.IG L2.Ld L2.Ys in
def Tq(h:bh Z M H (x::xs) vs):∃v r,vs=v::r/\eG Z M H x v/\bh Z M H xs r:=by cases vs with|i=>rwa[h.elim]|k v r=>exact(v,r,Ŗ,h)
def ajg(h:bh Z M H [] vs):vs=[]:=by cases vs with|i=>rfl|k v r=>rwa[h.elim]
def s_(Z:FJ.ZM W.K W.mg R (ca 0) (ca 1) (ca 2) C3 (ca 4) C6 C7 C8 C9)(Y:DX ca W 12 29 IW)(Dc:Dr W.P W.w W.K W.mg W.base 29 "_law_class" ["_law_e"] (FJ.xk (ca 0) (ca 1) (ca 2) (ca 4)))(S:SX W):DX ca W 65 30 IV:=by let(ps,Y):=Y;erw[(["_law_parts_here"],S.HK.okX Rj (λvs H Q E t=>t.ln λ_ _ _ _ c=>by cases c;rfl) λf fR A x s H vs Q E T zO=>?_)];let(G,M,h,ds,B,xc,r,i,c,out,exc):=zO;cases c with|@mk b l f U _ _ c1 c=>
 let(v,rfl,iv):=i.om;let(a,ws,rfl,sq,I):=qM iv;let hM:M=[]:=bQ.mp r.ln;subst hM;obtain⟨D,F,L,vr,rfl,ib,il,jf,ir⟩:∃D F L vr,ws=[D,F,L,vr]/\eG (((Lx ca).y W).z G) [] H b D/\eG (((Lx ca).y W).z G) [] H l F/\eG (((Lx ca).y W).z G) [] H f L/\eG (((Lx ca).y W).z G) [] H U vr:=by erw[cps λR k0=>?_];let(_,_,rfl,i1,I):=Tq I;let(_,_,rfl,i2,I):=Tq I;let(_,_,rfl,i3,I):=Tq I;let(_,_,rfl,i4,I):=Tq I;cases ajg I;rwa[k0 (_,_,_,_,Ŗ,i1,i2,i3,i4)]
 erw[(_,g8 (QS (i:=1) (R:=R) uO Rj.nd rfl rfl rfl rfl Z.m0 Z.hit (λpn E1=>g8 (oA (xf Y T KO Ŗ (o8 (tI (show Ah _ (MP W.K)from yk) (pv 0) rM) (o8 (tI (show Ah _ (MP W.K)from yk) (pv 0) rM) (o8 (tI (show Ah _ (MP W.K)from yk) (pv 0) rM) (o8 (tI (show Ah _ (MP W.K)from yk) (pv 0) rM) fw))))))) λpn a C hh=>g8 (oA (J4 Dc hh (T.hand a) Ŗ (o8 (pv 1) fw)))),?_)];erw[(λcls _ g=>∃k m,cls=.ref (ca k)/\Ext [] H m g/\bw (((Lx ca).y W).z G) m g []/\RC k/\B (.p (eJ k)) [],?_,?_)]
 .erw[(_,Ŗ,a,_,0,_,Ŗ,Ŗ,sq,lZ (j:=0) Ŗ,_,Ŗ,a,_,1,_,Ŗ,Ŗ,sq,lZ (j:=1) Ŗ,_,Ŗ,a,_,2,_,Ŗ,Ŗ,sq,lZ (j:=2) Ŗ,_,Ŗ,a,_,3,_,Ŗ,Ŗ,sq,lZ (j:=3) Ŗ,?_)];erw[(G,[],[],[.p b,.p l,.p f,.p U],λd n=>d=.p _/\n=[]/\B d [],λk n=>n=[]/\RC k/\B (.p (eJ k)) [],r,(ib,il,jf,ir,Ť),aB c1 (Cj (λk e=>(Ŗ,CQ e,?_)) λe=>(Ŗ,Ŗ,?_)),?_,?_)];.delta uc at c;rw[e]at c;rwa[c]
  .delta uc at c;rw[e]at c;rwa[c]
  .rintro d n m g v N o i' ⟨rfl,rfl,q⟩;rwa[out _ [] m g v N o i' q]
  .rintro k n m g N o ⟨rfl,q⟩;exact(k,m,Ŗ,N,o,q)
 .rintro C od g a' σ' ⟨k,m,e,ex,o,X,q⟩ u;injection e with e;subst e;exact(Jt Z X,_,by rw[cL (by rw[u];rwa[cK 1])],Sa X _ Ŗ λz hz H2 s2=>out (.p (.S z)) [] m H2 _ (ex.trans (iu s2)) (lA o s2) rfl (hz▸q))
end
def yS:∀{a b:ϑ},bS (a++b)=bS a+bS b:=by intro a;induction a with|i=>intro b;show bS b=0+bS b;lia|k x a i=>intro b;show fC x+bS (a++b)=fC x+bS a+bS b;rw[i];lia
def x6(h:mZ a)(k:mZ b):mZ (a++b)=true:=by induction a with|i=>rwa[k]|k x a i=>let(H,c):=ag h;show(qh x&&mZ (a++b))=J;rw[H,i c];rfl
def bM(h:qh x)(k:mZ a):mZ (x::a)=true:=by show(qh x&&mZ a)=J;rw[h,k];rfl
def kO(h:dC y):qh y=true:=by cases y<;>first|rfl|cases h
def AX:∀{r:ϑ},eK r=J->mZ r=true:=by intro r;induction r with|i=>intro _;rfl|k y r i=>intro h;let(H,a):=ag h;rwa[bM (kO H) (i a)]
def jQ(h:eK (y::r)):eK r=true:=(ag h).2
def mi(h:eK (y::r)):dC y=true:=(ag h).1
def Sd(h:eK r)(e:dQ k r=O (x,r')):qh x/\fC x+bS r'<=bS r/\eK r'=true:=by cases r with|i=>cases e|k y r=>
  let e:(match ax k _ with|J=>nu r _|af=>O _)=O _:=e;let:=mh y;show _/\_<=fC y+bS r/\_;split at e
  .delta nu at e;split at e
   .split at e;.cases e;exact(Ŗ,by show 1+_<=_;lia,jQ h)
    .cases e
   .cases e
  .cases e;exact(kO (mi h),au _,jQ h)
def ag9(H:∀r x r',eK r=J->f r=O (x,r')->qh x/\fC x+2*bS r'<=2*bS r/\eK r'):∀{ks:ϐ}{r r':ϑ}{xs:ϑ},eK r=J->oM f ks r=O (xs,r')->mZ xs/\bS xs+2*bS r'<=2*bS r/\eK r'=true:=by intro ks;induction ks with|i=>intro r r' xs h e;cases e;exact(Ŗ,by show 0+_<=_;lia,h)|k k ks i=>
  intro r r' xs h e;let e:(match match ax k _ with|J=>f r|af=>dQ k r with
   |O (x,R)=>match oM f ks R with|O (xs,g)=>O _|aa=>aa
   |aa=>aa)=O _:=e;split at e
  .ext x R E;let h1:=by
    split at E;.rwa[H _ _ _ h E]
    .let(a,b,c):=Sd h E;exact(a,(),c)
   split at e;.ext d;cases e;let(a,b,c):=i h1.2.2 d;exact(bM h1.1 a,by show fC x+bS _+_<=_;lia,c)
   .cases e
  .cases e
def Zy:∀{n:Ń}{r r':ϑ}{x:Pv},eK r=J->CP n r=O (x,r')->qh x/\fC x+2*bS r'<=2*bS r/\eK r'=true:=by intro n;induction n with|z=>intro r r' x h e;cases e|v n i=>intro r r' x h e;cases r with|i=>cases e|k y r=>
   delta CP at e;split at e
   .split at e;.ext E;cases e;let(a,b,c):=ag9 (λr x r' h e=>i h e) (jQ h) E;let:=mh y;exact(bM (kO (mi h)) a,by show 1+(fC y+bS _)+_<=2*(fC y+bS r);lia,c)
    .cases e
   .cases e
def ab5:∀{n:Ń}{r xs:ϑ},eK r=J->iS n r=O xs->mZ xs/\bS xs<=2*bS r:=by intro n;induction n with
 |z=>intro r xs h e;cases r with|i=>cases e;exact(Ŗ,bu _)|k y r=>cases e
 |v n i=>intro r xs h e;cases r with|i=>cases e;exact(Ŗ,bu _)|k y r=>
   delta iS at e;split at e
   .ext x R E;split at e;.ext d;cases e;let(a,b,c):=Zy h E;let(A,b2):=i c d;exact(bM a A,by show fC x+bS _<=_;lia)
    .cases e
   .cases e
def alL:∀{ks:ϐ}{r r' xs:ϑ},eK r=J->rN ks r=O (xs,r')->mZ xs/\bS xs+2*bS r'<=2*bS r+À ks/\eK r'=true:=by intro ks;induction ks with|i=>intro r r' xs h e;cases e;exact(Ŗ,by show 0+_<=_+0;lia,h)|k k ks i=>
  intro r r' xs h e;delta rN at e;split at e
  .ext x R E;let H:qh x/\fC x+2*bS R<=2*bS r+1/\eK R=true:=by
    delta iD at E;split at E;.let(a,b,c):=Zy h E;exact(a,(),c)
    .split at E
     .split at E;.ext d;cases E;let(a,b):=ab5 h d;exact(a,by show 1+bS _+2*0<=_;lia,Ŗ)
      .done
     .let(a,b,c):=Sd h E;exact(a,(),c)
   split at e;.ext d;cases e;let(a,b,c):=i H.2.2 d;exact(bM H.1 a,by rw[aq];show fC x+bS _+_<=_;lia,c)
   .cases e
  .cases e
def agn(h:eK ws)(e:Aa ws=O x):qh x/\fC x<=2*bS ws+3:=by cases ws with|i=>cases e|k y r=>
  let e:(match lk _ eI with|aa=>aa|O k=>match rN _ r with|O (X,[])=>O _|_=>aa)=O x:=e;split at e;.cases e
  .ext k E;let H:À (kW k)<=3:=ap.mp (og (P:=λp=>Í (À (kW p.2)) 3) Ŗ E);split at e;.ext d;cases e;let(a,b,c):=alL (jQ h) d;let:=mh y;exact(bM (kO (mi h)) a,by show 1+(fC y+bS _)<=2*(fC y+bS r)+3;lia)
   .cases e
def sA(R:cM):ß:=∀w∈R,eK w=J/\2<=bS w
def lz:cM->Ń|[]=>0|w::R=>5*bS w+lz R
def sA.tl{R:cM}(h:sA (ws::R)):sA R:=λw H=>h w (ak _ H)
structure Zr(xs:ϑ)(R R':cM):ß where
 d:mZ xs=J
 z:bS xs+lz R'<=lz R
 a:sA R'
def ads(H:∀R xs R',sA R->f R=O (xs,R')->Zr xs R R')(s:sA R)(h:mZ xs)(e:gD f v xs R=O (x,R')):qh x/\fC x+lz R'<=lz R+(bS xs+1+v.length)/\sA R':=by
 delta gD at e;split at e;.cases e
 .cases e
 .ext a ws R2 E;let h1:=H _ _ _ s E;let Z:bS a+(5*bS ws+lz R2)<=lz R:=h1.z;let(s1,s2):=h1.a ws ao;let D:qh (ws.getLast?.getD .N)/\fC (ws.getLast?.getD .N)<=1+bS ws:=by cases w:ws.getLast? with|n=>exact(Ŗ,by show 1<=1+_;lia)|s y=>let(k,K):=Og (AX s1) (List.mem_of_getLast? w);exact(k,by show fC y<=_;lia)
  split at e
  .cases e;erw[(?_,?_,h1.a.tl)];.delta wA;cases ax v "if"with|t=>rwa[bM Ŗ (x6 h (bM h1.d (bM Ŗ Ŗ)))]|f=>rwa[bM Ŗ (x6 h (bM h1.d Ŗ))]
   .let:fC (wA v xs a)<=1+(1+v.length)+bS xs+(1+bS a)+1:=by delta wA;cases ax v "if"with|t=>show 1+(1+v.length+bS _)<=_;rw[yS];show 1+(1+v.length+(bS xs+(1+bS a+(1+0+0))))<=_;lia|f=>show 1+(1+v.length+bS _)<=_;rw[yS];show 1+(1+v.length+(bS xs+(1+bS a+0)))<=_;lia
    lia
  .split at e;.cases e
   .split at e;.cases e
    .cases e
    .ext b q r c;let h2:=H _ _ _ h1.a.tl c;let i:bS b+(5*bS q+lz r)<=lz R2:=h2.z;split at e
     .cases e;let(g,G):=D;erw[(?_,?_,h2.a.tl)];.delta va;cases ax v "if"with|t=>rwa[bM Ŗ (x6 h (bM h1.d (bM h2.d Ŗ)))]|f=>rwa[bM Ŗ (bM h1.d (bM g (bM h2.d Ŗ)))]
      .let:fC (va v xs a b (ws.getLast?.getD .N))<=1+(1+v.length)+bS xs+(1+bS a)+(1+bS b)+(1+bS ws):=by delta va;cases ax v "if"with|t=>show 1+(1+v.length+bS _)<=_;rw[yS];show 1+(1+v.length+(bS xs+(1+bS a+(1+bS b+0))))<=_;lia|f=>show 1+(1+v.length+(1+bS a+(fC _+(1+bS b+0))))<=_;lia
       lia
     .cases e
def afG(i:∀R xs d,sA R->f R=O (xs,d)->Zr xs R d){R:cM}(h:sA (ws::R))(e:j5 f ws R=O (x,R1)):qh x/\fC x+lz R1<=lz (ws::R)/\sA R1:=by
 delta j5 at e;let(H,g):=h ws ao;split at e
 .ext y Y E;let(d1,Z):=agn H E;let j:∃r,ws=y::r:=by cases ws with|i=>done|k z r=>
    let E:(match lk _ eI with|aa=>aa|O k=>match rN _ r with|O (xs,[])=>O _|_=>aa)=O _:=E;split at E;.done
    .split at E;.grind
     .done
  let(r,rfl):=j;let Z:1+(fC y+bS Y)<=2*(fC y+bS r)+3:=Z;let g:2<=fC y+bS r:=g;let d1:=(ag d1).2;split at e
  .let(a,b,c):=ads i h.tl d1 e;erw[(a,?_,c)];let:fC y=1+(dN y).length:=by cases y<;>first|done|rfl
   show _<=5*(fC y+bS r)+lz R;lia
  .cases e;exact(bM (kO (mi H)) d1,by show 1+(fC y+bS Y)+lz _<=5*(fC y+bS r)+lz _;lia,h.tl)
 .cases e
def NL:∀{n:Ń}{R:cM}{xs:ϑ}{R':cM},sA R->cg n R=O (xs,R')->Zr xs R R':=by intro n;induction n with|z=>intro R xs R' h e;cases e|v n i=>intro R xs R' h e;cases R with|i=>cases e;exact(Ŗ,au _,h)|k w R=>
   delta cg at e;split at e;.cases e;exact(Ŗ,by show 0+_<=_;lia,h)
   .split at e;.cases e
    .ext x r E;let(a,b,c):=afG (λR xs R' h e=>i h e) h E;split at e;.cases e
     .ext y R2 f;cases e;let h2:=i c f;exact(bM a h2.d,by let:=h2.z;show fC x+bS y+_<=_;lia,h2.a)
def OC{f:ϑ->Ő Pv}(c:∀ws x,eK ws=J->2<=bS ws->f ws=O x->qh x/\fC x<=5*bS ws):∀{R:cM}{xs:ϑ}{R':cM},sA R->dD w f R=O (xs,R')->Zr xs R R':=by intro R;induction R with|i=>intro xs R' H e;cases e;exact(Ŗ,au _,H)|k ws R i=>
  intro xs R' H e;delta dD at e;split at e;.cases e;exact(Ŗ,by show 0+_<=_;lia,H)
  .split at e;.cases e
   .ext x E;let(g,j):=H ws ao;let(a,b):=c ws x g j E;split at e;.cases e
    .ext k;cases e;let h:=i H.tl k;exact(bM a h.d,by let:=h.z;show fC x+bS _+_<=5*bS ws+lz R;lia,h.a)
def PY(y:Pv):qh (kL y)/\fC (kL y)=1:=by
 delta kL;split;.done
 .exact(Ŗ,Ŗ)
def adu(h:eK ws)(H:2<=bS ws)(e:zH ws=O x):qh x/\fC x<=5*bS ws:=by
 delta zH at e;split at e
 .ext v x y;split at e;.cases e;let(a,b):=PY y;let:=mh x;exact(bM (kO (mi (jQ h))) (bM a Ŗ),by show 1+(fC x+(fC _+0))<=5*(fC v+(fC x+_));lia)
  .cases e
 .cases e
def ō:∀(ns:ϑ),mZ (ns.map kL)=J/\bS (ns.map kL)<=bS ns:=by intro ns;induction ns with|i=>exact(Ŗ,au _)|k y ns i=>let(a,b):=PY y;let:=mh y;exact(bM a i.1,by show fC _+bS _<=fC y+bS ns;lia)
def aag(h:eK ws)(H:2<=bS ws)(e:wx ws=O x):qh x/\fC x<=5*bS ws:=by
 delta wx at e;split at e
 .ext v x n;split at e;.cases e;let(a,b):=ō n;let:=mh x;exact(bM (kO (mi (jQ h))) (bM a Ŗ),by show 1+(fC x+(1+bS _+0))<=5*(fC v+(fC x+bS n));lia)
  .cases e
 .cases e
def ϛ(h:eK ws)(H:2<=bS ws)(e:yC ws=O x):qh x/\fC x<=5*bS ws:=by
 delta yC at e;split at e;.ext v x;cases e;exact(kO (mi (jQ h)),by show fC _<=5*(fC v+(fC _+0));lia)
 .cases e
def adY{R:cM}(h:sA (ws::R))(e:nX n ws R=O (x,R1)):qh x/\fC x+lz R1<=lz (ws::R)/\sA R1:=by
 let(H,f):=h ws ao;delta nX at e;split at e
 .ext v N p;split at e;.cases e
  .ext os R2 E;let Z:=OC (λws x=>ϛ) h.tl E;split at e
   .ext rows w r c;let b:=NL Z.a c;split at e;.cases e;let hn:=jQ H;let y:=Z.z;let Y:bS _+(5*bS w+lz R1)<=lz R2:=b.z;let:=mh N;erw[(bM (kO (mi hn)) (bM (AX (jQ hn)) (bM Z.d (bM b.d Ŗ))),?_,b.a.tl)];show 1+(fC N+(1+bS p+(1+bS os+(1+bS _+0))))+lz R1<=5*(fC v+(fC N+bS p))+lz R;lia
    .cases e
   .cases e
 .cases e
def B_:∀{k:Ń}{R:cM}{xs:ϑ}{R':cM},sA R->d9 n k R=O (xs,R')->Zr xs R R':=by intro k;induction k with|z=>intro R xs R' h e;cases e|v k i=>intro R xs R' h e;cases R with|i=>cases e;exact(Ŗ,au _,h)|k w R=>
   delta d9 at e;split at e;.cases e;exact(Ŗ,by show 0+_<=_;lia,h)
   .split at e;.cases e
    .ext x r E;let(a,b,c):=adY h E;split at e;.cases e
     .ext y R2 f;cases e;let h2:=i c f;exact(bM a h2.d,by let:=h2.z;show fC x+bS y+_<=_;lia,h2.a)
def WB(H:sA R)(e:km R=O (b,l,f,r)):qh (.T [.T b,.T l,.T f,.T r])/\fC (.T [.T b,.T l,.T f,.T r])<=lz R+5:=by
 delta km u6 at e;split at e;.cases e
 .ext B m E;let Z:=OC (λw x=>adu) H E;split at e;.cases e
  .ext L R2 i;let c:=OC (λw x=>aag) Z.a i;split at e;.cases e
   .ext F R3 j;let g:=B_ c.a j;split at e;.ext n k;let h:=NL g.a k;cases e;let y:=Z.z;let Y:=c.z;let o:=g.z;let p:bS r+0<=lz R3:=h.z;erw[(bM Z.d (bM c.d (bM g.d (bM h.d Ŗ))),?_)];show 1+(1+bS b+(1+bS l+(1+bS f+(1+bS r+0))))<=_;lia
    .cases e
def iE(c:Ń):Ϙ->Ł Ϙ|[]=>[[]]|x::r=>match Ë x c with|J=>[]::iE c r|af=>match iE c r with|[]=>[[x]]|p::P=>(x::p)::P
def hZ(l:Ϙ):Ã:=⟨l.toArray⟩
def vS:iE c (c::r)=[]::iE c r:=by show(match Ë c c with|J=>[]::iE c r|af=>_)=_;rw[f9 c]
def tU{c x:Ń}{r:Ϙ}(h:Ë x c=af):iE c (x::r)=match iE c r with|[]=>[[x]]|p::ps=>(x::p)::ps:=by show(match Ë x c with|J=>_|af=>_)=_;rw[h]
def tR(c:Ń)(v:Ϙ):∀(u:Ϙ),∃A p q B,iE c u=A++[p]/\iE c v=q::B/\iE c (u++v)=A++(p++q)::B:=by
 let H:∀v,∃q B,iE c v=q::B:=by intro v;cases v with|i=>exact([],[],Ŗ)|k x r=>delta iE;cases Ë x c with|t=>exact(_,_,Ŗ)|f=>cases iE c r<;>exact(_,_,Ŗ)
 intro u;induction u with|i=>let(q,B,e):=H v;exact([],[],q,B,Ŗ,e,e)|k x u i=>let(A,p,q,B,b,E,d):=i;cases h:Ë x c with|t=>let:=jx.mp h;subst this;exact([]::A,p,q,B,by rw[vS,b];rfl,E,by rw[mP,vS,d];rfl)|f=>rw[mP,tU h,tU h,b,d];cases A with|i=>exact([],_,q,B,Ŗ,E,Ŗ)|k a A=>exact((x::a)::A,p,q,B,Ŗ,E,Ŗ)
def vd:iE c l ≠[]:=by let(A,p,_,_,e,_,_):=tR c [] l;rw[e];simp
def tT:∀{l p:Ϙ},p∈iE c l->c∉p:=by intro l;induction l with|i=>intro p h;rw[aL.mp h];simp|k x r i=>intro p h;cases a:Ë x c with
  |t=>
   let:=jx.mp a;subst this;rw[vS]at h;rcases aJ.mp h with h|h;.left
   .rwa[i h]|f=>rw[tU a]at h;cases e:iE c r with|i=>rwa[Ă e vd]|k q P=>
    rw[e]at h i;rcases aJ.mp h with h|h
    .rw[h];intro H;rcases aJ.mp H with H|H;.exactλe=>by left H
     .rwa[i ao H]
    .rwa[i (ak _ h)]
def qr:∀{l:Ϙ},À (iE c l)=l.count c+1:=by intro l;induction l with|i=>rfl|k x r i=>cases h:Ë x c with|t=>let:=jx.mp h;subst this;rw[vS,aq,i,List.count_cons_self]|f=>rw[tU h,List.count_cons_of_ne λe=>nofun,<-i];cases e:iE c r with|i=>rwa[Ă e vd]|k q p=>rfl
def j6:Ł Ϙ->Ń|[]=>0|p::P=>À p+1+j6 P
def kN:∀{l:Ϙ},j6 (iE c l)=À l+1:=by intro l;induction l with|i=>rfl|k x r i=>cases h:Ë x c with|t=>let:=jx.mp h;subst this;rw[vS];show 0+1+j6 _=_;rw[i,aq];lia|f=>rw[tU h,aq,<-i];cases e:iE c r with|i=>rwa[Ă e vd]|k q p=>show(À q+1)+1+_=À q+1+_+1;lia
def oh(l:Ϙ):(hZ l).cps.toList=l:=rfl
def Pb(c:Ń)(x:Ã):(Ñ ⟨#[c]⟩ [x]).cps.toList=x.cps.toList:=rfl
def Fj:∀{l:Ϙ},(Ñ ⟨#[c]⟩ ((iE c l).map hZ)).cps.toList=l:=by intro l;induction l with|i=>rfl|k x r i=>cases e:iE c r with|i=>rwa[Ă e vd]|k q P=>rw[e]at i;cases h:Ë x c with|t=>let:=jx.mp h;subst this;rw[vS,e];show(Ñ _ (hZ []::hZ q::P.map hZ)).cps.toList=_;rw[gG];show[]++x::(Ñ _ ((q::P).map hZ)).cps.toList=_;rw[i];rfl|f=>rw[tU h,e];cases P with|i=>rw[<-i];rfl|k p P=>let i:(Ñ _ (hZ q::hZ p::P.map hZ)).cps.toList=r:=i;show(Ñ _ (hZ _::hZ p::P.map hZ)).cps.toList=_;rw[gG]at i⊢;rw[<-i];rfl
def Ef{L:Ł _}(h:∀p∈L,c∉p):∀x∈L.map hZ,c∉x.cps.toList:=λx H=>by let(p,a,rfl):=bf.mp H;rwa[h p a]
def kY(c:Ń)(t:Ã):Ø t ⟨#[c]⟩=(iE c t.cps.toList).map hZ:=by let h:=yU (as:=(iE c t.cps.toList).map hZ) (by intro h;rwa[vd (X_.mp h)]) (Ef λp H=>tT H);rw[xm Fj]at h;rwa[h]
def Rr(hn:L ≠[])(H:∀p∈L,c∉p):iE c (Ñ ⟨#[c]⟩ (L.map hZ)).cps.toList=L:=by let h:=yU (by intro h;rwa[hn (X_.mp h)]) (Ef H);rw[kY]at h;let:=cY (List.map λx:Ã=>x.cps.toList) h;rw[cq,cq]at this;let i:(λx:Ã=>x.cps.toList)∘ hZ=id:=Ŗ;rw[i,kQ,kQ]at this;rwa[this]
def vk(d:Î):Ł Î->ß|[]=>0<=d|w::L=>0<=d/\vk (d-w) L
def zm(d:Î):Ł Î->ß|[]=>0<=d|w::L=>vk d (w::L)/\zm d L
def vk.pos(h:vk d L):0<=d:=by cases L with|i=>rwa[h]|k w L=>rwa[h.1]
def zm.px(h:zm d L):vk d L:=by cases L with|i=>rwa[h]|k w L=>rwa[h.1]
def vk.mono:∀{L:Ł Î}{d e:Î},vk d L->d<=e->vk e L:=by intro L;induction L with|i=>intro d e h k;let h:0<=d:=h;show 0<=e;lia|k w L i=>intro d e h k;exact(by let:=h.1;lia,i h.2 ())
theorem zm.mono:∀{L:Ł Î}{d e:Î},zm d L->d<=e->zm e L:=by intro L;induction L with|i=>intro d e h k;let h:0<=d:=h;show 0<=e;lia|k w L i=>intro d e h k;exact(h.1.mono k,i h.2 k)
def vk.app:∀{A B:Ł Î}{a b:Î},vk a A->vk b B->vk (a+b) (A++B):=by intro A;induction A with|i=>intro B a b h k;let h:0<=a:=h;rwa[k.mono ()]|k w A i=>intro B a b h k;let:=h.1;let:=k.pos;erw[((),?_)];rw[show a+b-w=a-w+b by lia];rwa[i h.2 k]
theorem zm.app:∀{A B:Ł Î}{a b:Î},zm a A->zm b B->zm (a+b) (A++B):=by intro A;induction A with|i=>intro B a b h k;let h:0<=a:=h;rwa[k.mono ()]|k w A i=>intro B a b h k;exact(h.1.app k.px,i h.2 k)
def vk.left:∀{A B:Ł Î}{d:Î},vk d (A++B)->vk d A:=by intro A;induction A with|i=>intro B d h;rwa[h.pos]|k w A i=>intro B d h;exact(h.1,i h.2)
theorem zm.left:∀{A B:Ł Î}{d:Î},zm d (A++B)->zm d A:=by intro A;induction A with|i=>intro B d h;rwa[h.px.pos]|k w A i=>intro B d h;exact(vk.left h.1,i h.2)
def zm.right:∀{A B:Ł Î}{d:Î},zm d (A++B)->zm d B:=by intro A;induction A with|i=>intro B d h;rwa[h]|k w A i=>intro B d h;rwa[i h.2]
def vk.len:∀{L:Ł Î},(∀w∈L,w<=1)->vk (À L) L:=by intro L;induction L with|i=>intro _;rwa[rS _]|k w L i=>intro h;let:=h w ao;rw[aq];exact((),(i λx H=>h x (ak _ H)).mono ())
theorem zm.len:∀{L:Ł Î},(∀w∈L,w<=1)->zm (À L) L:=by intro L;induction L with|i=>intro _;rwa[rS _]|k w L i=>intro h;exact(vk.len h,(i λx H=>h x (ak _ H)).mono (by rw[aq];lia))
def wl(z:Ã):Î:=match g9 (.L (dA z))with|J=>wt (dA z)|af=>0
def SV(z:Ϙ):Î:=wl (hZ z)
def ϥ(ws:ϑ):wt ws<=1:=by delta wt;cases zS _||ax _ _ with|t=>rwa[rS _]|f=>cases ax _ _<;>decide
def aha(z:Ã):wl z<=1:=by delta wl;cases g9 _ with|t=>rwa[ϥ _]|f=>simp
def Ŏ{L:Ł _}:∀w∈L.map SV,w<=1:=λw h=>by let(z,_,rfl):=bf.mp h;rwa[aha _]
structure xD(n N:Ń)(d:Î)(t:Ã):ß where
 l:t.length<=N
 b:∀z∈iE 10 t.cps.toList,z.count 32<=n
 m:∀z∈iE 10 t.cps.toList,À z<=8*n
 s:zm d ((iE 10 t.cps.toList).map SV)
def UH:("\n":Ã)=⟨#[10]⟩:=rfl
def UG:(" ":Ã)=⟨#[32]⟩:=rfl
def lD(L:Ł Ϙ):cM:=((L.map λz=>Pv.L (dA (hZ z))).filter g9).map De
def EF(t:Ã):fL t=lD (iE 10 t.cps.toList):=by delta fL du lD;rw[UH,kY,cq];rfl
def Xe:∀{L:Ł _}{d:Î},vk d (L.map SV)->vk d ((lD L).map wt):=by intro L;induction L with|i=>intro d h;rwa[h]|k z L i=>
  intro d h;obtain⟨a,h2⟩:0<=d/\vk _ _:=h;let h2:=i h2
  delta lD;rw[bV,mQ];cases b:g9 _ with|t=>
   let H:SV z=wt (dA (hZ z)):=by delta SV wl;rw[b]
   show 0<=d/\vk (d-wt (dA _)) _;rw[<-H];exact(a,h2)|f=>
   let H:SV z=0:=by delta SV wl;rw[b]
   rw[H,show d-0=d by lia]at h2;rwa[h2]
def af5:∀{R:cM}{d:Î},vk d (R.map wt)->PB d R:=by intro R d h A;induction A generalizing R d with|i=>intro B e;rwa[h.pos]|k w A i=>intro B e;rw[e]at h;obtain⟨a,H⟩:0<=d/\vk _ _:=h;let:=i H B Ŗ;show wt w+vg A<=d;lia
def xD.pb(h:xD n N d t):PB d (fL t):=by rw[EF];rwa[af5 (Xe h.s.px)]
def C_(h:pJ (.S ⟨#[c]⟩)):48<=c/\c<=57:=by
 let h:(! Đ ([c]<[48])&&! Đ ([57]<[c]))=true:=h;let(H,a):=ag h;let H:¬[c]<[48]:=λz=>by rw[bR z]at H;cases H
 let a:¬[57]<[c]:=λz=>by rw[bR z]at a;cases a
 constructor;.rwa[Nat.le_of_not_lt λz=>H (List.Lex.rel z)]
 .rwa[Nat.le_of_not_lt λz=>a (List.Lex.rel z)]
def P1(hn:1<=z.length)(h:gI z):(Ú z).isSome=true:=by
 let(H,_):=ag h;let(a,b):=oU (dU H);let b:(lE z).all pJ=true:=()
 rw[PySem.intText_digits (λc d=>C_ (aG.mp b _ (bf.mpr (c,d,Ŗ)))) λe=>by
  let:À z.cps.toList=0:=by rw[e];rfl
  rw[aX]at this;let hn:1<=z.cps.size:=hn;lia (by
  let:¬(6:Î)<z.length:=λk=>by rw[dE.mpr k]at a;cases a
  lia)];rfl
def U_(H:1<=z.length)(a:z.length<=1000000):qI (.S z)=true:=by show(Í _ _&&(!gI z||(Ú z).isSome)&&Í 1 z.length)=J;rw[ap.mpr H,ap.mpr a];cases h:gI z with|f=>rfl|t=>rw[P1 H h];rfl
def aar(h:yt (.S z)):1<=z.length:=by
 cases e:z.cps.toList with
  |i=>
  let:z="":=by rw[show z=⟨_⟩ from Ŗ,K7.mp e];rfl
  rw[this]at h;rwa[Ă h ∅]|k c r=>show 1<=z.cps.size;rw[<-aX,e,aq];lia
def Se(z:Ϙ):eK (dA (hZ z))/\bS (dA (hZ z))<=À z+1/\À (dA (hZ z))<=z.count 32+1/\∀x∈dA (hZ z),∃w,x=Pv.S w/\1<=w.length/\w.length<=À z:=by
 let e:dA (hZ z)=(((iE 32 z).map hZ).map Pv.S).filter yt:=by delta dA;rw[UG,kY];rfl
 rw[e,<-kN,<-qr];let m:∀p∈iE 32 z,À p<=À z:=by
  let k:∀(L:Ł _)p,p∈L->À p+1<=j6 L:=by intro L;induction L with|i=>ext|k q L i=>
    intro p h;show _<=À q+1+j6 L;rcases aJ.mp h with h|h;.left
    .let:=i p h;lia
  intro p H;let:=k _ p H;rw[kN]at this;lia
 erw[(aG.mpr λx a=>by let(w,_,rfl):=bf.mp (eP.mp a).1;rfl,?_,?_,?_)];.generalize iE 32 z=L;induction L with|i=>rwa[au _]|k p L i=>rw[bV,bV,mQ];show _<=À p+1+j6 L;cases yt _ with|t=>show 1+(hZ p).length+bS _<=_;let:(hZ p).length=À p:=Ŗ;lia|f=>rw[dh aD];lia
 .erw[ay (Tv ..) ?_];rw[ai,ai];rwa[au _]
 .intro x a;let(b,c):=eP.mp a;let(w,d,rfl):=bf.mp b;let(p,H,rfl):=bf.mp d;exact(_,Ŗ,aar c,m p H)
def Kl(h:ws∈lD L):∃z∈L,ws=dA (hZ z)/\g9 (.L ws)=true:=by let(x,H,rfl):=bf.mp h;let(a,b):=eP.mp H;let(z,c,rfl):=bf.mp a;exact(z,c,Ŗ,b)
def V5:∀(L:Ł _),lz (lD L)<=5*j6 L/\(sA (lD L)->10*À (lD L)<=lz (lD L)):=by
 intro L;constructor;.induction L with|i=>rwa[au _]|k z L i=>delta lD;rw[bV,mQ];show _<=5*(À z+1+j6 L);cases g9 _ with|t=>let:=(Se z).2.1;show 5*bS (dA _)+lz (lD L)<=_;lia|f=>show lz (lD L)<=_;lia
 .generalize lD L=R;induction R with|i=>intro _;rwa[au _]|k w R i=>intro h;let h1:=(h w ao).2;let:=i h.tl;rw[aq];show _<=5*bS w+lz R;lia
def Xp(L:Ł _):sA (lD L):=λW h=>by let(z,c,rfl,H):=Kl h;let(a,d,f,b):=Se z;erw[(a,?_)];cases e:dA _ with|i=>rw[e]at H;cases H|k x r=>let(w,rfl,k,_):=b x (by rw[e];rwa[ao]);show 2<=1+w.length+bS r;lia
theorem xD.all(h:xD n N d t)(u:N<=180000)(hn:n<=90000):LR (n+1) (fL t)/\À (fL t)+1<100000/\sA (fL t)/\lz (fL t)<=900005/\(du t).all GU/\∀ws∈fL t,gL ws:=by
 let hl:=h.l;rw[<-yI,EF];let hs:=Xp (iE 10 t.cps.toList);let(Z,y):=V5 (iE 10 t.cps.toList);rw[kN]at Z;let e:À t.cps.toList=t.length:=aX;let m:∀z∈iE 10 t.cps.toList,À z<=180000:=by
  let k:∀(L:Ł _)p,p∈L->À p+1<=j6 L:=by intro L;induction L with|i=>ext|k q L I=>
    intro p h;show _<=À q+1+j6 L;rcases aJ.mp h with h|h;.rw[h];lia
    .let:=I p h;lia
  intro p j;let:=k _ p j;rw[kN]at this;lia
 let row:∀ws∈lD _,∃v r,ws=.S v::r/\ws.all qI/\À ws<=n+1:=λws H=>by
  let(z,c,rfl,f):=Kl H;let(A,B,o,i):=Se z;let hm:=m z c;let s:=h.b z c;let hg:=aG.mpr λx a=>by let(w,rfl,K,C):=i x a;rwa[U_ K ()]
  cases e:dA _ with|i=>rw[e]at f;cases f|k x r=>let(w,rfl,_,_):=i x (by rw[e];rwa[ao]);rw[e]at hg o;exact(w,r,Ŗ,hg,())
 erw[((λws H=>?_,()),(),hs,(),aG.mpr λx a=>?_,λws H=>?_)];.let(v,r,rfl,g,l):=row ws H;show((Pv.S v::r).all qI&&(Í _ _&&Í _ _))=J;rw[g,ap.mpr (show(À (Pv.S v::r))<=100000 by lia),ap.mpr (show zy _<=n+1 from ay List.countP_le_length l)];rfl
 .let(ws,H,rfl):=bf.mp a;let(v,r,rfl,g,l):=row ws H;show((Pv.S v::r).all gW&&Í _ zp)=J;rw[da (λ_ h=>(ag h).1) g,ap.mpr (ay l (by show n+1<=1000000;lia))];rfl
 .let(v,r,rfl,g,l):=row ws H;rw[aq]at l;exact(v,r,Ŗ,jQ (hs _ H).1,())
def xJ(h:xD n N d t)(a:iE 10 t.cps.toList=A++r)(c:iE 10 t.cps.toList=r'++B)(g:À M<=2)(f:∀z∈M,z.count 32<=2*n+2/\À z<=16*n+16)(e:iE 10 t'.cps.toList=A++M++B)(l:t'.length<=N'):xD (2*n+2) N' (2*d+2) t':=by
 let K:∀z∈iE 10 _,z.count 32<=2*n+2/\À z<=16*n+16:=λz H=>by
  let o:z∈iE 10 _->z.count 32<=2*n+2/\À z<=16*n+16:=λk=>by let:=h.b z k;let:=h.m z k;lia
  rw[e]at H;rcases bt.mp H with H|H
  .rcases bt.mp H with H|H;.rwa[o (by rw[a];rwa[cx _ H])]
   .rwa[f z H]
  .rwa[o (by rw[c];rwa[aS _ H])]
 erw[(l,λz H=>(K z H).1,λz H=>by let:=(K z H).2;lia,?_)];.rw[e,aR,aR];let s1:=h.s;rw[a,aR]at s1;let s2:=h.s;rw[c,aR]at s2;let S:=zm.len (L:=M.map SV) Ŏ;rw[ai]at S;exact((s1.left.app S).app s2.right).mono ()
def Rq{p':Ϙ}(h:A++[p]=a++[p']):A=a/\p=p':=by let(H,b):=List.append_inj' h Ŗ;exact(H,by injection b)
def DQ(h:xD n N d t)(hu:t.cps.toList=u++r)(K:t.cps.toList=r'++v)(T:x.count 10<=1)(U:x.count 32<=2)(L:À x<=16)(e:t'.cps.toList=u++(x++v))(o:t'.length<=N'):xD (2*n+2) N' (2*d+2) t':=by
 let(A,p,Q,W,a1,_,f):=tR 10 r u;let(R,P,q,B,_,b2,g):=tR 10 v r';let(C,y,X,Y,i,s,S):=tR 10 v x;let(Z,p2,w,B2,d1,d2,D):=tR 10 (x++v) u;rw[<-hu]at f;rw[<-K]at g;rw[<-e]at D;rw[b2]at s;cases s;rw[a1]at d1;let(rfl,rfl):=Rq d1;let hp:p.count 32<=n/\À p<=8*n:=by let h1:=h.b (p++Q) (by rw[f];simp);let h2:=h.m (p++Q) (by rw[f];simp);rw[cU]at h1;rw[ah]at h2;lia
 let hq:q.count 32<=n/\À q<=8*n:=by let h1:=h.b (P++q) (by rw[g];simp);let h2:=h.m (P++q) (by rw[g];simp);rw[cU]at h1;rw[ah]at h2;lia
 let hC:À C<=1:=by let:=qr (c:=10) (l:=x);rw[i,ah]at this;let this:À C+1=_:=this;lia
 let j:∀z∈iE 10 x,z.count 32<=2/\À z<=16:=by
  let k:∀l:Ϙ,∀z∈iE 10 l,z.count 32<=l.count 32/\À z<=À l:=by intro l;induction l with|i=>intro z H;rw[aL.mp H];exact(au _,au _)|k c l I=>intro z H;rw[aq];let hm:l.count 32<=(c::l).count 32:=List.count_le_count_cons;cases E:Ë c 10 with
    |t=>
     let:=jx.mp E;subst this;rw[vS]at H;rcases aJ.mp H with H|H;.rw[H];exact(bu _,bu _)
     .let:=I z H;lia|f=>rw[tU E]at H;cases F:iE 10 l with|i=>rwa[Ă F vd]|k q ps=>
      rw[F]at H I;rcases aJ.mp H with H|H;.rw[H,Nt,Nt,aq];let:=I q ao;lia
      .let:=I z (ak _ H);lia
  intro z H;let:=k x z H;lia
 let G:iE 10 t.cps.toList=R++[P++q]++B:=by rw[g,aN];rfl
 rw[S]at d2;cases C with|i=>cases d2;let j:=j y (by rw[i];rwa[List.mem_singleton_self _]);erw[xJ (M:=[p++(y++q)]) h f G ⋯ (λz H=>?_) (by rw[D,aN];rfl) o];rw[aL.mp H,cU,cU,ah,ah];lia|k a C=>
  let hn:C=[]:=nofun
  subst hn;cases d2;let h1:=j w (by rw[i];simp);let h2:=j y (by rw[i];simp);erw[xJ (M:=[p++w,y++q]) h f G ⋯ (λz H=>?_) (by rw[D,aN];rfl) o];rcases aJ.mp H with H|H;.rw[H,cU,ah];lia
  .rw[aL.mp H,cU,ah];lia
inductive FF(n:Ń)(L:Ł Ϙ):Ł Ϙ->ß|mk(A C M B:Ł Ϙ)(hL:L=A++(C++B))(hm:À M<=1)(hz:∀z∈M,10∉z/\z.count 32<=2*n+2/\À z<=16*n+16):FF n L (A++M++B)
def fA(A B:Ł _):j6 (A++B)=j6 A+j6 B:=by induction A with|i=>exact(Nat.zero_add _).symm|k a A i=>show(À a)+1+j6 (A++B)=À a+1+j6 A+j6 B;rw[i];lia
def Lr(h:xD n N d t)(c:FF n (iE 10 t.cps.toList) L):xD (2*n+2) (N+16*n+17) (2*d+2) (Ñ ⟨#[10]⟩ (L.map hZ)):=by cases c with|mk A C M B b m a=>
 by_cases hn:A++M++B=[]
 .rw[hn];erw[(bu _,λz a=>?_,λz a=>?_,?_)];.rw[aL.mp a];rwa[bu _]
  .rw[aL.mp a];rwa[bu _]
  .let:=h.s.px.pos;let e:[[]].map SV=[0]:=by rfl
   show zm _ ([[]].map SV);rw[e];exact(((),by show 0<=_;lia),by show 0<=_;lia)
 .let es:=Rr hn λp H=>by
   rcases bt.mp H with H|H
   .rcases bt.mp H with H|H;.rwa[tT (by rw[b];rwa[cx _ H])]
    .exact(a p H).1
   .rwa[tT (by rw[b];rwa[aS _ (aS _ H)])]
  erw[xJ h b (r':=A++C) nofun () (λz k=>(a z k).2) es ?_];let s1:=kN (c:=10) (l:=(Ñ ⟨#[10]⟩ ((A++M++B).map hZ)).cps.toList);rw[es,fA,fA]at s1;let s2:=kN (c:=10) (l:=t.cps.toList);rw[b,fA,fA]at s2;let l1:À t.cps.toList=t.length:=aX;let l2:À (Ñ ⟨#[10]⟩ ((A++M++B).map hZ)).cps.toList=(Ñ _ _).length:=aX;let S:j6 M<=16*n+17:=by cases M with|i=>rwa[bu _]|k z M=>cases M with|i=>let:=(a z ao).2.2;show(À z)+1+0<=_;lia|k y M=>left
  let:=h.l;lia
def SE(R:cM):Pv:=match km R with|O (b,l,f,r)=>uc (.T b) (.T l) (.T f) (.T r)|aa=>.S "text"
structure Due(t:Ã):ß where
 l:t.length<=900000g:(du t).all GU=J
 z:∀b l f r,km (fL t)=O (b,l,f,r)->dz (.T [.T b,.T l,.T f,.T r])=J
 r:∃o,oY s0 (du t) o/\∀Q:Pv->ß,Q (SE (fL t))->Ec o Q λc=>Q (eJ c)
def G_(h:xD n N d t)(g:N<=180000)(hn:n<=90000):Due t:=by
 let(_,i,j,B,m,p):=h.all g hn;let H:∀b l f r,km _=O (b,l,f,r)->dz _=true:=λb l f r e=>by let(a,c):=WB j e;delta dz;rw[a,ap.mpr (ay c (by show _<=1000000;lia))];rfl
 erw[(by let:=h.l;lia,m,H,?_)];let(P,u):=Qi p (cK _) i;rw[<-yI];delta SE;cases e:km _ with
 |n=>let(o,r,k):=u e;erw[(o,r,λQ q=>?_)];cases o with|n=>rwa[q]|s s=>delta Ec;dsimp only;cases C:s.ops with|i=>done|k a b=>rwa[q]
 |s x=>let(b,l,f,r):=x;let(s,run,v,w,y,z,A):=P b l f r e;erw[(_,run,λQ q=>?_)];let q:Q (uc _ _ _ _):=q;delta Ec;dsimp only;rw[v,w,y,z,A];erw[aB (H b l f r e) ?_];delta uc at q;cases E:Ad _ _ _ _ with|n=>rw[E]at q;rwa[q]|s c=>rw[E]at q;rwa[q]
theorem vj:∀{ks:ϐ}{r:ϑ},À r=À ks->(qL (ks.map .S) r).all F->∀p∈r,∃k,F (.T [.S k,p])=J
 |[],[],_,_,_,h=>nomatch h|[],_::_,e,_,_,_=>by grind|_::_,[],e,_,_,_=>by grind|k::ks,q::r,e,h,p,H=>by
  let(b,a):=ag h;rcases aJ.mp H with rfl|H;.grind
  .rwa[vj (by grind) a p H]
def Uz:∀{n:Ń}{x:Pv},mM n x=J->mM (n+1) x=true:=by intro n;induction n with
 |z=>intro x h;cases x<;>first|rwa[h]|done
 |v n i=>
  intro x h;cases x<;>first|rwa[h]|skip
  rwa[da (λ_ h=>i h) h]
def qQ(h:mM n x)(l:n<=m):mM m x=true:=by obtain⟨k,rfl⟩:∃k,m=n+k:=(m-n,());clear l;induction k with|z=>rwa[h]|v k i=>rwa[Uz i]
def GK:mM n (.S z)=true:=by cases n<;>rfl
def vp(h:gF p):mM n p=true:=by
 cases p<;>first|done|skip
 rwa[GK]
def GJ(h:vD p):mM n p=true:=by
 cases p<;>first|done|skip
 cases n<;>rfl
theorem Iy:∀{n:Ń}{x:Pv},val n bs ls x=J->mM n x=J|0,_,h=>FQ h|n+1,x,h=>by cases x with
  |T X=>cases X with|i=>rfl|k a r=>cases a with
    |S w=>let h:K4 _ bs ls r _=true:=h;cases e:lk w _ with|n=>rw[e]at h;cases h|s K=>
      rw[e]at h;let(b,c):=ag h;let hl:=dm.mp b;rw[ai]at hl;show(mM n _&&r.all _)=J;rw[GK,CV,aG];intro p d;let(k,H):=vj () c p d;let H:J2 _ bs ls k p=true:=H;delta J2 at H;split at H;.rwa[GJ H]
      .split at H;.rwa[vp (ag H).1]
       .split at H;.rwa[vp (ag H).1]
        .rwa[Iy H]
    |_=>rwa[FQ h]
  |_=>rwa[FQ h]
theorem Q8:∀{n:Ń}{x:Pv},row n s x=J->mM (2*n+4) x=J|0,_,h=>FQ h|n+1,x,h=>by let(w,r,e0,a):=Fe h;clear h;subst e0;cases e:lk w _ with|n=>rw[e]at a;cases a|s K=>
   rw[e]at a;let(c,a):=ag a;let(_,a):=ag a;let(d,_):=ag a;let hl:=dm.mp c;rw[ai]at hl;show(mM (2*n+5) (.S w)&&r.all (mM (2*n+5)))=J;rw[GK,CV,aG];intro p f;let(k,H):=vj () d p f;let H:AR _ s k p=true:=H;delta AR at H;split at H;.rwa[ud H λY y=>da (λz b=>Q8 b) y]
   .split at H;.rwa[qQ (Iy H) ()]
    .split at H;.rwa[RP (ag H).1 (λg v=>da (λz b=>qQ (Iy b) ()) v) (ag H).2]
     .rwa[vp (ag H).1]
def Ko(h:rows 5 s x):mM 15 x=true:=ud h λy H=>da (λz a=>Q8 a) H
def a_(h:qS x):mM 1 x=true:=by let(_,_,rfl,h):=KI h;show(mM 0 _&&(mM 0 _&&J))=J;rw[vp (ag h).1,GJ (ag h).2];rfl
def VS(h:isList x):mM 2 x=true:=by let(_,_,rfl,h):=KI h;show(mM 1 _&&(mM 1 _&&J))=J;rw[vp (ag h).1,iM];rwa[fQ (ag h).2 λy _ H=>da (λz a=>GJ a) H]
def Q7(h:Ad b l f r=aa):mM 20 b/\mM 20 l/\mM 20 f/\mM 20 r=true:=by
 let v:∀{c:Þ}{n:Ń}{o:Ő Ń},R0 c n o=aa->c/\o=none:=λ{c n o}h=>by cases c with|t=>exact(Ŗ,h)|f=>cases h
 let(i,h):=v h;let(j,h):=v h;let(w,h):=v h;let(k,_):=v h;let(B,l1,_):=lT i;let(m,_):=ag j;let(d,q):=ag k;erw[(fQ B λx _ H=>da (λz a=>qQ (a_ a) ⋯) H,fQ l1 λx _ H=>da (λz a=>qQ (VS a) ⋯) H,?_,qQ (Ko q) ⋯)];revert d;erw[fQ m λfs _ s d=>?_];show fs.all (mM 19)=J;rw[aG];intro g e;let F:=aG.mp s g e;let R:=Ko (aG.mp d g e);revert R;let(A,y,C,D,rfl,F):=yX F;intro R;let R:mM 18 D=true:=qQ R ⋯;let(G,t,u,_):=oZ F;show(mM 18 _&&(mM 18 _&&(mM 18 _&&(mM 18 _&&J))))=J;rw[vp G,R,fQ (P:=λp=>mM 18 p=J) t λx _ H=>da (λz a=>vp a) H,fQ (P:=λp=>mM 18 p=J) u λx _ H=>da (λz a=>vp a) H];rfl
def F_(R:cM):mM 60 (SE R)=true:=by delta SE;cases km R with|n=>rfl|s x=>let(b,l,f,r):=x;show mM 60 (uc _ _ _ _)=J;delta uc;cases e:Ad _ _ _ _ with|n=>let(h,H,a,d):=Q7 e;show(mM 59 _&&(mM 59 _&&(mM 59 _&&(mM 59 _&&J))))=J;rw[qQ h ∅,qQ H ∅,qQ a ∅,qQ d ∅];rfl|s c=>cases CQ e<;>rfl
structure GT(b l:Ń)(z:Ã):ß where
 n:10∉z.cps.toList
 b:z.cps.toList.count 32<=b
 l:z.length<=l
def U5(b l:Ń)(z:Ã):Þ:=!(z.cps.toList.any λc=>Ë c 10)&&(Í (z.cps.toList.count 32) b&&Í z.length l)
def fV(h:U5 b l z):GT b l z:=by let(H,a,d):=lT h;erw[(λm=>?_,ap.mp a,ap.mp d)];let:(z.cps.toList.any λc=>Ë c 10)=true:=um.mpr (10,m,Ŗ);rw[this]at H;cases H
def gC(z y:Ã):(z++y).cps.toList=z.cps.toList++y.cps.toList:=Array.toList_append
def nU(z y:Ã):(z++y).length=z.length+y.length:=rQ
def GT.app{b:Ń}(h:GT a b z)(k:GT c d y):GT (a+c) (b+d) (z++y):=by
 erw[(?_,?_,?_)];.rw[gC];rwa[λH=>(bt.mp H).elim h.n k.n]
 .rw[gC,cU];let:=h.b;let:=k.b;lia
 .rw[nU];let:=h.l;let:=k.l;lia
def GT.le{b:Ń}(h:GT a b z)(H:a<=c)(e:b<=d):GT c d z:=(h.n,ay h.b H,ay h.l e)
def vB(n:Ń):Ń:=3*2^n
def vL(n:Ń):Ń:=8*2^n
inductive ó(n:Ń):Ct|mk{d m:Î}{Q:Dv->Hs->ß}{xc:XP}(hm:qu m)(h1:1<=d)(h2:d<=n)(h3:n<=8)(q:∀(m':Î)(z:Ã),qu m'=J->GT (vB (n-1)-2) (vL n-7) z->Q (.p (.S z)) [.L [.I m']]):ó n [.r 0,.p (.I d)] [.L [.I m]] Q xc
def AW{t:Ń}(h:(t:Î)<40):GT 0 2 (toString (t:Î)):=by let k:((Û 40).all λt=>U5 0 2 (toString (t:Î)))=true:=Ŗ;rwa[fV (aG.mp k t (qD.mpr ()))]
def V0{t:Ń}(h:t<40):Đ ((t:Î).natAbs.log2<1920)=true:=by
 erw[bR ?_];by_cases H:t=0;.subst H;decide
 .let:=Nat.log2_lt H|>.mpr (show t<2^1920 from bj h ∅);rwa[this]
def IQ(a:A)(k:c=af->d=af->B):br c A (br d A B):=by cases c with|t=>rwa[a]|f=>cases d with|t=>rwa[a]|f=>rwa[k Ŗ Ŗ]
def OA{k:Ń}(h:xs.all (λx=>dC x&&U5 b l (dN x)))(H:(k:Î)<À xs):∃z,uh xs k=O (.S z)/\GT b l z:=by
 let(x,a,e):=DC H;let(d,c):=ag (aG.mp h x a);cases x<;>first|done|skip
 exact(_,e,fV c)
def Zm(h:GT a b z)(k:GT c d y)(H:b<=100000)(e:d<=100000):jL (z.length+y.length)=true:=mH (by let:=h.l;let:=k.l;show _<=1000000;lia)
section
variable{ca:Ń->Á}{W:Wd}
theorem y_(B:LX ca W)(S:SX W):∀n,DX ca W 31 (n+3) (ó n)|0=>Dt.imp (C:=SA) (Dt.no S.me) λ_ _ _ _ c=>by cases c;lia|n+1=>by erw[B.e (k:=n+2) 4 J [(30,oP),(31,ó n)] [] (.set 2 (.cl 30 [0] (.u2 0 (.i 8)))<|>.iff (.bo (Wm.oc (.cmp TR 1 (.i 2)) (Wm.o1 (.cmp TR 2 (.i 4))))) (.re (.ix (.lst (.u4 (.b2 cm (.s "number ") (.bi ź (.u (.cl 30 [0] (.u2 0 (.i 40)))))) (.s "box x") (.s "box y") (.s "size l"))) (.cl 30 [0] (.u2 0 (.i 4))))) .nil<|>.iff (.cmp jA 2 (.i 4)) (.re (.b2 cm (.s "not ") (.cl 31 [0] (.u2 0 (.b2 DE 1 (.i 1)))))) .nil<|>.iff (.cmp jA 2 (.i 5)) (.re (.b2 cm (.s "item l ") (.cl 31 [0] (.u2 0 (.b2 DE 1 (.i 1)))))) .nil<|>.set 3 (.ix (.lst (.cons (.s "plus") (.cons (.s "minus") (.u5 (.s "times") (.s "over") (.s "rest") (.s "less") (.s "same"))))) (.cl 30 [0] (.u2 0 (.i 7))))<|>.re (.b2 cm (.b2 cm (.b2 cm (.b2 cm 3 (.s " ")) (.cl 31 [0] (.u2 0 (.b2 DE 1 (.i 1))))) (.s " ")) (.cl 31 [0] (.u2 0 (.b2 DE 1 (.i 1)))))) S.me rfl ((nW B S).le (),y_ B S n,Ť) Ť λds h Q xc c=>?_];cases c with|@mk d m _ _ f h1 h2 h3 q=>
  erw[(Ŗ,?_)];erw[aB (EL f Ŗ) λm1 kd a U=>?_];let p1:=Nat.one_le_two_pow (n:=n);let X:2^(n+1)=2*2^n:=by rw[Nat.pow_succ];lia
  let Y:vB (n+1-1)=3*2^n:=Ŗ;let Z:vL (n+1)=8*(2*2^n):=by delta vL;rw[X]
  rw[Y,Z]at q;erw[IQ ?_ λj c2=>?_]
  .erw[aB (EL a Ŗ) λo t N H=>?_];let H:(t:Î)<40:=H;let g1:=(fV (b:=1) (l:=7) (z:="number ") ∅).app (AW H);erw[aB (V0 ()) (aB (Zm (fV (b:=1) (l:=7) (z:="number ") ∅) (AW H) ∅ ∅) ?_)];erw[aB (EL N Ŗ) λx u v hu=>?_];let hu:u<4:=by let hu:(u:Î)<4:=hu;lia
   let fin:∀z,GT 1 9 z->Q (.p (.S z)) [.L [.I x]]:=λz g=>q _ z v (g.le () ());rcases u with _|_|_|_|u;.rwa[fin _ g1]
   .rwa[fin _ (fV ∅)]
   .rwa[fin _ (fV ∅)]
   .rwa[fin _ (fV ∅)]
   .lia
  .let j:¬ d<2:=λz=>by rw[dE.mpr z]at j;cases j
   obtain⟨k,rfl⟩:∃k,n=k+1:=(n-1,());let P:2^(k+1)=2*2^k:=by rw[Nat.pow_succ];lia
   let p4:=Nat.one_le_two_pow (n:=k);rw[P]at q;let A:2^k<=2^8:=Nat.pow_le_pow_right ∅ ();let A:2^k<=256:=A;let sub:∀{m:Î}{C:Dv->Hs->ß}{xc:XP},qu m=J->(∀(M:Î)(z:Ã),qu M=J->GT (3*2^k-2) (16*2^k-7) z->C (.p (.S z)) [.L [.I M]])->ó (k+1) [.r 0,.p (.I (d-1))] [.L [.I m]] C xc:=λ{m C xc}f K=>.mk f () () () λM z LW g=>K M z LW (g.le (by show 3*2^k-2<=_;lia) (by show 8*2^(k+1)-7<=_;rw[P];lia));erw[bE (λ_=>sub a λo z N g=>?_) λ_=>bE (λ_=>sub a λo z N g=>?_) λ_=>?_];.let G:=fV (b:=1) (l:=4) (z:="not ") ∅;rwa[aB (Zm G g ∅ ()) (q _ _ N ((G.app g).le () ()))]
   .let G:=fV (b:=2) (l:=7) (z:="item l ") ∅;rwa[aB (Zm G g ∅ ()) (q _ _ N ((G.app g).le () ()))]
   .erw[aB (EL a Ŗ) λo t N H=>?_];let(w,ew,D):=OA (b:=0) (l:=5) (xs:=[.S "plus",.S "minus",.S "times",.S "over",.S "rest",.S "less",.S "same"]) (k:=t) ∅ H;let G:=fV (b:=1) (l:=1) (z:=" ") ∅;let E:=D.app G;erw[bW ew (aB (Zm D G ∅ ∅) (sub N λx z v g=>?_))];let F:=E.app g;let R:=F.app G;erw[aB (Zm E g ∅ ()) (aB (Zm F G () ∅) (sub v λm4 y OG T=>?_))];rwa[aB (Zm R T () ()) (q _ _ OG ((R.app T).le () ()))]
def XD:∀{p:Ϙ},c∉p->iE c (p++c::r)=p::iE c r:=by intro p;induction p with|i=>intro _;rwa[vS]|k x p i=>intro h;rw[mP,tU (by cases e:Ë x c with|f=>rfl|t=>rwa[Ă (by rw[<-jx.mp e];rwa[ao]) h]),i λH=>h (ak _ H)]
def XE:∀{p:Ϙ},c∉p->iE c p=[p]:=by intro p;induction p with|i=>intro _;rfl|k x p i=>intro h;rw[tU (by cases e:Ë x c with|f=>rfl|t=>rwa[Ă (by rw[<-jx.mp e];rwa[ao]) h]),i λH=>h (ak _ H)]
def K6(z:Ã):dA z=(((iE 32 z.cps.toList).map hZ).map Pv.S).filter yt:=by delta dA;rw[UG,kY]
def aca(h:32∉w.cps.toList)(hn:yt (.S w))(e:z.cps.toList=w.cps.toList++32::r):wl z=wl w:=by
 let E:dA z=.S w::(((iE 32 r).map hZ).map Pv.S).filter yt:=by rw[K6,e,XD h,bV,bV,mQ,show hZ w.cps.toList=w from Ŗ,hn];rfl
 let a:dA w=[.S w]:=by rw[K6,XE h,bV,bV,mQ,show hZ w.cps.toList=w from Ŗ,hn];rfl
 delta wl;rw[E,a];rfl
structure GL(k:Î)(z:Ã):ß where
 g:GT 26 136 z
 w:wl z=k
def SR(w a:Ã):Þ:=!(w.cps.toList.any λc=>Ë c 32)&&(yt (.S w)&&yr (a.cps.toList.take (w.length+1)) (w.cps.toList++[32]))
def GW(h:SR w a)(H:wl w=k)(g:GT b l a)(G:GT c d y)(e:b+c<=26)(f:l+d<=136):GL k (a++y):=by
 let(p,P,i):=lT h;erw[((g.app G).le e f,?_)];rw[<-H];erw[aca (r:=a.cps.toList.drop (w.length+1)++y.cps.toList) (λm=>?_) P ?_];.let:(w.cps.toList.any λc=>Ë c 32)=true:=um.mpr (32,m,Ŗ);rw[this]at p;cases p
 .let:a.cps.toList=w.cps.toList++32::a.cps.toList.drop (w.length+1):=by let:=cS (w.length+1) a.cps.toList;rw[rH.mp i,aN]at this;rwa[this.symm]
  rw[gC,show w.cps.toList++32::(a.cps.toList.drop _++y.cps.toList)=w.cps.toList++32::a.cps.toList.drop (w.length+1)++y.cps.toList by simp,<-this]
def Tl(z:Ã):Þ:=U5 26 136 z&&lH (wl z) 0
def aef(h:Tl z):GL 0 z:=(fV (ag h).1,dm.mp (ag h).2)
def kw(k:Î)(x:Pv):ß:=∃z,x=.S z/\GL k z
inductive ą:Ct|mk{m:Î}{b:Þ}{Q:Dv->Hs->ß}{xc:XP}(hm:qu m)(q:∀(m':Î)(z:Ã),qu m'=J->GL 0 z->Q (.p (.S z)) [.L [.I m']]):ą [.r 0,.p (.B b)] [.L [.I m]] Q xc
def ajF(B:LX ca W)(S:SX W):DX ca W 32 8 ą:=by erw[B.e (k:=6) 4 J [(30,oP),(31,ó 4)] [] (.set 2 (.cl 31 [0] (.u2 0 (.b2 cm (.i 1) (.cl 30 [0] (.u2 0 (.i 4))))))<|>.set 3 (.lst (.cons (.b2 cm (.s "set x ") 2) (.u5 (.b2 cm (.s "push l ") 2) (.s "pop y l") (.b2 cm (.s "put l number 0 ") 2) (.s "ask x d") (.b2 cm (.s "tell ") 2))))<|>.set 3 (.b2 cm 3 (.lst (.u5 (.s "fail number 3") (.b2 cm (.s "call y f ") 2) (.s "call x g") (.b2 cm (.s "set y ") 2) (.s "tell number 7"))))<|>.re (.ix (.b2 cm 3 (.lst (.u (.ix (.lst (.u2 (.s "tell size l") (.b2 cm (.s "return ") 2))) (.bi N_ (.u 1)))))) (.cl 30 [0] (.u2 0 (.i 12))))) S.u9 rfl ((nW B S).le (),y_ B S 4,Ť) Ť λds h Q X c=>?_];cases c with|@mk m b _ _ C q=>
 erw[(Ŗ,?_)];erw[aB (EL C Ŗ) λR t D E=>.mk D () (by let:(t:Î)<4:=E;show 1+(t:Î)<=4;lia) ∅ λT v n G=>?_];let G:GT 22 121 v:=G;let ln:∀(w a:Ã)(l:Ń),SR w a=J->wl w=0->U5 4 l a->l<=15->jL (a.length+v.length)/\kw 0 (.S (a++v)):=λw a l F K f U=>(Zm (fV f) G () ∅,_,Ŗ,GW F K (fV f) G ∅ ());let l1:=ln "set" "set x " 6 ∅ ∅ ∅ ∅;let l2:=ln "push" "push l " 7 ∅ ∅ ∅ ∅;let j:=ln "put" "put l number 0 " 15 ∅ ∅ ∅ ∅;let l4:=ln "tell" "tell " 5 ∅ ∅ ∅ ∅;let o:=ln "call" "call y f " 9 ∅ ∅ ∅ ∅;let r:=ln "set" "set y " 6 ∅ ∅ ∅ ∅;let A:=ln "return" "return " 7 ∅ ∅ ∅ ∅;let cl:∀z:Ã,Tl z=J->kw 0 (.S z):=λz h=>(z,Ŗ,aef h);erw[aB l1.1 (aB l2.1 (aB j.1 (aB l4.1 (aB o.1 (aB r.1 ?_)))))];erw[aB A.1 ?_];let go:∀y:Pv,kw 0 y->∀(M:Î)(k:Ń),qu M=J->(k:Î)<12->eZ (uh ([Pv.S ("set x "++v),.S ("push l "++v),.S "pop y l",.S ("put l number 0 "++v),.S "ask x d",.S ("tell "++v)]++[Pv.S "fail number 3",.S ("call y f "++v),.S "call x g",.S ("set y "++v),.S "tell number 7"]++[y]) (k:Ń)) (λx=>Q (.p x) [.L [.I M]]) ŧ:=λy N M k d H=>by let(x,P,e):=DC (xs:=[Pv.S ("set x "++v),.S ("push l "++v),.S "pop y l",.S ("put l number 0 "++v),.S "ask x d",.S ("tell "++v)]++[Pv.S "fail number 3",.S ("call y f "++v),.S "call x g",.S ("set y "++v),.S "tell number 7"]++[y]) (k:=k) H;let all:∀x ∈[Pv.S ("set x "++v),.S ("push l "++v),.S "pop y l",.S ("put l number 0 "++v),.S "ask x d",.S ("tell "++v),.S "fail number 3",.S ("call y f "++v),.S "call x g",.S ("set y "++v),.S "tell number 7",y],kw 0 x:=cw.mpr (l1.2,cw.mpr (l2.2,cw.mpr (cl _ ∅,cw.mpr (j.2,cw.mpr (cl _ ∅,cw.mpr (l4.2,cw.mpr (cl _ ∅,cw.mpr (o.2,cw.mpr (cl _ ∅,cw.mpr (r.2,cw.mpr (cl _ ∅,cw.mpr (N,λ_ h=>by grind))))))))))));let(z,rfl,g):=all x P;rwa[bW e (q _ _ d g)]
 cases b with|t=>exact(aB (EL n Ŗ) λM k d H=>go _ A.2 M k d H)|f=>exact(aB (EL n Ŗ) λM k d H=>go _ (cl _ ∅) M k d H)
def Lv(k:Î):Î->Ł Î->Î->ß|a,[],b=>a=b/\0<=a/\a<=k|a,w::L,b=>0<=a/\a<=k/\Lv k (a+w) L b
def Lv.app:∀{A:Ł Î}{a b:Î},Lv k a A b->Lv k b B c->Lv k a (A++B) c:=by intro A;induction A with|i=>intro a b h g;rw[h.1];rwa[g]|k w A i=>intro a b h g;exact(h.1,h.2.1,i h.2.2 g)
def Lv.up:∀{A:Ł Î}{a b:Î},Lv k a A b->Lv (k+1) (a+1) A (b+1):=by intro A;induction A with|i=>intro a b h;let:=h.1;let:=h.2.1;let:=h.2.2;exact((),(),())|k w A i=>intro a b h;let:=h.1;let:=h.2.1;erw[((),(),?_)];rw[show a+1+w=a+w+1 by lia];rwa[i h.2.2]
def Lv.px:∀{A:Ł Î}{a b:Î},Lv k a A b->vk (k-a) A:=by intro A;induction A with|i=>intro a b h;let:=h.2.2;show 0<=k-a;lia|k w A i=>intro a b h;let:=h.2.1;erw[((),?_)];rw[show k-a-w=k-(a+w)by lia];rwa[i h.2.2]
def Lv.sx:∀{A:Ł Î}{a b:Î},Lv k a A b->zm k A:=by intro A;induction A with|i=>intro a b h;let:=h.2.1;let:=h.2.2;show 0<=k;lia|k w A i=>intro a b h;exact((Lv.px h).mono (by let:=h.1;lia),i h.2.2)
def CL(Z:ϐ):Ń:=(Z.map λz=>z.length+1).sum
structure Gz(k a b:Î)(N:Ń)(zs:ϐ):ß where
 g:∀z∈zs,GT 26 136 z
 l:CL zs<=N
 w:Lv k a (zs.map wl) b
theorem Gz.app(h:Gz k a b N A)(g:Gz k b c M B):Gz k a c (N+M) (A++B):=by erw[(λz H=>(bt.mp H).elim (h.g z) (g.g z),?_,by rw[aR];rwa[h.w.app g.w])];let:=h.l;let:=g.l;show((A++B).map _).sum<=_;rw[aR,List.sum_append];show CL A+CL B<=_;lia
def Gz.le(h:Gz k a b N A)(l:N<=M):Gz k a b M A:=(h.g,ay h.l l,h.w)
theorem Gz.up(h:Gz k a b N A):Gz (k+1) (a+1) (b+1) N A:=(h.g,h.l,h.w.up)
def Gz.len(h:Gz k a b N A):À A<=N:=by erw[ay ?_ h.l];clear h;delta CL;induction A with|i=>rwa[au _]|k z A i=>rw[bV,List.sum_cons,aq];lia
def GL.one{w:Î}(h:GL w z)(H:0<=a)(b:a<=k)(c:0<=a+w)(d:a+w<=k)(e:z.length+1<=N):Gz k a (a+w) N [z]:=(λy f=>by rw[aL.mp f];rwa[h.g],e,H,b,by rw[h.w];exact(Ŗ,c,d))
def Gz.nil(h:0<=a)(H:a<=k):Gz k a a 0 []:=(λy b=>by grind,au _,Ŗ,h,H)
def SS:Ń->Ń|0=>0|1=>137|2=>312|3=>1324|4=>8058|_=>48462
def tN:Ń->Ń|0=>0|1=>137|2=>312|3=>662|4=>2686|_=>16154
def ami:∀n,n<5->137<=tN (n+1)/\(n=0\/38+2*SS n<=tN (n+1))/\tN (n+1)<=16154/\SS n<=48462:=∅
inductive ă(f:Ń):Ct|mk{d m:Î}{b:Þ}{n:Ń}{Q:Dv->Hs->ß}{xc:XP}(hm:qu m)(hd:d=6-(n:Ń))(h1:1<=n)(hf:n<=f)(h5:n<=5)(q:∀(m':Î)(zs:ϐ),qu m'=J->Gz ((n-1:Ń):Î) 0 0 (SS n) zs->Q (.p (.L (zs.map .S))) [.L [.I m']]):ă f [.r 0,.p (.I d),.p (.B b)] [.L [.I m]] Q xc
inductive SlJ(n:Ń)(b:Þ)(i:Ń):Es->Hs->ß|mk(m':Î)(X:Hs)(j:Ń)(zs:ϐ)(v4 v5 v6:Ő Dv)(hm:qu m')(hj:X[j]?=O (.L (zs.map .S)))(g:Gz n 0 0 (i*tN (n+1)) zs):SlJ n b i [O (.r 0),O (.p (.I (6-(n+1:Ń)))),O (.p (.B b)),O (.r (j+1)),v4,v5,v6] (.L [.I m']::X)
inductive SlC(n:Ń)(b:Þ)(i:Ń):Es->Hs->ß|mk(m':Î)(X:Hs)(j:Ń)(zs:ϐ)(v4 v5 v6:Ő Dv)(hm:qu m')(hj:X[j]?=O (.L (zs.map .S)))(g:Gz n 0 1 (i*tN (n+1)+(tN (n+1)-4)) zs):SlC n b i [O (.r 0),O (.p (.I (6-(n+1:Ń)))),O (.p (.B b)),O (.r (j+1)),v4,v5,v6] (.L [.I m']::X)
def Ts(e:h[l]?=O (.L a))(s:jL (À a+À ys))(q:Q (.r (À h)) (h++[.L (a++ys)])):EM (.r l) (.p (.L ys)) h Q:=by show(match jJ h _,jJ h _ with|O a,O b=>gd _ _|_,_=>ŧ);rw[Md e];rwa[aB s q]
def Tu(e:h[l]?=O (.L a))(s:jL (À a+À ys))(q:Q (.p (.L (a++ys))) h):oj (.r l) (.p (.L ys)) h Q:=by show eZ (jJ h _) _ _;rw[Md e];rwa[aB s q]
def NC(s:jL (À a+À ys))(q:Q (.r (À h)) (h++[.L (a++ys)])):EM (.p (.L a)) (.p (.L ys)) h Q:=aB s q
def iX(s:jL (a.length+b.length))(q:Q (.p (.S (a++b))) h):oj (.p (.S a)) (.p (.S b)) h Q:=aB s q
def gi(q:Q (.p (.I (a+b))) h):oj (.p (.I a)) (.p (.I b)) h Q:=q
def abC{X:Hs}(h:bH 1 [a])(H:X[j]?=O (.L xs))(q:Q (.p (.L xs)) [a]):gv J 1 Q (.r (j+1)) (a::X):=by
 let e:UY (a::X) 1 (.r (j+1))=O (.p (.L xs)):=by show(match(a::X)[j+1]? with|O (.L xs)=>O _|O (.C k u)=>O _|_=>aa)=_;rw[show(a::X)[j+1]?=O _ from H]
 rw[gv,e];rwa[aB h q]
def tE(Z:ϐ)(z:Ã):(Z++[z]).map Pv.S=Z.map .S++[.S z]:=by rw[aR];rfl
def aeq(g:GT 4 25 v){k:Ń}(h:k<4):∃hd,uh [Pv.S ("if "++v),.S ("if "++v),.S ("while "++v),.S "try"] k=O (.S hd)/\GL 1 hd/\((uQ (.I k) [.I 1,.I 3]=J/\∃m,uh [Pv.S "",.S "else",.S "",.S "catch x"] k=O (.S m)/\GL 0 m/\hd.length+m.length<=32)\/uQ (.I k) [.I 1,.I 3]=af/\hd.length<=31):=by
 let G:GL 1 ("if "++v):=GW (w:="if") (b:=1) (l:=3) rfl ∅ (fV Ŗ) g ∅ ⋯;let gl:=g.l;let l1:("if "++v).length<=28:=by rw[nU];show 3+_<=_;lia
 rcases k with _|_|_|_|k;.exact(_,Ŗ,G,.inr (Ŗ,()))
 .exact(_,Ŗ,G,.inl (Ŗ,_,Ŗ,(fV Ŗ,∅),by show _+4<=_;lia))
 .exact(_,Ŗ,GW (w:="while") (b:=1) (l:=6) rfl ∅ (fV Ŗ) g ∅ ⋯,.inr (Ŗ,by rw[nU];show 6+_<=_;lia))
 .exact(_,Ŗ,(fV Ŗ,∅),.inl (Ŗ,_,Ŗ,(fV Ŗ,∅),∅))
 .lia
def m_:∀n,n<5->∃c:Ń,uh [Pv.I 4,.I 4,.I 4,.I 3,.I 2,.I 2] (6-(n+1:Ń))=O (.I (c+1:Ń))/\c<=3/\c*tN (n+1)<=SS (n+1):=λn hn=>by
 rcases n with _|_|_|_|_|n;.exact(1,Ŗ,∅,∅)
 .exact(1,Ŗ,∅,∅)
 .exact(2,Ŗ,⋯,∅)
 .exact(3,Ŗ,∅,∅)
 .exact(3,Ŗ,∅,∅)
 .lia
seal jZ oj EM in
theorem İ(B:LX ca W)(S:SX W):∀f,DX ca W 33 (f+8) (ă f)|0=>Dt.imp (C:=SA) (Dt.no S.ny) λ_ _ _ _ c=>by cases c;lia|f+1=>by erw[B.e (k:=f+7) 7 J [(30,oP),(31,ó 2),(32,ą),(33,ă f)] [] (.set 3 (.FP .nil)<|>.foG 4 (.p (.r (.u (.cl 30 [0] (.u2 0 (.ix (.lst (.cons (.i 4) (.u5 (.i 4) (.i 4) (.i 3) (.i 2) (.i 2)))) 1)))))) (.set 5 (.cl 30 [0] (.u2 0 (.i 8)))<|>.iff (.bo (Wm.oc (.cmp IU 5 (.i 3)) (Wm.o1 (.cmp IU 1 (.i 4))))) (.ex (.mt lU 3 (.u (.cl 32 [0] (.u2 0 2))))<|>.one .ct) .nil<|>.set 6 (.cl 31 [0] (.u2 0 (.i 2)))<|>.ex (.mt lU 3 (.u (.ix (.lst (.u4 (.b2 cm (.s "if ") 6) (.b2 cm (.s "if ") 6) (.b2 cm (.s "while ") 6) (.s "try"))) 5)))<|>.set 3 (.b2 NG 3 (.cl 33 [0] (.u3 0 (.b2 cm 1 (.i 1)) 2)))<|>.cut (.iff (.cmp TN 5 (.lst (.u2 (.i 1) (.i 3)))) (.one (.set 3 (.b2 NG (.b2 cm 3 (.lst (.u (.ix (.lst (.u4 (.s "") (.s "else") (.s "") (.s "catch x"))) 5)))) (.cl 33 [0] (.u3 0 (.b2 cm 1 (.i 1)) 2))))) .nil) (.one (.ex (.mt lU 3 (.u (.s "end"))))))<|>.re 3) S.ny rfl ((nW B S).le (),(y_ B S 2).le (),(ajF B S).le (),İ B S f,Ť) Ť λds h Q xc c=>?_];cases c with|@mk d m b n _ _ hm hd h1 hf h5 q=>
  subst hd;obtain⟨n,rfl⟩:∃k,n=k+1:=(n-1,());erw[(Ŗ,?_)];let(f1,f2,f3,f4):=ami n ();let(c,ec,c3,cl):=m_ n ();erw[bW ec (aB (ft hm () ()) λm1 t wm ht=>?_)];let ht:(t:Î)<(c+1:Ń):=ht;erw[aB (by show(jL t&&Đ ((-4611686018427387904:Î)<=(t:Ń)))=J;rw[mH (ay (show t<=10 by lia) ∅),bR ()];rfl) ?_];erw[Jz ((lC 0 t).map .p) (λpre post σ h=>SlJ n b (À pre) σ h) ?_ (λ_ _ _ _ _=>Ŗ) (λpre x post σ h e j=>?_) λσ h j=>?_];.rwa[SlJ.mk m1 [.L []] 0 [] _ _ _ wm rfl ((Gz.nil (rS 0) ()).le (bu _))]
  .cases j with|mk M X j Z v4 v5 v6 y H g=>
   let pl:À pre<t:=by
    let e2:=cY À e;rw[ai,ah,aq]at e2;let:À (lC 0 t)=t:=by delta lC;rw[ai,dk]
    lia
   let pt:(À pre+1)*tN (n+1)<=SS (n+1):=ay (zC _ ()) cl;let sl5:SS (n+1)<=48462:=by
    let:∀n,n<5->SS (n+1)<=48462:=∅
    rwa[this n ()]
   rw[Nat.add_mul,Nat.one_mul]at pt;let zl:=g.len;let e1:À (pre++[x])=À pre+1:=by rw[ah];rfl
   let fin:∀(zs':ϐ),Gz n 0 0 (À pre*tN (n+1)+tN (n+1)) zs'->Gz n 0 0 (À (pre++[x])*tN (n+1)) zs':=λzs' h=>by rw[e1,Nat.add_mul,Nat.one_mul];rwa[h]
   erw[aB (EL y Ŗ) λm2 K nZ hkd=>IQ ?_ λF c2=>?_]
   .erw[aB (B5 (show(Ob.L [.I m2]::X)[j+1]?=_ from H)) (.mk nZ λD z Y gz=>gX (show(Ob.L [.I D]::X)[j+1]?=_ from H) (mH (by rw[ai];show _<=1000000;lia)) ?_)];let o:(X.set j (.L (Z.map .S++[.S z])))[j]?=O (.L ((Z++[z]).map .S)):=by rw[tE];rwa[cy H]
    rwa[SlJ.mk D (X.set j (.L (Z.map .S++[.S z]))) j (Z++[z]) _ _ _ Y o (fin _ (g.app (gz.one (k:=n) (rS 0) () () () (ay (mS gz.g.l) f1))))]
   .let F:K<4:=by
     let:¬(3:Î)<(K:Ń):=λz=>by rw[show(λi j=>iQ j i) ((K:Ń):Î) 3=J from dE.mpr z]at F;cases F
     lia
    let n1:1<=n:=by
     let:¬(4:Î)<6-(n+1:Ń):=λz=>by rw[show(λi j=>iQ j i) (6-((n+1:Ń):Î)) 4=J from dE.mpr z]at c2;cases c2
     lia
    let f2:38+2*SS n<=tN (n+1):=by rcases f2 with h|h<;>lia
    erw[.mk nZ ∅ ∅ ∅ λD v Y P=>?_];let P:GT 4 25 v:=P;let gl:=P.l;let(hd,eh,gh,R):=aeq P F;let s3:jL (3+v.length)=true:=mH (by show _<=1000000;lia);let s6:jL (6+v.length)=true:=mH (by show _<=1000000;lia);erw[aB (B5 (show(Ob.L [.I D]::X)[j+1]?=_ from H)) (iX s3 (iX s3 (iX s6 (bW eh (gX (show(Ob.L [.I D]::X)[j+1]?=_ from H) (mH (by rw[ai];show _<=1000000;lia)) ?_)))))];let o:(X.set j (.L (Z.map .S++[.S hd])))[j]?=O (.L ((Z++[hd]).map .S)):=by rw[tE];rwa[cy H]
    let g1:=g.app (gh.one (k:=n) (a:=0) (N:=hd.length+1) (rS 0) () () () (au _));let gk:∀{A:ϐ},Gz ((n-1:Ń):Î) 0 0 (SS n) A->Gz n 1 1 (SS n) A:=λ{A}h=>by let h:=h.up;rw[show((n-1:Ń):Î)+1=n by lia]at h;rwa[h]
    let e5:6-((n+1:Ń):Î)+1=6-(n:Ń):=()
    erw[gi (.mk Y e5 n1 () () λm4 A OG T=>Ts (ys:=A.map .S) (show(Ob.L [.I m4]::X.set j (.L (Z.map .S++[.S hd])))[j+1]?=_ from o) (mH (by rw[ai,ai,ah];let:=T.len;show(À Z)+1+_<=1000000;lia)) ?_)];rw[<-aR];let g2:=g1.app (gk T);let E:(X.set j (.L (Z.map .S++[.S hd]))++[.L ((Z++[hd]++A).map .S)])[À (X.set j (.L (Z.map .S++[.S hd])))]?=O (.L ((Z++[hd]++A).map .S)):=iz;erw[Ô (SlC n b (À pre)) (Õ (aB Ŗ (bE (λw=>?_) λw=>?_)) λσ h c=>?_)]
    .let w:uQ (.I (K:Ń)) [.I 1,.I 3]=true:=w;rcases R with ⟨_,U,em,gm,lm⟩|⟨z,_⟩;.erw[bW em (Tu (show(Ob.L [.I m4]::(X.set j (.L (Z.map .S++[.S hd]))++[.L ((Z++[hd]++A).map .S)]))[_+1]?=_ from E) (mH (by rw[ai,ah,ah];let:=T.len;show(À Z)+1+_+1<=1000000;lia)) (gi (.mk OG e5 n1 () () λm5 A2 hm5 G=>NC (ys:=A2.map .S) (mH (by rw[ah,ai,ah,ah,ai];let:=T.len;let:=G.len;show(À Z)+1+_+1+_<=1000000;lia)) ?_)))];let g3:=(g2.app (gm.one (k:=n) (a:=1) (N:=U.length+1) ∅ () ∅ () (au _))).app (gk G);let z:=SlC.mk (n:=n) (b:=b) (i:=À pre) m5 (X.set j (.L (Z.map .S++[.S hd]))++[.L ((Z++[hd]++A).map .S)]++[.L ((Z++[hd]++A++[U]++A2).map .S)]) _ (Z++[hd]++A++[U]++A2) (O x) (O (.p (.I (K:Ń)))) (O (.p (.S v))) hm5 iz (g3.le ());rw[aR (l₁:=Z++[hd]++A++[U]),tE]at z;rwa[z]
     .rw[z]at w;cases w
    .let w:uQ (.I (K:Ń)) [.I 1,.I 3]=false:=w;rcases R with ⟨z,_⟩|⟨_,lm⟩;.rw[z]at w;cases w
     .rwa[SlC.mk (n:=n) (b:=b) (i:=À pre) m4 _ _ _ _ _ _ OG E (g2.le ())]
    .cases c with|mk M X j Z v4 v5 v6 y H g=>
     let zl:=g.len;erw[aB (B5 (show(Ob.L [.I M]::X)[j+1]?=_ from H)) (gX (show(Ob.L [.I M]::X)[j+1]?=_ from H) (mH (by rw[ai];show _<=1000000;lia)) ?_)];let o:(X.set j (.L (Z.map .S++[.S "end"])))[j]?=O (.L ((Z++[("end":Ã)]).map .S)):=by rw[tE];rwa[cy H]
     let ge:GL (-1) "end":=(fV ∅,∅);rwa[SlJ.mk M (X.set j (.L (Z.map .S++[.S "end"]))) j (Z++[("end":Ã)]) _ _ _ y o (fin _ ((g.app (ge.one (k:=n) (a:=1) (N:=4) ∅ () ∅ () (au _))).le ()))]
  .cases j with|mk M X j Z v4 v5 v6 y H g=>erw[abC Ŗ H (q M Z y (g.le ?_))];rw[ai,show(À (lC 0 t))=t by delta lC;rw[ai,dk]];rwa[ay (zC _ ()) cl]
inductive ü:Ct|mk{m:Î}{Q:Dv->Hs->ß}{xc:XP}(hm:qu m)(q:∀(m':Î)(zs:ϐ),qu m'=J->Gz 5 0 0 155000 zs->Q (.p (.L (zs.map .S))) [.L [.I m']]):ü [.r 0] [.L [.I m]] Q xc
instance lvD(k:Î):∀(L:Ł Î)(a b:Î),Decidable (Lv k a L b)|[],a,b=>inferInstanceAs(Decidable (a=b/\0<=a/\a<=k))|w::L,a,b=>have:=lvD k L (a+w) b;inferInstanceAs(Decidable (0<=a/\a<=k/\Lv k (a+w) L b))
def JD(h:(zs.all λz=>U5 26 136 z))(l:CL zs<=N)(w:Lv 5 a (zs.map wl) b):Gz 5 a b N zs:=(λz H=>fV (aG.mp h z H),l,w)
def Gz.mono(h:Gz k a b N A)(l:k<=k'):Gz k' a b N A:=by erw[(h.g,h.l,?_)];let w:=h.w;generalize A.map wl=L at w;clear h;induction L generalizing a with|i=>exact(w.1,w.2.1,by let:=w.2.2;lia)|k x L i=>exact(w.1,by let:=w.2.1;lia,i w.2.2)
def Bh(s:jL (À a+À b))(q:Q (.p (.L (a++b))) h):oj (.p (.L a)) (.p (.L b)) h Q:=aB s q
def nQ(g:Gz k a b N A)(g':Gz k b c M B)(s:N+M<=1000000)(q:Gz k a c (N+M) (A++B)->Q (.p (.L ((A++B).map .S))) h):oj (.p (.L (A.map .S))) (.p (.L (B.map .S))) h Q:=by
 erw[Bh (mH ?_) ?_];.rw[ai,ai];let:=g.len;let:=g'.len;show _<=1000000;lia
 .rw[<-aR];rwa[q (g.app g')]
seal oj in
def Ϸ(B:LX ca W)(S:SX W):DX ca W 34 15 ü:=by erw[B.e (k:=13) 2 J [(30,oP),(33,ă 5)] [] (.set 1 (.b2 cm (.lst (.u4 (.s "box x 3") (.s "box y 0") (.s "list l 4 5 6") (.s "def f p"))) (.sl (.lst (.u (.s "own o"))) .no (.of (.cl 30 [0] (.u2 0 (.i 2))))))<|>.set 1 (.b2 cm (.b2 cm (.b2 cm (.b2 cm 1 (.cl 33 [0] (.u3 0 (.i 1) (.c (.B J))))) (.lst (.u2 (.s "end") (.s "def g")))) (.cl 33 [0] (.u3 0 (.i 2) (.c (.B J))))) (.lst (.u (.s "end"))))<|>.re (.b2 cm (.b2 cm 1 (.cl 33 [0] (.u3 0 (.i 1) (.c (.B af))))) (.cl 33 [0] (.u3 0 (.i 1) (.c (.B af)))))) S.tK rfl ((nW B S).le (),(İ B S 5).le (),Ť) Ť λds h Q X c=>?_];cases c with|@mk m _ _ d q=>
 erw[(Ŗ,?_)];erw[aB (EL d Ŗ) λM t w b=>?_];let b:t<2:=by let:(t:Î)<2:=b;lia
 let o:∃os:ϐ,pD [Pv.S "own o"] aa (O ((t:Ń):Î))=os.map .S/\Gz 5 1 1 6 os:=by
  rcases t with _|_|t;.exact([],Ŗ,(Gz.nil ∅ ∅).le ∅)
  .exact(["own o"],Ŗ,JD ∅ ∅ ∅)
  .lia
 let(os,E,go):=o;let f:Gz 5 0 1 37 ["box x 3","box y 0","list l 4 5 6","def f p"]:=JD ∅ ∅ ∅;let j:Gz 5 1 1 10 ["end","def g"]:=JD ∅ ∅ ∅;let l:Gz 5 1 0 4 ["end"]:=JD ∅ ∅ ∅;let up:∀{k:Ń}{A:ϐ}{N:Ń},k<=4->Gz (k:Ń) 0 0 N A->Gz 5 1 1 N A:=λ{k A N}R h=>(h.mono (k':=4) ()).up;show oj (.p (.L (List.map Pv.S ["box x 3","box y 0","list l 4 5 6","def f p"]))) (.p (.L (pD [Pv.S "own o"] aa (O ((t:Ń):Î))))) [Ob.L [.I M]] _;rw[E];erw[nQ f go ∅ λr=>?_];erw[.mk w (n:=5) rfl ∅ ∅ ∅ λT A Z v=>nQ r (up (k:=4) ∅ v) ∅ λx=>?_];rwa[nQ x j ∅ λy=>.mk Z (n:=4) rfl ⋯ ∅ ∅ λU Y z g=>nQ y (up ⋯ g) ∅ λC=>nQ C l ∅ λD=>.mk z (n:=5) rfl ∅ ∅ ∅ λm4 A3 F G=>nQ D (G.mono ∅) ∅ λK=>.mk F (n:=5) rfl ∅ ∅ ∅ λm5 A4 H a=>nQ K (a.mono ∅) ∅ λP=>q _ _ H (P.le ∅)]
def jn(L:Ł Ϙ):ϑ:=(L.map hZ).map .S
inductive g_:Ct|mk{m:Î}{Q:Dv->Hs->ß}{xc:XP}(hm:qu m)(q:∀(m':Î)(z:Ã),qu m'=J->GT 26 136 z->Q (.p (.S z)) [.L [.I m']]):g_ [.r 0] [.L [.I m]] Q xc
structure Ć(n:Ń)(L:Ł Ϙ):ß where
 k:26<=n
 u:n<=10000l:À L<=200000p:1<=(À L)g:∀z∈L,10∉z/\z.count 32<=n/\À z<=8*n
inductive Ċ:Ct|mk{n:Ń}{m:Î}{L:Ł Ϙ}{Q:Dv->Hs->ß}{xc:XP}(hm:qu m)(g:Ć n L)(q:∀(m':Î)L',qu m'=J->FF n L L'->Q (.p (.L (jn L'))) [.L [.I m']]):Ċ [.p (.L (jn L)),.r 0] [.L [.I m]] Q xc
def fc(L:Ł _):À (jn L)=À L:=by delta jn;rw[ai,ai]
def V3(A B:Ł _):jn A++jn B=jn (A++B):=by delta jn;rw[aR,aR]
def tD(L:Ł _)(k:Ń):pD (jn L) aa (O k)=jn (L.take k):=by show((jn L).take k).drop 0=_;delta jn;rw[Ta,<-ZF,<-ZF]
def yp(L:Ł _)(k:Ń):pD (jn L) (O k) aa=jn (L.drop k):=by show(jn L).drop k=_;delta jn;rw[<-List.map_drop,<-List.map_drop]
def B9(h:k<À L):∃z,z∈L/\L=L.take k++([z]++L.drop (k+1))/\uh (jn L) k=O (.S (hZ z)):=by
 erw[(_,dY h,?_,?_)];.simp
 .show(jn L)[k]?=_;delta jn;rw[bP,bP,aE h];rfl
def GT.ok{n:Ń}{z:Ã}(h:GT 26 136 z)(hn:26<=n):10∉z.cps.toList/\z.cps.toList.count 32<=2*n+2/\À z.cps.toList<=16*n+16:=by let:=h.b;let:=h.l;let e:À z.cps.toList=z.length:=aX;exact(h.n,(),())
def adm{k:Ń}(h:xs.all (λx=>dC x&&U5 b l (dN x)))(H:(k:Î)<À xs)(q:∀z,GT b l z->A (.S z)):eZ (uh xs k) A B:=by let(z,e,g):=OA h H;rwa[bW e (q z g)]
def qd(s:À A+À B<=1000000)(q:Q (.p (.L (jn (A++B)))) h):oj (.p (.L (jn A))) (.p (.L (jn B))) h Q:=by
 erw[Bh (mH ?_) ?_];.rw[fc,fc];rwa[s]
 .rw[V3];rwa[q]
def Bg{Q:Dv->Hs->ß}(l:À L<=200000)(a:À M<=1)(q:Q (.p (.L (jn (L.take i++M++L.drop j)))) h):oj (.p (.L (pD (jn L) aa (O i)))) (.p (.L (jn M))) h λd H=>oj d (.p (.L (pD (jn L) (O j) aa))) H Q:=by
 rw[tD,yp];let l1:À (L.take i)<=À L:=by rw[bX];lia
 let l2:À (L.drop j)<=À L:=⋯
 rwa[qd () (qd (by rw[ah];lia) q)]
def mX{Q:Dv->Hs->ß}(H:À L<=200000)(a:À M<=1)(q:Q (.p (.L (jn (L.take i++M)))) h):oj (.p (.L (pD (jn L) aa (O i)))) (.p (.L (jn M))) h Q:=by rw[tD];rwa[qd (by grind) q]
def mW{Q:Dv->Hs->ß}(H:À L<=200000)(a:À A<=200001)(q:Q (.p (.L (jn (A++L.drop j)))) h):oj (.p (.L (jn A))) (.p (.L (pD (jn L) (O j) aa))) h Q:=by rw[yp];rwa[qd (by rw[fh];lia) q]
def ajE(B:LX ca W)(S:SX W):DX ca W 67 5 g_:=by erw[B.e (k:=3) 2 J [(30,oP)] [] (.set 1 (.lst (.cons (.s "box x 1") (.cons (.s "box x 03") (.cons (.s "box x") (.cons (.s "box x 1 2") (.cons (.s "list l") (.u5 (.s "list l 1 x") (.s "def f") (.s "def f p q") (.s "def") (.s "own o"))))))))<|>.set 1 (.b2 cm 1 (.lst (.cons (.s "own o p") (.cons (.s "end") (.cons (.s "end x") (.cons (.s "else") (.cons (.s "else x") (.cons (.s "catch b") (.u5 (.s "catch") (.s "catch b c") (.s "try") (.s "try x") (.s "if"))))))))))<|>.set 1 (.b2 cm 1 (.lst (.cons (.s "if number 1") (.cons (.s "while number 0") (.u5 (.s "while") (.s "set x number 7") (.s "set x") (.s "set x number 1000000") (.s "pop x"))))))<|>.set 1 (.b2 NG 1 (.lst (.u4 (.s "return number 1") (.s "call x f") (.s "call x f number 1 number 2") (.s "call x"))))<|>.ex (.mt lU 1 (.u (.s "tell not not not not number 1")))<|>.set 1 (.b2 cm 1 (.lst (.cons (.s "tell size l") (.cons (.s "tell item l") (.u5 (.s "ask b d") (.s "put l number 0 number 1") (.s "Tell number 1") (.s "#") (.s "tell box"))))))<|>.re (.ix 1 (.cl 30 [0] (.u2 0 (.i 40))))) S.HI rfl ((nW B S).le (),Ť) Ť λds h Q x c=>?_];cases c with|@mk m _ _ H q=>
 erw[(Ŗ,?_)];erw[aB (EL H Ŗ) λM t w a=>?_];erw[adm ?_ ?_ λz g=>q _ _ w g];.rfl
 .done
seal oj in
def ajG(B:LX ca W)(S:SX W):DX ca W 68 6 Ċ:=by erw[B.e (k:=4) 5 J [(30,oP),(67,g_)] [] (.set 2 (.cl 30 [0] (.u2 1 (.bi d8 (.u 0))))<|>.set 3 (.cl 30 [0] (.u2 1 (.b2 cm (.bi d8 (.u 0)) (.i 1))))<|>.set 4 (.cl 30 [0] (.u2 1 (.i 4)))<|>.iff (.cmp jA 4 (.i 0)) (.re (.b2 cm (.sl 0 .no (.of 2)) (.sl 0 (.of (.b2 cm 2 (.i 1))) .no))) .nil<|>.iff (.cmp jA 4 (.i 1)) (.re (.b2 cm (.b2 cm (.sl 0 .no (.of 3)) (.lst (.u (.ix 0 2)))) (.sl 0 (.of 3) .no))) .nil<|>.iff (.cmp jA 4 (.i 2)) (.re (.b2 cm (.b2 cm (.sl 0 .no (.of 3)) (.lst (.u (.cl 67 [0] (.u 1))))) (.sl 0 (.of 3) .no))) .nil<|>.re (.b2 cm (.b2 cm (.sl 0 .no (.of 2)) (.lst (.u (.cl 67 [0] (.u 1))))) (.sl 0 (.of (.b2 cm 2 (.i 1))) .no))) S.E3 rfl ((nW B S).le (),ajE B S,Ť) Ť λds h Q x c=>?_];cases c with|@mk n m L _ _ f g q=>
 erw[(Ŗ,?_)];let A:=g.p;let gl:=g.l;let o:∀z∈L,10∉z/\z.count 32<=2*n+2/\À z<=16*n+16:=λz b=>by let:=g.g z b;exact(this.1,(),())
 erw[aB (ft (m:=(À (jn L):Ń)) f (by rw[fc];lia) (by rw[fc];lia)) λC t j H=>?_];erw[gi (aB (ft (m:=(À (jn L):Ń)+1) j (by rw[fc];lia) (by rw[fc];lia)) λD u N hu=>?_)];let H:t<À L:=by let H:(t:Î)<(À (jn L):Ń):=H;rw[fc]at H;lia
 let hu:u<=À L:=by let hu:(u:Î)<(À (jn L):Ń)+1:=hu;rw[fc]at hu;lia
 let(z,b,E,r):=B9 H;erw[aB (EL N Ŗ) λF k v I=>bE (λ_=>?_) λ_=>bE (λ_=>?_) λ_=>bE (λ_=>?_) λ_=>?_];.erw[gi ?_];show oj (.p (.L (pD (jn L) aa (O ((t:Ń):Î))))) (.p (.L (pD (jn L) (O ((t+1:Ń):Î)) aa))) _ _;rw[tD,yp];erw[qd (by rw[bX,fh];lia) (q _ _ v ?_)];let c:=FF.mk (n:=n) (L:=L) (L.take t) [z] [] (L.drop (t+1)) E (bu _) (λ_ h=>by cases h);rw[aQ]at c;rwa[c]
 .erw[bW r (Bg (M:=[z]) gl (au _) (q _ _ v ?_))];rwa[FF.mk _ [] [z] _ (by rw[ky,cS]) (au _) λy a=>by rw[aL.mp a];rwa[o z b]]
 .erw[.mk v λs w G d=>Bg (M:=[w.cps.toList]) gl (au _) (q _ _ G ?_)];rwa[FF.mk _ [] [_] _ (by rw[ky,cS]) (au _) λy a=>by rw[aL.mp a];rwa[d.ok g.k]]
 .rwa[.mk v λs w G d=>mX (M:=[w.cps.toList]) gl (au _) (gi (mW gl (by rw[ah,bX];show _+1<=_;lia) (q _ _ G (FF.mk _ [z] [_] _ E (au _) λy a=>by rw[aL.mp a];rwa[d.ok g.k]))))]
inductive Č:Ct|mk{n:Ń}{m k:Î}{L:Ł Ϙ}{Q:Dv->Hs->ß}{xc:XP}(hm:qu m)(h6:6<=k)(h12:k<12)(g:Ć n L)(q:∀(m':Î)L',qu m'=J->FF n L L'->Q (.p (.L (jn L'))) [.L [.I m']]):Č [.p (.L (jn L)),.p (.I k),.r 0] [.L [.I m]] Q xc
def Kk(h:y∈lC 0 k):∃i:Ń,i<k/\y=.I i:=by let(i,H,rfl):=bf.mp h;exact(i,qD.mp H,by rw[Int.zero_add])
def Gb{f:Ã->Þ}{k:Ń}(h:xs.all (λx=>dC x&&f (dN x)))(H:(k:Î)<À xs)(q:∀z,f z=J->A (.S z)):eZ (uh xs k) A B:=by
 let(x,a,e):=DC H;let(c,b):=ag (aG.mp h x a);cases x<;>first|done|skip
 rwa[bW e (q _ b)]
def ov(L:Ł Ϙ)(w:Ã)(y:Pv):Þ:=match y with|.I i=>(match uh (jn L) i with|O (.S j)=>Cd af !(ä j w 0 j.length 1).isEmpty|_=>af)|_=>af
def HZ(c:10∉z/\z.count 32<=n/\À z<=8*n)(g:GT a b w)(h:Le (hZ z) y w r):10∉r.cps.toList/\r.cps.toList.count 32<=n+a/\À r.cps.toList<=8*n+b:=by
 rcases h with h|⟨u,v,f,i⟩;.rw[h];exact(c.1,by show z.count 32<=_;lia,by show(À z)<=_;lia)
 .let E:z=u.cps.toList++y.cps.toList++v.cps.toList:=by let:=cY (λs:Ã=>s.cps.toList) f;erw[this.trans ?_];rw[gC,gC]
  let j:r.cps.toList=u.cps.toList++w.cps.toList++v.cps.toList:=by rw[i,gC,gC]
  let(Z,d,e):=c;rw[E]at Z d e;rw[j];let k:=g.b;let m:=g.l;let o:À w.cps.toList=w.length:=aX;rw[cU,cU]at d⊢;rw[ah,ah]at e⊢;erw[(λH=>?_,(),())];rcases bt.mp H with H|H
  .rcases bt.mp H with H|H;.rwa[Z (cx _ (cx _ H))]
   .rwa[g.n H]
  .rwa[Z (aS _ H)]
seal oj in
def ajH(B:LX ca W)(S:SX W):DX ca W 69 6 Č:=by erw[B.e (k:=4) 8 J [(30,oP)] [] (.set 3 (.ix (.lst (.cons (.s "number ") (.u5 (.s "end") (.s "else") (.s "try") (.s "catch") (.s "end")))) (.b2 DE 1 (.i 6)))<|>.setC 5 1 [3,0] (.one 0) (.r (.u (.bi d8 (.u 0)))) (.one (.cmp TN 1 (.ix 2 0))) 0<|>.iff (.cmp jA 5 (.lst .nil)) (.re (.b2 cm (.sl 0 .no (.of (.neg (.i 1)))) (.lst (.u 3)))) .nil<|>.set 4 (.ix 5 (.cl 30 [0] (.u2 2 (.bi d8 (.u 5)))))<|>.if1 1 6 (.set 6 (.ix (.lst (.u4 (.s "0") (.s "+") (.s "1_") (.s "-"))) (.cl 30 [0] (.u2 2 (.i 4))))<|>.ret (.Tt cm (.kD cm (.sl 0 .no (.of 4)) (.V4 (.Xj "number " (.ix 0 4) (.add "number " 6)))) (.sl 0 (.of (.b2 cm 4 (.i 1))) .no)))<|>.set 7 (.cl 30 [0] (.u2 2 (.i 10)))<|>.iff (.cmp TR 7 (.i 6)) (.set 6 (.ix (.lst (.cons (.s " x") (.u5 (.s " # x") (.s "#") (.s "\t") (.s " \t") (.s "\tx")))) 7)<|>.re (.b2 cm (.b2 cm (.sl 0 .no (.of 4)) (.lst (.u (.b2 cm (.ix 0 4) 6)))) (.sl 0 (.of (.b2 cm 4 (.i 1))) .no))) .nil<|>.if1 7 6 (.ret (.Tt cm (.kD cm (.sl 0 .no (.of 4)) (.V4 (.kD cm (.s "\t") (.Xj " " (.ix 0 4) (.s "\t"))))) (.sl 0 (.of (.b2 cm 4 (.i 1))) .no)))<|>.if1 7 7 (.ret (.Tt cm (.kD cm (.sl 0 .no (.of 4)) (.V4 (.Xj " " (.ix 0 4) (.s "\t")))) (.sl 0 (.of (.b2 cm 4 (.i 1))) .no)))<|>.re (.b2 cm (.b2 cm (.sl 0 .no (.of 4)) (.lst (.u (.ix 0 4)))) (.sl 0 (.of 4) .no))) S.HL rfl ((nW B S).le (),Ť) Ť λds h Q xc c=>?_];cases c with|@mk n m k L _ _ v h6 h12 g q=>
 erw[(Ŗ,?_)];let gp:=g.p;let gl:=g.l;let gk:=g.k;obtain⟨w,ew,gw⟩:∃w,uh [Pv.S "number ",.S "end",.S "else",.S "try",.S "catch",.S "end"] (k-6)=O (.S w)/\GT 26 136 w:=by obtain⟨j,rfl⟩:∃j:Ń,k=6+(j:Î):=((k-6).toNat,());rw[show 6+(j:Î)-6=(j:Ń)by lia];rwa[OA ∅ (by show(j:Î)<6;lia)]
 erw[bW ew ?_];erw[aB (by show(jL (À (jn L))&&Đ ((-4611686018427387904:Î)<=(À (jn L):Ń)))=J;rw[mH (by rw[fc];show _<=1000000;lia),bR ()];rfl) ?_];erw[Jc (ov L w) Ŗ (λy H=>?_) ?_]
 .let(i,C,rfl):=Kk (k:=À (jn L)) H;rw[fc]at C;let(z,U,X,E):=B9 C;erw[(λR r=>bW E ?_,λR r=>r)];let:ov L w (.I (i:Ń))=Cd af !(ä (hZ z) w 0 (hZ z).length 1).isEmpty:=by show(match uh (jn L) ((i:Ń):Î)with|O (.S j)=>Cd af !(ä j w 0 j.length 1).isEmpty|_=>af)=_;rw[E]
  rw[this]at r;rwa[r]
 .generalize Y:(lC 0 ((À (jn L):Ń):Î).toNat).filter (ov L w)=fs;let K:∀x∈fs,∃i:Ń,i<À L/\x=.I (i:Ń):=λx D=>by rw[<-Y]at D;let:=Kk (eP.mp D).1;rw[iV,fc]at this;rwa[this]
  let hfl:À fs<=À L:=by rw[<-Y];erw[ay (Tv ..) ?_];delta lC;rw[ai,dk,iV,fc];rwa[au _]
  erw[aB (by cases fs<;>rfl) (bE (λ_=>?_) λne=>?_)]
  .show oj (.p (.L (pD (jn L) aa (O (-1))))) (.p (.L (jn [w.cps.toList]))) _ _;let e0:pD (jn L) aa (O (-1))=jn (L.take (À L-1)):=by show((jn L).take (À (jn L)-(0+1))).drop 0=_;rw[fc];rwa[tD L (À L-1)]
   rw[e0];erw[qd (by rw[bX];show _+1<=_;lia) (q _ _ v ?_)];let c:=FF.mk (n:=n) (L:=L) (L.take (À L-1)) (L.drop (À L-1)) [w.cps.toList] [] (by rw[aQ,cS]) (au _) (λy H=>by rw[aL.mp H];rwa[gw.ok gk]);rw[aQ]at c;rwa[c]
  .let f1:1<=À fs:=by cases fs with|i=>cases ne|k _ _=>rw[aq];lia
   erw[aB (ft (m:=(À fs:Ń)) v () ()) λm1 t wm ht=>?_];let(x,D,ex):=DC (xs:=fs) (k:=t) ht;let(i,C,rfl):=K x D;erw[bW ex ?_];let(z,U,X,E):=B9 C;let G:=g.g z U;let ez1:À z=(hZ z).length:=aX (xs:=(hZ z).cps).symm;let gu:=g.u;let gz2:=G.2.1;let gz3:=G.2.2;let Z:Í (hZ z).length 1000000=true:=ap.mpr ();let P:10∉z/\z.count 32<=2*n+2/\À z<=16*n+16:=(G.1,by let:=G.2.1;lia,by let:=G.2.2;lia);let ch:∀r:Ã,10∉r.cps.toList/\r.cps.toList.count 32<=2*n+2/\À r.cps.toList<=16*n+16->FF n L (L.take i++[r.cps.toList]++L.drop (i+1)):=λr d=>FF.mk _ [z] [_] _ X (au _) (λy H=>by rw[aL.mp H];rwa[d]);let F:∀r:Ϙ,À (L.take i++[r])<=200001:=λr=>by rw[ah,bX];show _+1<=_;lia
   erw[bE (λ_=>?_) λ_=>?_]
   .erw[aB (EL wm Ŗ) λm2 u N hu=>Gb (f:=λz=>U5 0 2 z&&!ax "number " ("number "++z)) ?_ ?_ λA o=>?_];.decide+kernel
    .rwa[hu]
    let(g1,g2):=ag o;let gy:=(fV (b:=1) (l:=7) (z:="number ") ∅).app (fV g1);let gl9:=gy.l;let apZ:=(fV g1).l;erw[bW E (aB Z (aB (mH (by show 7+_<=1000000;lia)) (aB (by rw[g2,ap.mpr (show("number "++A:Ã).length<=100 by lia)];rfl) λr d=>mX (M:=[r.cps.toList]) gl (au _) (gi (mW (j:=i+1) gl (F _) (q _ _ N (ch r ?_)))))))];let:=HZ G gy d;exact(this.1,(),())
   .erw[aB (EL wm Ŗ) λm2 u N hu=>bE (λc6=>?_) λ_=>?_]
    .erw[Gb (f:=λz=>U5 2 4 z) ?_ ?_ λA o=>?_];.decide+kernel
     .rwa[dE.mp c6]
     let T:=fV o;let gm1:=T.l;let gm2:=T.b;erw[bW E (iX (mH (by show _<=1000000;lia)) (mX (M:=[(hZ z++A:Ã).cps.toList]) gl (au _) (gi (mW (j:=i+1) gl (F _) (q _ _ N (ch (hZ z++A) ?_))))))];rw[gC,cU,ah,oh];let e3:À A.cps.toList=A.length:=aX;erw[(λv=>(bt.mp v).elim G.1 T.n,(),())]
    .let a:=fV (b:=0) (l:=1) (z:="\t") ∅;erw[bE (λ_=>?_) λ_=>bE (λ_=>?_) λ_=>?_]
     .erw[bW E (aB Z λr d=>?_)];let(r1,r2,r3):=HZ G a d;let e3:À r.cps.toList=r.length:=aX;erw[iX (mH (by show 1+_<=1000000;lia)) (mX (M:=[("\t"++r:Ã).cps.toList]) gl (au _) (gi (mW (j:=i+1) gl (F _) (q _ _ N (ch ("\t"++r) ?_)))))];rw[gC,cU,ah];let t1:=a.b;let t2:À ("\t":Ã).cps.toList=1:=∅
      erw[(λv=>(bt.mp v).elim a.n r1,(),())]
     .erw[bW E (aB Z λr d=>mX (M:=[r.cps.toList]) gl (au _) (gi (mW (j:=i+1) gl (F _) (q _ _ N (ch r ?_)))))];let:=HZ G a d;exact(this.1,(),())
     .erw[bW E (Bg (M:=[z]) gl (au _) (q _ _ N ?_))];rwa[FF.mk _ [] [z] _ (by rw[ky,cS]) (au _) λy H=>by rw[aL.mp H];rwa[P]]
inductive ù:Ct|mk{n N:Ń}{d m:Î}{t:Ã}{Q:Dv->Hs->ß}{xc:XP}(hm:qu m)(hn:26<=n)(Nk:n<=10000)(hN:N<=170000)(h:xD n N d t)(q:∀(m':Î)t',qu m'=J->xD (2*n+2) (N+16*n+17) (2*d+2) t'->Q (.p (.S t')) [.L [.I m']]):ù [.p (.S t),.r 0] [.L [.I m]] Q xc
def agE{j:Ń}(h:j<=x.length):á x aa (O j)=hZ (x.cps.toList.take j):=by let z:=kR (PyProof.Rows.slice_closes_toL (x:=x) (j:=j) () ());congr 2
def XA{j:Ń}:á x (O j) aa=hZ (x.cps.toList.drop j):=by
 by_cases h:x.length<=j;.rw[PyProof.Rows.slice_beyond (),Ī (by done)];rfl
 .rw[kR (PyProof.Rows.slice_closes_from ((),by show(j:Î)<=x.length;lia)),iV];show hZ _=_;rw[vT ⋯]
theorem FX:∀{ws:ϐ},mG (ws.map .S)=O ws|[]=>Ŗ|w::ws=>by show(match mG _ with|O r=>O _|aa=>aa)=_;rw[FX]
def KH(L:Ł _):((L.map hZ).map (·.length)).sum+À (L.map hZ)*1=j6 L:=by rw[Nat.mul_one];induction L with|i=>rfl|k z L i=>rw[bV,bV,List.sum_cons,aq];let:(hZ z).length=À z:=Ŗ;show _=À z+1+j6 L;lia
def jU(c:Ń):Ł Ϙ->Ϙ|[]=>[]|a::A=>a++c::jU c A
def jV(c:Ń):Ł Ϙ->Ϙ|[]=>[]|b::B=>c::(Ñ ⟨#[c]⟩ ((b::B).map hZ)).cps.toList
def Ew(c:Ń)(x:Ϙ)(B:Ł _):∀A:Ł _,(Ñ ⟨#[c]⟩ ((A++[x]++B).map hZ)).cps.toList=jU c A++(x++jV c B):=by intro A;induction A with
 |i=>cases B with|i=>exact(Pb c _).trans (aQ _).symm|k b B=>rwa[gG c _ _ _]
 |k a A i=>
  let e:∃y r,(A++[x]++B).map hZ=y::r:=by cases A with|i=>exact(_,_,Ŗ)|k _ _=>exact(_,_,Ŗ)
  let(y,r,e):=e;show(Ñ _ (hZ a::(A++[x]++B).map hZ)).cps.toList=a++c::jU c A++_;rw[e]at i⊢;rw[gG,i,oh];simp
def xa(l:Ϙ):(hZ l).length=À l:=rfl
def ϋ{xs:Ϙ}{k:Ń}(h:(k:Î)<À xs):∃c,uh xs k=O c/\c∈xs:=by
 let h:k<À xs:=()
 exact(_,aE h,dY h)
def xD.gll(h:xD n N d t)(hn:26<=n)(k:n<=10000)(c:N<=170000):Ć n (iE 10 t.cps.toList):=by
 erw[(hn,k,?_,?_,λz H=>(tT H,h.b z H,h.m z H))];.let:=h.l;let:=nK (a:=10) (l:=t.cps.toList);rw[aX]at this;rw[qr];let e:t.cps.size=t.length:=Ŗ;lia
 .rw[qr];lia
def FF.sum(c:FF n L l):j6 l<=j6 L+16*n+17:=by cases c with|mk A C M B h m H=>
 rw[h,fA,fA,fA,fA];let s:j6 M<=16*n+17:=by cases M with|i=>rwa[bu _]|k z M=>cases M with|i=>let:=(H z ao).2.2;show(À z)+1+0<=_;lia|k y M=>left
 lia
seal oj in
def ajC(B:LX ca W)(S:SX W):DX ca W 70 7 ù:=by erw[B.e (k:=5) 7 J [(30,oP),(68,Ċ),(69,Č)] [] (.set 2 (.cl 30 [0] (.u2 1 (.i 12)))<|>.iff (.cmp IU 2 (.i 5)) (.re (.mt V6 (.s "\n") (.u (.cl 69 [0] (.u3 (.mt Hm 0 (.u (.s "\n"))) 2 1))))) .nil<|>.iff (.cmp TR 2 (.i 3)) (.set 3 (.cl 30 [0] (.u2 1 (.b2 cm (.bi d8 (.u 0)) (.i 1))))<|>.set 4 (.ix (.s " \n0123456789abepx\t-#A") (.cl 30 [0] (.u2 1 (.i 21))))<|>.re (.b2 cm (.b2 cm (.sl 0 .no (.of 3)) (.ix (.lst (.u3 4 (.s "") 4)) 2)) (.sl 0 (.of (.b2 cm 3 (.ix (.lst (.u3 (.i 0) (.i 1) (.i 1))) 2))) .no))) .nil<|>.iff (.cmp TR 2 (.i 5)) (.re (.mt V6 (.s "\n") (.u (.cl 68 [0] (.u2 (.mt Hm 0 (.u (.s "\n"))) 1))))) .nil<|>.set 5 (.mt Hm 0 (.u (.s " ")))<|>.set 3 (.cl 30 [0] (.u2 1 (.bi d8 (.u 5))))<|>.set 6 (.lst (.cons (.s "") (.cons (.s "0") (.cons (.s "00") (.cons (.s "7") (.cons (.s "1000000") (.cons (.s "-1") (.cons (.s "number") (.cons (.s "box") (.cons (.s "size") (.cons (.s "item") (.u5 (.s "plus") (.s "a") (.s "1\n") (.s "\t") (.s "not")))))))))))))<|>.set 6 (.b2 cm 6 (.lst (.u2 (.s "+7") (.s "1_0"))))<|>.re (.mt V6 (.s " ") (.u (.b2 cm (.b2 cm (.sl 5 .no (.of 3)) (.lst (.u (.ix 6 (.cl 30 [0] (.u2 1 (.i 17))))))) (.sl 5 (.of (.b2 cm 3 (.i 1))) .no))))) S.zV rfl ((nW B S).le (),ajG B S,ajH B S,Ť) Ť λds h Q xc c=>?_];cases c with|@mk n N d m t _ _ hm hn Nk hN h q=>
 erw[(Ŗ,?_)];let hl:=h.l;let gL:=h.gll hn Nk hN;let sN:j6 (iE 10 t.cps.toList)<=170001:=by rw[kN,aX];show t.length+1<=_;lia
 let T:(Ø t "\n").map Pv.S=jn (iE 10 t.cps.toList):=by delta jn;rw[UH,kY]
 let U:∀{o:Î}{b:Ł Ϙ},qu o=J->FF n (iE 10 t.cps.toList) b->Q (.p (.S (ê "\n" (b.map hZ)))) [.L [.I o]]:=λ{o b}LW c=>by let:=q o _ LW (Lr h c);rw[<-UH,<-zc]at this;rwa[this]
 let X:∀{b:Ł Ϙ},FF n (iE 10 t.cps.toList) b->Í (((b.map hZ).map (·.length)).sum+À (b.map hZ)*1) 16777216=true:=λ{b}c=>ap.mpr (by rw[KH];let:=c.sum;lia);erw[aB (EL hm Ŗ) λm1 k y hk=>bE (λA=>?_) λA=>bE (λC=>?_) λC=>bE (λc4=>?_) λc4=>?_];.let A:(5:Î)<(k:Ń):=dE.mp A;erw[aB (lF Ŗ ()) ?_];rw[T];rwa[.mk y () hk gL λD b Z c=>bW (FX (ws:=b.map hZ)) (aB (X c) (U Z c))]
 .let C:k<3:=by let C:((k:Ń):Î)<3:=dE.mp C;lia
  erw[aB (mH (by show t.length<=1000000;lia)) (gi (aB (ft (m:=(t.length:Ń)+1) y () ()) λD a Z H=>aB (EL Z Ŗ) λG u K hu=>?_))];let H:a<=t.length:=by let H:(a:Î)<(t.length:Ń)+1:=H;lia
  let(c,ec,hc):=ϋ (xs:=(" \n0123456789abepx\t-#A":Ã).cps.toList) (k:=u) hu;erw[bW ec ?_];let tl:À t.cps.toList=t.length:=aX;let e1:=agE H;let l1:(á t aa (O (a:Ń))).length<=170000:=by rw[e1,xa,bX];lia
  let fin:∀(x:Ã)(j:Ń),x.cps.toList.count 10<=1->x.cps.toList.count 32<=2->x.length<=16->jL ((á t aa (O (a:Ń))++x).length+(á t (O ((a+j:Ń):Î)) aa).length)/\Q (.p (.S (á t aa (O (a:Ń))++x++á t (O ((a+j:Ń):Î)) aa))) [.L [.I G]]:=λx j x1 x2 x3=>by
   let e2:á t (O ((a+j:Ń):Î)) aa=_:=XA;let l2:(á t (O ((a+j:Ń):Î)) aa).length<=170000:=by rw[e2,xa,fh];lia
   let xl:À x.cps.toList=x.length:=aX;erw[(mH (by rw[nU];show _<=1000000;lia),q _ _ K (DQ (u:=t.cps.toList.take a) (r:=t.cps.toList.drop a) (r':=t.cps.toList.take (a+j)) (v:=t.cps.toList.drop (a+j)) (x:=x.cps.toList) h (cS ..).symm (cS ..).symm x1 x2 () ?_ ?_))];.rw[gC,gC,e1,e2,oh,oh,aN]
   .rw[nU,nU,e1,e2,xa,xa,bX,fh];lia
  let one:[c].count 10<=1/\[c].count 32<=2:=(nK (l:=[c]),ay (nK (l:=[c])) (by show 1<=2;decide));let s1:jL ((á t aa (O (a:Ń))).length+1)=true:=mH (by show _<=1000000;lia);let s0:jL ((á t aa (O (a:Ń))).length+0)=true:=mH (by show _<=1000000;lia);let st:jL t.length=true:=mH (by show _<=1000000;lia);let cl:(⟨#[c]⟩:Ã).length<=16:=by show 1<=16;decide
  rcases k with _|_|_|k;.let(F,g):=fin ⟨#[c]⟩ 0 one.1 one.2 cl;rwa[aB st (iX s1 (gi (aB st (iX F g))))]
  .let(F,g):=fin "" 1 ∅ ∅ ∅;rwa[aB st (iX s0 (gi (aB st (iX F g))))]
  .let(F,g):=fin ⟨#[c]⟩ 1 one.1 one.2 cl;rwa[aB st (iX s1 (gi (aB st (iX F g))))]
  .lia
 .erw[aB (lF Ŗ ()) ?_];rw[T];rwa[.mk y gL λD b Z c=>bW (FX (ws:=b.map hZ)) (aB (X c) (U Z c))]
 .erw[aB (lF Ŗ ()) ?_];let eW:(Ø t " ").map Pv.S=jn (iE 32 t.cps.toList):=by delta jn;rw[UG,kY]
  let tl:À t.cps.toList=t.length:=aX;let wl1:À (iE 32 t.cps.toList)<=170001:=by let:=nK (a:=32) (l:=t.cps.toList);rw[qr];lia
  let wl0:1<=À (iE 32 t.cps.toList):=by rw[qr];lia
  rw[eW];erw[aB (ft (m:=(À (jn (iE 32 t.cps.toList)):Ń)) y (by rw[fc];lia) (by rw[fc];lia)) λD a Z H=>?_];let H:a<À (iE 32 t.cps.toList):=by let H:(a:Î)<(À (jn (iE 32 t.cps.toList)):Ń):=H;rw[fc]at H;lia
  let(z,hz,Y,ez):=B9 H;erw[Bh ∅ (aB (EL Z Ŗ) λG u K hu=>Gb (f:=λz=>Í (z.cps.toList.count 10) 1&&(Í (z.cps.toList.count 32) 2&&Í z.length 16)) ?_ ?_ λw hw=>?_)];.decide+kernel
  .rwa[hu]
  let(P,R,w3):=lT hw;let P:=ap.mp P;let R:=ap.mp R;let w3:=ap.mp w3;let wl:À w.cps.toList=w.length:=aX;let ll:À ((iE 32 t.cps.toList).take a++[w.cps.toList])<=200001:=by rw[ah,bX];show _+1<=_;lia
  let sW:=kN (c:=32) (l:=t.cps.toList);let E:=Fj (c:=32) (l:=t.cps.toList);generalize iE 32 t.cps.toList=L at*;erw[mX (M:=[w.cps.toList]) () (au _) (gi (mW (j:=a+1) () ll (bW (FX (ws:=(L.take a++[w.cps.toList]++L.drop (a+1)).map hZ)) (aB (ap.mpr ?_) ?_))))];.show _+_*1<=_;rw[KH,fA,fA];rw[Y,fA,fA]at sW;show _+(À w.cps.toList+1+0)+_<=_;lia
  .let e2:=Ew 32 w.cps.toList (L.drop (a+1)) (L.take a);rw[Y,<-aN,Ew]at E;let hq:=q G (Ñ ⟨#[32]⟩ ((L.take a++[w.cps.toList]++L.drop (a+1)).map hZ)) K (DQ (u:=jU 32 (L.take a)) (r:=z++jV 32 (L.drop (a+1))) (r':=jU 32 (L.take a)++z) (v:=jV 32 (L.drop (a+1))) (x:=w.cps.toList) h E.symm (by rw[aN];rwa[E.symm]) P R () e2 ?_);.rw[<-UG,<-zc]at hq;rwa[hq]
   .let e3:=cY À e2;let e4:=cY À E;rw[ah,ah]at e3 e4;let:À (Ñ ⟨#[32]⟩ ((L.take a++[w.cps.toList]++L.drop (a+1)).map hZ)).cps.toList=(Ñ _ _).length:=aX;lia
end
end W2
namespace F
open L2
def Ms.ajU{K:Æ}{a:Ã->Ő _}{st:È}{ps:ϐ}{C:Ct}(B:Ms Γ t)(z:Þ)(j:Nd K x l st f d)(F:dR N ps (aU st))(g:Gk Γ t k S P w K a base)(n:B.ck (S.at N (aU st) af) (cB st)=J)(b:∀ds h Q X,C ds h Q X->À ds=À ps/\B.m (hU z (À h) Q λ_ _=>ŧ) (pY (À N) ds) h):jT P w K a base IE (k+2) f d ps (jy (K,a,t) C):=by rwa[j.ok F (λv H Q E t=>t.ln λ_ _ _ _ c=>(b _ _ _ _ c).1) λR A o s H v Q E u (G,M,h,ds,L,X,r,i,c,out,D)=>(_,B.ps (E:=λ_ _ _=>ŧ) (Gk.okx g rfl rfl rfl (λp σ H s e T I (_,_,_,_,_,q)=>q.elim) u (λh=>by cases h),F.nd,λy _=>.inl Ŗ,wH,F.kind,g.exc) n,(G,M,_,h,_,BM r (CH N i) out λ_ _ _ _ _ _ q=>q.elim,(b _ _ _ _ c).2))]
end F
namespace W2
open L2 F
abbrev f_:Ct:=Dd JH λ_=>.B J
def lwN:ϐ:=["_law_script","_law_lines","_law_state_here","_law_text","_law_other","_law_told","_law_parts_here","_law_due"]
theorem xD.mono(h:xD n N d t)(a:n<=n')(c:N<=N')(e:d<=d'):xD n' N' d' t:=(ay h.l c,λz H=>ay (h.b z H) a,λz H=>ay (h.m z H) (),h.s.mono e)
def X3:xD 110 180000 26 "":=by
 erw[(∅,?_,?_,((∅,by show(0)<=_;decide),by show(0)<=_;decide))];.decide
 .decide
def M7(Z:ϐ):Ã:=ê "" (Z.map λz=>z++"\n")
def X4(h:∀z∈Z,GT 26 136 z):iE 10 (M7 Z).cps.toList=Z.map (λz:Ã=>z.cps.toList)++[[]]:=by
 delta M7;rw[zc,UH,show("":Ã)=⟨#[]⟩ from Ŗ,ym];let e:Z++[⟨#[]⟩]=(Z.map (λz:Ã=>z.cps.toList)++[[]]).map hZ:=by rw[aR,cq];show _=Z.map id++[⟨#[]⟩];rw[kQ]
 rw[e];erw[Rr ⋯ λp H=>?_];rcases bt.mp H with H|H;.let(z,a,rfl):=bf.mp H;exact(h z a).n
 .rw[aL.mp H];simp
def abX(g:Gz 5 0 0 155000 zs):xD 26 155000 5 (M7 zs):=by
 let e:=X4 g.g;let sm:=by
  let:∀zs:ϐ,j6 (zs.map λz:Ã=>z.cps.toList)=CL zs:=by intro zs;induction zs with|i=>rfl|k z zs i=>show(À z.cps.toList)+1+j6 _=z.length+1+CL zs;rw[i];rfl
  rwa[this zs]
 let G:∀z∈iE 10 _,z.count 32<=26/\À z<=8*26:=λz h=>by
  rw[e]at h;rcases bt.mp h with h|h;.let(y,H,rfl):=bf.mp h;let:=g.g y H;let h2:=this.l;let a:À y.cps.toList=y.length:=aX;exact(this.b,())
  .rw[aL.mp h];decide
 erw[(?_,λz h=>(G z h).1,λz h=>(G z h).2,?_)];.let s1:=kN (c:=10) (l:=(M7 zs).cps.toList);rw[e,fA,sm]at s1;let s2:À (M7 zs).cps.toList=(M7 zs).length:=aX;let:=g.l;let:j6 [[]]=1:=Ŗ;lia
 .rw[e,aR,cq];let:=(g.w.app (B:=[0]) (c:=0) (∅,⋯,∅)).sx;rwa[this]
def Go:Pv->Pv|.S z=>.S (z++"\n")|x=>x
inductive LWJ(x l:Pv)(o t:Ã):Es->Hs->ß|mk(m1 m2:Î)(v5 v6 v7:Ő Dv):LWJ x l o t [O (.p x),O (.p l),O (.r 1),O (.p (.S t)),O (.p (.S o)),v5,v6,v7] [.L [.I m1],.L [.I m2]]
inductive LWC(x l:Pv)(t:Ã):Es->Hs->ß|mk(m1 m2:Î)(o:Ã)(v5 v6 v7:Ő Dv)(h:xD 110 180000 26 o):LWC x l t [O (.p x),O (.p l),O (.r 1),O (.p (.S t)),O (.p (.S o)),v5,v6,v7] [.L [.I m1],.L [.I m2]]
inductive LWD(x l:Pv)(o t z:Ã):Es->Hs->ß|mk(m1 m2:Î)(v6:Ő Dv)(X:Hs):LWD x l o t z [O (.p x),O (.p l),O (.r 1),O (.p (.S t)),O (.p (.S o)),O (.p (.S z)),v6,O (.p (SE (fL z)))] (.L [.I m1]::.L [.I m2]::X)
def ś{ca:Ń->Á}{W:Wd}{f:Á}{F:b7}{st:È}{l:Ł (Ń×Ct)}{k:Ń}{M:Ss}{C:Ct}(B:LX ca W)(N:ϐ)(c:Nd W.K "law" "law" st f F)(b:Ms ((Lx ca).G l []) (Lx ca).t)(a:(Ov N ["_law_script"] (aU st)&&b.ck ((Lx ca).S.at N (aU st) af) (cB st))=J)(H:All (Lx ca) W (k+1) l)(d:∀ds h Q x,C ds h Q x->À ds=1/\M (hU J (À h) Q λ_ _=>ŧ) (pY (À N) ds) h)(e:autoParam (b.m=M) õ):jT W.P W.w W.K W.mg W.base IE (k+2) f F ["_law_script"] (jy ((Lx ca).y W) C):=by subst e;rwa[b.ajU _ c (pL (ag a).1) (B.gk (FG.of H.at) Ť) (ag a).2 d]
def adR(B:LX ca W)(F0:Nd W.K "law" "law" (top 111) f fd)(D:DX ca W 28 2 NO)(v:DX ca W 29 2 Gi)(A:DX ca W 30 2 oP)(C:DX ca W 34 15 ü)(E:DX ca W 64 172 (T5 111 26))(F:DX ca W 65 30 IV)(M:DX ca W 66 31 TQ)(U:DX ca W 70 7 ù):jT W.P W.w W.K W.mg W.base IE 173 f fd ["_law_script"] (jy ((Lx ca).y W) f_):=by
 erw[ś B lwN F0 (l:=[(28,NO),(29,Gi),(30,oP),(34,ü),(64,T5 111 26),(65,IV),(66,TQ),(70,ù)]) (k:=171) (.set 1 (.cl 34 [0] (.u (.cl 29 [] (.u2 (.cl 28 [] (.u2 0 (.i 0))) (.i 1)))))<|>.set 2 (.cl 29 [] (.u2 (.cl 28 [] (.u2 0 (.i 1))) (.i 2)))<|>.set 3 (.mt V6 (.s "") (.u (.N0 1 [] (.one 0) (.s 1) .no (.b2 cm 0 (.s "\n")))))<|>.set 4 (.cl 70 [1] (.u2 3 2))<|>.cut (.iff (.cmp jA (.cl 30 [1] (.u2 2 (.i 3))) (.i 0)) (.one (.set 4 (.cl 70 [1] (.u2 4 2)))) .nil) (.fo (.one 5) (.s (.tup (.u4 4 3 4 (.s "")))) (.set 6 (.cl 64 [] (.u 5))<|>.set 7 (.s "text")<|>.cut (.iff (.AH J 6) (.one (.set 7 (.cl 65 [] (.u 6)))) .nil) (.one (.iff (.cmp ajs (.cl 66 [] (.u 5)) 7) (.re (.c (.B af))) .nil)))<|>.re (.c (.B J)))) rfl (D.up Ŗ,v.up Ŗ,A.up Ŗ,C.up Ŗ,E,F.up Ŗ,M.up Ŗ,U.up Ŗ,Ť) λds h Q xc c=>zw (λx Q xc hx q=>?_) ds h Q (λ_ _=>ŧ) (show f_ ds h Q λ_ _=>ŧ from c)];let q:Q (.p (.B J)) []:=q;erw[aB (by show(JH x&&J)=J;rw[hx];rfl) λi n hn=>.mk hn λm1 zs wm G=>?_];erw[aB (by show(JH x&&J)=J;rw[hx];rfl) λi2 n2 Nk=>?_];let Y:xD 26 155000 5 (ê "" (zs.map λz=>z++("\n":Ã))):=abX G;let tm:=Y.mono (n':=110) (N':=180000) (d':=26) ∅ ∅ ∅;let zl:=G.len;erw[iY Go Ŗ (λy hy=>?_) ?_];.let(z,H,rfl):=bf.mp hy;let:=(G.g z H).l;rwa[λR q=>aB (mH (by show z.length+1<=1000000;lia)) q]
 let e1:(zs.map Pv.S).map Go=(zs.map λz=>z++("\n":Ã)).map .S:=by rw[cq,cq];rfl
 rw[e1];erw[bW (FX (ws:=zs.map λz=>z++("\n":Ã))) (aB (ap.mpr ?_) ?_)]
 .let:=G.l;rw[cq,ai];let e:(zs.map ((λx:Ã=>x.length)∘ λz=>z++("\n":Ã))).sum=CL zs:=by delta CL;congr 1;rwa[A8 λz _=>nU z "\n"]
  show(zs.map ((λx:Ã=>x.length)∘ λz=>z++("\n":Ã))).sum+À zs*0<=_;lia
 generalize ê "" (zs.map λz=>z++("\n":Ã))=t at Y tm⊢;generalize Pv.L (zs.map .S)=l;erw[.mk Nk ∅ ∅ ∅ Y λm2 o nZ d=>?_];erw[Ô (LWC x l t) (Õ (aB (EL nZ Ŗ) λm3 k vv hk=>bE (λ_=>?_) λ_=>?_) λσ h c=>?_)];.rwa[.mk vv ∅ ∅ ∅ d λm4 o2 OG U9=>LWC.mk _ _ _ _ _ _ (U9.mono ∅ ∅ ∅)]
 .rwa[LWC.mk _ _ _ _ _ _ (d.mono ∅ ∅ ∅)]
 .cases c with|mk m1 m2 o v5 v6 v7 d=>
  erw[nY (λpre post σ h=>LWJ x l o t σ h) (.mk m1 m2 _ _ _) (λpre y post σ h e j=>?_) λσ h j=>?_]
  .let hy:∃z,y=.S z/\xD 110 180000 26 z:=by
    let hm:y ∈[Pv.S o,.S t,.S o,.S ""]:=by rw[show[Pv.S o,.S t,.S o,.S ""]=_ from e];simp
    simp only[aJ,K9,or_false]at hm;rcases hm with rfl|rfl|rfl|rfl;.exact(_,Ŗ,d)
    .exact(_,Ŗ,tm)
    .exact(_,Ŗ,d)
    .exact(_,Ŗ,X3)
   let(z,rfl,H):=hy;cases j with|mk a1 a v5 v6 v7=>
   let dz:=G_ H ∅ ∅;erw[.mk dz.l (H.all ∅ ∅).1 H.pb λm=>?_];let em:V8 [] (À [Ob.L [Pv.I a1],Ob.L [Pv.I a]]) [] m [Ob.L [Pv.I a1],Ob.L [Pv.I a]]=Ob.L [Pv.I a1]::Ob.L [Pv.I a]::m.map (IJ [] 2):=by cases m<;>rfl
   rw[em];generalize m.map (IJ [] 2)=X;erw[Ô (LWD x l o t z) (Õ ?_ λσ h c=>?_)];.let made:=dz.z;delta Qf;cases ep:km (fL z)with
    |n=>
     let Z:=LWD.mk (x:=x) (l:=l) (o:=o) (t:=t) (z:=z) a1 a (O (.p .N)) X;let ed:SE (fL z)=.S "text":=by delta SE;rw[ep]
     rw[ed]at Z;rwa[Z]|s w=>
     let(b,l',f,r):=w;let Z:=LWD.mk (x:=x) (l:=l) (o:=o) (t:=t) (z:=z) a1 a (O (.p (.T [.T b,.T l',.T f,.T r]))) X;let ed:SE (fL z)=uc (.T b) (.T l') (.T f) (.T r):=by delta SE;rw[ep]
     rw[ed]at Z;rwa[.mk (made b l' f r ep) Z]
   .cases c with|mk a1 a v6 X=>let(or,run,kr):=dz.r;erw[.mk dz.l dz.g run (kr (λx=>_) ?_)];erw[((Ŗ,F_ _),?_)];show Gs 2 (λσ h=>LWJ x l o t σ h) [O (.p x),O (.p l),O (.r 1),O (.p (.S t)),O (.p (.S o)),O (.p (.S z)),v6,O (.p (SE (fL z)))] (.L [.I a1]::.L [.I a]::X);let et:(Ob.L [Pv.I a1]::Ob.L [Pv.I a]::X).take 2=[.L [.I a1],.L [.I a]]:=Ŗ;rwa[Uk Ŗ (LWJ.mk a1 a _ _ _)]
  .done
def ef(ks:ϐ):ϐ:=ks.takeWhile λk=>!ax k "rows"
def cr{k:Ã}{ks:ϐ}:ef (k::ks)=match ax k "rows"with|J=>[]|af=>k::ef ks:=by delta ef;rw[List.takeWhile_cons];cases ax k _<;>rfl
theorem eB:∀{ks:ϐ},("rows":Ã)∈ks->ks[À (ef ks)]?=O "rows"/\(∀m,m<À (ef ks)->ks[m]?≠O "rows")/\ks.take (À (ef ks))=ef ks|[],h=>by grind|k::ks,h=>by rw[cr];cases c:ax k _ with|t=>rw[aI.mp c];exact(Ŗ,λm H=>Ă H (fX _),Ŗ)|f=>
   let n:k≠"rows":=λz=>by rw[aI.mpr z]at c;cases c
   let(a,b,d):=eB ((aJ.mp h).elim (λz=>Ă z.symm n) id);erw[(a,λm H=>?_,cY _ d)];cases m with|z=>grind|v m=>grind
theorem eu:∀{ks:ϐ},("rows":Ã)∉ks->ef ks=ks|[],_=>Ŗ|k::ks,h=>by rw[cr];cases c:ax k _ with|t=>rwa[Ă (aI.mp c) λz=>h (by grind)]|f=>rwa[cY _ (eu λz=>h (ak _ z))]
def Ϗ(x:Ã)(ws:ϐ):γ (.S x) (ws.map V.S)=Đ (x∈ws):=by
 delta γ;rw[cZ,um,qF];constructor;.rintro⟨y,H,e⟩;let(z,a,rfl):=bf.mp H;let E:(z==x)=true:=e;exact(by simpa using E)▸a
 .intro h;erw[(_,bf.mpr (x,h,Ŗ),?_)];show(x==x)=J;simp
def P_(n:ϐ):(n.map V.S).all pK=true:=by rw[aG];intro v h;let(x,_,rfl):=bf.mp h;rfl
def Um(xs:ϕ)(j:Ń):rh xs aa (O j)=xs.take j:=by
 delta rh;rw[HT.Fh,HT.Ks,Ta,Nat.sub_zero];rcases Nat.le_total j _ with h|h;.rw[Nat.min_eq_left h]
 .simp
def Yu(c:Dd p f ds h Q X):∃a,ds=[.p a]/\h=[]/\gd (p a) (Q (.p (f a)) []):=by rwa[ly c λx _ c=>lV c λc=>lV c λc=>(x,Ŗ,Ŗ,c)]
def Ku:dR ["word","kinds"] ["word"] (aU (top 17)):=pL Ŗ
section
variable{ca:Ń->Á}{W:Wd}{aF:Á}
seal L2.PE L2.PS L2.ph L2.PT L2.PW L2.PA L2.PG L2.Tp L2.PI L2.PO L2.qH L2.PC L2.jz L2.dW L2.Ah L2.IG L2.Ld L2.Ys in
def q_(n:W.mg "ROW_FORMS"=O (.ref aF))(T:Dz W.w W.K aF λx=>lk x eI)(S:SX W):DX ca W 27 4 Yv:=by erw[(_,S.E7.okX Ku (λu H Q E t=>t.ln λ_ _ _ _ c=>by let(x,rfl,rfl,c):=Yu c;rfl) λf P A o s H u Q E U Z=>?_)];let(G,M,h,ds,y,X,r,i,c,out,B):=Z;let(x,rfl,rfl,D):=Yu c;let(g,j):=bG D;let(g,C):=ag g;revert j C i;erw[tY g λd i j C=>?_];cases a:lk d _ with|n=>rw[show lk (dN (.S d)) _=aa from a]at C;cases C|s k=>
 let q:y (.p (pd (ef k))) []:=by
  let:Ej (.S d)=pd (ef k):=by delta Ej;rw[show lk (dN (.S d)) _=O k from a];rfl
  rw[<-this];rwa[j]
 let(v,rfl,Y):=i.om;cases(show v=.S d by done);erw[(_,jk (Kg 1 Ku.nd (tI (VL T) (oq (v:=.A aF) Ŗ n Ŗ) (pv 0))) (jk (QP (xi AQ jj (pv 1) Ŗ) (g8 (oA (ET Kw (pv 1) J9 (Ka (yD PySem.F.plainAttrs_tuple ZH PySem.F.type_tuple_index Mi (pv 1) (o8 jj fw)))))) Cu) (g8 (oA (pv 1)))),?_)];erw[(_,Ŗ,Ŗ,d,k,Ŗ,a,λb e=>?_)];erw[(_,Ŗ,b,_,Ŗ,.inr e.sq,Ŗ,P_ k,_,Ŗ,?_)];rw[Ϗ _ _];erw[ϳ (λc=>?_) λc=>?_];.let(R,I,L):=eB (aO c);erw[(_,Ŗ,_,Ŗ,e.ty,b,k,_,_,Ŗ,Ŗ,e.sq,R,I,_,Ŗ,b,_,Ŗ,e.sq,λp N m l=>?_)];rw[Um,<-ZF,L]at l;rwa[out _ [] M N _ (iu m) (lA r m) (by exact(p,_,Ŗ,l,nq)) q]
 .rw[eu λz=>c (bR z)]at q;exact(_,Ŗ,out _ [] M H _ (iu (jF.refl H)) r (by exact(b,_,Ŗ,e.sq,nq)) q)
end
def DB{α:Type}(P:α->ß):Ł α->ß|[]=>æ|x::r=>P x/\DB P r
theorem kE:∀{l:Ł α},DB P l->∀x∈l,P x|[],_,_,h=>nomatch h|y::r,a,x,h=>(aJ.mp h).elim (λz=>z▸a.1) λz=>kE a.2 x z
structure Txt(w:a9)(K:Æ)(mg:b1)(av ar al:Á):ß where
 z:DB (λx=>mg x=aa) Z9
 oN:mg "ValueError"=aa
 is:DB (λp:Ã×Î=>∃t,mg p.1=O (.int p.2 t)) [("MOST_LETTERS",6),("GREATEST",999999),("DEEPEST",4),("NO_ROW",-1),("MOST_BOXES",6),("MOST_LISTS",3),("MOST_THINGS",12),("MOST_FUNCTIONS",4),("MOST_NAMES",3),("DEEPEST_ROW",5),("MOST_NUMBERS",60),("MOST_FIGURES",6),("BOXES",0),("LISTS",1),("FUNCTIONS",2),("ROWS",3)]mv:mg "VALUE_FORMS"=O (.ref av)mr:mg "ROW_FORMS"=O (.ref ar)ml:mg "LINES"=O (.ref al)tv:Dz w K av λx=>lk x gN
 tr:Dz w K ar λx=>lk x eI
 tl:Dy w K mg (λi=>ú (hI Q_ "" i)) al λx=>(lk x EG).map λn=>Ó n ""
structure ZK(K:Æ)(mg:b1)(x:Ã)(C:Á)(fs:ϐ):ß where
 m:mg x=O (.ref C)cl:L2.IF K C
 na:DB (λf=>nP K C f) fs
def tG(C c a CS b W CR:Á):Ń->Á|0=>C|1=>c|2=>a|3=>CS|4=>b|5=>W|_=>CR
def kC(h:∃t,W.mg x=O (.int i t)):∃u v,W.mg x=O u/\RelV v u/\∀G M H,eG (((Lx c).y W).z G) M H (.I i) v:=let (t,h):=h;(_,.I i,h,(t,Ŗ),λ_ _ _=>by rfl)
def RM{K:Æ}(T:Dz w K a tab):F5 w K a tab:=by let(E,n,l,k,h):=T.ex;erw[((E,n,l,k,λx=>?_),T.lo)];let h:=h x;cases e:tab x with|n=>rw[e]at h;rwa[h]|s s=>rw[e]at h;let(b,H,o,B,m,c,d,_,f,g,i):=h;exact(b,H,o,B,m,c,d,f,g,i)
nonrec def y0:ϐ:=["boxes","lists","param_counts","may_return"]
nonrec def K':ϐ:=["words","place"]
def Nl:ϐ:=["section","boxes","lists","functions","rows","opened"]
def afb{K:Æ}{CS CR:Á}(T:Txt w K m A r h)(Z:FJ.ZM K m R C e f k g n o p q)(V:ZK K m "Scope" CS y0)(v:ZK K m "Words" W K')(j:ZK K m "Reader" CR Nl):Lk (Lx (tG C e f CS g W CR)) (P,w,K,m,base) where
 bl:=kE (P:=λx=>m x=aa) (l:=Z9) T.z;gl:=by let(s,t,u,y,B,D,E,F,G,H,i,I,a,b,c,d,_):=T.is;rwa[kE (l:=[0,1,2,3,4,5,6,7,8,9,10,11,12,13,14,15]) (kC s,kC t,kC u,kC y,kC B,kC D,kC E,kC F,kC G,kC H,kC i,kC I,kC a,kC b,kC c,kC d,Ť)]
 tab:=kE (l:=[0,1,100]) ((A,T.mv,RM T.tv),(r,T.mr,RM T.tr),(h,T.ml,T.tl),Ť);cls:=kE (l:=[3,5,6]) ((V.cl,kE V.na,pW Ŗ),(v.cl,kE v.na,pW Ŗ),(j.cl,kE j.na,pW Ŗ),Ť);exc:=kE (l:=[0,1,2,4]) ((Z.m1,Z.o1.exc),(Z.m2,Z.o2.exc),(Z.m3,Z.o3.exc),(Z.m5,Z.o5.exc),Ť)
def Kx(K:Æ):Sp:=λv H Q _=>∃(a:Á)(n:Ł Î),v=[.A a]/\ie K H a (n.map V.I)/\∀h,Q (.B J) h
theorem OT:∀N:Ł Î,bh Z M H (N.map .I) (N.map V.I)|[]=>Ť|n::N=>by show bh Z M H (.I n::N.map .I) (V.I n::N.map V.I);exact(by rfl,OT N)
def aad{L:Lw}(h:Kx W.K vs H Q E):jy (L.y W) f_ vs H Q E:=by
 let(a,n,rfl,S,q):=h;erw[([],[],[],[.p (.scr (n.map .I))],λd b=>d=.p (.B J),λ_ _=>ŧ,(jv,(λ_ h=>nomatch h),Ŗ,(λ_ h=>nomatch h),λi a o h=>by simp at h),(?_,Ť),aB ?_ Ŗ,?_,λ_ _ _ _ _ _ h=>h.elim)]
 .show eG _ _ _ _ _;erw[(a,_,Ŗ,?_,OT n)];rcases S with r|c;.rwa[.inl (((λh=>nomatch h),λh=>nomatch h),r)]
  .rwa[.inr (.inr c)]
 .show(n.map Pv.I).all isInt=J;rw[lM];rwa[aG.mpr λ_ _=>Ŗ]
 .rintro d b M e v _ _ i rfl;rw[Nw i];rwa[q e]
section
variable{w:a9}{K:Æ}{mg:b1}{h:É}
def NK{α:Type}{f g:Ł Ä->α}(hn:n<=5)(h:∀a b c d e,f ([a,b,c,d,e].take n)=g ([a,b,c,d,e].take n))(us:Ł Ä)(q:us.length=n):f us=g us:=by
 subst q;let o:Ä:=.none;rcases us with _|⟨a,_|⟨b,_|⟨c,_|⟨d,_|⟨e,_|⟨x,r⟩⟩⟩⟩⟩⟩;.rwa[h o o o o o]
 .rwa[h a o o o o]
 .rwa[h a b o o o]
 .rwa[h a b c o o]
 .rwa[h a b c d o]
 .rwa[h a b c d e]
 .rwa[Ă hn (Nat.not_le_of_lt (Nat.le_add_left 6 _))]
def abK{st:È}{kV:Ä}(X:K.In h)(G:h.Ns bv mg)(hn:ps.length<=5)(H:∀(kV doc p:Ä)(A:Ő Á)(R ct a b c d e:Ä),bindArgs (fnOf x x (iF st) (cB st) (aU st) .none kV doc p A R ct) ([a,b,c,d,e].take ps.length,[])=pure (ps.zip ([a,b,c,d,e].take ps.length)))(a:nsIn K bv x=O (O (.ref f)))(l:K.lookup f=O (oc,o,.func (fnOf x x (iF st) (cB st) (aU st) .none kV doc p A R ct),D))(c:codeIn K R x)(k:keepIn K (.ref f)):Src K mg x st ps:=have F:=BV (st:=st) l c k;(f,_,F,bq X G a,F.binds λkV doc p A R ct=>NK hn (H kV doc p A R ct))
def XG{st:È}{kV:Ä}(hn:ps.length<=5)(H:∀(kV doc p:Ä)(A:Ő Á)(R ct a b c d e:Ä),bindArgs (fnOf "__init__" q (iF st) (cB st) (aU st) .none kV doc p A R ct) ([a,b,c,d,e].take ps.length,[])=pure (ps.zip ([a,b,c,d,e].take ps.length)))(a:findIn K (.ref C) "__init__"=O (O (.ref f)))(i:isFn K (.ref f))(l:K.lookup f=O (oc,o,.func (fnOf "__init__" q (iF st) (cB st) (aU st) .none kV doc p A R ct),D))(c:codeIn K R q)(k:keepIn K (.ref f))(mk:makesIn K C)(g:keepIn K (.ref C)):uA K C q st ps:=have F:=BV (st:=st) l c k;(f,_,F,(mk,a,i,g),F.binds λkV doc p A R ct=>NK hn (H kV doc p A R ct))
def XH{st:È}{kV:Ä}(hn:ps.length<=5)(H:∀(kV doc p:Ä)(A:Ő Á)(R ct a b c d e:Ä),bindArgs (fnOf x q (iF st) (cB st) (aU st) .none kV doc p A R ct) ([a,b,c,d,e].take ps.length,[])=pure (ps.zip ([a,b,c,d,e].take ps.length)))(a:findIn K (.ref C) x=O (O (.ref f)))(i:isFn K (.ref f))(l:K.lookup f=O (oc,o,.func (fnOf x q (iF st) (cB st) (aU st) .none kV doc p A R ct),D))(c:codeIn K R q)(k:keepIn K (.ref f)):uB K C x q st ps:=have F:=BV (st:=st) l c k;(f,_,F,(a,i,k),F.binds λkV doc p A R ct=>NK hn (H kV doc p A R ct))
def Aj(w:a9)(K:Æ):Ł (Ã×ϐ)->Ł cp->ß|[],[]=>æ|(x,k)::r,e::E=>(∃t b,e=(ì w.params x,.str x t,.ref b)/\∃(o:Obj)(B:Array Ä)(m:Ń),K.lookup b=O o/\o.cls=.type "tuple"/\o.dict=aa/\o.data=.seq B m/\B.size<=Â/\Vals (k.map V.S) B.toList)/\Aj w K r E|_,_=>ŧ
def rkc{h:Î}(e:h=ì w.params x)(l:K.lookup b=O o)(c:o.cls=.type "tuple")(dn:o.dict=aa)(d:o.data=.seq B m)(z:B.size<=Â)(v:Vals (ks.map V.S) B.toList)(q:Aj w K r es):Aj w K ((x,ks)::r) ((h,.str x t,.ref b)::es):=by subst e;exact((t,b,Ŗ,o,B,m,l,c,dn,d,z,v),q)
theorem yL:∀{r:Ł (Ã×ϐ)}{es:Ł cp},Aj w K r es->KeysLit w.params es|[],[],_=>Ť|_::_,_::_,((_,_,e,_),q)=>by subst e;exact((_,_,Ŗ,Ŗ),yL q)|[],_::_,q=>q.elim|_::_,[],q=>q.elim
theorem yM{x:Ã}:∀{r:Ł (Ã×ϐ)}{es:Ł cp},Aj w K r es->match lk x r with|O k=>∃b,((es.find? λe=>Ý x e.key).map (·.val))=O (.ref b)/\∃(o:Obj)(B:Array Ä)(m:Ń),K.lookup b=O o/\o.cls=.type "tuple"/\o.dict=aa/\o.data=.seq B m/\B.size<=Â/\Vals (k.map V.S) B.toList|aa=>((es.find? λe=>Ý x e.key).map (·.val))=aa
 |[],[],_=>Ŗ|(y,k)::r,_::es,((t,b,e,Q),q)=>by subst e;let i:=yM (x:=x) q;show match match ax x y with|J=>O k|af=>lk x r with|O k=>_|aa=>_;cases e:ax x y with|t=>let e:=aI.mp e;subst e;exact(b,by rw[OD (by show(x==x)=J;simp)];rfl,Q)|f=>
   let n:List.find? (λe=>Ý x e.key) ((ì w.params y,.str y t,.ref b)::es)=es.find? λe=>Ý x e.key:=U7 λz=>by rw[aI.mpr (kR (show(y==x)=J from z)).symm]at e;cases e
   rw[n];rwa[i]
 |[],_::_,q=>q.elim|_::_,[],q=>q.elim
def abT(l:K.lookup a=O (.type "dict",aa,.dict es n,#[]))(lo:(a==db)=af)(q:Aj w K r es.toList):Dz w K a λx=>lk x r:=((es,n,l,yL q,λx=>by let h:=yM (x:=x) q;delta findBy;rw[<-Dj];rwa[h]),lo)
def Ai(w:a9)(mg:b1)(H:Ń->Ã):Ł (Ã×Ń)->Ł cp->ß|[],[]=>æ|(x,n)::r,e::E=>(∃t f,e=(ì w.params x,.str x t,.ref f)/\mg (H n)=O (.ref f))/\Ai w mg H r E|_,_=>ŧ
def rfc(X:K.In h)(G:h.Ns bv mg)(e:b=ì w.params x)(a:nsIn K bv (H n)=O (O (.ref f)))(q:Ai w mg H r es):Ai w mg H ((x,n)::r) ((b,.str x t,.ref f)::es):=by subst e;exact((t,f,Ŗ,bq X G a),q)
theorem yJ:∀{r:Ł (Ã×Ń)}{es:Ł cp},Ai w mg H r es->KeysLit w.params es|[],[],_=>Ť|_::_,_::_,((_,_,e,_),q)=>by subst e;exact((_,_,Ŗ,Ŗ),yJ q)|[],_::_,q=>q.elim|_::_,[],q=>q.elim
theorem yK{H:Ń->Ã}{x:Ã}:∀{r:Ł (Ã×Ń)}{es:Ł cp},Ai w mg H r es->match(lk x r).map λn=>Ó n ("":Ã)with|O k=>∃f,((es.find? λe=>Ý x e.key).map (·.val))=O (.ref f)/\mg (H k.length)=O (.ref f)|aa=>((es.find? λe=>Ý x e.key).map (·.val))=aa
 |[],[],_=>Ŗ|(y,n)::r,_::es,((t,f,e,Q),q)=>by subst e;let i:=yK (x:=x) q;show match(match ax x y with|J=>O n|af=>lk x r).map λn=>Ó n ("":Ã)with|O k=>_|aa=>_;cases e:ax x y with|t=>let e:=aI.mp e;subst e;exact(f,by rw[OD (by show(x==x)=J;simp)];rfl,by rw[cH];rwa[Q])|f=>
   let n:List.find? (λe=>Ý x e.key) ((ì w.params y,.str y t,.ref f)::es)=es.find? λe=>Ý x e.key:=U7 λz=>by rw[aI.mpr (kR (show(y==x)=J from z)).symm]at e;cases e
   rw[n];rwa[i]
 |[],_::_,q=>q.elim|_::_,[],q=>q.elim
def XZ(l:K.lookup a=O (.type "dict",aa,.dict es n,#[]))(lo:(a==db)=af)(q:Ai w mg H r es.toList):Dy w K mg H a λx=>(lk x r).map λn=>Ó n "":=((es,n,l,yJ q,λx=>by let h:=yK (x:=x) q;delta findBy;rw[<-Dj];rwa[h]),lo)
end
def aer(ds:Ł Dv)(h:Hs)(Q:Dv->Hs->ß)(xc:XP)(c:hX ds h Q xc):Yv ds h Q xc:=by delta hX kt fm at c;erw[ly c λx _ c=>lV c λc=>lV c λc=>?_];let(H,a):=bG c;erw[aB H ?_];revert a;show eZ (lk (dN x) eI) (λk=>Q (.p (pd (kW k))) []) ŧ->Q (.p (Ej x)) [];delta Ej;cases lk (dN x) eI with|n=>rwa[ç]|s k=>rwa[id]
def aac{l:OpenLaw}{K:Æ}{M:b1}{CS CR:Á}(X:K.In h)(G:h.Ns bv M)(r:M "law"=O (.ref fa))(T:Txt w K M av ar al)(Z:FJ.ZM K M R j n o C4 q C6 C7 C8 C9)(V:ZK K M "Scope" CS y0)(Vw:ZK K M "Words" C K')(Vr:ZK K M "Reader" CR Nl)(M0:uA K CS "Scope.__init__" (iG (top 41) 0) ["self","boxes","lists","param_counts","may_return"])(M1:uA K C "Words.__init__" (iG (top 63) 0) ["self","words"])(M2:uA K CR "Reader.__init__" (iG (top 64) 0) ["self"])(M3:uB K C "are_left" "Words.are_left" (iG (top 63) 1) ["self"])(M4:uB K C "take" "Words.take" (iG (top 63) 2) ["self"])(M5:uB K C "take_all" "Words.take_all" (iG (top 63) 3) ["self"])(S:Sg K M)(a3:nsIn K bv "law"=O (O (.ref F)))(l3:K.lookup F=O (x,t,.func (fnOf "law" "law" (iF (top 111)) (cB (top 111)) (aU (top 111)) .none k d p a c b),u))(c3:codeIn K c "law"=J)(k3:keepIn K (.ref F)):∃fd:b7,(∀(s:a5)(v:Ä),BindsTo s fd ([v],[]) [("_law_script",v)])/\∀base:É,K.In base->base.Ns bv M->jT l.prog w K M base IE 173 fa fd ["_law_script"] (Kx K):=by let e:=r.symm.trans (bq X G a3);cases e;let F3:=BV (st:=top 111) l3 c3 k3;erw[(fnOf "law" "law" (iF (top 111)) (cB (top 111)) (aU (top 111)) .none k d p a c b,λs v=>.of_eq Ŗ,λbase _ _=>?_)];let B:Lk (Lx (tG j n o CS q C CR)) (l.prog,w,K,M,base):=afb T Z V Vw Vr;let D9:=Gw B S (D0 B S 4);let D:=N7 B S;let f:=LB B S (jN B S 2 [(8,vD)] (l0 B S,Ť));let g:=zL B S (jN B S 1 [(6,gF)] (kU B S,Ť));let y:=sL B S (jN B S 4 [(18,qS),(19,isList)] (D.up Ŗ,f,Ť)) D f;let A:=sJ B S (jN B S 3 [(20,l9)] (g,Ť)) g;let L:=xV B S 5 (DT B S D9 5);let D4:=LD B S (xU B S 5);let N:=BF B S L (Ur B M0 V.m);let Yo:=BG B S y A N D4;let U:=r_ B M3;let I:=w_ B M4 U;let i:=DZ B S I;let Y:=BI B S (xX B S I) i;let D27:DX (tG j n o CS q C CR) (l.prog,w,K,M,base) 27 4 hX:=(q_ (W:=(l.prog,w,K,M,base)) T.mr T.tr S).imp aer;let D52:=GD B S D27 (DY B S U Y i);let D53:=DV B S I U (Gy B S I) (DW B S I (xZ B S (N8 B M5))) (GA B S I (N8 B M5)) (GC B S I) (DU B S) (BH B S I) (GB B S) D52;let D36:=v_ B S (t_ B M2 Vr.m) (D1 B S (u_ B M1 Vw.m)) D53 Yo;let Dc:=FJ.Uo (P:=l.prog) (w:=w) (base:=base) (T.z.2.1,T.oN) Z S.EZ;let D66:=Up (W:=(l.prog,w,K,M,base)) Z D36 (Dc.mono ∅) S;let D65:=s_ (W:=(l.prog,w,K,M,base)) Z (Yo.up Ŗ) (Dc.mono ∅) S;exact(adR B F3 (p_ B S) (Us B S) (nW B S) (Ϸ B S) (adT B S 111 26) D65 D66 (ajC B S)).imp λvs H Q E h=>aad h
def abW{K:Æ}{m:b1}(X:K.In h)(G:h.Ns bv m){t2 t4:Tok}(E:nsIn K bv "len"=O aa)(F:nsIn K bv "isinstance"=O aa)(H:nsIn K bv "all"=O aa)(I:nsIn K bv "zip"=O aa)(L:nsIn K bv "range"=O aa)(N:nsIn K bv "list"=O aa)(P:nsIn K bv "tuple"=O aa)(Q:nsIn K bv "str"=O aa)(R:nsIn K bv "int"=O aa)(S:nsIn K bv "bool"=O aa)(z:nsIn K bv "set"=O aa)(Z:nsIn K bv "dict"=O aa)(f:nsIn K bv "max"=O aa)(g:nsIn K bv "min"=O aa)(j:nsIn K bv "ValueError"=O aa)(m0:nsIn K bv "MOST_LETTERS"=O (O (.int 6 r)))(U:nsIn K bv "GREATEST"=O (O (.int 999999 s)))(W:nsIn K bv "DEEPEST"=O (O (.int 4 t2)))(Y:nsIn K bv "NO_ROW"=O (O (.int (-1) u)))(m4:nsIn K bv "MOST_BOXES"=O (O (.int 6 t4)))(m5:nsIn K bv "MOST_LISTS"=O (O (.int 3 v)))(m6:nsIn K bv "MOST_THINGS"=O (O (.int 12 y)))(m7:nsIn K bv "MOST_FUNCTIONS"=O (O (.int 4 B)))(m8:nsIn K bv "MOST_NAMES"=O (O (.int 3 C)))(m9:nsIn K bv "DEEPEST_ROW"=O (O (.int 5 D)))(M:nsIn K bv "MOST_NUMBERS"=O (O (.int 60 t)))(k:nsIn K bv "MOST_FIGURES"=O (O (.int 6 T)))(l:nsIn K bv "BOXES"=O (O (.int 0 b)))(o:nsIn K bv "LISTS"=O (O (.int 1 c)))(p:nsIn K bv "FUNCTIONS"=O (O (.int 2 d)))(q:nsIn K bv "ROWS"=O (O (.int 3 e)))(mv:nsIn K bv "VALUE_FORMS"=O (O (.ref a)))(mr:nsIn K bv "ROW_FORMS"=O (O (.ref A)))(ml:nsIn K bv "LINES"=O (O (.ref al)))(tv:Dz w K a λx=>lk x gN)(tr:Dz w K A λx=>lk x eI)(tl:Dy w K m (λi=>ú (hI Q_ "" i)) al λx=>(lk x EG).map λn=>Ó n ""):Txt w K m a A al:=((bY X G E,bY X G F,bY X G H,bY X G I,bY X G L,bY X G N,bY X G P,bY X G Q,bY X G R,bY X G S,bY X G z,bY X G Z,bY X G f,bY X G g,Ť),bY X G j,((_,bq X G m0),(_,bq X G U),(_,bq X G W),(_,bq X G Y),(_,bq X G m4),(_,bq X G m5),(_,bq X G m6),(_,bq X G m7),(_,bq X G m8),(_,bq X G m9),(_,bq X G M),(_,bq X G k),(_,bq X G l),(_,bq X G o),(_,bq X G p),(_,bq X G q),Ť),bq X G mv,bq X G mr,bq X G ml,tv,tr,tl)
def Pg{K:Æ}:kitOne K v v=O true:=by delta kitOne;rw[cG (fj _)]
def VO{K:Æ}(c:clsIn K D=O a)(t:typeIn K (.ref D)=O (.type "type"))(s:subIn K (.ref C) (.ref D)=O b)(d:(Ö C==Ö D)=af):kitOne K (.ref C) (.ref D)=O b:=by delta kitOne kitCls;rw[dh (by rw[d];rwa[aD])];dsimp only;rw[cG (by rw[c,t];rfl)];rwa[s]
def Ψ{K:Æ}(s:subIn K (.ref C) (.type "ValueError")=O J):kitOne K (.ref C) (.type "ValueError")=O true:=by delta kitOne kitCls;rw[dh (show ¬(Ö C==ñ "ValueError")=J from aD)];dsimp only;rw[cG ∅];rwa[s]
def LM{K:Æ}(h:clsIn K C=O c)(H:findIn K (.ref C) name=O (O a))(b:specialIn K a "__get__"=O (O g))(t:takesIn K a=O J):findObj K C aa name=O (.bind g a):=by delta findObj;rw[h,Option.bind_some,H,Option.bind_some];simp[b,t]
def aaz{K:Æ}(b2:specialIn K (.builtin "object.__class__") "__get__"=O (O (.builtin "getset_descriptor.__get__")))(B:takesIn K (.builtin "object.__class__")=O J)(c:clsIn K C=O d)(e:excIn K C PD "ValueError.__new__"=J)(a1:findIn K (.ref C) "__getattribute__"=O (O (.builtin "BaseException.__getattribute__")))(a:findIn K (.ref C) "__getattr__"=O aa)(f:findIn K (.ref C) "__class__"=O (O (.builtin "object.__class__")))(A:mroIn K C (.type "object")=O J)(g:subIn K (.ref C) (.type "BaseException")=O J)(s:subIn K (.ref C) (.ref R)=O J)(S:subIn K (.ref C) (.type "ValueError")=O J)(q:Paired (λD b=>kitOne K (.ref C) (.ref D)=O b) L bs):FJ.One K R C L bs:=(e,(a1,a,LM c f b2 B,A,g),by rw[c];rfl,s,Ψ S,q)
def I_{K:Æ}{m:b1}(X:K.In h)(G:h.Ns bv m)(n:nsIn K bv "RunError"=O (O (.ref R)))(N:nsIn K bv "NoProgram"=O (O (.ref C)))(j:nsIn K bv "NoRow"=O (O (.ref c)))(k:nsIn K bv "TooLong"=O (O (.ref a)))(l:nsIn K bv "NoWorld"=O (O (.ref d)))(o:nsIn K bv "NoText"=O (O (.ref b)))(p:nsIn K bv "NoStep"=O (O (.ref e)))(q:nsIn K bv "NoCell"=O (O (.ref f)))(r:nsIn K bv "NoDoor"=O (O (.ref g)))(s:nsIn K bv "NoWord"=O (O (.ref C9)))(H:typeIn K (.ref R)=O (.type "type"))(t:clsIn K R=O i)(u:subIn K (.ref R) (.type "BaseException")=O J)(o1:FJ.One K R C [C,c,a,d,b,e,f,g,C9] [J,af,af,af,af,af,af,af,af])(v:FJ.One K R c [C,c,a,d,b,e,f,g,C9] [af,J,af,af,af,af,af,af,af])(w:FJ.One K R a [C,c,a,d,b,e,f,g,C9] [af,af,J,af,af,af,af,af,af])(x:FJ.One K R b [C,c,a,d,b,e,f,g,C9] [af,af,af,af,J,af,af,af,af]):FJ.ZM K m R C c a d b e f g C9:=(bq X G n,bq X G N,bq X G j,bq X G k,bq X G l,bq X G o,bq X G p,bq X G q,bq X G r,bq X G s,(H,by rw[t];rfl,u),o1,v,w,x)
def l_{K:Æ}{M:b1}(X:K.In h)(G:h.Ns bv M)(m:nsIn K bv x=O (O (.ref C)))(p:plainGet K C Str.empty)(H:hasDictIn K C)(po:plainOver K C)(s:findIn K (.ref C) "__setattr__"=O (O (.builtin "object.__setattr__")))(n:DB (λf=>findIn K (.ref C) f=O aa) fs):ZK K M x C fs:=(bq X G m,(p,H,po,s),n)
def nac{K:Æ}(h:findIn K (.ref C) f=O aa)(t:DB (λf=>findIn K (.ref C) f=O aa) r):DB (λf=>findIn K (.ref C) f=O aa) (f::r):=(h,t)
def walk{l:OpenLaw}{XP:b1->É->ß}{K:Params->Æ}(hn:l.most=O 63)(H:d.params.defaults=[])(e:∀(w:a9)(h:É),Y w h->(K w.params).In h)(F:∀(w:a9)(m:b1)(b:Á)(h:É),(K w.params).In h->h.Ns bv m->m d.name=O (.ref b)->∃c:b7,(∀(s:a5)(u:Ä),BindsTo s c ([u],[]) [("_law_script",u)])/\∀base:É,(K w.params).In base->base.Ns bv m->jT l.prog w (K w.params) m base IE 173 b c ["_law_script"] (Kx (K w.params))):WalkO q L XP Y l.row.toRowW d [] λf vs=>PySem.call f vs:=L2.Yk (n:=63) (k:=173) (x:="_law_script") (CX:=λ_=>IE) (sp:=λw=>Kx (K w.params)) hn ∅ H (Ŗ,∅,∅) e F (λ_ _ a N g _ S=>(a,N,Ŗ,S,λ_=>Ŗ)) λ_ _ _ _ _ z=>z
end W2
open PySem.W
namespace PySem.W.Fast
local macro_rules(kind:=Lean.Parser.Command.print)|s=>let l:=(s[1].isStrLit?.getD "").toList;return Lean.mkNullNode ((List.range (l.length/10)).map fun i=>Ù s ("0 0 0 0 0 0 0 7Command.declModifiers 'theorem `tw"++toString (((l.drop (10*i)).take 10).foldl (fun n x=>n*90+x.toNat-if x.toNat>92 then 37 else if x.toNat>64 then 36 else 35) 0)++" 0 2Command.declId 0 ': `True 2Term.typeSpec 2Command.declSig ':= `True.intro 0 0 2Termination.suffix 0 4Command.declValSimple 4Command.theorem 2Command.declaration")).toArray
#print"ET_&['LOd~P5[f0AyFm,;i9m0qc(-u84k?FA0'Tq9w>?'qJWBU#'v*iLFA`NG3Q%Yv?r<&)gOIHtLl#EQkwQwla=_pLq^}<<&L-v&]^=>ms|JA<_2rS)4j]z*83(2=Vlw+;B3k]}c5iQRF<IBfY)-=J7BmC$XbjT>LtV5w`3/WA'cdg68eV^Cz=8l]^|sZ*C0X|1`:v^Dz4y)bDPTpGciv3SBJ;O6}(bxe))^bEB=KvsnCry?xKvsuHoa$1(~}lc?CvV$n1CA[MrAB0Q|U,0fpof'YszVOAyOECN'&^?/J4n5/e'*^|wx9Cz`kJ&YZB+Mk3>H|a76WBnmhlKb9T|R&KKu%J==>D,-q-GfGC`DQVU;|.o:r9H|zn]B5EN9p?|3Oq?jGM1dc|~G)2mN6lqw)e`)+O=9b5P>o>lH`D%C9Ht]ZI>%Dca;2hlEo3YlLt;>6GJ?:)#M091.tyej3Jmse$0/f<=g&,:.nk&I*jR[ALUeBuP<{^3DdgP:p=/P7>m/oS'VkG.)KAJrBL&6nJw'EW)N2A`1-/`Ixx6m}4-vW7u>AQg&k_'$Pkp1R7-VDa7z,I;:0Q&IJSV,a%Cq4>yhkC'2HM:Bg&{-V<W)L:qKp5kSV|yo0D?reJEE]chv-9TJLstb,=2RL98TyXVYmSIG}U{.CYvrC+ud?mwj=-mJJ<C^~H{.,F`}Z1X^)7;ASeDL]_>14O{Z#?)QN?OOTmjt^&u;CPIgca54^L$=u<1Ay(~,sFZzL}e*tUzC&LS'b=k~DR1*h8[tU+5%Q~Vdge)E`JZz97T~Zw1Pwwk<9kp$:AmS782EJvg-kaT`IDZG4:TJ|#|uwb&>EbK}:lp+t5C53u?Q./2AR&dsM=+|e9eykRD2g}I0w;e%5G-ba?{LM#ovIp9=MH[bz#4a'*Yb.xP|rx56E]]{:%w.nH;a1P7HArp;)GY8tM/hVB3{ga%=QU88LG&fSV{A]-gnE4dq|k5Fl9U(N`fBb=2an^kG2Ek*Mb$)r|rvW/Rf6.7_aB(CyZU%:zj|T)67#[)D49{FJ(o#Hmk?}9B.APB%uy`SO{7j2n3$Z%C%#f-:Z{HD,XdiIzF4T7yo<U6B.kk9>xBX^Ws^D#Z'0yG[%1z.l}T63X<4V$Zg?dF~1>[.r=Uk`Zmi.#Ke3q#Aq~HF7}|cl,q<uIr?iDqM)1,>63cGnNF:Y;IsjP.~P'56i3sSW^?BY-NkDs$23`7:/lFv]N+F-H_3^VaeGO_;&L'|yAl+*0#i}{S#fvC3=.:wyio[=H$DtRWondB9puR^&&'/<SYCJyb</Ni4X+5W+2ly49}<(+lw3x<HS={iFkx`X)G7J%7]FHU65kl8w1j].;zU^y}vO-Z9=k,u=z;[x(>sS,B0CP^)d*,oJ%y=.F(iv&%Ug4a55HFi'jr5'Hb6ho^oe3m<=W5/N5XKm.}_d))7oA9)~Z&NUAo9xRWmX?|^Zu63GH}zi,OGDO)v[S6msje/q2O,Hi]+1FSO;n_0WHWR0,E'$1.jf.1PBHHJKYM=Eao%^&u[Z$X47:XRE,H4Qk`c&}hwN1F6M>mK?=x:&1Snf=cGoEJiP}t3nJU,-sBdY{l>Y4bRDt|I49I3QaC3F$#)G3#Y~c>oYA8.ma,EnqHqT.TPbS`N[sc(Ct.M'%.pUF,P<%L2v}=D#>:GWIGnR$5`X./jtA[BC[tbo?}<RPT6*SOdjdO2=b~WKfLMF*Z)DKO]/&uPH.JX(4LhfI'fkejo*q(<g)/`%NA]DLW2lAw?)]bK*n^LYxtAMP{pQ2&PA9y9]$<a*M&#HN++zN-'G*I%2%u()v5>.##j`gi_I>b4u+*N1LIu0I2i;ECnkS<98>5eC]o{7'M`sv^_0ED8ru*Hd_.(#P)FTh[W0PL&sof]b|U90N9$HX9|voB:0eG<u)|=d(Q/HN9tu>r5_4$pn:o,/I)xRxVlD,0>ugL#;Gy|E,n1JE8o4=q53DP7z7#d'PqO.-i:IykP5>]Iin:hXL~.{8nc*jl(J+v-.qHZ9Hn{r-8Y4IvN)hg3h?m`rO(OcF.rx)4B^7y=Xg^g_HJ]Q[%_ORb(gr<GS+6.[IX~Zx>>}}i,'SVQvS%eLHoy?IRr5F#>J3+M^MhQ%/qF=%Kvvb,3,+[ep$,#94[U9+1woVEQS/uu/`u</*~c<F~YY%P#G;*eiF'H%:Wd#%<he5^>f&?.tCl:H(1IttAd'r54$NfO|?,vN,}>M&'(tD+A^Kwk?ILb0QMYw%2X#GG5$X?Zp=D3[4eh3=cNtzc0K/0*U6-i7Rpn<;_v,y-LiEl?)MJ8.$Umg=HH}WHH)sSuwh';PIbgx><LE)><JhS0FnVVU)#&%45B`GVNI+q'|t9?K'2F4iOf{^5B,=<8q^Xbm(s{Pv|f<Y(I&N[js4X.[Dclpl64<X;'(A,$1$9&:H-O%UlTt,WO69EmwFC;w&0ONE0?R*Z9fX{zO[Apo65{WkL2DVaS;%ZN`egA74U9BXJ1^9[PAG6o_W,exMKw:OiD1XfLEu[]'WukYAK5zGHo_ny3%89<[JfC)BqF3`{k0XvKJC[8Y54%B"
end PySem.W.Fast
end
set_option maxRecDepth 100000 in
set_option maxHeartbeats 0 in
theorem PySem.Challenge.cw_retrace_k12_whole_other_texts_holds : PySem.Challenge.rw_retrace_k12_whole_other_texts.Holds := by
 w_on;o_law;k_head;(case hw=>w_witness2);k_fill;refine W2.walk (l:=PySem.Challenge.rw_retrace_k12_whole_other_texts) rfl rfl (λw h Y=>PySem.W.kIn_of Y) ?F;case F=>intro w mg fa h KX G hmg;refine' W2.aac KX G hmg ?T ?Z ?V ?Vw ?Vr ?M0 ?M1 ?M2 ?M3 ?M4 ?M5 ⟨?S0,?S1,?S2,?S3,?S4,?S5,?S6,?S7,?S8,?S9,?S10,?S11,?S12,?S13,?S14,?S15,?S16,?S17,?S18,?S19,?S20,?S21,?S22,?S23,?S24,?S25,?S26,?S27,?S28,?S29,?S30,?S31,?S32,?S33,?S34,?S35,?S36,?S37,?S38,?S39,?S40,?S41,?S42,?S43,?S44,?S45,?S46,?S47,?S48,?S49,?S50,?S51,?S52,?S53,?S54,?S55,?S56,?S57,?S58,?S59,?S60,?S61,?S62,?S63,?S64,?S65,?S66,?S67,?S68,?S69,?S70,?S71⟩ ?a3 ?l3 ?c3 ?k3;(case a3|l3|c3|k3=>k_is);(case V|Vw|Vr=>refine' W2.l_ KX G ?m ?pg ?hd ?po ?sa ?na;(case m|pg|hd|po|sa=>k_is);(case na=>(repeat(refine' W2.nac ?q1 ?_;(case q1=>k_is)));exact trivial));(case M0|M1|M2=>refine' W2.XG (by decide) (λ_ _ _ _ _ _ _ _ _ _ _=>rfl) ?a ?i ?l ?c ?k ?mk ?kc;(case a|i|l|c|k|mk|kc=>k_is));(case M3|M4|M5=>refine' W2.XH (by decide) (λ_ _ _ _ _ _ _ _ _ _ _=>rfl) ?a ?i ?l ?c ?k;(case a|i|l|c|k=>k_is));(case S0|S1|S2|S3|S4|S5|S6|S7|S8|S9|S10|S11|S12|S13|S14|S15|S16|S17|S18|S19|S20|S21|S22|S23|S24|S25|S26|S27|S28|S29|S30|S31|S32|S33|S34|S35|S36|S37|S38|S39|S40|S41|S42|S43|S44|S45|S46|S47|S48|S49|S50|S51|S52|S53|S54|S55|S56|S57|S58|S59|S60|S61|S62|S63|S64|S65|S66|S67|S68|S69|S70|S71=>refine' W2.abK KX G (by decide) (λ_ _ _ _ _ _ _ _ _ _ _=>rfl) ?a ?l ?c ?k;(case a|l|c|k=>k_is));(case T=>refine' W2.abW KX G ?z0 ?z1 ?z2 ?z3 ?z4 ?z5 ?z6 ?z7 ?z8 ?z9 ?z10 ?z11 ?z12 ?z13 ?z14 ?m0 ?m1 ?m2 ?m3 ?m4 ?m5 ?m6 ?m7 ?m8 ?m9 ?m10 ?m11 ?m12 ?m13 ?m14 ?m15 ?mv ?mr ?ml ?tv ?tr ?tf;(case z0|z1|z2|z3|z4|z5|z6|z7|z8|z9|z10|z11|z12|z13|z14|m0|m1|m2|m3|m4|m5|m6|m7|m8|m9|m10|m11|m12|m13|m14|m15|mv|mr|ml=>k_is);(case tv|tr=>refine' W2.abT ?tla ?to ?tq;(case tla=>k_is);(case to=>decide);(case tq=>(repeat(refine' W2.rkc ?ke ?kl ?kc ?kn ?kd ?kz ?kv ?_;(case ke=>rfl);(case kl=>k_is);(case kc|kn|kd=>rfl);(case kz=>decide);(case kv=>repeat(first|exact .nil|refine .cons ⟨_,rfl⟩ ?_))));exact trivial));(case tf=>refine' W2.XZ ?tlb ?tob ?tqb;(case tlb=>k_is);(case tob=>decide);(case tqb=>(repeat(refine' W2.rfc KX G ?ke ?ka ?_;(case ke=>rfl);(case ka=>k_is)));exact trivial)));(case Z=>refine' W2.I_ KX G ?n0 ?n1 ?n2 ?n3 ?n4 ?n5 ?n6 ?n7 ?n8 ?n9 ?h1 ?h2 ?h3 ?o1 ?o2 ?o3 ?o5;(case n0|n1|n2|n3|n4|n5|n6|n7|n8|n9|h1|h2|h3=>k_is);(case o1|o2|o3|o5=>refine' W2.aaz ?b2 ?b3 ?c1 ?e1x ?a1x ?a2x ?b1x ?a4x ?a5x ?sux ?svx ?kkx;(case b2|b3|c1|a1x|a2x|b1x|a4x|a5x|sux|svx=>k_is);(case e1x=>k_exc);(case kkx=>(repeat(first|refine' .cons W2.Pg ?_|(refine' .cons (W2.VO ?c2 ?t2 ?s2x ?d2x) ?_;(case c2|t2|s2x=>k_is);(case d2x=>decide))));exact .nil)))
