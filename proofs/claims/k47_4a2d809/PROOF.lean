import PyProof.Rows.All
import Wide.All
import OpenK.AllK
import PySem.Challenge.RW_letterrack_k47_whole_boards_that_grow
set_option compiler.extract_closed false
def ID2:=" dheap.objs.size nlength Cref Esize Hheap ItoList Qmap Rint Xobjs YtoArray Ztrans Àstr Áget? Âinl Ãtup ÄPairwise Åtake Ælookup Çlst Ètype Éenv ÊFrag Ëreplicate Ìflatten ÍgetD Îdrop Ïtoks Ðcons Ñprog Òpush Óinr Ôfree Õbuiltin ÖtoNat Ømono Ùsymm Únames Ûmpr Ünil ÝNodup Þunits ßnone àplace áextBut âRows ãout äfresh åName ærange çparams èupd émask êhok ëextract ìfields ífollowText îelim ïsetIfInBounds ðseq ñcell òhandled óflatMap ôlocal õmem_iff öisList øbase ùConstant úPerm ûfilterMap üreverse ýerase þkind ÿhash ĀTypeIs āprobeStart ĂTuple ădata ĄAttribute ąfilter Ćbool ćnon ĈSameBut ĉscope Ċlen ċofString ČSubscript čat_ Ďset ďlocals Đkeeps đany ĒIsStrIter ēcps ĔIsList ĕlist ĖisEmpty ėall Ębelow ękindOf Ěcalm ělo1 Ĝlaid ĝisSome Ğrefl ğtuple ĠtypeIs ġkept ĢkeyOf ģkle ĤtoInCall ĥIsListIter ĦIsTupleIter ħin1 Ĩlength_le_of_subset ĩCall ĪkeepIn īupdate Ĭcells ĭfunction ĮinsertAt įSmallTypes İstack ıturned ĲmapSeq"
def ID3:=" ĳsome ĴList ĵNat ĶValue ķtrue ĸOption ĹAddr ĺnone Ļfalse ļInt ĽShared ľdecide Ŀif_pos ŀif_neg ŁwpAny łmodel ŃsizeLine ńabsurd ŅArray ņSortSt ŇProgram ňKeyed ŉstarEach ŊStr ŋWorld ŌHeap ōAround ŎDecidableEq ŏStmt ŐExpr őSetTable ŒcongrArg œBool Ŕeval ŕKeysOf ŖScope ŗString ŘPaired řFalse ŚIsPair śrawInt ŜFuncData ŝDictEntry ŞisInstance şNameKind ŠAllBare šBindsTo ŢKeyword ţIsZip ŤSortKind ťUnit ŦPyData ŧStateT ŨIsPart ũReadsAll ŪPassesOwn ūIntsAre ŬDecidable ŭStrsAre ŮSubscript_ ůPlainAttrs ŰIsEnum űForInStep ŲInCallC ųforIn ŴReads ŵMeets Ŷfield ŷArguments ŸWalks ŹResult źIsTup ŻCall_ żDraws ŽautoParam žA_0_._auto_1 ſA_1_._auto_1 γA_2_._auto_1 δA_3_._auto_1 εA_4_._auto_1 ζA_5_._auto_1 ηA_6_._auto_1 θA_7_._auto_1 ιA_8_._auto_1 μA_9_._auto_1 νA_10_._auto_1"
def ID1(b:Bool)(x:Lean.Syntax):Option Lean.Syntax:=
 let n:=x.getId
 if n.hasMacroScopes then none else
 let f:=λ(l:String)(a c:Lean.Name)=>a++if c.toString.length>1 then c else match l.splitOn (" "++c.toString) with|_::r::_=>((r.splitOn " ").headD "").toName|_=>c
 let m:=match b,n.components with|false,[c]=>f ID3 .anonymous c|false,c::r=>r.foldl (f ID2) c|_,r=>r.foldl (f ID2) .anonymous
 if m==n then none else some (Lean.mkIdentFrom x m)
def ID0(x:Lean.Syntax):Option Lean.Syntax:=if x.isIdent then ID1 false x else if x.isOfKind ``Lean.Parser.Term.proj then (ID1 true x[2]).map (x.setArg 2 ·)else if x.isOfKind ``Lean.Parser.Term.dotIdent then (ID1 true x[1]).map (x.setArg 1 ·)else none
local macro_rules(kind:=ident)|x=>match ID0 x with|some y=>return y|_=>Lean.Macro.throwUnsupported
local macro_rules(kind:=Lean.Parser.Term.proj)|x=>match ID0 x with|some y=>return y|_=>Lean.Macro.throwUnsupported
local macro_rules(kind:=Lean.Parser.Term.dotIdent)|x=>match ID0 x with|some y=>return y|_=>Lean.Macro.throwUnsupported
local macro_rules(kind:=Lean.Parser.Term.app)|x=>match ID0 x[0] with|some y=>return x.setArg 0 y|_=>Lean.Macro.throwUnsupported
set_option Elab.async false
set_option linter.all false
set_option maxRecDepth 100000
set_option maxHeartbeats 4000000

set_option bootstrap.genMatcherCode false
open Lean in
local macro_rules|`(universe $x*)=>return mkNullNode (<-x.mapIdxM λj i=>do
 let f s (n:ĵ):=mkIdent<|.mkSimple s!"{s}{n}"
 let mut (b,c,e,w,g,h):=(#[],#[],#[],#[],(pure:Term→MacroM Term),`(True))
 for k in (i.getId.toString++"A").I do
  let m:=e.E
  let v:=f "v" m
  let T:=f "T" m
  let d:=g
  e:=e.Ò v
  if k='E' then
   b:=b.Ò (<-`(bracketedBinder|{$T:ident:Sort _}))
   c:=c.Ò (<-`(bracketedBinder|($v:ident:$T)))
   w:=w.Ò (v,T)
   g:=λt=>do d (<-`(∃$v:ident,$t))
  else
   let q:Term<-if w.isEmpty then pure ⟨T⟩ else `($T $(w.Q (·.1))*)
   b:=b.Ò (<-`(bracketedBinder|{$T:ident:$(<-w.foldrM (λa b=>`($(a.2)→$b)) (<-`(Prop)))}))
   c:=c.Ò (<-`(bracketedBinder|($v:ident:$q)))
   h:=d q
   g:=λt=>do d (<-`($q∧$t))
 let r<-h
 let y:=b++c
 `(theorem $(f "zz" j):ident $y:bracketedBinder* : $r := ⟨$e,*⟩))
universe EA EEAA EAA EEA EEAAA EE EEEEAAAA EEEAAAA EEEAAA EEE AE EAAA EEAAAA EEEEEAAAAA AEA EAAAA AEEA AEEAA EEEEAAAAA AAEEAA AAEA EEEEAA EEAAEEAA AEAA EEEEEEEAA EEEEAAA EEEA EEAAAAA EEAAAAAA EEEEEEAAAAAA EAAAAA EEEAA EEEEEAAAA EAAEEAA EEEEEEAAAAA EEEEAAAAAAA EEEEEEEEEEAAA EAAE EAEEAA EEEEEEEAAAAA EEEAAAAAA EEEEAAAAEEAAA EEEAAAAA EAEAAA AEAAAA EEEEEAAAAAA EEAAAEEAEEAA EEEEAAAAAA AAAAEA EAEA AAAEAEEEAAA EEEEEAAAAAEEAA EAEAA EEAAAAAAA EEEEEAA EEEEA EEEEEEEAAAA EEEEEEAAA EEEEEEAAAAAAAA EEEEAAAAAAAA EEEAAAAAAA EEEEEEEAAAAAAA EEEEEA EEEEEEAAAAAAA EEEEEAAAAAAAAA EEEEEEEAAAAAA EAAAAAAA
local macro_rules|`(⟨$n:num,$x,*⟩)=>`($(Lean.mkIdent (.mkSimple s!"zz{n.getNat}")) $(x.getElems)*)
theorem ZzN {G:Prop}(h:¬¬G):G:=Classical.byContradiction h
theorem rb {α:Sort _}{a:α}:a=a:=rfl
theorem Zzx2{q:A->B->Prop}{G:Prop}(h:∃a b,q a b)(f:∀a b,q a b->G):G:=Exists.î h λa h=>Exists.î h (f a)
theorem Zzx3{q:A->B->C->Prop}{G:Prop}(h:∃a b c,q a b c)(f:∀a b c,q a b c->G):G:=Exists.î h λa h=>Zzx2 h (f a)
theorem Zzx4{q:A->B->C->D->Prop}{G:Prop}(h:∃a b c d,q a b c d)(f:∀a b c d,q a b c d->G):G:=Exists.î h λa h=>Zzx3 h (f a)
theorem Zzx5{q:A->B->C->D->E->Prop}{G:Prop}(h:∃a b c d e,q a b c d e)(f:∀a b c d e,q a b c d e->G):G:=Exists.î h λa h=>Zzx4 h (f a)
theorem Zzx7{q:A->B->C->D->E->I->J->Prop}{G:Prop}(h:∃a b c d e i j,q a b c d e i j)(f:∀a b c d e i j,q a b c d e i j->G):G:=Exists.î h λa h=>Exists.î h λb h=>Zzx5 h (f a b)
theorem Zzx10{q:A->B->C->D->E->I->J->K->L->M->Prop}{G:Prop}(h:∃a b c d e i j k l m,q a b c d e i j k l m)(f:∀a b c d e i j k l m,q a b c d e i j k l m->G):G:=Exists.î h λa h=>Exists.î h λb h=>Exists.î h λc h=>Zzx7 h (f a b c)
theorem Zzx14{q:A->B->C->D->E->I->J->K->L->M->N->O->P->R->Prop}{G:Prop}(h:∃a b c d e i j k l m n o p r,q a b c d e i j k l m n o p r)(f:∀a b c d e i j k l m n o p r,q a b c d e i j k l m n o p r->G):G:=Exists.î h λa h=>Exists.î h λb h=>Exists.î h λc h=>Exists.î h λd h=>Zzx10 h (f a b c d)
local macro_rules|`(tactic|show $e)=>`(tactic|first|exact $e|change $e)
local macro_rules|`(tactic|calc $e:term)=>`(tactic|refine $e)
local macro_rules|`(tactic|let $x:ident := $e)=>`(tactic|have $x:ident := $e)|`(tactic|let $x:ident : $t := $e)=>`(tactic|have $x:ident : $t := $e)
local macro_rules|`(%[$as,*|$a])=>`(⟨$as,*,$a⟩)
open Lean in
local macro_rules|`(tactic|let ($t0,$ts,*) := $h)=>do
 let a:=#[t0]++ts.getElems
 if let ĳ i:=a.findIdx? (·.raw.isOfKind `Lean.Parser.Term.tuple) then
  let b:=a.set! i<|<-`(z)
  return<-`(tactic|(let ($(b[0]!),$(b[1:].Y),*) := $h;let $(a[i]!):term := z))
 let ps<-a.mapM λt=>if t.raw.isIdent then `(Parser.Tactic.rcasesPatLo|$(⟨t⟩):ident) else `(Parser.Tactic.rcasesPatLo|_)
 let n:=(a.pop.I.takeWhile λt=>t.raw.getId != `rfl).n
 let mut t<-`(tactic|rcases $h:term with ⟨$ps,*⟩)
 for k in [2, 3, 4, 5, 7, 10, 14] do
  if k<=n then
   let m<-if k+1==a.E&&a.back!.raw.getId != `rfl then `(tactic|intro $a*) else `(tactic|(intro $(a[:k].Y)* z;rcases z with ⟨$(ps[k:].Y),*⟩))
   t<-`(tactic|first|(refine $(mkIdent (.mkSimple s!"Zzx{k}")) $h ?_;(try clear $(⟨h⟩));$m:tactic)|$t:tactic)
 `(tactic|(refine ZzN λn=>?_;$t:tactic<;>refine n ?_<;>clear n))
open Lean Parser Command in
local macro_rules(kind:=Lean.Parser.Command.declaration)|x=>if x.getPos?.isNone then Macro.throwUnsupported else
 let y:=x.rewriteBottomUp (·.setInfo .none)
 return if y[0].getArgs.any (·.getNumArgs>0)||![``definition,``«abbrev»,``«instance»].contains y[1].getKind then y else y.setArg 0 (y[0].setArg 4 (mkNullNode #[mkNode ``«noncomputable» #[mkAtom "noncomputable"]]))
section
variable{p:Prop}
def ye(h:p:=by lia):p:=h
def yf(h:p:=by simp):p:=h
def A_0_(_:True:=by rfl):=True
def A_1_(_:True:=by decide):=True
def A_2_(_:True:=by k_is):=True
def A_3_(_:True:=by first|show ah _|assumption|show dq _|lia):=True
def A_4_(_:True:=by intro _;rfl):=True
def A_5_(_:True:=by first|show .Â rfl|show .Ó rfl|assumption):=True
def A_6_(_:True:=by trivial):=True
def A_7_(_:True:=by with_unfolding_all rfl):=True
def A_8_(_:True:=by first|show Or.Â rfl|show Or.Ó<|Or.Â rb|show Or.Ó<|Or.Ó rb):=True
def A_9_(_:True:=by intro _ _ _ _ h;repeat (first|(let(rfl,_):=h;rfl)|let(_,h):=h)):=True
def A_10_(_:True:=by intro _ _ _ _ _ _;refine L2.uAz ?_;first|exact λ_=>rfl|exact λ_ _=>rfl|exact λ_ _ _=>rfl|exact λ_ _ _ _=>rfl|exact λ_ _ _ _ _=>rfl|exact λ_ _ _ _ _ _=>rfl|exact λ_ _ _ _ _ _ _=>rfl|exact λ_ _ _ _ _ _ _ _=>rfl):=True
def yi(h:Ž (p) ſ):p:=h
def yk(h:Ž (p) ž):p:=h
def ym(h:p:=by kernel_rfl):p:=h
def yn(h:p:=by decide +kernel):p:=h
def yo(h:p:=by first | lia | ((try dsimp only);lia)):p:=h
def yv(h:p:=by size_fits):p:=h
def yw(h:p:=by omega):p:=h
end
def zsz (n:ĵ)(h:Ž (n<=1000) ſ):n<=PySem.sizeLine:=Nat.le_trans h yi
local macro_rules|`(universe $x*)=>return Lean.mkNullNode (<-(Array.æ<|x.E/2).mapM λi=>`(abbrev $(x[2*i]!):ident:=@$(x[2*i+1]!)))
open PySem PyProof PyProof.Rows List in
universe aa length_map ab wpAny_bind ae getElem?_eq_getElem af wpAny_pure ag Heap.get?_push_of_some ah Nat.le_refl ai getD_eq_getElem?_getD al decide_eq_false am decide_eq_true ap List.getElem?_eq_some_iff ar mem_map av mem_singleton aw Nat.le_trans ax Nat.le_of_lt ay length_append aE mem_cons_of_mem aI getElem_mem aS mem_cons_self aT Heap.get?_push_size a5 mem_of_getElem? a6 Heap.lt_size a7 mem_append a8 length_take a9 Bool.false_eq_true a_ mem_cons ba getElem?_map bd Option.some.inj be wpS_bind bg map_append bn Nat.ne_of_lt bo Array.length_toList bq Nat.lt_of_lt_of_le bt append_assoc bu take_add_one bv F.plainAttrs_str bz wpS_pure bE boot_len bP size_toArray bS mem_range bX length_cons b3 Int.toNat_natCast b4 PassesOwn.never b5 Nat.zero_le b6 Nat.sub_lt_left_of_lt_add b7 map_cons b8 Array.getElem?_eq_getElem b9 take_length ci mem_map_of_mem ck Bool.false_ne_true cn length_drop cp map_map cq Array.getElem?_toList cw take_of_length_le cx mem_flatMap cy Nat.sub_le_iff_le_add cz Int.ofNat_nonneg cE mem_iff_getElem cS mem_append_right c6 Nat.lt_sub_iff_add_lt c8 F.plainAttrs_list c9 getElem?_eq_none c_ pairwise_map de wpAny_call_entry df Bool.and_eq_true di boot_tuple dm take_append_drop dq Nat.le_succ du map_congr_left dA KeyOrd.kle_trans dC getElem?_append_right dE wpAny_newObj_type dL length_replicate dP decide_eq_true_eq dS append_nil d6 Heap.size_push ee wpAny_callSpecial?_slot ej length_range eD Nat.le_of_lt_succ eI KeyOrd.kle_of_klt eJ Int.ofNat_lt eK wpAny_holding eL mem_of_mem_take eP Bool.not_true eQ Nat.lt_succ_self eR not_mem_nil eS wpAny_passesOwn eW Obj.data_mapFields e_ F.slot_str_join fb F.type_str_join fc getElem?_append_left fe Nat.le_sub_one_of_lt fg Nat.le_sub_of_add_le fh F.slot_list_append fk F.type_list_append fm boot_sorted fq wpAny_truthy_bool fv Nat.lt_or_ge fw range_succ fz Nat.le_add_left fA Classical.byContradiction fE all_eq_true fF boot_isinstance fI of_decide_eq_true fN Calls.spliced_cons fR Nat.lt_of_le_of_lt fS Int.emod_lt_of_pos fT filter_append f6 getElem?_drop f7 mem_filter f8 Heap.get?_update_self f_ Heap.SameBut.update ga Nat.add_sub_cancel' gd flatten_cons ge Nat.mul_comm gf wpAny_setState_of gg Nat.sub_eq_of_eq_add gm pairwise_iff_getElem gp pairwise_cons gr F.slot_str_lower gt F.type_str_lower gu nodup_cons gv forIn_cons gx F.called_set gy wpS_forRange gz wpAny_mono gE replicate_succ gL wpAny_rule gN getElem?_range gT Array.toList_append g6 PyProof.Rows.callWith_type1 g9 Array.getD_eq_getD_getElem? hG cons_lt_cons_iff hV Nat.lt_succ_of_lt ib Array.toList_push ic ext_getElem? ie Iff.mpr ii Nat.ne_of_gt ij codeAny_builtin ik pairwise_append im wpAny_field io Option.map_eq_some_iff ip wpAny_isInstance iq drop_eq_getElem_cons iA Bool.false_and iE Nat.mul_le_mul iF wpAny_seqItems iL length_filter_le iN Bool.eq_iff_iff iO W.kia_one iP Int.emod_nonneg iS SeqAt.EqAt.int_int iX wpAny_tupleItemsOf i9 F.plain_set_update_loop ja Nat.succ_le_succ jn Nat.sub_sub_self jI Nat.sub_le_of_le_add jS Nat.sub_lt_of_lt kc Nat.le_add_right ke Nat.mul_le_mul_right ki Nat.zero_add ko Bool.and_false kq wpAny_setField kr Nat.le_succ_of_le ku StrLaws.subAt_one kz Bool.eq_false_iff kD KeyOrd.kle_refl kF Calls.Constant_str kG codeAny_mono kH Nat.ge_of_not_lt kK Nat.pow_succ kM getElem?_take kN Pairwise.imp_of_mem kP Nat.mul_assoc kQ mem_append_left kR mem_of_mem_drop kS F.slot_dict_keyiterator_next kU Bool.not_false kX Around.under_plainId lc getElem?_of_mem lh Nat.add_sub_cancel_left lv wpS_mono lx drop_sublist ly wpAny_execs_nil lI Option.map_some lL wpAny_loadPart' lS Ne.symm lT flatMap_append l_ getElem?_set_self md Heap.get?_update_other me map_id mf Paired.length mh Nat.lt_irrefl ml wpAny_attempt mm Nat.mod_lt mr lookup_cons mw any_eq_true mx mem_iff_getElem? my Obj.isFreed_of_fields mB Perm.append_left mE Nat.le_of_eq mI find?_cons mM Nat.lt_trans mN Nat.succ_pos mP length_erase_le mS Nat.div_lt_of_lt_mul m4 Nat.not_lt_zero ng Int.zero_add np F.slot_list_extend nt F.type_list_extend nw Int.ofNat.inj ny wpAny_typeNameOfWhole_keyiter nB length_eq_zero_iff nE filterMap_cons nI Array.toList_inj nL Calls.callWith_builtin nN Array.getElem?_eq_none nS Nat.sub_le nV boot_list n0 mem_filterMap n5 wpAny_Call_Name_kw n9 map_nil og wpAny_richCompare_same_room oj Nat.eq_zero_or_pos om length_nil on Nat.min_le_left oo any_cons oq F.slot_tuple_iterator_next ox wpAny_pyIter_list oy Calls.spliced_nil oz getElem?_set_ne oB wpAny_of_eq oC nodup_nil oI wpAny_execs_cons oP getElem?_take_of_lt oQ Nat.succ_mul oS wpAny_typeNameOf_keyiter oT wpAny_askSetting o0 Nat.sub_self o6 wpAny_forIn_list ph decide_eq_decide pi ext_getElem pE length_erase_of_mem pM Nat.sub_lt_sub_left pT PySem.mem_of_lookup pV Nat.add_le_add_left p_ wpAny_setEntries_of qf length_pos_iff qh map_eq_nil_iff qi slot_tuple_getitem qk F.entry_set_update_loop qo Nat.add_assoc qq wpAny_pyIter_tuple qr length_set qA wpAny_specialOf qB F.slot_tuple_lt qE of_decide_eq_false qS wpAny_setField_rec qV map_singleton rc drop_of_length_le re length_pos_of_mem rh wpAny_pyIter_strU rj Obj.cls_mapFields rl wpAny_pyIter_enum rn F.slot_tuple_hash rL getElem?_set rS drop_zero rV wpAny_fieldsOf rX takeWhile_prefix r8 erase_cons_tail r_ codeAny_call_builtin sd Array.toList_reverse se Nat.sub_le_sub_right sf Nat.pow_le_pow_right si Bool.or_false sk takeWhile_cons_of_pos sn foldl_cons sq Nat.min_eq_left sr extract_eq_take_drop sv mem_or_eq_of_mem_set sC wpAny_Constant_int sD W.callWith_K sF F.args_tuple_add_2 sK F.called_enumerate sL Code.quiet_builtin sN KeyOrd.klt_of_klt_of_kle sP Array.forIn_toList sQ F.slot_str_replace sR F.type_str_replace sT Int.ofNat_le s_ set_eq_of_length_le tf eq_of_mem_replicate tj wpAny_Name tm wpS_get tq F.entry_tuple_add tw getElem?_cons_succ tz eraseIdx_cons_succ tI wpAny_assign_Name tJ take_sublist tN Function.comp_def tP Nat.lt_trichotomy tS F.slot_tuple_add tT F.slot_tuple_mul t7 head?_eq_getElem? t9 wpAny_standAt ue Prod.ext ui Nat.succ_lt_succ uj wpAny_pyIter_zip uk Nat.lt_of_not_le ul nodup_range uu Array.toList_map uv getElem_map uA mem_flatten uB codeAny_call_function uC F.slot_dict_get uS perm_append_comm u7 KeyOrd.not_klt_of_kle u8 boot_set ve mem_of_mem_head? vi wpAny_loadName_local vj Array.mem_toList_iff vn wpAny_call vv of_mem_zip vw wpAny_typeOf vx Calls.evalArgs_plain vy Bool.or_eq_true vz Array.toArray_toList vE Nat.le_antisymm vF codeAny_of_tree vS wpS_modify vT Nat.add_zero v0 Array.toList_extract v_ Nat.lt_sub_of_add_lt wc F.slot_zip_next we mem_of_getLast? wf getLast?_eq_some_getLast wl codeAny_forLoop_any wm W.plainGet_of wn wpAny_Tuple_spliced wo take_succ_cons wq Nat.add_lt_add_left wt reverse_append wv flatten_append ww Heap.get?_update_ne wx forIn_nil wE wpAny_runValue wP Perm.refl wS take_succ wT W.codeRec_of w8 Around.under_plain w_ isSubtype_tuple_tuple xa all_cons xb W.mg_of xc wpAny_newList xf wpAny_handled xh Array.toList_setIfInBounds xi Array.perm_iff_toList_perm xj wpAny_Assign_Name xk Option.isSome_map xl StrLaws.found_one xm wpAny_pyIter_slot xo wpAny_dictEntries xp F.args_tuple_lt_2 xt F.entry_type_call xw Nat.le_pred_of_lt xy Heap.get?_push_ne xz F.plain_extend_loop xA Nat.sub_lt xB getLast?_eq_getElem? xC Nat.min_le_right xD Nat.succ_ne_self xE filter_cons xF drop_length xI mem_reverse xL zipIdx_cons xN Nat.pow_zero xS Option.getD_some x4 Array.toList_zip x5 any_map x6 cons.injEq x8 Perm.of_eq x9 Nat.mul_add x_ Nat.mul_one ya P.le_str yb List.lt_irrefl
abbrev AA:=Ĵ (Ĵ ĵ)
abbrev AB:=PySem.Value->PySem.Shared->Prop
abbrev AC:=Ĵ (PySem.Addr×PySem.Obj)
noncomputable section
namespace L2
open PySem
def zF (h:Runs M Γ p t fs s e s'):s.Ï<=s'.Ï:=by
 induction h with| done|raise|yield=>show ah _| fresh _ ih=>show aw (dq _) ih| again _ _ ih|rule _ ih|«at» _ ih|load _ _ ih|update _ _ ih|loadIfAlive _ ih|point _ ih|alloc _ ih|ask _ ih|choose _ _ ih|os _ ih|handled _ ih|genState _ _ ih|stack _ ih|thread _ ih|newGen _ ih=>show ih| call _ _ ih1 ih2=>show aw ih1 ih2| callSusp _ ih=>show ih| resumeFresh _ _ _ _ ih1 ih2=>show aw ih1 ih2| resumeSuspended _ _ _ _ ih1 ih2=>show aw ih1 ih2| resumeJustStarted _ _ _ ih=>show ih| resumeThrowFresh _ _ ih=>show ih| resumeRunning _ _ ih=>show ih| resumeFinished _ _ ih=>show ih| segRet _ _ ih1 ih2=>show aw ih1 ih2| segGen _ _ ih1 ih2=>show aw ih1 ih2| segSuspOut _ _ ih=>show ih| segSuspGen _ _ _ _ ih1 ih2=>show aw ih1 ih2
def Sh (h:Wakes M Γ p g r s res s'):s.Ï<=s'.Ï:=by
 unfold Wakes at h;split at h;.show h.î
 .split at h
  .let(e,s1,q,_,_,rfl):=h;let z:=zF q;show z
  .let(_,rfl):=h;show ah _
  .let(_,rfl):=h;show ah _
 .let(e,s1,q,_,_,rfl):=h;let z:=zF q;show z
 .let(_,rfl):=h;show ah _
 .let(_,rfl):=h;show ah _
def afm {I:Type}{M:Model}{Γ:Ctx}(t:Sem I)(n:ĵ){Q:I->Pos->Ľ->Prop}{E:Ķ->Pos->Ľ->Prop}(p:Pos)(s:Ľ)(hn:n<=s.Ï)(h:Sem.wp M Γ t (λa p s=>n<=s.Ï->Q a p s) (λe p s=>n<=s.Ï->E e p s) p s):Sem.wp M Γ t Q E p s:=by
 revert h
 induction t generalizing p s with| pure x=>show λh=>h hn| raise v=>show λh=>h hn| unsupported|finish|yield|fork|await|register=>show id| fresh k ih=>show ih _ _ _<|aw hn<|dq _| rule _ k ih|«at» _ k ih|alloc _ k ih|loadIfAlive _ k ih|point _ k ih|ask k ih|os _ _ k ih|handled _ k ih|newGen _ k ih|stack k ih|thread k ih=>show ih _ _ _ hn| load a _ k ih|genState a k ih=>show λzq=>by let(o,B,h):=zq;exact %[0,o,B|ih _ _ _ hn h]| update a _ f k ih|choose _ _ k ih=>show λ⟨ha,h⟩=>%[ha|ih _ _ _ hn h]| call c h g l k ih=>show λ⟨r,s',q,D⟩=>%[3,r,s',q|ih _ _ _ (aw hn<|zF q) D]| resume g r l k ih=>show λ⟨res,s',hw,h⟩=>%[3,res,s',hw|ih _ _ _ (aw hn<|Sh hw) h]
def cj {I:Type}{t:Sem I}{Q:I->Ľ->Prop}{s:Ľ}(h:Ł M A t (λa s'=>s.Ï<=s'.Ï->Q a s') (λe s'=>s.Ï<=s'.Ï->E e s') s):Ł M A t Q E s:=λΓ p hΓ=>afm t s.Ï p s (ah _) (h Γ p hΓ)
end L2
namespace L2
open PySem PySem.Spec PyProof.Rows
abbrev Key:=Sum ļ Ŋ
def jN:Key->Ķ->œ
 | .Â k,v=>Value.isInt k v
 | .Ó x,v=>Value.isStrOf x v
def ac9 (w:ŋ):Key->ļ
 | .Â k=>hashInt k
 | .Ó x=>hashStr w x
theorem dG:∀{k:Key} {v:Ķ},jN k v=ķ->(∃i t,k=Sum.Â i/\v=Value.R i t)\/(∃x t,k=Sum.Ó x/\v=Value.À x t)
 | .Â i,v,h=>by let(t,e):=Value.isInt_shape (k:=i) (v:=v) h;show .Â %[3,i,t,rb|e]
 | .Ó x,v,h=>by let(t,e):=Value.isStrOf_shape (x:=x) (v:=v) h;show .Ó %[3,x,t,rb|e]
def Jc (i)(t:Tok):jN (.Â i) (.R i t)=ķ:=by simp[jN,Value.isInt]
def Jd (x)(t:Tok):jN (.Ó x) (.À x t)=ķ:=by simp[jN,Value.isStrOf]
def ac_ (a b):ľ ((Sum.Â a:Key)=Sum.Â b)=(a==b):=by
 by_cases e:a=b;.subst e;simp
 .let h:¬(Sum.Â a:Key)=Sum.Â b:=λq=>e<|Sum.Â.inj q
  rw[al h];show(beq_eq_false_iff_ne.Û e).Ù
def ada (a b):ľ ((Sum.Ó a:Key)=Sum.Ó b)=ľ (a=b):=by
 by_cases e:a=b;simp
 .let h:¬(Sum.Ó a:Key)=Sum.Ó b:=λq=>e<|Sum.Ó.inj q
  rw[al h,al e]
def adb (a)(b):ľ ((Sum.Â a:Key)=Sum.Ó b)=Ļ:=al (λq=>nomatch q)
def ade (a)(b):ľ ((Sum.Ó a:Key)=Sum.Â b)=Ļ:=al (λq=>nomatch q)
def cV (prog:Ň)(w:ŋ):PySem.KeyKind prog w Key where
 is:=jN
 hash:=ac9 w
 inj:=λv a b ha q=>by
  rcases dG ha with⟨i,t,rfl,rfl⟩|⟨x,t,rfl,rfl⟩
  .rcases dG q with⟨j,u,rfl,e⟩|⟨y,u,rfl,e⟩
   .injection e with e1 _;rw[e1]
   .show nomatch e
  .rcases dG q with⟨j,u,rfl,e⟩|⟨y,u,rfl,e⟩;.show nomatch e
   .injection e with e1 _;rw[e1]
 byValue:=λk v h=>by rcases dG h with⟨i,t,rfl,rfl⟩|⟨x,t,rfl,rfl⟩ <;> rfl
 pyHash:=λhv h=>by
  rcases dG hv with⟨i,t,rfl,rfl⟩|⟨x,t,rfl,rfl⟩;.show wpAny_pyHash_int h
  .show wpAny_pyHash_str h
 eqBool:=λB hv h=>by
  rcases dG B with⟨i,t,rfl,rfl⟩|⟨x,t,rfl,rfl⟩
  .rcases dG hv with⟨j,u,rfl,rfl⟩|⟨y,u,rfl,rfl⟩;.rw[ac_]at h;show wpAny_eqBool_int h
   .show SeqAt.EqAt.int_str i t y u _ _ _ _ h
  .rcases dG hv with⟨j,u,rfl,rfl⟩|⟨y,u,rfl,rfl⟩;show SeqAt.EqAt.str_int x t j u _ _ _ _ h
   .rw[ada]at h;show wpAny_eqBool_str h
 «strs»:=λk x t v h=>by
  rcases dG h with⟨i,u,rfl,e⟩|⟨y,u,rfl,e⟩;.show nomatch e
  .injection e with e1 _;subst e1;cases v <;> rfl
def O_ (prog)(w)(i)(t:Tok):(cV prog w).is (.Â i) (.R i t)=ķ:=Jc i t
def Pa (prog)(w)(x)(t:Tok):(cV prog w).is (.Ó x) (.À x t)=ķ:=Jd x t
inductive V where
 | non|bl (b:œ)|int (i:ļ)|str (x:Ŋ)|yQ (b:Ņ UInt8)|flt (b:UInt64)|ref (a:Ĺ)|ty (n:ŗ)|sx (x:Ŋ) (t:ĵ)
 deriving DecidableEq
def bL:V->Ķ->Prop
 | .ć,u=>u=Value.ß
 | .bl b,u=>u=Value.Ć b
 | .R i,u=>∃t,u=Value.R i t
 | .À x,u=>∃t,u=Value.À x t
 | .yQ b,u=>∃t,u=Value.bytes b t
 | .flt b,u=>∃t,u=Value.float b t
 | .C a,u=>u=Value.C a
 | .ty n,u=>u=Value.È n
 | .sx x t,u=>u=Value.À x t
def wB:V->V
 | .sx x _=>.À x
 | v=>v
def bL.weak (r:bL v u):bL (wB v) u:=by cases v <;> first|show r|show%[_|r]
abbrev Vals:Ĵ V->Ĵ Ķ->Prop:=Ř bL
def Vals.length (r:Vals xs us):xs.n=us.n:=mf r
theorem Vals.get:∀{xs:Ĵ V} {us:Ĵ Ķ} {i:ĵ} {x:V},Vals xs us->xs[i]?=ĳ x->∃u,us[i]?=ĳ u/\bL x u
 | _,_,_,_,.Ü,e=>by simp at e
 | _,_,0,_,.Ð r _,e=>by simp at e;subst e;show%[0,_,rb|r]
 | _,_,i+1,x,.Ð _ t,e=>by let(u,h1,q):=Vals.get (i:=i) (x:=x) t (by simpa using e);show%[0,u,by simpa using h1|q]
theorem Vals.set (r:bL x u):∀{xs:Ĵ V} {us:Ĵ Ķ} (i:ĵ),Vals xs us->Vals (xs.Ď i x) (us.Ď i u)
 | _,_,_,.Ü=>.Ü
 | _,_,0,.Ð _ t=>.Ð r t
 | _,_,i+1,.Ð q t=>.Ð q (Vals.Ď r i t)
def Vals.append {xs ys:Ĵ V}{us ws:Ĵ Ķ}(h:Vals xs us)(s:Vals ys ws):Vals (xs++ys) (us++ws):=by
 induction h with|nil=>exact s|cons r _ i=>exact .Ð r i
theorem Vals.take:∀{xs:Ĵ V} {us:Ĵ Ķ} (n:ĵ),Vals xs us->Vals (xs.Å n) (us.Å n)
 | _,_,0,_=>.Ü
 | _,_,_+1,.Ü=>.Ü
 | _,_,n+1,.Ð r t=>.Ð r (Vals.Å n t)
theorem Vals.drop:∀{xs:Ĵ V} {us:Ĵ Ķ} (n:ĵ),Vals xs us->Vals (xs.Î n) (us.Î n)
 | _,_,0,r=>r
 | _,_,_+1,.Ü=>.Ü
 | _,_,n+1,.Ð _ t=>Vals.Î n t
def jQ:ĸ V->ĸ Ķ->Prop
 | some v,some u=>bL v u
 | none,none=>True
 | _,_=>False
def KV {I:Type}:Ĵ (I×V)->Ĵ (I×Ķ)->Prop:=Ř λ(p:I×V) (q:I×Ķ)=>p.1=q.1/\bL p.2 q.2
def kV:Key->V
 | .Â i=>.R i
 | .Ó x=>.À x
inductive HO where
 | lst (xs:Ĵ V)
 | tup (xs:Ĵ V)
 | dK (kvs:Ĵ (Key×V))|dT (kvs:Ĵ (Ĵ Key×V))
 | set (S:ļ->œ) (n:ĵ)
 | ins (C dx:Ĺ) (fs:Ĵ (Ŋ×V))
 | own (x:Ĺ)
 | xd (fs:Ĵ (Ŋ×V))
 | met (f x:Ĺ)
 | rng (lo hi:ļ)
 | jk (o:Obj) (u:HO)
 | K_ (ps:Ņ Ķ)
 | ext (φ:Ō->Prop)
abbrev Hp:=Ĺ->ĸ HO
def upd (H:Hp)(a:Ĺ)(o:HO):Hp:=λb=>if b=a then ĳ o else H b
def au:upd H a o a=ĳ o:=by unfold upd;rw[Ŀ rfl]
def bx (h:b≠a):upd H a o b=H b:=by unfold upd;rw[ŀ h]
def afn {H:Hp}{a b:Ĺ}{o u:HO}(h:H a=ĳ o)(h':H b=ĳ u)(d:o≠u):a≠b:=by intro e;subst e;rw[h]at h';show d<|bd h'
def bU {H:Hp}{a b:Ĺ}{o:HO}(h:H a=ĳ o)(h':H b=ĺ):a≠b:=by intro e;subst e;rw[h]at h';cases h'
section
variable (P:Ň)(w:ŋ)
def dg (H:Hp)(h:Ō)(a:Ĺ):HO->Prop
 | .Ç xs=>xs.n<=Ń/\∃(its:Ĵ Ķ) (n:Nat),Vals xs its/\h.Á a=ĳ {cls:=.È "list",data:=.ð its.Y n}
 | .Ã xs=>xs.n<=Ń/\∃its:Ĵ Ķ,Vals xs its/\ź h a its.Y
 | .dK kvs=>kvs.n<=Ń/\(a==sysModules)=Ļ/\∃vs,KV kvs vs/\h.DictOf (cV P w) a vs
 | .dT kvs=>kvs.n<=Ń/\(a==sysModules)=Ļ/\∃xs:Ĵ (Ĵ Key×Ĺ×Ķ),
   Ř (λ(p:Ĵ Key×V) (q:Ĵ Key×Ĺ×Ķ)=>p.1=q.1/\H q.2.1=ĳ (.Ã<|p.1.Q kV)/\bL p.2 q.2.2) kvs xs/\
   ∃o es ep,h.Á a=ĳ o/\o.ExactDict/\o.ă=.dict es ep/\es.I=xs.Q (entryOfKey<|tupleKind<|cV P w)/\(xs.Q (·.1)).Ý
 | .Ď S n=>h.SetOf (intKind P w) a S n
 | .ins C dx fs=>H dx=ĳ (.own a)/\fs.n<=1000/\dx≠a/\h.Á a=ĳ (W.instObj C dx)/\
   ∃mA,h.Ns1 dx mA/\(∀f,jQ (fs.Æ f) (mA f))/\PySem.Within mA (fs.Q (·.1))
 | .own _=>∃o,h.Á a=ĳ o
 | .xd fs=>∃mA,h.Ns1 a mA/\∀f,jQ (fs.Æ f) (mA f)
 | .rng lo hi=>∃t u v,h.Á a=ĳ {cls:=.È "range",data:=.ì #[.R lo t,.R hi u,.R 1 v]}
 | .jk o u=>h.Á a=ĳ o/\dg H h a u
 | .K_ ps=>h.Á a=ĳ {cls:=.ß,data:=.ì ps}
 | .met f x=>h.Á a=ĳ (W.methodObj (.C f)<|.C x)
 | .ext φ=>φ h/\(∃o,h.Á a=ĳ o)/\∀h1 B:Ō,φ h1->(∀o,h1.Á a=ĳ o->B.Á a=ĳ o)->φ B
def gK (H:Hp)(h:Ō):Prop:=∀a o,H a=ĳ o->dg P w H h a o
end
section
variable {P:Ň}{w:ŋ}{H H':Hp}{h h':Ō}{a:Ĺ}{o:HO}
def dg.lt (x:dg P w H h a o):a<h.X.E:=by
 cases o with
 | lst xs=>let(_,_,_,_,e):=x;show a6 e
 | tup xs=>let(_,_,_,p):=x;show p.lt
 | dK kvs=>let(_,_,_,_,o,_,_,e,_):=x;show a6 e
 | dT kvs=>let(_,_,_,_,o,_,_,e,_):=x;show a6 e
 | set S n=>let(o,_,_,_,e,_):=x;show a6 e
 | ins C dx fs=>let(_,_,_,e,_):=x;show a6 e
 | own y=>let(_,e):=x;show a6 e
 | xd fs=>let(_,(_,_,_,e,_),_):=x;show a6 e
 | rng lo hi=>let(_,_,_,e):=x;show a6 e
 | jk ob u=>let(e,_):=x;show a6 e
 | K_ ps=>show a6<|show h.Á a=ĳ _ from x
 | met f y=>show a6<|show h.Á a=ĳ _ from x
 | ext φ=>let(_,(_,e),_):=x;show a6 e
def Paired.Hr {I T:Type}{F G:I->T->Prop}{q:Ĵ I}{l:Ĵ T}(h:Ř F q l)(f:∀a b,F a b->G a b):Ř G q l:=by
 induction h with|nil=>exact .Ü|cons r _ i=>exact .Ð (f _ _ r) i
def dg.stay (x:dg P w H h a o)(k:∀b u,(b=a\/H b=ĳ (.own a))->h.Á b=ĳ u->h'.Á b=ĳ u)(D:∀b,H b=ĳ (.own a)->H' b=ĳ (.own a))(F:∀b xs,H b=ĳ (.Ã xs)->H' b=ĳ (.Ã xs)):dg P w H' h' a o:=by
 induction o with
 | lst xs=>let(z,its,n,r,e):=x;show%[16,z,its,n,r|k _ _ (.Â rb) e]
 | tup xs=>let(z,its,r,ob,e,c):=x;show%[10,z,its|%[14,r,ob,k _ _ (.Â rb) e|c]]
 | dK kvs=>let(z,y,vs,r,ob,es,ep,e,c):=x;show%[20,z,y,vs,r|%[26,ob,es,ep,k _ _ (.Â rb) e|c]]
 | dT kvs=>let(z,y,xs,r,ob,es,ep,e,c):=x;show%[20,z,y,xs,Paired.Hr r λp q z=>%[z.1,F _ _ z.2.1|z.2.2]|%[26,ob,es,ep,k _ _ (.Â rb) e|c]]
 | set S n=>let(ob,es,ep,t,e,c):=x;show%[55,ob,es,ep,t,k _ _ (.Â rb) e|c]
 | ins C dx fs=>let(d,z,ne,e,mA,(od,es,ep,B,c),r):=x;show%[48,D _ d,z,ne,k _ _ (.Â rb) e,mA,%[26,od,es,ep,k _ _ (.Ó d) B|c]|r]
 | own y=>let(ob,e):=x;show%[ob|k _ _ (.Â rb) e]
 | xd fs=>let(mA,(od,es,ep,e,c),r):=x;show%[0,mA,%[26,od,es,ep,k _ _ (.Â rb) e|c]|r]
 | rng lo hi=>let(t,u,v,e):=x;show%[9,t,u,v|k _ _ (.Â rb) e]
 | jk ob u ih=>let(e,q):=x;show%[k _ _ (.Â rb) e|ih q]
 | K_ ps=>have e:h.Á a=ĳ {cls:=.ß,data:=.ì ps}:=x;show k a _ (.Â rb) e
 | met f y=>have e:h.Á a=ĳ (W.methodObj (.C f)<|.C y):=x;show k a _ (.Â rb) e
 | ext φ=>let(p,(o,e),st):=x;show%[st _ _ p λo q=>k _ _ (.Â rb) q,%[o|k _ _ (.Â rb) e]|st]
def gK.lt (x:gK P w H h)(e:H a=ĳ o):a<h.X.E:=(x a o e).lt
def gK.fresh (x:gK P w H h)(e:h.X.E<=a):H a=ĺ:=by
 cases q:H a with| none=>rfl| some u=>show ń (bq (x.lt q) e)<|mh _
def gK.kept (x:gK P w H h)(k:∀b u,h.Á b=ĳ u->h'.Á b=ĳ u):gK P w H h':=λa o e=>(x a o e).stay (λb u _ q=>k b u q) (λ_ q=>q) λ_ _ q=>q
def gK.laid (x:gK P w H h)(k:∀b u,h.Á b=ĳ u->h'.Á b=ĳ u)(hp:h.X.E<=a)(B:dg P w (upd H a o) h' a o):gK P w (upd H a o) h':=λb u e=>by
 let hn:=x.ä hp;by_cases D:b=a;.subst D;rw[au]at e;cases e;show B
 .rw[bx D]at e;show(x b u e).stay (λc v _ q=>k c v q) (λc q=>by rw[bx (bU q hn)];show q) λc xs q=>by rw[bx (bU q hn)];show q
end
def Rd (H:Hp)(a:Ĺ)(u:HO):Prop:=H a=ĳ u\/∃o,H a=ĳ (.jk o u)
def Rd.ok (r:Rd H a u)(x:gK P w H h):dg P w H h a u:=by
 rcases r with r|⟨o,r⟩;.show x a u r
 .let(_,q):=x a _ r;show q
def Vc:ĸ HO->Prop
 | some (.Ç _)=>True
 | some (.dK _)=>True
 | some (.dT _)=>True
 | some (.Ď _ _)=>True
 | some (.ins _ _ _)=>True
 | some (.ext _)=>True
 | _=>False
section
variable {P:Ň}{w:ŋ}{H:Hp}{h h':Ō}{x e:Ĺ}{o':HO}
def gK.write (ok:gK P w H h)(F:Vc (H x))(O:e=x\/H e=ĳ (.own x))(k:∀b u,b≠e->h.Á b=ĳ u->h'.Á b=ĳ u)(N:∃u,h'.Á e=ĳ u)(M:dg P w (upd H x o') h' x o'):gK P w (upd H x o') h':=λb u q=>by
 let D:∀c y,H c=ĳ (.own y)->c≠x:=λc y r z=>by subst z;rw[r]at F;show F
 let L:∀c xs,H c=ĳ (.Ã xs)->c≠x:=λc xs r z=>by subst z;rw[r]at F;show F
 by_cases J:b=x;.subst J;rw[au]at q;cases q;show M
 .rw[bx J]at q;by_cases B:b=e
  .let q':H b=ĳ (.own x):=by
    rcases O with z|z;.show ń (B.Z z) J
    .rw[B];show z
   rw[q]at q';cases q';let(v,hv):=N;show%[v|by rw[B];show hv]
  .refine(ok b u q).stay (λc v G r=>k c v ?_ r) (λc r=>by rw[bx (D c b r)];show r) λc xs r=>by rw[bx (L c xs r)];show r
   rcases G with rfl|G;.show B
   .rintro rfl;rcases O with z|z;.show D c b G z
    .rw[G]at z;cases z;show J rfl
end
structure Un (fs ex:Ĵ Ĺ)(H H':Hp)(h h':Ō):Prop where
 keep:∀b o,h.Á b=ĳ o->H b=ĺ->b∉fs->b∉ex->h'.Á b=ĳ o
 slot:∀b o,h.Á b=ĳ o->H b=ĺ->b∈fs->b∉ex->∃sl,h'.Á b=ĳ {o with slots:=sl}
 free:∀b o,h.Á b=ĳ o->H b=ĺ->b∉ex->H' b=ĺ
 there:∀b o,h.Á b=ĳ o->b∉ex->∃o',h'.Á b=ĳ o'
 tups:∀b xs,H b=ĳ (.Ã xs)->H' b=ĳ (.Ã xs)
 vQ:∀b o u,H b=ĳ (.jk o u)->H' b=ĳ (.jk o u)
 xH:∀b ps,H b=ĳ (.K_ ps)->∃more,H' b=ĳ (.K_<|ps++more)
section
variable {fs ex:Ĵ Ĺ}{H H1:Hp}{h h1 h':Ō}{a x e:Ĺ}{o:HO}
def Un.any (u:Un fs ex H H1 h h1)(q:h.Á b=ĳ ob)(n:H b=ĺ)(hx:b∉ex):∃sl,h1.Á b=ĳ {ob with slots:=sl}:=by
 by_cases B:b∈fs;.show u.slot b ob q n B hx
 .show%[ob.slots|u.keep b ob q n B hx]
def Un.kept (k:∀b u,h.Á b=ĳ u->h'.Á b=ĳ u):Un fs ex H H h h':=%[λb ob q _ _ _=>k b ob q,λb ob q _ _ _=>%[ob.slots|k b ob q],λ_ _ _ n _=>n,λb ob q _=>%[ob|k b ob q],λ_ _ q=>q,λ_ _ _ q=>q|λ_ ps q=>%[#[]|by rw[q];simp]]
def Un.refl:Un fs ex H H h h:=Un.ġ λ_ _ q=>q
def Un.laid (k:∀b u,h.Á b=ĳ u->h'.Á b=ĳ u)(hp:h.X.E<=a)(hn:H a=ĺ):Un fs ex H (upd H a o) h h' where
 keep:=λb u q _ _ _=>k b u q
 slot:=λb u q _ _ _=>%[u.slots|k b u q]
 free:=λb u q n _=>by rw[bx (bn<|bq (a6 q) hp)];show n
 there:=λb u q _=>%[u|k b u q]
 tups:=λb xs q=>by rw[bx (bU q hn)];show q
 vQ:=λb u xs q=>by rw[bx (bU q hn)];show q
 xH:=λb ps q=>%[#[]|by rw[bx (bU q hn),q];simp]
def Un.write (D:Vc (H x))(J:e=x\/H e=ĳ (.own x))(k:∀b u,b≠e->h.Á b=ĳ u->h'.Á b=ĳ u)(F:∃u,h'.Á e=ĳ u):Un fs ex H (upd H x o) h h':=by
 let hx:∀b,H b=ĺ->b≠x:=λb n z=>by subst z;rw[n]at D;show D
 let G:∀b,H b=ĺ->b≠e:=λb n z=>by
  subst z;rcases J with r|r;.show hx b n r
  .rw[n]at r;cases r
 let hm:∀b u,H b=ĳ u->¬Vc (ĳ u)->b≠x:=λb u q nm z=>by subst z;rw[q]at D;show nm D
 refine%[λb u q n _ _=>k b u (G b n) q,λb u q n _ _=>%[u.slots|k b u (G b n) q],λb u q n _=>by rw[bx (hx b n)];show n,λb u q _=>?_,
  λb xs q=>by rw[bx (hm b _ q λz=>z)];show q,λb u xs q=>by rw[bx (hm b _ q λz=>z)];show q|λb ps q=>%[#[]|by rw[bx (hm b _ q λz=>z),q];simp]]
 by_cases B:b=e;.subst B;show F
 .show%[u|k b u B q]
end
def trk (h:Ō)(H:Hp):Ĵ Ĺ:=(List.æ h.X.E).ą λa=>(H a).ĝ
def xJ (h:Ō)(H:Hp):Ō:=W.hideAll h (trk h H)
def Vd (h)(H):(xJ h H).X.E=h.X.E:=W.hideAll_size _ _
def Yu {h:Ō}(e:h.Á b=ĳ o)(n:H b=ĺ):(xJ h H).Á b=ĳ o:=
 W.hideAll_get _ e λhm=>by let q:(H b).ĝ=ķ:=(f7.mp hm).2;rw[n]at q;simp at q
def abj (e:(xJ h H).Á b=ĳ o):h.Á b=ĳ o/\H b=ĺ:=by
 let e':h.Á b=ĳ o:=W.of_hideAll (trk h H) e;calc%[e'|?_];cases q:H b with| none=>rfl| some x=>have hm:b∈trk h H:=f7.Û %[bS.Û<|a6 e'|by simp[q]];let z:(xJ h H).Á b=ĺ:=W.hideAll_none (trk h H) hm;rw[z]at e;cases e
structure Mod (K:W.Ê)(mg:Ŋ->ĸ Ķ)(base:Ō):Prop where
 yR:K.In base
 glob:base.Ns mainGlobals mg
 blt:∃mb,base.Ns builtinsNs mb/\∀x:Ŋ,x≠"__name__"->mb x=bootBuiltins x
 nolimit:base.NoLimit
structure Cx where
 prog:Ň
 w:ŋ
 K:W.Ê
 mg:Ŋ->ĸ Ķ
 base:Ō
 A:ō
 N:Ĵ Ŋ
 s₀:Ľ
 H₀:Hp
 env:Env
 outer:Ĵ Env
 stack:Ĵ Env
 ex:Ĵ Ĺ
 fn:Ŋ->œ
 calm:œ
 pn:Ĵ (Ĺ×Obj)
 xe:Ķ->Ľ->Prop
def frs (l:Ĵ Env):Ĵ Ĺ:=l.û (·.frame)
abbrev Cx.fs (X:Cx):Ĵ Ĺ:=frs X.outer
def Ve (sc:Ŗ)(x:Ŋ):Prop:=sc.Ú.Æ x=ĳ .ô\/sc.Ú.Æ x=ĳ .ñ\/sc.Ú.Æ x=ĳ .Ô
def Loc (sc:Ŗ)(x:Ŋ):Prop:=sc.Ú.Æ x=ĳ .ô\/sc.Ú.Æ x=ĳ .ñ
def Look (env:Env)(h:Ō)(m:Ŋ->ĸ Ķ)(x:Ŋ)(u:Ķ):Prop:=(env.ę x=ĳ .ô/\m x=ĳ u)\/((env.ę x=ĳ .ñ\/env.ę x=ĳ .Ô)/\∃c,env.Ĭ.Æ x=ĳ c/\h.IsCell c (ĳ u))
structure Cx.Ok (X:Cx):Prop where
 mod:Mod X.K X.mg X.ø
 kind:X.É.ĉ.þ=.ĭ
 glob:X.É.globals=mainGlobals
 blt:X.É.builtins=builtinsNs
 above:X.s₀.d<=X.É.ď
 inj:∀x y c,X.É.Ĭ.Æ x=ĳ c->X.É.Ĭ.Æ y=ĳ c->x=y
 has:∀x,(X.É.ę x=ĳ .ñ\/X.É.ę x=ĳ .Ô)->∃c,X.É.Ĭ.Æ x=ĳ c
 cab:∀x c,X.fn x=ķ->X.É.Ĭ.Æ x=ĳ c->X.s₀.d<=c
 hd:X.Ě=ķ->X.A.ò=ĺ
 frames:X.A.frames=ĳ X.İ
 stk:X.İ=X.outer\/(X.İ=X.É::X.outer/\X.É.frame=ĳ X.É.ď)
 exf:∀b∈X.ex,b≠X.É.ď/\∀x c,X.É.Ĭ.Æ x=ĳ c->c≠b
 bs:∀b o,X.ø.Á b=ĳ o->X.s₀.H.Á b=ĳ o/\X.H₀ b=ĺ
 zG:X.ø.X.E<=X.s₀.d
 Dv:∀b o,X.ø.Á b=ĳ o->b∉X.ex
 Hs:∀b∈X.ex,b∉X.fs
 o7:X.s₀.H.FunFrames X.ø X.outer
 Ey:∀b∈X.fs,X.H₀ b=ĺ
def sH (o:Obj)(n:ĵ):Prop:=match o.data with| .ð xs _=>∀x t,Value.À x t∈xs->0<t/\t<n| _=>True
def Je:HO->ĵ->Prop
 | .jk o _,n=>sH o n
 | _,_=>True
def Gh (H:Hp)(n:ĵ):Prop:=0<n/\∀a o,H a=ĳ o->Je o n
def Je.up (h:Je o n)(k:n<=m):Je o m:=by
 cases o with
 | jk o u=>
  show sH o m;let h:sH o n:=h;unfold sH at h ⊢;split at h
  .show λx t e=>%[(h x t e).1|bq (h x t e).2 k]
  .trivial
 | _=>trivial
def Gh.up (h:Gh H n)(k:n<=m):Gh H m:=%[bq h.1 k|λa o e=>(h.2 a o e).up k]
def Gh.put (h:Gh H n)(k:n<=m)(g:Je o m):Gh (upd H a o) m:=%[bq h.1 k|λb u e=>by
 by_cases z:b=a;.rw[z,au]at e;cases e;show g
 .rw[bx z]at e;show(h.2 b u e).up k]
structure aL (X:Cx)(ao:AC)(σ:Ĵ (ĸ V))(H:Hp)(s:Ľ):Prop where
 ok:X.Ok
 os:s.os=X.s₀.os
 bare:Š s.gens
 base:Un X.fs X.ex X.H₀ H X.s₀.H s.H
 loc:∃m,s.H.Ns X.É.ď m/\∀(i:ĵ) (x:Ŋ) (v:V),X.N[i]?=ĳ x->σ[i]?=ĳ (ĳ v)->Ve X.É.ĉ x->∃u,bL v u/\Look X.É s.H m x u
 cell:∀x c,X.É.Ĭ.Æ x=ĳ c->∃v,s.H.IsCell c v
 free:H X.É.ď=ĺ
 mO:∀x c,X.É.Ĭ.Æ x=ĳ c->H c=ĺ
 pin:∀p∈X.pn++ao,s.H.Á p.1=ĳ p.2/\H p.1=ĺ/\p.1≠X.É.ď/\p.1∉X.fs/\∀v,p.2.ă≠.ñ v
 hok:gK X.Ñ X.w H s.H
 len:σ.n=X.N.n
 gh:Gh H s.Ï
 tk:X.s₀.Ï<=s.Ï
section
variable {X:Cx}{ao:AC}{T:Ĵ (ĸ V)}{H H':Hp}{s:Ľ}{h':Ō}
def Cx.Ok.agl (ok:X.Ok)(e:X.ø.Á b=ĳ o):b∉X.fs:=λq=>by have:=(ok.o7.mem q).1;rw[e]at this;cases this
def aL.bs (I:aL X ao T H s):∀b o,X.ø.Á b=ĳ o->s.H.Á b=ĳ o/\H b=ĺ:=λb o e=>%[I.ø.keep b o (I.ok.bs b o e).1 (I.ok.bs b o e).2 (I.ok.agl e)<|I.ok.Dv b o e|I.ø.Ô b o (I.ok.bs b o e).1 (I.ok.bs b o e).2<|I.ok.Dv b o e]
def aL.bk (I:aL X ao T H s):∀b o,X.ø.Á b=ĳ o->s.H.Á b=ĳ o:=λb o e=>(I.bs b o e).1
def aL.mod (I:aL X ao T H s):Mod X.K X.mg X.ø:=I.ok.mod
def aL.jR (I:aL X ao T H s):X.K.In s.H:=I.ok.mod.yR.Đ I.bk
def aL.lt (I:aL X ao T H s):X.É.ď<s.d:=let %[_,hn|_]:=I.loc;hn.lt
def aL.sz (I:aL X ao T H s):X.s₀.d<=s.d:=aw I.ok.above (ax I.lt)
def aL.agm (I:aL X ao T H s){a:Ĺ}(h:s.d<=a):a∉X.fs:=λB=>by let(_,o,q,_):=I.ok.o7.mem B;show ń (bq (a6 q)<|aw I.sz h)<|mh _
def aL.Jf (I:aL X ao T H s):∀x c,X.É.Ĭ.Æ x=ĳ c->c≠X.É.ď:=λx c e z=>by let(v,o,D,hd):=I.ñ x c e;let(m,(o',es,ep,q,B,_),_):=I.loc;rw[z,q]at D;cases D;rw[B]at hd;cases hd
def aL.o7 (I:aL X ao T H s):s.H.FunFrames X.ø X.outer:=by
 let all:∀(l:Ĵ Env),(∀b∈frs l,b∈X.fs)->X.s₀.H.FunFrames X.ø l->s.H.FunFrames X.ø l:=by
  intro l
  induction l with| nil=>intro _ _;trivial| cons env r ih=>intro hs G;let(hk,(L,o,hf,hn,D,hd),F):=G;let B:L∈X.fs:=hs L (by unfold frs;rw[nE,hf];show aS);let(sl,e):=I.ø.slot L o D (I.ok.Ey L B) B λz=>I.ok.Hs L z B;show%[hk,%[4,L,_,hf,hn,e|hd]|ih (λb q=>hs b (by unfold frs;rw[nE,hf];show aE _ q)) F]
 show all X.outer (λ_ q=>q) I.ok.o7
def aL.stack (I:aL X ao T H s):s.H.FunFrames X.ø X.İ:=by
 rcases I.ok.stk with e|⟨e,hf⟩;.rw[e];show I.o7
 .rw[e];let(m,hn,_):=I.loc;calc .Ð (by rw[I.ok.kind];decide) hf hn ?_ I.o7;show Heap.get?_none_of_le<|aw I.ok.zG I.ok.above
def aL.La (I:aL X ao T H s):∀b∈frs X.İ,b∈X.É.ď::X.fs:=λb q=>by
 rcases I.ok.stk with e|⟨e,hf⟩;.rw[e]at q;show aE _ q
 .rw[e]at q;unfold frs at q;rw[nE,hf]at q;show q
def aL.Qi (I:aL X ao T H s):∀b∈frs X.İ,H b=ĺ:=λb q=>by
 rcases a_.mp (I.La b q) with e|q;.rw[e];show I.Ô
 .let(_,o,B,_):=I.ok.o7.mem q;show I.ø.Ô b o B (I.ok.Ey b q) λz=>I.ok.Hs b z q
def aL.step {g':Ņ GenState}{t':ĵ}{d':Drawn}{ch:Ĵ Ĺ}(I:aL X ao T H s)(D:∀b∈ch,(b∈X.ex\/X.s₀.d<=b)/\b≠X.É.ď/\(∀x c,X.É.Ĭ.Æ x=ĳ c->c≠b)/\∀p∈X.pn++ao,p.1≠b)(keep:∀b o,b≠X.É.ď->b∉X.fs->b∉ch->s.H.Á b=ĳ o->H b=ĺ->h'.Á b=ĳ o)(slot:∀b o,b≠X.É.ď->b∈X.fs->b∉ch->s.H.Á b=ĳ o->H b=ĺ->∃sl,h'.Á b=ĳ {o with slots:=sl})(free:∀b o,b∉ch->s.H.Á b=ĳ o->H b=ĺ->H' b=ĺ)(there:∀b o,b∉ch->s.H.Á b=ĳ o->∃o',h'.Á b=ĳ o')(tups:∀b xs,H b=ĳ (.Ã xs)->H' b=ĳ (.Ã xs))(vQ:∀b o u,H b=ĳ (.jk o u)->H' b=ĳ (.jk o u))(xH:∀b ps,H b=ĳ (.K_ ps)->∃more,H' b=ĳ (.K_<|ps++more))(ns:∀m,s.H.Ns X.É.ď m->h'.Ns X.É.ď m)(hok:gK X.Ñ X.w H' h')(hg:Š g')(gh:Gh H' t')(ht:s.Ï<=t'):aL X ao T H' {s with heap:=h',gens:=g',drawn:=d',toks:=t' }:=by
 let N:∀b o,X.s₀.H.Á b=ĳ o->b≠X.É.ď:=λb o e=>bn<|bq (a6 e) I.ok.above;let O:∀b o,X.s₀.H.Á b=ĳ o->b∉X.ex->b∉ch:=λb o e hx G=>by
  rcases(D b G).1 with z|z;.show hx z
  .show ń (bq (a6 e) z)<|mh _
 let B:∀x c,X.É.Ĭ.Æ x=ĳ c->∀v,s.H.IsCell c v->h'.IsCell c v:=λx c e v zq=>by
  let(o,J,hd):=zq
  let L:c∉ch:=λz=>(D c z).2.2.1 x c e rfl;by_cases hc:c∈X.fs
  .let(sl,q):=slot c o (I.Jf x c e) hc L J (I.mO x c e);show%[0,_,q|hd]
  .show%[0,o,keep c o (I.Jf x c e) hc L J<|I.mO x c e|hd]
 calc%[I.ok,I.os,hg,%[λb o e n G hx=>?_,λb o e n G hx=>?_,λb o e n hx=>?_,λb o e hx=>?_,λb xs e=>tups b xs<|I.ø.tups b xs e,λb o xs e=>vQ b o xs<|I.ø.vQ b o xs e|λb ps e=>?_],?_,λx c e=>?_,?_,λx c e=>?_,λp hp=>?_,hok,I.Ċ,gh|aw I.tk ht];.show keep b o (N b o e) G (O b o e hx) (I.ø.keep b o e n G hx)<|I.ø.Ô b o e n hx
 .let(sl,F):=I.ø.slot b o e n G hx;let(Y,M):=slot b _ (N b o e) G (O b o e hx) F (I.ø.Ô b o e n hx);show%[Y|M]
 .let(o',F):=I.ø.there b o e hx;show free b o' (O b o e hx) F<|I.ø.Ô b o e n hx
 .let(o',F):=I.ø.there b o e hx;show there b o' (O b o e hx) F
 .let(m1,F):=I.ø.xH b ps e;let(m2,M):=xH b _ F;show%[m1++m2|by rw[M,Array.append_assoc]]
 .let(m,hn,hl):=I.loc;calc%[0,m,ns m hn|λi x v F M e3=>?_];let(u,r,l):=hl i x v F M e3;calc%[0,u,r|?_];rcases l with l|⟨k,c,e,z⟩;.show .Â l
  .show .Ó %[14,k,c,e|B x c e _ z]
 .let(v,z):=I.ñ x c e;show%[v|B x c e v z]
 .let(m,(o,_,_,J,_),_):=I.loc;show free _ o (λz=>(D _ z).2.1 rb) J I.Ô
 .let(v,o,J,hd):=I.ñ x c e;show free c o (λz=>(D c z).2.2.1 x c e rb) J<|I.mO x c e
 .let(e,n,ne,Z,d):=I.pin p hp;let L:p.1∉ch:=λz=>(D p.1 z).2.2.2 p hp rfl;show%[keep p.1 p.2 ne Z L e n,free p.1 p.2 L e n,ne,Z|d]
def aL.un (I:aL X ao T H s)(u:Un X.fs [] H H' s.H h')(hok:gK X.Ñ X.w H' h')(gh:Gh H' t')(J:s.Ï<=t'):aL X ao T H' {s with heap:=h',toks:=t' }:=by
 let(m,(o,es,ep,G,r),_):=id I.loc;let(sl,L):=u.đ G I.Ô yf;show I.step (g':=s.gens) (d':=s.drawn) (ch:=[]) (λ_ z=>nomatch z) (λb o _ D _ e n=>u.keep b o e n D yf) (λb o _ D _ e n=>u.slot b o e n D yf) (λb o _ e n=>u.Ô b o e n yf) (λb o _ e=>u.there b o e yf) u.tups u.vQ u.xH (λm' hm=>by let(o',B,F,q,r'):=hm;rw[G]at q;cases q;show%[26,_,B,F,L|r']) hok I.bare gh J
def aL.call (I:aL X ao T H s)(u:Un (frs X.İ) ch H H' s.H h')(hok:gK X.Ñ X.w H' h')(O:Š g')(gh:Gh H' t')(N:s.Ï<=t')(D:∀b∈ch,(b∈X.ex\/X.s₀.d<=b)/\b≠X.É.ď/\(∀x c,X.É.Ĭ.Æ x=ĳ c->c≠b)/\∀p∈X.pn++ao,p.1≠b):aL X ao T H' {s with heap:=h',gens:=g',drawn:=d',toks:=t' }:=by
 let(m,(o,es,ep,J,r),_):=id I.loc;let(sl,L):=u.đ J I.Ô λz=>(D _ z).2.1 rfl;show I.step (ch:=ch) D (λb o L M q e n=>u.keep b o e n (λz=>(a_.mp<|I.La b z).î L M) q) (λb o _ _ q e n=>u.đ e n q) (λb o q e n=>u.Ô b o e n q) (λb o q e=>u.there b o e q) u.tups u.vQ u.xH (λm' hm=>by let(o',F,G,B,r'):=hm;rw[J]at B;cases B;show%[26,_,F,G,L|r']) hok O gh N
def aL.turned (I:aL X ao T H s)(k:∀b o,b≠it->s.H.Á b=ĳ o->h'.Á b=ĳ o)(hn:H it=ĺ)(L:it≠X.É.ď)(h1:it∈X.ex\/X.s₀.d<=it)(G:∀x c,X.É.Ĭ.Æ x=ĳ c->c≠it)(J:∀p∈X.pn++ao,p.1≠it)(F:Ž (s.Ï<=t') δ):aL X ao T H {s with heap:=h',toks:=t' }:=by
 let D:∀b u,H b=ĳ u->b≠it:=λb u e z=>by rw[z,hn]at e;cases e
 refine I.step (g':=s.gens) (d':=s.drawn) (ch:=[it]) (λb N=>?_) (λb o _ _ B e _=>k b o (λz=>B (by simp[z])) e) (λb o _ _ B e _=>%[o.slots|k b o (λz=>B (by simp[z])) e]) (λ_ _ _ _ n=>n)
  (λb o B e=>%[o|k b o (λz=>B (by simp[z])) e]) (λ_ _ e=>e) (λ_ _ _ e=>e) (λb ps e=>%[#[]|by rw[e];simp]) (λm hm=>?_) (λb u e=>?_) I.bare (I.gh.up F) F
 .let e:b=it:=by simpa using N
  subst e;show%[h1,L,G|J]
 .let(o,es,ep,M,r):=hm;show%[26,o,es,ep,k _ o (lS L) M|r]
 .refine(I.ê b u e).stay (λc v B q=>k c v ?_ q) (λ_ q=>q) λ_ _ q=>q
  rcases B with z|z;.rw[z];show D b u e
  .show D c _ z
def aL.tok (I:aL X ao T H s)(t)(q:Ž (s.Ï<=t) δ):aL X ao T H {s with toks:=t}:=I.un (h':=s.heap) (t':=t) Un.Ğ I.ê (I.gh.up q) q
def aL.kept (I:aL X ao T H s)(k:∀b u,s.H.Á b=ĳ u->h'.Á b=ĳ u)(q:Ž (s.Ï<=t') δ):aL X ao T H {s with heap:=h',toks:=t' }:=I.un (Un.ġ k) (I.ê.ġ k) (I.gh.up q) q
def aL.laid {a:Ĺ}{o:HO}{t':ĵ}(I:aL X ao T H s)(k:∀b u,s.H.Á b=ĳ u->h'.Á b=ĳ u)(hp:s.d<=a)(q:dg X.Ñ X.w (upd H a o) h' a o)(B:Ž (s.Ï<=t') δ)(D:Ž (Je o t') η):aL X ao T (upd H a o) {s with heap:=h',toks:=t' }:=I.un (Un.Ĝ k hp<|I.ê.ä hp) (I.ê.Ĝ k hp q) (I.gh.put B D) B
def aL.write (I:aL X ao T H s)(F:Vc (H x))(D:e=x\/H e=ĳ (.own x))(k:∀b u,b≠e->s.H.Á b=ĳ u->h'.Á b=ĳ u)(q:∃u,h'.Á e=ĳ u)(B:dg X.Ñ X.w (upd H x o) h' x o)(G:Ž (s.Ï<=t') δ)(J:Ž (Je o t') η):aL X ao T (upd H x o) {s with heap:=h',toks:=t' }:=I.un (Un.write F D k q) (I.ê.write F D k q B) (I.gh.put G J) G
def aL.Qj (I:aL X ao T H s)(h:∀p∈afo,s.H.Á p.1=ĳ p.2/\H p.1=ĺ/\p.1≠X.É.ď/\p.1∉X.fs/\∀v,p.2.ă≠.ñ v):aL X afo T H s:=%[I.ok,I.os,I.bare,I.ø,I.loc,I.ñ,I.Ô,I.mO,λp hp=>(a7.mp hp).î (λz=>I.pin p<|kQ _ z)<|h p,I.ê,I.Ċ,I.gh|I.tk]
def Lb {N:Ĵ Ŋ}(q:N.Ý){i j:ĵ}{x:Ŋ}(a:N[i]?=ĳ x)(b:N[j]?=ĳ x):i=j:=by let(h1,D):=ap.mp a;let(F,B):=ap.mp b;show(List.getElem_inj q).mp<|D.Z B.Ù
def uV (I:aL X ao T H s)(hN:X.N.Ý)(hi:X.N[i]?=ĳ x)(hx:Loc X.É.ĉ x)(r:bL v u)(h:∀s',aL X ao (T.Ď i<|ĳ v) H s'->(∃a,Heap.Ĉ a s.H s'.H/\(a=X.É.ď\/X.É.Ĭ.Æ x=ĳ a))->(∃m,s'.H.Ns X.É.ď m/\Look X.É s'.H m x u)->Q () s')(hf:Ž (X.fn x=ķ\/X.É.ĉ.Ú.Æ x=ĳ .ô) ζ):Ł M A (storeName X.É x u) Q E s:=by
 let(m,hn,hl):=id I.loc;let hcls:(X.É.ĉ.þ == .class||(X.É.ĉ.þ == .module&&X.É.ď != X.É.globals))=Ļ:=by rw[I.ok.kind];rfl
 let Z:i<T.n:=by rw[I.len];show(ap.mp hi).1
 let Jf:=I.Jf;let B:∀{a:Ĺ} {h':Ō},(∃o,s.H.Á a=ĳ o/\H a=ĺ)->Heap.Ĉ a s.H h'->gK X.Ñ X.w H h':=λ{a h'} ha hs b ob e=>by
  let(_,_,G):=ha;calc(I.ê b ob e).stay (λc w' D q=>(hs.2 c ?_).Z q) (λ_ q=>q) λ_ _ q=>q;rintro rfl;rcases D with rfl|D
  .rw[G]at e;cases e
  .rw[G]at D;cases D
 rcases hx with hk|hk
 .calc wpAny_storeName_local hk hn (λh' hn' hs=>?_) hcls;let(oL,_,_,hoL,_):=id hn;calc h _ ⟨I.ok,I.os,I.bare,%[λb o e n O hx=>?_,λb o e n O hx=>?_,I.ø.Ô,λb o e hx=>?_,I.ø.tups,I.ø.vQ|I.ø.xH],%[0,_,hn'|λj y v' F J e3=>?_],λy c e=>?_,I.Ô,I.mO,λp hp=>?_,B %[0,oL,hoL|I.Ô] hs,by simpa using I.len,I.gh.up (by first|show ah _|show dq _),aw I.tk (by first|show ah _|show dq _)⟩ %[0,_,hs|.Â rb] %[0,_,hn'|.Â %[hk|yf]];.show(hs.2 b<|bn<|bq (a6 e) I.ok.above).Z<|I.ø.keep b o e n O hx
  .let(sl,F):=I.ø.slot b o e n O hx;show%[sl|(hs.2 b<|bn<|bq (a6 e) I.ok.above).Z F]
  .let(o',F):=I.ø.there b o e hx;show%[o'|(hs.2 b<|bn<|bq (a6 e) I.ok.above).Z F]
  .by_cases Y:j=i
   .subst Y;rw[hi]at F;cases F;rw[l_ Z]at J;cases J;show%[0,u,r|.Â %[hk|yf]]
   .rw[oz (lS Y)]at J;let(u',r',q):=hl j y v' F J e3;calc%[0,u',r'|?_];rcases q with⟨k,e⟩|⟨k,c,e,z⟩
    .calc .Â %[k|?_];have:y≠x:=λe=>Y<|Lb hN F<|e ▸ hi;simp[this,e]
    .show .Ó %[14,k,c,e|z.sameBut hs<|Jf y c e]
  .let(w',z):=I.ñ y c e;show%[w'|z.sameBut hs<|Jf y c e]
  .let(e,n,ne,nf,d):=I.pin p hp;show%[(hs.2 p.1 ne).Z e,n,ne,nf|d]
 .let N:X.fn x=ķ:=by
   rcases hf with z|z;.show z
   .rw[z]at hk;cases hk
  let(c,D):=I.ok.has x (.Â hk);let(w',z):=I.ñ x c D;calc wpAny_storeName_cell I.ok.þ hk D z λh' L hs=>?_;let(oc,hoc,agn):=id z;calc h {s with heap:=h' } %[I.ok,I.os,I.bare,%[λb o e n O hx=>?_,λb o e n O hx=>?_,I.ø.Ô,λb o e hx=>?_,I.ø.tups,I.ø.vQ|I.ø.xH],%[0,m,hn.sameBut hs<|lS<|Jf x c D|λj y v' F J e3=>?_],λy c' e=>?_,I.Ô,I.mO,λp hp=>?_,B %[0,oc,hoc|I.mO x c D] hs,by simpa using I.len,I.gh|I.tk] %[0,c,hs|.Ó D] %[0,m,hn.sameBut hs<|lS<|Jf x c D|.Ó %[14,.Â hk,c,D|L]];.show(hs.2 b<|bn<|bq (a6 e)<|I.ok.cab x c N D).Z<|I.ø.keep b o e n O hx
  .let(sl,F):=I.ø.slot b o e n O hx;show%[sl|(hs.2 b<|bn<|bq (a6 e)<|I.ok.cab x c N D).Z F]
  .let(o',F):=I.ø.there b o e hx;show%[o'|(hs.2 b<|bn<|bq (a6 e)<|I.ok.cab x c N D).Z F]
  .by_cases Y:j=i
   .subst Y;rw[hi]at F;cases F;rw[l_ Z]at J;cases J;show%[0,u,r|.Ó %[14,.Â hk,c,D|L]]
   .rw[oz (lS Y)]at J;let(u',r',q):=hl j y v' F J e3;calc%[0,u',r'|?_];rcases q with q|⟨k,c',e,z'⟩;.show .Â q
    .calc .Ó %[14,k,c',e|z'.sameBut hs ?_];rintro rfl;show Y<|Lb hN F<|I.ok.inj _ _ _ e D ▸ hi
  .by_cases hcc:c'=c;.subst hcc;show%[_|L]
   .let(w2,z2):=I.ñ y c' e;show%[w2|z2.sameBut hs hcc]
  .let(e,n,ne,nf,d):=I.pin p hp;calc%[(hs.2 p.1 ?_).Z e,n,ne,nf|d];intro q;rw[q,hoc]at e;show d w' (by rw[<-(bd e)];show agn)
def xK (I:aL X ao T H s)(N:X.N.Ý)(hi:X.N[i]?=ĳ x)(hx:Loc X.É.ĉ x)(r:bL v u)(h:∀s',aL X ao (T.Ď i<|ĳ v) H s'->Q () s')(hf:Ž (X.fn x=ķ\/X.É.ĉ.Ú.Æ x=ĳ .ô) ζ):wpAny M A (storeName X.É x u) Q E s:=uV I N hi hx r (λs' I' _ _=>h s' I') hf
def aL.call' {s':Ľ}(I:aL X ao T H s)(B:s'.os=s.os)(u:Un (frs X.İ) ch H H' s.H s'.H)(hok:gK X.Ñ X.w H' s'.H)(F:Š s'.gens)(gh:Gh H' s'.Ï)(D:s.Ï<=s'.Ï)(q:∀b∈ch,(b∈X.ex\/X.s₀.d<=b)/\b≠X.É.ď/\(∀x c,X.É.Ĭ.Æ x=ĳ c->c≠b)/\∀p∈X.pn++ao,p.1≠b):aL X ao T H' s':=by let(h',g',d',t',o'):=s';subst B;show I.call (g':=g') (t':=t') (d':=d') u hok F gh D q
end
abbrev XK:=Ķ->ĸ Ĺ->Hp->Prop
abbrev St:=Ĵ (ĸ V)
abbrev VK:=V->Hp->Prop
abbrev TE:=St->Hp->VK->Prop
abbrev TT:=St->Hp->(œ->Hp->Prop)->Prop
abbrev TA:=St->Hp->(Ĵ V->Hp->Prop)->Prop
structure Ends where
 nx:St->Hp->Prop
 rt:VK
 bk:St->Hp->Prop:=λ_ _=>ř
 ct:St->Hp->Prop:=λ_ _=>ř
abbrev TS:=Ends->St->Hp->Prop
def EP (X:Cx)(ao:AC)(I:St)(Q:VK)(u:Ķ)(s':Ľ):Prop:=∃v H',aL X ao I H' s'/\bL v u/\Q v H'
def TP (X:Cx)(ao:AC)(I:St)(Q:œ->Hp->Prop)(b:œ)(s':Ľ):Prop:=∃H',aL X ao I H' s'/\Q b H'
def AP (X:Cx)(ao:AC)(I:St)(Q:Ĵ V->Hp->Prop)(us:Ĵ Ķ)(s':Ľ):Prop:=∃vs H',aL X ao I H' s'/\Vals vs us/\Q vs H'
def SP (X:Cx)(ao:AC)(D:Ends)(f:Flow)(s':Ľ):Prop:=match f with| .next=>∃I' H',aL X ao I' H' s'/\D.nx I' H'| .brk=>∃I' H',aL X ao I' H' s'/\D.bk I' H'| .cont=>∃I' H',aL X ao I' H' s'/\D.ct I' H'| .ret u=>∃v I' H',aL X ao I' H' s'/\bL v u/\D.rt v H'
def PE (X:Cx)(e:Ő)(t:TE):Prop:=∀(ao:AC) (s:Ľ) (I:St) (H:Hp) (Q:VK),aL X ao I H s->t I H Q->Ł (ł X.Ñ X.w) X.A (Ŕ e X.É) (EP X ao I Q) X.xe s
structure QE (X:Cx)(e:Ő)(t:TE):Prop where
 out:PE X e t
def PT (X:Cx)(e:Ő)(t:TT):Prop:=∀(ao:AC) (s:Ľ) (I:St) (H:Hp) (Q:œ->Hp->Prop),aL X ao I H s->t I H Q->Ł (ł X.Ñ X.w) X.A (isTrue e X.É<|Ŕ e X.É) (TP X ao I Q) X.xe s
structure QT (X:Cx)(e:Ő)(t:TT):Prop where
 out:PT X e t
def PW (X:Cx)(e:Ő)(t:TT):Prop:=∀(q:Sem Ķ) (ao:AC) (s:Ľ) (I:St) (H:Hp) (Q:œ->Hp->Prop),aL X ao I H s->t I H Q->Ł (ł X.Ñ X.w) X.A (isTrue e X.É q) (TP X ao I Q) X.xe s
structure QW (X:Cx)(e:Ő)(t:TT):Prop where
 out:PW X e t
def PW.pt (h:PW X e t):PT X e t:=h _
def PA (X:Cx)(es:Ĵ Ő)(t:TA):Prop:=∀(pos:Pos) (ao:AC) (s:Ľ) (I:St) (H:Hp) (Q:Ĵ V->Hp->Prop),aL X ao I H s->t I H Q->Ł (ł X.Ñ X.w) X.A (spliced<|backTo pos<|ŉ es X.É) (AP X ao I Q) X.xe s
structure QA (X:Cx)(es:Ĵ Ő)(t:TA):Prop where
 out:PA X es t
def PS (X:Cx)(st:ŏ)(t:TS):Prop:=∀(ao:AC) (s:Ľ) (I:St) (H:Hp) (D:Ends),aL X ao I H s->t D I H->Ł (ł X.Ñ X.w) X.A (exec st X.É) (SP X ao D) X.xe s
structure QS (X:Cx)(st:ŏ)(t:TS):Prop where
 out:PS X st t
def CT (X:Cx)(st:Ĵ ŏ)(t:TS):Prop:=∀(ao:AC) (s:Ľ) (I:St) (H:Hp) (D:Ends),aL X ao I H s->t D I H->Ł (ł X.Ñ X.w) X.A (execs st X.É) (SP X ao D) X.xe s
structure tU (X:Cx)(st:Ĵ ŏ)(t:TS):Prop where
 out:CT X st t
def bJ {I:Type}{t:Sem I}{Q Q':I->Ľ->Prop}(h:Ł M A t Q E s)(q:∀a s,Q a s->Q' a s):Ł M A t Q' E s:=gz h q λ_ _ x=>x
section
variable {X:Cx}
abbrev gV (o:ĸ (ĸ V))(f:V->Prop):Prop:=match o with|some (some v)=>f v|_=>False
theorem afp:∀{o:ĸ (ĸ V)},gV o f->∃v,o=ĳ (ĳ v)/\f v
 | some (some v),h=>%[0,v,rb|h]
def aht (v)(e:o=ĳ (ĳ v))(h:f v):gV o f:=by subst e;show h
abbrev Jh (x:V)(f:œ->Prop):Prop:=match x with|.bl c=>f c|_=>False
theorem o8:∀{x:V},Jh x f->∃c,x=.bl c/\f c
 | .bl c,h=>%[0,c,rb|h]
def aU (c)(e:x=.bl c)(h:f c):Jh x f:=by subst e;show h
def eG (i:ĵ):TE:=λT H Q=>gV T[i]? λv=>Q v H
def tC (v:V):TE:=λ_ H Q=>Q v H
def adg {i:ĵ}{x:Ŋ}{pos:Pos}(N:X.N[i]?=ĳ x)(hv:Ve X.É.ĉ x)(hd:Ž ((x==("__debug__":Ŋ))=Ļ) ſ)(D:Ž ((x==("__classdict__":Ŋ))=Ļ) ſ):PE X (.å x pos) (eG i):=by
 intro ao s T H Q I h;let(v,e,h):=afp h;let(m,hn,G):=I.loc;let(u,r,l):=G i x v N e hv;let B:EP X ao T Q u s:=%[1,v,H,I,r|h]
 rcases l with⟨hk,hm⟩|⟨hk,c,F,q⟩;.show tj (vi I.ok.þ hk hn hm B) hd
 .rcases hk with hk|hk;.show tj (wpAny_loadName_cell I.ok.þ hk F q B) hd
  .show tj (wpAny_loadName_free I.ok.þ hk F q B D) hd
def aC {i j pos}:QE X (.ù (.R i) j pos) (tC<|.R i):=⟨λ_ _ _ H _ I h=>sC %[1,.R i,H,I.tok _,%[_|rb]|h]⟩
def fL {b j pos}:QE X (.ù (.Ć b) j pos) (tC<|.bl b):=⟨λ_ _ _ H _ I h=>Constant_bool %[1,.bl b,H,I,rb|h]⟩
def adh {j pos}:QE X (.ù .ß j pos) (tC .ć):=⟨λ_ _ _ H _ I h=>Constant_none %[1,.ć,H,I,rb|h]⟩
def adi {x j pos}:PE X (.ù (.À x) j pos) (tC<|.À x):=λ_ _ _ H _ I h=>kF %[1,.À x,H,I.tok _,%[_|rb]|h]
def Gl (X:Cx)(x:Ŋ):Prop:=X.É.ę x=ĳ .globalImplicit
def Bh {E:AB}{ao:AC}{s:Ľ}{T:St}{H:Hp}{x:Ŋ}{u:Ķ}{pos:Pos}{Q:AB}(I:aL X ao T H s)(q:Gl X x)(hm:X.mg x=ĳ u)(h:Q u s)(hd:Ž ((x==("__debug__":Ŋ))=Ļ) ſ):Ł (ł X.Ñ X.w) X.A (Ŕ (.å x pos) X.É) Q E s:=Calls.Name_function_global I.ok.þ q (Calls.loadGlobal_global (by rw[I.ok.glob];show I.mod.glob.Đ I.bk) hm h) hd
def nA {E:AB}{ao:AC}{s:Ľ}{T:St}{H:Hp}{x:Ŋ}{u:Ķ}{pos:Pos}{Q:AB}(I:aL X ao T H s)(B:Gl X x)(hm:X.mg x=ĺ)(hv:bootBuiltins x=ĳ u)(h:Q u s)(hn:Ž (x≠"__name__") ſ)(hd:Ž ((x==("__debug__":Ŋ))=Ļ) ſ):Ł (ł X.Ñ X.w) X.A (Ŕ (.å x pos) X.É) Q E s:=by let(mb,h1,q):=I.mod.blt;show Calls.Name_function_global I.ok.þ B (Calls.loadGlobal_builtin (by rw[I.ok.glob];show I.mod.glob.Đ I.bk) hm (by rw[I.ok.blt];show h1.Đ I.bk) ((q x hn).Z hv) h) hd
def Qk (q:Gl X x)(hm:X.mg x=ĳ u)(r:bL v u)(hd:Ž ((x==("__debug__":Ŋ))=Ļ) ſ):QE X (.å x pos) (tC v):=⟨λ_ _ _ H _ I h=>Bh I q hm %[1,v,H,I,r|h] hd⟩
def oR {x:Ŋ}{v:V}{u:Ķ}{pos:Pos}(q:Gl X x)(hm:X.mg x=ĺ)(hv:bootBuiltins x=ĳ u)(r:bL v u)(hn:Ž (x≠"__name__") ſ)(hd:Ž ((x==("__debug__":Ŋ))=Ļ) ſ):QE X (.å x pos) (tC v):=⟨λ_ _ _ H _ I h=>nA I q hm hv %[1,v,H,I,r|h] hn hd⟩
variable {a b:Ő}{ta tb:TE}{pos:Pos}
def PC (X:Cx)(op:CmpOp)(a b:Ő)(t:TE):Prop:=∀(ao:AC) (s:Ľ) (T:St) (H:Hp) (Q:VK),aL X ao T H s->t T H Q->
  Ł (ł X.Ñ X.w) X.A (Ŕ a X.É) (λv q=>Ł (ł X.Ñ X.w) X.A (Ŕ b X.É) (λu B=>Ł (ł X.Ñ X.w) X.A (compareOp op v u) (EP X ao T Q) X.xe B) X.xe q) X.xe s
structure QC (X:Cx)(op:CmpOp)(a b:Ő)(t:TE):Prop where
 out:PC X op a b t
def tB (t:TE):TT:=λT H Q=>t T H λx H1=>Jh x λc=>Q c H1
def adk (h:QC X op a b t)(h1:behindInMarks op b=Ļ:=by first|show ago _ yi yi|rfl):QE X (.Compare a [op] [b] pos) t:=⟨λao s T H Q I hw=>wpAny_Compare1 (h.ã ao s T H Q I hw) h1⟩
def dw (h:QE X e t)(D:Ž (∀B,isTrue e X.É B=(do let v <- B;standAt e.pos;holding [v] (truthy v))) ε):QT X e (tB t):=⟨by
 intro ao s T H Q I hw;calc isTrue_plain (bJ (h.ã ao s T H _ I hw) λv s1 zq=>?_)<|D _;let(x,H1,I1,r1,q1):=zq;let(d,rfl,q):=o8 q1;cases r1;show fq %[0,H1,I1|q]⟩
variable {tA tB':TT}{rest:Ĵ Ő}
def agp (t u:TT):TT:=λT H Q=>t T H λc H1=>if c=ķ then u T H1 Q else Q Ļ H1
def tOr (t u:TT):TT:=λT H Q=>t T H λc H1=>if c=ķ then Q ķ H1 else u T H1 Q
def agq (t:TT):TT:=λT H Q=>t T H λc H1=>Q (!c) H1
def Bj (ha:QT X a tA):QW X (.BoolOp .And [a] pos) tA:=⟨by
 intro q ao s T H Q I h;calc isTrue_and<|bJ (ha.ã ao s T H Q I h) λc s1 e=>?_;cases c with
 | true=>show isTrue_and_nil e
 | false=>show e⟩
def nC (ha:QT X a tA):QW X (.BoolOp .Or [a] pos) tA:=⟨by
 intro q ao s T H Q I h;calc isTrue_or<|bJ (ha.ã ao s T H Q I h) λc s1 e=>?_;cases c with
 | false=>show isTrue_or_nil e
 | true=>show e⟩
def Ez (ha:QT X a tA)(q:QW X (.BoolOp .And (b::rest) pos) tB'):QW X (.BoolOp .And (a::b::rest) pos) (agp tA tB'):=⟨by
 intro D ao s T H Q I h;calc isTrue_and<|bJ (ha.ã ao s T H _ I h) λc s1 B=>?_;let(H1,I1,q1):=B;cases c with
 | true=>show q.ã D ao s1 T H1 Q I1 q1
 | false=>show%[0,H1,I1|q1]⟩
def qL (ha:QT X a tA)(q:QW X (.BoolOp .Or (b::rest) pos) tB'):QW X (.BoolOp .Or (a::b::rest) pos) (tOr tA tB'):=⟨by
 intro D ao s T H Q I h;calc isTrue_or<|bJ (ha.ã ao s T H _ I h) λc s1 B=>?_;let(H1,I1,q1):=B;cases c with
 | true=>show%[0,H1,I1|q1]
 | false=>show q.ã D ao s1 T H1 Q I1 q1⟩
def eV (ha:QT X a tA):QT X (.UnaryOp .Not a pos) (agq tA):=⟨by
 intro ao s T H Q I h;show isTrue_not<|ha.ã ao s T H (λc H1=>Q (!c) H1) I h⟩
def afq (ta tb:TE):TE:=λT H Q=>ta T H λx H1=>Jh x λc=>if c=ķ then tb T H1 Q else Q (.bl Ļ) H1
def agr (ta tb:TE):TE:=λT H Q=>ta T H λx H1=>Jh x λc=>if c=ķ then Q (.bl ķ) H1 else tb T H1 Q
def afr (ta:TE):TE:=λT H Q=>ta T H λx H1=>Jh x λc=>Q (.bl<|!c) H1
def mj {op}(h:QE X a t):QE X (.BoolOp op [a] pos) t:=⟨λao s T H Q I hw=>BoolOp_one<|h.ã ao s T H Q I hw⟩
def nD (ha:QE X a ta)(q:QE X (.BoolOp .And (b::rest) pos) tb):QE X (.BoolOp .And (a::b::rest) pos) (afq ta tb):=⟨by
 intro ao s T H Q I h;calc BoolOp_and<|bJ (ha.ã ao s T H _ I h) λv s1 B=>?_;let(x,H1,I1,r1,q1):=B;let(c,rfl,q1):=o8 q1;cases r1;calc fq ?_;cases c with
 | true=>show q.ã ao s1 T H1 Q I1 q1
 | false=>show%[1,.bl Ļ,H1,I1,rb|q1]⟩
def aaR (ha:QE X a ta)(q:QE X (.BoolOp .Or (b::rest) pos) tb):QE X (.BoolOp .Or (a::b::rest) pos) (agr ta tb):=⟨by
 intro ao s T H Q I h;calc BoolOp_or<|bJ (ha.ã ao s T H _ I h) λv s1 B=>?_;let(x,H1,I1,r1,q1):=B;let(c,rfl,q1):=o8 q1;cases r1;calc fq ?_;cases c with
 | false=>show q.ã ao s1 T H1 Q I1 q1
 | true=>show%[1,.bl ķ,H1,I1,rb|q1]⟩
def adl (ha:QE X a ta):QE X (.UnaryOp .Not a pos) (afr ta):=⟨by
 intro ao s T H Q I h;calc UnaryOp_<|bJ (ha.ã ao s T H _ I h) λv s1 zq=>?_;let(x,H1,I1,r1,q1):=zq;let(c,rfl,q1):=o8 q1;cases r1;show not_of<|fq %[1,.bl<|!c,H1,I1,rb|q1]⟩
def tIf (t:TT)(ta tb:TE):TE:=λT H Q=>t T H λc H1=>if c=ķ then ta T H1 Q else tb T H1 Q
def oH (B:QT X c tA)(ha:QE X a ta)(q:QE X b tb):QE X (.IfExp c a b pos) (tIf tA ta tb):=⟨by
 intro ao s T H Q I h;calc wpAny_IfExp<|bJ (B.ã ao s T H _ I h) λd s1 D=>?_;let(H1,I1,q1):=D;cases d with
 | true=>show ha.ã ao s1 T H1 Q I1 q1
 | false=>show q.ã ao s1 T H1 Q I1 q1⟩
end
def aP (K:W.Ê)(H:Hp)(a:Ĺ)(xs:Ĵ V):Prop:=Rd H a (.Ç xs)\/
  ∃(o:Obj) (its:Ņ Ķ) (n:Nat),K.Æ a=ĳ o/\o.cls=.È "list"/\o.dict=ĺ/\o.ă=.ð its n/\its.E<=Ń/\Vals xs its.I/\∀v∈xs,wB v=v
def aM (K:W.Ê)(H:Hp)(a:Ĺ)(xs:Ĵ V):Prop:=Rd H a (.Ã xs)\/
  ∃(o:Obj) (its:Ņ Ķ) (n:Nat),K.Æ a=ĳ o/\o.cls=.È "tuple"/\o.ă=.ð its n/\its.E<=Ń/\Vals xs its.I/\∀v∈xs,wB v=v
def ags:Ķ->ĸ V
 | .ß=>ĳ .ć
 | .Ć b=>ĳ (.bl b)
 | .R i _=>ĳ (.R i)
 | .À x _=>ĳ (.À x)
 | .bytes b _=>ĳ (.yQ b)
 | .float b _=>ĳ (.flt b)
 | .C a=>ĳ (.C a)
 | .È n=>ĳ (.ty n)
 | _=>none
def bL.abs (r:bL x u):ags u=ĳ (wB x):=by
 cases x with
 | non=>cases r;rfl
 | bl _=>cases r;rfl
 | int _=>let(t,rfl):=r;rfl
 | str _=>let(t,rfl):=r;rfl
 | yQ _=>let(t,rfl):=r;rfl
 | flt _=>let(t,rfl):=r;rfl
 | ref _=>cases r;rfl
 | ty _=>cases r;rfl
 | sx _ _=>cases r;rfl
def bL.inj (r:bL x u)(q:bL y u)(h:wB x=x)(h':wB y=y):x=y:=by rw[<-h,<-h'];show bd<|r.abs.Ù.Z q.abs
def Vals.inj {xs ys:Ĵ V}{us:Ĵ Ķ}(a:Vals xs us)(b:Vals ys us)(h:∀v∈xs,wB v=v)(h':∀v∈ys,wB v=v):xs=ys:=by
 induction a generalizing ys with|nil=>cases b;rfl|cons r _ i=>cases b with|cons q t=>rw[r.inj q (h _<|.head _) (h' _<|.head _),i t (λv z=>h v<|.tail _ z) λv z=>h' v (.tail _ z)]
def Rd.one (h:Rd H a u)(h':Rd H a v)(q:∀o x,u≠.jk o x)(B:∀o x,v≠.jk o x):u=v:=by
 rcases h with h|⟨o,h⟩ <;> rcases h' with h'|⟨o',h'⟩ <;> rw[h]at h' <;> injection h' with h'
 .show ń h'<|q _ _
 .show ń h'.Ù<|B _ _
 .injection h'
def Rd.ne (h:Rd H a u):H a≠ĺ:=by rcases h with h|⟨o,h⟩ <;> rw[h] <;> simp
section
variable {X:Cx}{ao:AC}{T:St}{H:Hp}{s:Ľ}{a:Ĺ}{xs ys:Ĵ V}
def aP.of {K:W.Ê}(h:H a=ĳ (.Ç xs)):aP K H a xs:=.Â (.Â h)
def aM.of {K:W.Ê}(h:H a=ĳ (.Ã xs)):aM K H a xs:=.Â (.Â h)
def aL.list (I:aL X ao T H s)(h:aP X.K H a xs):∃its:Ĵ Ķ,Vals xs its/\PlainL s.H a its.Y/\xs.n<=Ń:=by
 rcases h with h|⟨o,its,n,hk,q,hd,hs,hz,r,_⟩
 .let(z,its,n,r,e):=h.ok I.ê;show%[2,its,r,%[4,_,n,e,rb,rb|rb]|z]
 .calc%[2,its.I,r,%[4,o,n,I.jR a o hk,q,hd|by simpa using hs]|?_];let e:=r.n;simp only[bo]at e;lia
def aL.tuple (I:aL X ao T H s)(h:aM X.K H a xs):∃its:Ĵ Ķ,Vals xs its/\ź s.H a its.Y/\xs.n<=Ń:=by
 rcases h with h|⟨o,its,n,hk,q,hs,hz,r,_⟩
 .let(z,its,r,p):=h.ok I.ê;show%[2,its,r,p|z]
 .calc%[2,its.I,r,%[37,o,I.jR a o hk,q,n|by simpa using hs]|?_];let e:=r.n;simp only[bo]at e;lia
def aL.xM (I:aL X ao T H s)(h:aP X.K H a xs)(h':aP X.K H a ys):xs=ys:=by
 rcases h with h|⟨o,its,n,hk,_,_,hd,_,r,p⟩ <;> rcases h' with h'|⟨o',its',n',q,_,_,B,_,r',p'⟩
 .show HO.Ç.inj<|h.one h' (λ_ _=>nofun) λ_ _=>nofun
 .show ń (I.bs a _<|I.mod.yR a _ q).2 h.ne
 .show ń (I.bs a _<|I.mod.yR a _ hk).2 h'.ne
 .rw[hk]at q;cases q;rw[hd]at B;cases B;show r.inj r' p p'
def aL.Ji (I:aL X ao T H s)(h:aM X.K H a xs)(h':aM X.K H a ys):xs=ys:=by
 rcases h with h|⟨o,its,n,hk,_,hd,_,r,p⟩ <;> rcases h' with h'|⟨o',its',n',q,_,B,_,r',p'⟩
 .show HO.Ã.inj<|h.one h' (λ_ _=>nofun) λ_ _=>nofun
 .show ń (I.bs a _<|I.mod.yR a _ q).2 h.ne
 .show ń (I.bs a _<|I.mod.yR a _ hk).2 h'.ne
 .rw[hk]at q;cases q;rw[hd]at B;cases B;show r.inj r' p p'
end
abbrev Cx.wish (X:Cx)(E:AB):Cx:={X with xe:=E}
abbrev Cx.zH (X:Cx):Cx:=X.wish λ_ _=>ř
def Cx.Ok.wish {X:Cx}(ok:X.Ok)(E:AB):(X.wish E).Ok:=%[ok.mod,ok.þ,ok.glob,ok.blt,ok.above,ok.inj,ok.has,ok.cab,ok.hd,ok.frames,ok.stk,ok.exf,ok.bs,ok.zG,ok.Dv,ok.Hs,ok.o7|ok.Ey]
def Cx.Ok.rB {X:Cx}(ok:(X.wish E).Ok):X.Ok:=%[ok.mod,ok.þ,ok.glob,ok.blt,ok.above,ok.inj,ok.has,ok.cab,ok.hd,ok.frames,ok.stk,ok.exf,ok.bs,ok.zG,ok.Dv,ok.Hs,ok.o7|ok.Ey]
section
variable {X:Cx}{ao:AC}{T:St}{H:Hp}{s:Ľ}{E:AB}
def aL.wish (I:aL X ao T H s)(E:AB):aL (X.wish E) ao T H s:=%[I.ok.wish E,I.os,I.bare,I.ø,I.loc,I.ñ,I.Ô,I.mO,I.pin,I.ê,I.Ċ,I.gh|I.tk]
def aL.rB (I:aL (X.wish E) ao T H s):aL X ao T H s:=%[I.ok.rB,I.os,I.bare,I.ø,I.loc,I.ñ,I.Ô,I.mO,I.pin,I.ê,I.Ċ,I.gh|I.tk]
def SP.rB (h:SP (X.wish E) ao D f s'):SP X ao D f s':=by
 cases f with
 | next=>let(T',H',I,q):=h;show%[3,T',H',I.rB|q]
 | brk=>let(T',H',I,q):=h;show%[3,T',H',I.rB|q]
 | cont=>let(T',H',I,q):=h;show%[3,T',H',I.rB|q]
 | ret u=>let(v,T',H',I,r,q):=h;show%[31,v,T',H',I.rB,r|q]
def CT.zH {st:Ĵ ŏ}(h:CT X.zH st t):CT X st t:=λao s T H D I hw=>gz (h ao s T H D (I.wish _) hw) (λ_ _ q=>q.rB) λ_ _ z=>False.î z
end
section
variable {X:Cx}{st:ŏ}{rest:Ĵ ŏ}{t u:TS}{e:Ő}{te:TE}{pos:Pos}
def afs:TS:=λD T H=>D.nx T H
def agt (t u:TS):TS:=λD T H=>t {D with nx:=u D} T H
def bI  : tU X [] afs:=⟨λ_ _ T H _ I h=>ly %[3,T,H,I|h]⟩
def aB (h1:QS X st t)(B:tU X rest u):tU X (st::rest) (agt t u):=⟨by
 intro ao s T H D I h;calc oI<|bJ (h1.ã ao s T H {D with nx:=u D} I h) λf s1 q=>?_;cases f with
 | next=>let(T',H',I',q):=q;show B.ã ao s1 T' H' D I' q
 | ret v=>show q
 | brk=>show q
 | cont=>show q⟩
def aD (h1:QS X st t):tU X [st] t:=⟨by
 intro ao s T H D I h;calc oI<|bJ (h1.ã ao s T H D I h) λf s1 q=>?_;cases f with
 | next=>show ly q
 | ret v=>show q
 | brk=>show q
 | cont=>show q⟩
def aL.quiet {ao:AC}{T:St}{H:Hp}{s:Ľ}(I:aL X ao T H s):interactive X.É=Ļ:=by simp[interactive,I.ok.kind]
def KD (te:TE):TS:=λD T H=>te T H λ_ H1=>D.nx T H1
def dD (q:QE X e te)(hs:Ž (swapsWith e ĺ pos.line X.É=pure Ļ) ž):QS X (.Expr e pos) (KD te):=⟨by
 intro ao s T H D I h;show wpAny_Expr_any (bJ (q.ã ao s T H _ I h) λv s1 zq=>by let(x,H1,I1,r1,q1):=zq;exact %[3,T,H1,I1|q1]) I.quiet hs⟩
def Yv (te:TE):TS:=λD T H=>te T H D.rt
def aY (q:QE X e te):QS X (.Return (ĳ e) pos) (Yv te):=⟨by
 intro ao s T H D I h;show wpAny_Return_some<|bJ (q.ã ao s T H _ I h) λv s1 zq=>by let(x,H1,I1,r1,q1):=zq;exact %[31,x,T,H1,I1,r1|q1]⟩
def agu (c:TT)(t u:TS):TS:=λD T H=>c T H λb H1=>if b=ķ then t D T H1 else u D T H1
def cg (B:QT X c tc)(ha:tU X a t)(q:tU X b u):QS X (.If c a b pos) (agu tc t u):=⟨by
 intro ao s T H D I h;calc wpAny_If<|bJ (B.ã ao s T H _ I h) λd s1 F=>?_;let(H1,I1,q1):=F;cases d with
 | true=>show ha.ã ao s1 T H1 D I1 q1
 | false=>show q.ã ao s1 T H1 D I1 q1⟩
def adn:TS:=λ_ _ _=>ř
def iG  : tU X sts adn:=⟨λ_ _ _ _ _ _ h=>h.î⟩
end
abbrev TG:=V->St->Hp->(St->Hp->Prop)->Prop
abbrev zJ:=Ĵ V->St->Hp->(St->Hp->Prop)->Prop
def PG (X:Cx)(q:Ő)(t:TG):Prop:=∀(ao:AC) (s:Ľ) (I:St) (H:Hp) (v:V) (u:Ķ) (Q:St->Hp->Prop),aL X ao I H s->bL v u->t v I H Q->
  Ł (ł X.Ñ X.w) X.A (assign q X.É u) (λ_ s'=>∃I' H',aL X ao I' H' s'/\Q I' H') X.xe s
structure QG (X:Cx)(e:Ő)(t:TG):Prop where
 out:PG X e t
def Ql (X:Cx)(ts:Ĵ Ő)(t:zJ):Prop:=∀(ao:AC) (s:Ľ) (I:St) (H:Hp) (vs:Ĵ V) (us:Ĵ Ķ) (Q:St->Hp->Prop),aL X ao I H s->Vals vs us->t vs I H Q->
  Ł (ł X.Ñ X.w) X.A (assignInOrder ((assignEach ts X.É).Q (·.2)) us) (λ_ s'=>∃I' H',aL X ao I' H' s'/\Q I' H') X.xe s
structure Vi (X:Cx)(es:Ĵ Ő)(t:zJ):Prop where
 out:Ql X es t
abbrev ado:=V->V->V->Hp->(Hp->Prop)->Prop
def Yw (X:Cx)(t:ado):Prop:=∀(ao:AC) (s:Ľ) (I:St) (H:Hp) (o i v:V) (q B u:Ķ) (Q:Hp->Prop),aL X ao I H s->bL o q->bL i B->bL v u->t o i v H Q->
  Ł (ł X.Ñ X.w) X.A (setItem q B u) (λ_ s'=>∃H',aL X ao I H' s'/\Q H') X.xe s
section
variable {X:Cx}{pos:Pos}
def lM (i:ĵ):TG:=λv T H Q=>Q (T.Ď i<|ĳ v) H
def jT (N:X.N.Ý)(hi:X.N[i]?=ĳ x)(hx:Loc X.É.ĉ x)(hf:Ž (X.fn x=ķ\/X.É.ĉ.Ú.Æ x=ĳ .ô) ζ):PG X (.å x pos) (lM i):=by intro ao s T H v u Q I r h;show tI<|xK I N hi hx r (λs' I'=>%[3,_,H,I'|h]) hf
def Ld:zJ:=λvs T H Q=>vs=[]/\Q T H
def o9 (t:TG)(u:zJ):zJ:=λvs T H Q=>∃v r,vs=v::r/\t v T H λT' H'=>u r T' H' Q
def Bk:Ql X [] Ld:=by intro ao s T H vs us Q I r h;let(e,h):=h;subst e;cases r;show assignInOrder_nil %[3,T,H,I|h]
def jF (h1:PG X e t)(q:Ql X es u)(hs:Ž ((assignEach (e::es) X.É).Q (·.2)=assign e X.É::(assignEach es X.É).Q (·.2)) ž):Ql X (e::es) (o9 t u):=by
 intro ao s T H vs us Q I r h;let(v,vr,F,h):=h;subst F;cases r with| cons r rr=>rw[hs];calc assignInOrder_cons<|bJ (h1 ao s T H _ _ _ I r h) λ_ s1 D=>?_;let(B,H1,I1,q1):=D;show q ao s1 B H1 _ _ Q I1 rr q1
def Le (K:W.Ê)(n:ĵ)(t:zJ):TG:=λv T H Q=>∃a xs,v=.C a/\aM K H a xs/\xs.n=n/\t xs T H Q
def EY {es:Ĵ Ő}{k:ĵ}{t:zJ}{n:ĵ}(D:X.Ě=ķ)(h:Ql X es t)(hn:Ž ((assignEach es X.É).n=n) ž)(q:Ž ((assignEach es X.É).findIdx? (·.1)=ĺ) ž):PG X (.Ă es k pos) (Le X.K n t):=by intro ao s T H v u Q I r hw;let(a,xs,L,J,F,hw):=hw;subst L;cases r;let(its,B,G,hz):=I.ğ J;calc assign_Tuple_tuple (I.ok.hd D) G (by simp[hn,<-F,B.length]) q λh' hx=>?_;show h ao _ T H xs _ Q (I.ġ (t':=s.toks) λb o e=>hx b o (bn<|a6 e) e) (by simpa using B) hw
def adp (to ti:TE)(t:ado):TG:=λv T H Q=>to T H λo H1=>ti T H1 λi B=>t o i v B λq=>Q T q
def adq (M:PE X o to)(hi:PE X i ti)(hs:Yw X t)(ha:Ž (∀v,assign (.Č o i pos) X.É v=(do
   let q <- holding [v] (Ŕ o X.É)
   let B <- holding [v,q] (Ŕ i X.É)
   standAt pos
   holding [v,q,B] (setItem q B v)
   release [v,q,B] [])) ε):PG X (.Č o i pos) (adp to ti t):=by
 intro ao s T H v u Q I r h;rw[ha];calc ab<|eK<|bJ (M ao s T H _ I h) λq s1 D=>?_;let(x,H1,I1,r1,q1):=D;calc ab<|eK<|bJ (hi ao s1 T H1 _ I1 q1) λB s2 D=>?_;let(y,L,I2,F,q2):=D;calc ab<|t9<|ab<|eK<|bJ (hs ao s2 T L x y v q B u _ I2 r1 F r q2) λ_ N D=>?_;let(G,J,q3):=D;show wpAny_release %[3,T,G,J|q3]
def Ss (te:TE)(g:TG):TS:=λD T H=>te T H λx H1=>g x T H1 D.nx
def adt (B:QE X e te)(F:QG X tg g)(hs:Ž (swapsWithSole [tg] e pos.line X.É=pure Ļ) ž)(hw:Ž (swappedStores [tg] e X.É=pure ĺ) ž)(h1:Ž ((assignEach [tg] X.É).Q (·.2)=[assign tg X.É]) ž):QS X (.Assign [tg] e pos) (Ss te g):=⟨by
 intro ao s T H D I h;calc wpAny_Assign_stores (bJ (B.ã ao s T H _ I h) λv s1 zq=>?_) hs hw;let(x,H1,I1,r1,q1):=zq;rw[h1];show bJ (F.ã ao s1 T H1 x v _ I1 r1 q1) λ_ s2 q=>q⟩
def aZ (N:X.N.Ý)(hi:X.N[i]?=ĳ x)(hx:Loc X.É.ĉ x)(q:QE X e te)(hs:Ž (swapsWith e (ĳ<|.å x pos') pos.line X.É=pure Ļ) ž)(hf:Ž (X.fn x=ķ\/X.É.ĉ.Ú.Æ x=ĳ .ô) ζ):QS X (.Assign [.å x pos'] e pos) (Ss te<|lM i):=⟨by
 intro ao s T H D I h;calc xj (bJ (q.ã ao s T H _ I h) λv s1 zq=>?_) hs;let(y,H1,I1,r1,q1):=zq;show xK I1 N hi hx r1 (λs2 I2=>%[3,_,H1,I2|q1]) hf⟩
def adu (c:TT)(tb:TS):TS:=λD T H=>∃W:ĵ->St->Hp->Prop,(∃m,W m T H)/\∀m T H,W m T H->
 c T H λb H1=>if b=ķ then ∃N:St->Hp->Prop,(∀T' H',N T' H'->∃m',m'<m/\W m' T' H')/\tb {D with nx:=N,ct:=N,bk:=D.nx} T H1 else D.nx T H1
def Dw (hp:Ū (ł X.Ñ X.w) X.A X.É X.xe)(hc:QT X c tc)(hb:tU X body tb):QS X (.While c body [] pos) (adu tc tb):=⟨by
 intro ao s T H D I h;let(W,(Y,Z),B):=h;calc wpAny_While<|codeAny_whileLoop (λn s'=>∃T' H',aL X ao T' H' s'/\W n T' H') ?_ Y %[3,T,H,I|Z];intro n s1 z;let(F,H1,I1,w1):=z;calc eS hp<|bJ (hc.ã ao s1 F H1 _ I1<|B n F H1 w1) λb s2 zz=>?_;let(O,I2,q2):=zz;cases b with
 | true=>
  let(N,M,q2):=q2;calc eS hp<|bJ (hb.ã ao s2 F O _ I2 q2) λf s3 q3=>?_;cases f with
  | next=>let(T3,q,G,J):=q3;let(m',hm,L):=M T3 q J;show%[0,m',hm|%[3,T3,q,G|L]]
  | cont=>let(T3,q,G,J):=q3;let(m',hm,L):=M T3 q J;show%[0,m',hm|%[3,T3,q,G|L]]
  | brk=>show q3
  | ret v=>show q3
 | false=>rw[ŀ ck];show ly %[3,F,O,I2|q2]⟩
end
structure It where
 go:ĵ->Hp->Prop
 E_:ĵ->Hp->V->Hp->Prop
 stop:ĵ->Hp->Prop
def mq (X:Cx)(ao:AC)(H:Hp)(b:Ĺ):Prop:=H b=ĺ/\b≠X.É.ď/\b∉X.fs/\(b∈X.ex\/X.s₀.d<=b)/\(∀x c,X.É.Ĭ.Æ x=ĳ c->c≠b)/\∀p∈X.pn++ao,p.1≠b
def aL.m_ {X:Cx}{ao:AC}{T:St}{H H':Hp}{s:Ľ}{b:Ĺ}(I:aL X ao T H s)(B:s.d<=b)(hn:H' b=ĺ):mq X ao H' b:=by
 refine%[hn,ii<|bq I.lt B,I.agm B,.Ó<|aw I.sz B,λx c e z=>?_|λp hp z=>?_]
 .let(v,q):=I.ñ x c e;show ń (bq q.lt (by rw[z];show B))<|mh _
 .show ń (bq (a6 (I.pin p hp).1) (by rw[z];show B))<|mh _
structure Turn (P:Ň)(w:ŋ)(K:W.Ê)(tg:Ő)(J:It)(fp:Ĵ Ĺ)(it:Ĺ)(tn:ĵ->Ō->Prop):Prop where
 mem:it∈fp
 obj:∀i h,tn i h->∀b∈fp,∃o,h.Á b=ĳ o/\∀v,o.ă≠.ñ v
 keep:∀i h h',tn i h->(∀b∈fp,∀o,h.Á b=ĳ o->h'.Á b=ĳ o)->tn i h'
 item:∀(X:Cx),X.Ñ=P->X.w=w->X.K=K->X.Ě=ķ->∀(i:ĵ) (ao:AC) (s:Ľ) (σ:St) (H:Hp) (E:AB),aL X ao σ H s->(∀b∈fp,mq X ao H b)->tn i s.H->J.go i H->
  Ł (ł P w) X.A (pyNext<|.C it) (λr s1=>∃u,r=ĳ u/\
   Ł (ł P w) X.A (letOwnedTupleGo tg (.C it) u) (λ_ s2=>∃x H',aL X ao σ H' s2/\bL x u/\J.E_ i H x H'/\tn (i+1) s2.H/\∀b∈fp,H' b=ĺ) E s1) E s
 done:∀(X:Cx),X.Ñ=P->X.w=w->X.K=K->X.Ě=ķ->∀(i:ĵ) (ao:AC) (s:Ľ) (σ:St) (H:Hp) (E:AB),aL X ao σ H s->(∀b∈fp,mq X ao H b)->tn i s.H->J.stop i H->
  Ł (ł P w) X.A (pyNext<|.C it) (λr s1=>r=ĺ/\aL X ao σ H s1) E s
 self:∀(A:ō) (i:ĵ) (s:Ľ) (Q:AB) (E:AB),tn i s.H->Q (.C it) s->Ł (ł P w) A (pyIter<|.C it) Q E s
abbrev TI:=St->Hp->(It->Hp->Prop)->Prop
def PIE (X:Cx)(ao:AC)(I:St)(tg:Ő)(R:It->Hp->Prop)(q:Ķ)(s2:Ľ):Prop:=∃(it:Addr) (fp:Ĵ Ĺ) (tn:ĵ->Ō->Prop) (J:It) (H':Hp),q=.C it/\aL X ao I H' s2/\Turn X.Ñ X.w X.K tg J fp it tn/\tn 0 s2.H/\(∀b∈fp,mq X ao H' b)/\R J H'
def PI (X:Cx)(tg iter:Ő)(wi:TI):Prop:=∀(ao:AC) (s:Ľ) (I:St) (H:Hp) (R:It->Hp->Prop),aL X ao I H s->wi I H R->
  Ł (ł X.Ñ X.w) X.A (Ŕ iter X.É) (λv s1=>Ł (ł X.Ñ X.w) X.A (pyIter v) (PIE X ao I tg R) X.xe s1) X.xe s
structure QI (X:Cx)(tg iter:Ő)(wi:TI):Prop where
 out:PI X tg iter wi
def Bl {s : Ľ}(B : s.H.Á it = ĳ o)(D : o.cls = .È n)(hd : o.ă = .ì vs)(hn : ["enumerate", "zip", "dict_itemiterator", "dict_reverseitemiterator", "odict_iterator", "itertools.zip_longest", "itertools.pairwise"].contains n = Ļ)(q : Q () s) : Ł M A (letOwnedTupleGo tg (.C it) u) Q E s := by
  cases tg <;> first
    | show af q
    | (cases u <;> first
        | show af q
        | (refine ab<|wpAny_load B ?_
           rw[D, hd];show Ł M A (if (["enumerate", "zip", "dict_itemiterator", "dict_reverseitemiterator", "odict_iterator", "itertools.zip_longest", "itertools.pairwise"].contains n&&vs[0]? == ĳ (ś _)) = ķ then _ else _) Q E s;rw[ŀ (by intro h; rw[hn, iA]at h; cases h)];show af q))
abbrev ItS (Sq:Hp->Ĵ V->Prop):It:=%[λi H=>∃xs x,Sq H xs/\xs[i]?=ĳ x,λi H x H'=>H'=H/\∀xs,Sq H xs->xs[i]?=ĳ x|λi H=>∃xs,Sq H xs/\xs.n<=i]
def Itl (K:W.Ê)(a:Ĺ):It:=ItS λH=>aP K H a
def Qm (K:W.Ê)(a:Ĺ):It:=ItS λH=>aM K H a
def Qn (lo:ļ)(n:ĵ):It:=%[λi _=>i<n,λi H x H'=>H'=H/\x=.R (lo+i)|λi _=>n<=i]
def Vj {P:Ň}{w:ŋ}{K:W.Ê}{tg:Ő}(a it:Ĺ):Turn P w K tg (Itl K a) [it] it (λi h=>h.ĥ it a i) where
 mem:=by simp
 obj:=λi h st b q=>by
  let e:b=it:=by simpa using q
  subst e;let(o,e,c,d):=st;show%[0,o,e|λv z=>by rw[d]at z;cases z]
 keep:=λi h h' st k=>st.at λo e=>k it yf o e
 item:=by intro X L hw Y Z i ao s T H E I hf st M;subst L hw Y;let(xs,x,B,hx):=M;let(its,N,p,hz):=I.ĕ B;let(u,hu,ru):=N.get hx;let(D,J,f2,O,F,G):=hf it yf;calc wpAny_pyNext_list_item st p.ö (x:=u) (by simpa using hu) λh' st' sb=>?_;let(o,e,c,d):=id st';show%[0,u,rb|Bl (s:={s with heap:=h' }) e c d yi %[12,x,H,(I.ı (t':=s.toks) (λb o q e=>(sb.2 b q).Z e) D J O F G),ru,%[rb|λys hy=>by rw[I.xM hy B];show hx],st'|λb q=>(hf b q).1]]
 done:=by intro X L hw Y Z i ao s T H E I hf st M;subst L hw Y;let(xs,B,hx):=M;let(its,N,p,hz):=I.ĕ B;let(D,J,f2,O,F,G):=hf it yf;let hl:=N.n;show wpAny_pyNext_list_end (I.ok.hd Z) st p.ö (by simp;simp_all) λh' eb=>%[rb|I.ı (t':=s.toks) (λb o q e=>eb b o q e) D J O F G]
 self:=λ_ _ _ _ _ st h=>wpAny_pyIter_listiter st h
def Sv {P:Ň}{w:ŋ}{K:W.Ê}{tg:Ő}(a it:Ĺ):Turn P w K tg (Qm K a) [it] it (λi h=>h.Ħ it a i) where
 mem:=by simp
 obj:=λi h st b q=>by
  let e:b=it:=by simpa using q
  subst e;let(o,e,c,d):=st;show%[0,o,e|λv z=>by rw[d]at z;cases z]
 keep:=λi h h' st k=>st.at λo e=>k it yf o e
 item:=by intro X L hw Y Z i ao s T H E I hf st M;subst L hw Y;let(xs,x,B,hx):=M;let(its,N,p,hz):=I.ğ B;let(u,hu,ru):=N.get hx;let(D,J,f2,O,F,G):=hf it yf;calc wpAny_pyNext_tuple_item st (show s.H.IsTuple a its.Y from p) (x:=u) (by simpa using hu) λh' st' sb=>?_;let(o,e,c,d):=id st';show%[0,u,rb|Bl (s:={s with heap:=h' }) e c d yi %[12,x,H,(I.ı (t':=s.toks) (λb o q e=>(sb.2 b q).Z e) D J O F G),ru,%[rb|λys hy=>by rw[I.Ji hy B];show hx],st'|λb q=>(hf b q).1]]
 done:=by intro X L hw Y Z i ao s T H E I hf st M;subst L hw Y;let(xs,B,hx):=M;let(its,N,p,hz):=I.ğ B;let(D,J,f2,O,F,G):=hf it yf;let hl:=N.n;show wpAny_pyNext_tuple_end (I.ok.hd Z) st (show s.H.IsTuple a its.Y from p) (by simp;lia) λh' eb=>%[rb|I.ı (t':=s.toks) (λb o q e=>eb b o q e) D J O F G]
 self:=λ_ _ _ _ _ st h=>wpAny_pyIter_tupleiter st h
def Sw {P:Ň}{w:ŋ}{K:W.Ê}{tg:Ő}(it:Ĺ)(lo:ļ)(n:ĵ):Turn P w K tg (Qn lo n) [it] it (λi h=>IsRangeIter h it (lo+(i:ĵ)*1) ((n:ļ)-(i:ĵ)) 1) where
 mem:=by simp
 obj:=λi h st b q=>by
  let e:b=it:=by simpa using q
  subst e;show%[0,_,st|λv z=>by cases z]
 keep:=λi h h' st k=>k it yf _ st
 item:=by intro X L hw O F i ao s T H E I hf st M;subst L hw O;let(B,J,Z,N,D,G):=hf it yf;calc cj<|(Walks.æ (prog:=X.prog) (w:=X.w) (I.ok.hd F) it lo 1 n).item i s _ _ M st λv h' tk hv st' kk ht=>?_;let(t,rfl):=hv;calc%[0,_,rb|Bl (s:={s with heap:=h',toks:=tk}) (n:="range_iterator") st' rb rb yi %[12,.R<|lo+i,H,(I.ı (λb o q e=>kk b o (by simpa using q) e) B J N D G),%[t|?_],%[rb|rb],st'|λb q=>(hf b q).1]];rw[Int.mul_one]
 done:=by intro X L hw O F i ao s T H E I hf st M;let(B,J,Z,N,D,G):=hf it yf;show wpAny_pyNext_range_end (I.ok.hd F) st (by have:n<=i:=M;lia) λh' Y=>%[rb|I.ı (t':=s.toks) (λb o q e=>Y b o q e) B J N D G]
 self:=λ_ _ _ _ _ st h=>wpAny_pyIter_rangeiter st h
section
variable {X:Cx}{tg:Ő}
def KH (K:W.Ê)(tl:TE):TI:=λC H R=>tl C H λx H1=>∃a,x=.C a/\(∃xs,aP K H1 a xs)/\R (Itl K a) H1
def agv (K:W.Ê)(tl:TE):TI:=λC H R=>tl C H λx H1=>∃a,x=.C a/\(∃xs,aM K H1 a xs)/\R (Qm K a) H1
def dh (D:QE X l tl):QI X tg l (KH X.K tl):=⟨by
 intro ao s C H R I h;calc bJ (D.ã ao s C H _ I h) λv s1 F=>?_;let(x,H1,I1,r1,q1):=F;let(a,e,(xs,G),q):=q1;subst e;cases r1;let(its,J,p,hz):=I1.ĕ G;calc ox p.ö ?_;calc%[13,s1.d,[s1.d],_,_,H1,rb,I1.ġ (t':=s1.toks) λb o e=>ag _ e,Vj a _,%[2,_,aT _ rb,rb|rb],λb B=>?_|q];let e:b=s1.d:=by simpa using B
 subst e;show I1.m_ (ah _)<|I1.ê.ä<|ah _⟩
def fJ (D:QE X l tl):QI X tg l (agv X.K tl):=⟨by
 intro ao s C H R I h;calc bJ (D.ã ao s C H _ I h) λv s1 F=>?_;let(x,H1,I1,r1,q1):=F;let(a,e,(xs,G),q):=q1;subst e;cases r1;let(its,J,p,hz):=I1.ğ G;calc qq (show s1.H.IsTuple a its.Y from p) ?_;calc%[13,s1.d,[s1.d],_,_,H1,rb,I1.ġ (t':=s1.toks) λb o e=>ag _ e,Sv a _,%[2,_,aT _ rb,rb|rb],λb B=>?_|q];let e:b=s1.d:=by simpa using B
 subst e;show I1.m_ (ah _)<|I1.ê.ä<|ah _⟩
def Lf {ao:AC}{C:St}{H:Hp}{s:Ľ}{R:It->Hp->Prop}{E:AB}{lo hi:ļ}{t u v:Tok}{tk:ĵ}(I:aL X ao C H s)(h1:-(2^62)<=lo)(B:lo<2^62)(F:-(2^62)<=hi)(D:hi<2^62)(q:R (Qn lo (hi-lo).Ö) H)(M:Ž (s.Ï<=tk) δ):Ł (ł X.Ñ X.w) X.A (pyIter<|.C s.d) (PIE X ao C tg R) E {s with heap:=s.H.Ò {cls:=.È "range",data:=.ì #[.R lo t,.R hi u,.R 1 v]},toks:=tk}:=by
 calc wpAny_pyIter_range (IsRange.new ..) (small_one h1 B F D) ?_;let I1:aL X ao C H {s with heap:=s.H.Ò {cls:=.È "range",data:=.ì #[.R lo t,.R hi u,.R 1 v]},toks:=tk}:=I.ġ λb o e=>ag _ e;refine%[13,(s.H.Ò {cls:=.È "range",data:=.ì #[.R lo t,.R hi u,.R 1 v]}).X.E,[(s.H.Ò {cls:=.È "range",data:=.ì #[.R lo t,.R hi u,.R 1 v]}).X.E],_,_,H,rb,
  I1.ġ (t':=tk) λb o e=>ag _ e,Sw _ lo (hi-lo).Ö,?_,λb J=>?_|q]
 .let L:lo+((0:ĵ):ļ)*1=lo:=yf;let G:(((hi-lo).Ö:ĵ):ļ)-((0:ĵ):ļ)=Builtin.Range.rangeSize lo hi 1:=by rw[rangeSize_one];split <;> lia
  show IsRangeIter _ _ (lo+((0:ĵ):ļ)*1) ((((hi-lo).Ö:ĵ):ļ)-((0:ĵ):ļ)) 1;rw[L,G];show aT _ rfl
 .let e:b=(s.H.Ò {cls:=.È "range",data:=.ì #[.R lo t,.R hi u,.R 1 v]}).X.E:=by simpa using J
  subst e;show I1.m_ (ah _)<|I1.ê.ä<|ah _
def aft (ta:TA):TI:=λC H R=>ta C H λvs H1=>∃j:Int,vs=[.R j]/\-(2^62)<=j/\j<2^62/\R (Qn 0 j.Ö) H1
def afu (ta:TA):TI:=λC H R=>ta C H λvs H1=>∃i j:Int,vs=[.R i,.R j]/\(-(2^62)<=i/\i<2^62/\-(2^62)<=j/\j<2^62)/\R (Qn i (j-i).Ö) H1
def jr (B:Gl X "range")(hm:X.mg "range"=ĺ)(ha:QA X [a] ta)(hs:Ž (ŉ [a] X.É=[(Ļ,Ŕ a X.É)]) ž):QI X tg (.ĩ (.å "range" p) [a] [] pos) (aft ta):=⟨by
 intro ao s C H R I h;calc Ż<|nA I B hm boot_range<|g6 (bJ (ha.ã pos ao s C H _ I h) λus s1 D=>?_) hs rb;let(vs,H1,I1,r1,q1):=D;let(j,e,q1,q2,q):=q1;subst e;cases r1 with
 | cons r rr=>cases rr;let(t,rfl):=r;show call_range_1<|Lf I1 ye ye q1 q2 (by simpa using q)⟩
def zK {a b:Ő}{ta:TA}{p pos:Pos}(D:Gl X "range")(hm:X.mg "range"=ĺ)(ha:QA X [a,b] ta)(hs:Ž (ŉ [a,b] X.É=[(Ļ,Ŕ a X.É),(Ļ,Ŕ b X.É)]) ž)(B:Ž (ŉ [b] X.É=[(Ļ,Ŕ b X.É)]) ž):QI X tg (.ĩ (.å "range" p) [a,b] [] pos) (afu ta):=⟨by
 intro ao s C H R I h;calc Ż<|nA I D hm boot_range<|g6 (bJ (ha.ã pos ao s C H _ I h) λus s1 F=>?_) (by rw[hs,B]) (by rw[B];rfl);let(vs,H1,I1,r1,q1):=F;let(i,j,e,(q1,q2,q3,q4),q):=q1;subst e;cases r1 with
 | cons r rr=>
  cases rr with
  | cons r' rr=>cases rr;let(t,rfl):=r;let(t',rfl):=r';show call_range_2<|Lf I1 q1 q2 q3 q4 q⟩
abbrev Dy (J:It)(g:TG)(tb:TS)(D:Ends)(C:St)(H:Hp):Prop:=∃W:ĵ->ĵ->St->Hp->Prop,(∃m,W 0 m C H)/\∀i m C H,W i m C H->
 (J.stop i H/\D.nx C H)\/(J.go i H/\∃N:St->Hp->Prop,(∀C' H',N C' H'->∃m',m'<m/\W (i+1) m' C' H')/\∀x H',J.E_ i H x H'->g x C H' λC2 H2=>tb {D with nx:=N,ct:=N,bk:=D.nx} C2 H2)
def adv (wi:TI)(g:TG)(tb:TS):TS:=λD C H=>wi C H λJ H1=>Dy J g tb D C H1
def Lg {J:It}{g:TG}{tb:TS}{D:Ends}{C:St}{H:Hp}(n:ĵ)(B:ĵ->St->Hp->Prop)(N:B 0 C H)(F:∀i C H,i<n->B i C H->J.go i H/\∀x H',J.E_ i H x H'->g x C H' λM L=>tb {D with nx:=B<|i+1,ct:=B<|i+1,bk:=D.nx} M L)(G:∀C H,B n C H->J.stop n H/\D.nx C H):Dy J g tb D C H:=by
 calc%[0,λi m C H=>m=n-i/\i<=n/\B i C H,%[2,n,yf,b5 _|N]|?_];intro i m C H z;let(rfl,hi,p):=z;by_cases q:i<n;.show .Ó %[14,(F i C H q p).1,B<|i+1,λC' H' p'=>%[11,n-(i+1),pM q<|eQ _,rb,q|p']|(F i C H q p).2]
 .let e:i=n:=ye;subst e;show .Â<|G C H p
def aaS {F:Hp->Ĵ V->Prop}{xs:Ĵ V}{g:TG}{tb:TS}{D:Ends}{C:St}{H:Hp}(q:ĵ->St->Hp->Prop)(L:q 0 C H)(B:∀i C H,i<=xs.n->q i C H->F H xs)(hs:∀i x C H,xs[i]?=ĳ x->q i C H->g x C H λJ G=>tb {D with nx:=q<|i+1,ct:=q<|i+1,bk:=D.nx} J G)(hd:∀C H,q xs.n C H->D.nx C H):Dy (ItS F) g tb D C H:=Lg xs.n q L (λi C H h p=>%[%[3,xs,xs[i],B i C H (ax h) p|by simp[h]]|λx H' zq=>by let(e,y):=zq;subst e;show hs i x C _ (y xs<|B i C _ (ax h) p) p]) λC H p=>%[%[0,xs,B _ C H (ah _) p|ah _]|hd C H p]
def wC (fp:Ĵ Ĺ)(h:Ō):Ĵ (Ĺ×Obj):=fp.û λb=>(h.Á b).Q λo=>(b,o)
def mQ {h:Ō}(q:b∈fp)(e:h.Á b=ĳ o):(b,o)∈wC fp h:=n0.Û %[0,b,q|by rw[e];rfl]
def Vk (hp:p∈wC fp h):p.1∈fp/\h.Á p.1=ĳ p.2:=by
 let(b,B,e):=n0.mp hp;cases q:h.Á b with
 | none=>rw[q]at e;cases e
 | some o=>rw[q]at e;let e':(b,o)=p:=bd e;subst e';show%[B|q]
def aL.pinned {ao:AC}{C:St}{H:Hp}{s:Ľ}{fp:Ĵ Ĺ}(I:aL X ao C H s)(hf:∀b∈fp,mq X ao H b)(D:∀b∈fp,∃o,s.H.Á b=ĳ o/\∀v,o.ă≠.ñ v):aL X (ao++wC fp s.H) C H s:=
 I.Qj λp hp=>(a7.mp hp).î (λz=>I.pin p<|cS _ z) λz=>by let(q,e):=Vk z;let(B,F,G,_):=hf p.1 q;let(o,e',d):=D p.1 q;rw[e]at e';cases e';show%[e,B,F,G|d]
def aL.jG {ao pl:AC}{C:St}{H:Hp}{s:Ľ}(I:aL X (ao++pl) C H s):aL X ao C H s:=I.Qj λp hp=>I.pin p (cS _<|kQ _ hp)
def adw (hp:Ū (ł X.Ñ X.w) X.A X.É X.xe)(hc:X.Ě=ķ)(hi:PI X tg iter wi)(hg:PG X tg g)(q:CT X body tb)(hs:Ž (∀x,foldedSetIterable iter X.É x=pure x) ε):PS X (.For tg iter body [] pos) (adv wi g tb):=by
 intro ao s C H D I h;calc wpAny_For (bJ (hi ao s C H _ I h) λv s1 h1=>bJ h1 λitv s2 h2=>?_) hs;let(it,fp,tn,J,H2,e,I2,T,st2,f2,W,(m0,w0),Y):=h2;subst e;let B:∀{H':Hp},(∀b∈fp,H' b=ĺ)->∀b∈fp,mq X ao H' b:=λhn b q=>%[hn b q|(f2 b q).2]
 calc wl (λn s'=>∃i C' H',aL X ao C' H' s'/\tn i s'.H/\(∀b∈fp,H' b=ĺ)/\W i n C' H') ?_ m0 %[8,0,C,H2,I2,st2,λb q=>(f2 b q).1|w0];intro n s3 z;let(i,C3,H3,I3,O,Qo,w3):=z;rcases Y i n C3 H3 w3 with⟨stop,qn⟩|⟨go,N,hN,step⟩
 .calc eS hp<|bJ (T.done X rb rb rb hc i ao s3 C3 H3 X.xe I3 (B Qo) O stop) λr s4 zq=>?_;let(hr,I4):=zq;subst hr;show ly %[3,C3,H3,I4|qn]
 .calc eS hp<|bJ (T.item X rb rb rb hc i ao s3 C3 H3 X.xe I3 (B Qo) O go) λr s4 zz=>?_;let(u,hr,h4):=zz;subst hr;calc eS hp<|bJ h4 λ_ s5 zz=>?_;let(x,H5,I5,r5,y5,Lh,fr5):=zz;calc eS hp<|bJ (hg _ s5 C3 H5 x u _ (I5.pinned (B fr5)<|T.obj _ _ Lh) r5<|step x H5 y5) λ_ s6 zz=>?_;let(C6,H6,I6,q6):=zz;calc eS hp<|bJ (q _ s6 C6 H6 _ I6 q6) λf s7 q7=>?_;let M:∀{L:St} {F:Hp},aL X (ao++wC fp s5.H) L F s7->N L F->∃m,m<n/\∃i C' H',aL X ao C' H' s7/\tn i s7.H/\(∀b∈fp,H' b=ĺ)/\W i m C' H':=λ{L F} G Z=>by
   let(m',hm,w7):=hN L F Z;calc%[0,m',hm|%[8,i+1,L,F,G.jG,T.keep _ _ _ Lh λb q o e=>(G.pin (b,o)<|cS _<|cS _<|mQ q e).1,λb q=>?_|w7]];let(o,e,d):=T.obj _ _ Lh b q;show(G.pin (b,o)<|cS _<|cS _<|mQ q e).2.1
  cases f with
  | next=>let(L,F,G,Z):=q7;show M G Z
  | cont=>let(L,F,G,Z):=q7;show M G Z
  | brk=>let(L,F,G,q7):=q7;show%[3,L,F,G.jG|q7]
  | ret v=>let(x7,L,F,G,r7,q7):=q7;show%[31,x7,L,F,G.jG,r7|q7]
end
def h_ {K:W.Ê}{a:Ĺ}:=@aaS λH=>aP K H a
def qp {K:W.Ê}{a:Ĺ}:=@aaS λH=>aM K H a
def iH {lo:ļ}{n:ĵ}{g:TG}{tb:TS}{D:Ends}{I:St}{H:Hp}(q:ĵ->St->Hp->Prop)(F:q 0 I H)(hs:∀i I H,i<n->q i I H->g (.R<|lo+i) I H λI2 B=>tb {D with nx:=q<|i+1,ct:=q<|i+1,bk:=D.nx} I2 B)(hd:∀I H,q n I H->D.nx I H):Dy (Qn lo n) g tb D I H:=Lg n q F (λi I H h p=>%[h|λx H' y=>by let(rfl,rfl):=y;show hs i I _ h p]) λI H p=>%[ah _|hd I H p]
abbrev R2:=V->V->Hp->VK->Prop
def fB (X:Cx)(f:Ķ->Ķ->Sem Ķ)(r:R2):Prop:=∀(ao:AC) (s:Ľ) (I:St) (H:Hp) (x y:V) (v u:Ķ) (Q:VK),aL X ao I H s->bL x v->bL y u->r x y H Q->
  Ł (ł X.Ñ X.w) X.A (f v u) (EP X ao I Q) X.xe s
def UnR (X:Cx)(f:Ķ->Sem Ķ)(r:V->Hp->VK->Prop):Prop:=∀(ao:AC) (s:Ľ) (I:St) (H:Hp) (x:V) (v:Ķ) (Q:VK),aL X ao I H s->bL x v->r x H Q->
  Ł (ł X.Ñ X.w) X.A (f v) (EP X ao I Q) X.xe s
def d7 (X:Cx)(f:Ķ)(r:Ĵ V->Hp->VK->Prop):Prop:=∀(ao:AC) (s:Ľ) (I:St) (H:Hp) (xs:Ĵ V) (us:Ĵ Ķ) (Q:VK),aL X ao I H s->Vals xs us->r xs H Q->
  Ł (ł X.Ñ X.w) X.A (call f us) (EP X ao I Q) X.xe s
def wD (r:R2)(ta tb:TE):TE:=λI H Q=>ta I H λx H1=>tb I H1 λy q=>r x y q Q
def tUn (r:V->Hp->VK->Prop)(ta:TE):TE:=λI H Q=>ta I H λx H1=>r x H1 Q
def rI (C:ļ->ļ->Prop)(g:ļ->ļ->V):R2:=λx y H Q=>∃i j,x=.R i/\y=.R j/\C i j/\Q (g i j) H
def Jj (g:ļ->ļ->V):R2:=λx y H Q=>∃i j,x=.R i/\y=.R j/\Q (g i j) H
def rU (g:ļ->V):V->Hp->VK->Prop:=λx H Q=>∃i,x=.R i/\Q (g i) H
section
variable {X:Cx}{a b:Ő}{ta tb:TE}{pos:Pos}
def Yx (ha:PE X a ta)(J:PE X b tb){ao:AC}{s:Ľ}{T:St}{H:Hp}{R:V->V->Hp->Prop}(I:aL X ao T H s)(h:ta T H λx H1=>tb T H1 λy q=>R x y q){Q:AB}{f:Ķ->Ķ->Sem Ķ}(hf:∀v u s2 x y q,aL X ao T q s2->bL x v->bL y u->R x y q->Ł (ł X.Ñ X.w) X.A (f v u) Q X.xe s2):Ł (ł X.Ñ X.w) X.A (Ŕ a X.É) (λv G=>Ł (ł X.Ñ X.w) X.A (Ŕ b X.É) (λu F=>Ł (ł X.Ñ X.w) X.A (f v u) Q X.xe F) X.xe G) X.xe s:=by calc bJ (ha ao s T H _ I h) λv s1 B=>?_;let(x,H1,I1,r1,q1):=B;calc bJ (J ao s1 T H1 _ I1 q1) λu s2 B=>?_;let(y,q,I2,D,q2):=B;show hf v u s2 x y q I2 r1 D q2
def aN (F:fB X (binaryOp op) r)(ha:QE X a ta)(J:QE X b tb):QE X (.BinOp a op b pos) (wD r ta tb):=⟨by
 intro ao s T H Q I h;show wpAny_BinOp<|Yx ha.ã J.ã I h λv u s2 x y D I2 G B q=>F ao s2 T D x y v u Q I2 G B q⟩
def Sx (q:UnR X (unaryOp op) r)(ha:QE X a ta):QE X (.UnaryOp op a pos) (tUn r ta):=⟨by
 intro ao s T H Q I h;show UnaryOp_<|bJ (ha.ã ao s T H _ I h) λv s1 zq=>by let(x,H1,I1,r1,q1):=zq;exact q ao s1 T H1 x v Q I1 r1 q1⟩
def opI {f:Ķ->Ķ->Sem Ķ}{C:ļ->ļ->Prop}{g:ļ->ļ->ļ}(B:∀(i j:ļ) (t u:Tok) (s:Ľ) (Q:AB) (E:AB),C i j->Q (.R (g i j) s.Ï) {s with toks:=s.Ï+1}->Ł (ł X.Ñ X.w) X.A (f (.R i t)<|.R j u) Q E s):fB X f (rI C λi j=>.R<|g i j):=by intro ao s T H x y v u Q I G D h;let(i,j,rfl,rfl,F,q):=h;let(t,rfl):=G;let(t',rfl):=D;show B i j t t' s _ _ F %[1,.R<|g i j,H,I.tok _,%[_|rb]|q]
def adx {f:Ķ->Ķ->Sem Ķ}{g:ļ->ļ->ļ}(B:∀(i j:ļ) (t u:Tok) (s:Ľ) (Q:AB) (E:AB),Q (.R (g i j) s.Ï) {s with toks:=s.Ï+1}->Ł (ł X.Ñ X.w) X.A (f (.R i t)<|.R j u) Q E s):fB X f (Jj λi j=>.R<|g i j):=by intro ao s T H x y v u Q I F D h;let(i,j,rfl,rfl,q):=h;let(t,rfl):=F;let(t',rfl):=D;show B i j t t' s _ _ %[1,.R<|g i j,H,I.tok _,%[_|rb]|q]
def Sy {f:Ķ->Ķ->Sem Ķ}{g:ļ->ļ->œ}(B:∀(i j:ļ) (t u:Tok) (s:Ľ) (Q:AB) (E:AB),Q (.Ć<|g i j) s->Ł (ł X.Ñ X.w) X.A (f (.R i t)<|.R j u) Q E s):fB X f (Jj λi j=>.bl<|g i j):=by intro ao s T H x y v u Q I F D h;let(i,j,rfl,rfl,q):=h;let(t,rfl):=F;let(t',rfl):=D;show B i j t t' s _ _ %[1,.bl<|g i j,H,I,rb|q]
def ady (i j:ļ):Prop:=0<j/\j<1073741824
def Yy (i j:ļ):Prop:=(-(2^64)<i/\i<2^64)\/(-(2^64)<j/\j<2^64)
def Yy.ok (h:Yy i j):IntMulOk i j:=by
 rcases h with⟨h1,q⟩|⟨h1,q⟩;.show .of_left<|intBits_le_64 h1 q
 .show .of_right<|intBits_le_64 h1 q
def cT:fB X (binaryOp .Add) (Jj λi j=>.R<|i+j):=adx λ_ _ _ _ _ _ _ q=>add_int q
def fD:fB X (binaryOp .Sub) (Jj λi j=>.R<|i-j):=adx λ_ _ _ _ _ _ _ q=>sub_int q
def gP:fB X (binaryOp .Mult) (rI Yy λi j=>.R<|i*j):=opI λ_ _ _ _ _ _ _ B q=>mul_int q B.ok
def iM:fB X (binaryOp .FloorDiv) (rI ady λi j=>.R<|i/j):=opI λi j _ _ _ _ _ B q=>by let h1:(0:ļ)<j:=B.1;let D:j<1073741824:=B.2;show floordiv_int ye (by rw[Int.fdiv_eq_ediv_of_nonneg i (Int.le_of_lt h1)];show q)<|.Â<|PyProof.noPylong_small (by grind)
def dM:fB X (binaryOp .Mod) (rI (λ_ j=>0<j) λi j=>.R<|i%j):=opI λi j _ _ _ _ _ B q=>by show mod_int' ye (by rw[Int.fmod_eq_emod_of_nonneg i ye];show q)
def unI {f:Ķ->Sem Ķ}{g:ļ->ļ}(B:∀(i:ļ) (t:Tok) (s:Ľ) (Q:AB) (E:AB),Q (.R (g i) s.Ï) {s with toks:=s.Ï+1}->Ł (ł X.Ñ X.w) X.A (f<|.R i t) Q E s):UnR X f (rU λi=>.R<|g i):=by intro ao s T H x v Q I D h;let(i,rfl,q):=h;let(t,rfl):=D;show B i t s _ _ %[1,.R<|g i,H,I.tok _,%[_|rb]|q]
def Li:UnR X (unaryOp .USub) (rU λi=>.R<|-i):=unI λ_ _ _ _ _ q=>neg_int q
end
def adz:V->V->œ
 | .ć,.ć=>true|.ć,.R _=>true|.R _,.ć=>true|.ć,.bl _=>true|.bl _,.ć=>true|.ć,.À _=>true|.À _,.ć=>true
 | .R _,.R _=>true|.bl _,.bl _=>true|.À _,.À _=>true|.yQ _,.yQ _=>true
 | .R _,.À _=>true|.À _,.R _=>true|.bl _,.À _=>true|.À _,.bl _=>true
 | _,_=>false
def rEq:R2:=λx y H Q=>adz x y=ķ/\Q (.bl<|ľ<|x=y) H
def rNe:R2:=λx y H Q=>adz x y=ķ/\Q (.bl<|!ľ (x=y)) H
def Qp:ľ (V.R i=V.R j)=(i==j):=by rw[iN];simp
def Vl:ľ (V.bl i=V.bl j)=(i==j):=by rw[iN];simp
def Qq:ľ (V.À i=V.À j)=(i==j):=by rw[iN];simp
def Qs:ľ (V.yQ i=V.yQ j)=(i.I==j.I):=by rw[iN];cases i;cases j;simp
section
variable {X:Cx}{a b c:Ő}{ta tb tc:TE}{pos:Pos}
def cU {ao:AC}{T:St}{H:Hp}{s:Ľ}{Q:VK}{k k':œ}(I:aL X ao T H s)(q:Q (.bl k) H)(e:k=k'):EP X ao T Q (.Ć k') s:=by subst e;show%[1,.bl k,H,I,rb|q]
def kE:fB X (compareOp .Eq) rEq:=by
 intro ao s T H x y v u Q I D B h;let(hs,q):=h;cases x with
 | non=>
  cases D;cases y with
  | non=>cases B;show PySem.EqNone.eq_none_none<|cU I q yf
  | bl j=>cases B;show PySem.EqNone.eq_none_bool<|cU I q yf
  | int j=>let(t',rfl):=B;show PySem.EqNone.eq_none_int<|cU I q yf
  | str j=>let(t',rfl):=B;show PySem.EqNone.eq_none_str<|cU I q yf
  | _=>show ń (show Ļ=ķ from hs) ck
 | bl i=>
  cases D;cases y with
  | non=>cases B;show PySem.EqNone.eq_bool_none<|cU I q yf
  | bl j=>cases B;show eq_bool<|cU I q Vl
  | str j=>let(t',rfl):=B;show PySem.EqMixed.eq_bool_str<|cU I q yf
  | _=>show ń (show Ļ=ķ from hs) ck
 | int i=>
  let(t,rfl):=D;cases y with
  | non=>cases B;show PySem.EqNone.eq_int_none<|cU I q yf
  | int j=>let(t',rfl):=B;show eq_int<|cU I q Qp
  | str j=>let(t',rfl):=B;show PySem.EqMixed.eq_int_str<|cU I q yf
  | _=>show ń (show Ļ=ķ from hs) ck
 | str i=>
  let(t,rfl):=D;cases y with
  | non=>cases B;show PySem.EqNone.eq_str_none<|cU I q yf
  | bl j=>cases B;show PySem.EqMixed.eq_str_bool<|cU I q yf
  | int j=>let(t',rfl):=B;show PySem.EqMixed.eq_str_int<|cU I q yf
  | str j=>let(t',rfl):=B;show eq_str<|cU I q Qq
  | _=>show ń (show Ļ=ķ from hs) ck
 | yQ i=>
  let(t,rfl):=D;cases y with
  | yQ j=>let(t',rfl):=B;show W.eq_bytes<|cU I q Qs
  | _=>show ń (show Ļ=ķ from hs) ck
 | _=>cases y <;> show ń (show Ļ=ķ from hs) ck
def Fb:fB X (compareOp .NotEq) rNe:=by
 intro ao s T H x y v u Q I D B h;let(hs,q):=h;cases x with
 | non=>
  cases D;cases y with
  | non=>cases B;show PySem.EqNone.ne_none_none<|cU I q yf
  | bl j=>cases B;show PySem.EqNone.ne_none_bool<|cU I q yf
  | int j=>let(t',rfl):=B;show PySem.EqNone.ne_none_int<|cU I q yf
  | str j=>let(t',rfl):=B;show PySem.EqNone.ne_none_str<|cU I q yf
  | _=>show ń (show Ļ=ķ from hs) ck
 | bl i=>
  cases D;cases y with
  | non=>cases B;show PySem.EqNone.ne_bool_none<|cU I q yf
  | bl j=>cases B;show ne_bool<|cU I q<|Œ not Vl
  | str j=>let(t',rfl):=B;show PySem.EqMixed.ne_bool_str<|cU I q yf
  | _=>show ń (show Ļ=ķ from hs) ck
 | int i=>
  let(t,rfl):=D;cases y with
  | non=>cases B;show PySem.EqNone.ne_int_none<|cU I q yf
  | int j=>let(t',rfl):=B;show ne_int<|cU I q<|Œ not Qp
  | str j=>let(t',rfl):=B;show PySem.EqMixed.ne_int_str<|cU I q yf
  | _=>show ń (show Ļ=ķ from hs) ck
 | str i=>
  let(t,rfl):=D;cases y with
  | non=>cases B;show PySem.EqNone.ne_str_none<|cU I q yf
  | bl j=>cases B;show PySem.EqMixed.ne_str_bool<|cU I q yf
  | int j=>let(t',rfl):=B;show PySem.EqMixed.ne_str_int<|cU I q yf
  | str j=>let(t',rfl):=B;show ne_str<|cU I q<|Œ not Qq
  | _=>show ń (show Ļ=ķ from hs) ck
 | yQ i=>
  let(t,rfl):=D;cases y with
  | yQ j=>let(t',rfl):=B;show W.ne_bytes<|cU I q<|Œ not Qs
  | _=>show ń (show Ļ=ķ from hs) ck
 | _=>cases y <;> show ń (show Ļ=ķ from hs) ck
def Bm:fB X (compareOp .Lt) (Jj λi j=>.bl<|ľ<|i<j):=Sy λ_ _ _ _ _ _ _ q=>lt_int q
def kI:fB X (compareOp .LtE) (Jj λi j=>.bl<|ľ<|i<=j):=Sy λ_ _ _ _ _ _ _ q=>le_int q
def aaT:fB X (compareOp .Gt) (Jj λi j=>.bl<|ľ<|j<i):=Sy λ_ _ _ _ _ _ _ q=>gt_int q
def SJ:fB X (compareOp .GtE) (Jj λi j=>.bl<|ľ<|j<=i):=Sy λ_ _ _ _ _ _ _ q=>ge_int q
def Vm:fB X (compareOp .In) (λx y H Q=>∃i j,x=.À i/\y=.À j/\Q (.bl<|!(Builtin.Str.occurrences j i 0 j.n 1).Ė) H):=by intro ao s T H x y v u Q I D B h;let(i,j,rfl,rfl,q):=h;let(t,rfl):=D;let(t',rfl):=B;show in_str<|cU I q rb
def abk:fB X (compareOp .IsNot) (λx y H Q=>y=.ć/\Q (.bl<|!ľ (x=.ć)) H):=by
 intro ao s T H x y v u Q I B D h;let(rfl,q):=h;cases D;calc isnot_none_gen<|cU I q ?_;cases x <;> first| (cases B;rfl)| (let(t,rfl):=B;rfl)
def bR (b)(h:Ž (op≠.In) ſ)(D:Ž (op≠.NotIn) ſ):behindInMarks op b=Ļ:=by
 let q:(op==CmpOp.In)=Ļ:=by cases op <;> first|rfl|show ń rb h
 let B:(op==CmpOp.NotIn)=Ļ:=by cases op <;> first|rfl|show ń rb D
 cases b <;> simp[behindInMarks,q,B]
def gC (F:fB X (compareOp op) r)(ha:QE X a ta)(J:QE X b tb)(hm:behindInMarks op b=Ļ):QE X (.Compare a [op] [b] pos) (wD r ta tb):=⟨by
 intro ao s T H Q I h;show wpAny_Compare1 (Yx ha.ã J.ã I h λv u s2 x y D I2 G B q=>F ao s2 T D x y v u Q I2 G B q) hm⟩
def SM (t:TE):TT:=λT H Q=>t T H λx H'=>Jh x λk=>Q k H'
def bN (J:fB X (compareOp op) r)(ha:QE X a ta)(L:QE X b tb)(hm:behindInMarks op b=Ļ):QT X (.Compare a [op] [b] pos) (SM<|wD r ta tb):=⟨by
 intro ao s T H Q I h;refine wpAny_isTrue_Compare1 (bJ (ha.ã ao s T H _ I h) λv s1 ⟨x,H1,I1,r1,q1⟩=>bJ (L.ã ao s1 T H1 _ I1 q1) λu s2 ⟨y,G,I2,q,q2⟩=>bJ (J ao s2 T G x y v u _ I2 r1 q q2) λc M zq=>?_) hm;let(z,D,F,B,q3):=zq
 let(k,e,q3):=o8 q3;subst e;cases B;show fq %[0,D,F|q3]⟩
def Lj (r r':R2)(ta tb tc:TE):TE:=λT H Q=>ta T H λx H1=>tb T H1 λy D=>r x y D λz q=>Jh z λk=>(if k=ķ then tc T q λw' B=>r' y w' B Q else Q (.bl Ļ) q)
def oJ (O:fB X (compareOp op) r)(q:fB X (compareOp op') r')(ha:QE X a ta)(Y:QE X b tb)(M:QE X c tc)(hm:Ž (lastMarks [op,op'] [b,c]=Ļ) θ):QE X (.Compare a [op,op'] [b,c] pos) (Lj r r' ta tb tc):=⟨by
 intro ao s T H Q I h;refine Compare_chain (bJ (ha.ã ao s T H _ I h) λv s1 ⟨x,H1,I1,r1,q1⟩=>chain_link<|bJ (Y.ã ao s1 T H1 _ I1 q1) λu s2 ⟨y,N,I2,B,q2⟩=>bJ (O ao s2 T N x y v u _ I2 r1 B q2) λd J zq=>?_) hm;let(z,D,F,G,q3):=zq
 let(k,e,q3):=o8 q3;subst e;cases G;calc fq ?_;cases k with
 | false=>show ite_ff %[1,.bl Ļ,D,F,rb|q3]
 | true=>show ite_tt<|chain_last<|bJ (M.ã ao J T D _ F q3) λw' s4 zq=>by let(z',Z,I4,L,q4):=zq;exact q ao s4 T Z y z' u w' Q I4 B L q4⟩
def oK (ho:fB X (compareOp op) r)(q:fB X (compareOp op') r')(ha:QE X a ta)(hb:QE X b tb)(Y:QE X c tc)(hm:Ž (lastMarks [op,op'] [b,c]=Ļ) θ):QT X (.Compare a [op,op'] [b,c] pos) (SM<|Lj r r' ta tb tc):=⟨by
 intro ao s T H Q I h;refine isTrue_chain (bJ (ha.ã ao s T H _ I h) λv s1 ⟨x,H1,I1,r1,q1⟩=>test_link<|bJ (hb.ã ao s1 T H1 _ I1 q1) λu s2 ⟨y,Z,I2,B,q2⟩=>bJ (ho ao s2 T Z x y v u _ I2 r1 B q2) λd L zq=>?_) hm;let(z,D,F,G,q3):=zq
 let(k,e,q3):=o8 q3;subst e;cases G;calc fq ?_;cases k with
 | false=>let(k',e',q'):=o8 q3;cases e';show ite_ff %[0,D,F|q']
 | true=>calc ite_tt<|test_last<|bJ (Y.ã ao L T D _ F q3) λw' s4 ⟨z',H4,I4,M,q4⟩=>bJ (q ao s4 T H4 y z' u w' _ I4 B M q4) λd' s5 zq=>?_;let(z2,N,I5,J,q5):=zq;let(k2,O,q5):=o8 q5;subst O;cases J;show fq %[0,N,I5|q5]⟩
def tV:(Ń:ĵ)<2^63:=by decide
def SN:fB X (binaryOp .Add) (λx y H Q=>∃i j,x=.À i/\y=.À j/\i.n+j.n<=Ń/\Q (.À<|i++j) H):=by intro ao s T H x y v u Q I D B h;let(i,j,rfl,rfl,hz,q):=h;let(t,rfl):=D;let(t',rfl):=B;show cj<|add_str (λt' tk F=>%[1,.À<|i++j,H,I.tok _,%[_|rb]|q]) hz
def vals1 (r:Vals [x] us):∃u,us=[u]/\bL x u:=by
 cases r with| cons r1 r2=>cases r2;show%[0,_,rb|r1]
def vals2 (r:Vals [x,y] us):∃u w',us=[u,w']/\bL x u/\bL y w':=by
 cases r with
 | cons r1 r2=>
  cases r2 with| cons r3 r4=>cases r4;show%[1,_,_,rb,r1|r3]
def Vn (D:X.Ě=ķ):d7 X (.Õ "max") (λxs H Q=>∃i j,xs=[.R i,.R j]/\Q (.R<|if j > i then j else i) H):=by
 (intro ao s T H xs us Q I r h);let(i,j,rfl,q):=h;let(u,w',rfl,(t,rfl),(t',rfl)):=vals2 r;calc cj<|max_two_ints (I.ok.hd D) λh' tk k F=>%[1,_,H,I.ġ k,?_|q];by_cases B:j > i;.rw[Ŀ B,Ŀ B];show%[_|rb]
 .rw[ŀ B,ŀ B];show%[_|rb]
def Vo (D:X.Ě=ķ):d7 X (.Õ "min") (λxs H Q=>∃i j,xs=[.R i,.R j]/\Q (.R<|if j<i then j else i) H):=by
 (intro ao s T H xs us Q I r h);let(i,j,rfl,q):=h;let(u,w',rfl,(t,rfl),(t',rfl)):=vals2 r;calc cj<|min_two_ints (I.ok.hd D) λh' tk k F=>%[1,_,H,I.ġ k,?_|q];by_cases B:j<i;.rw[Ŀ B,Ŀ B];show%[_|rb]
 .rw[ŀ B,ŀ B];show%[_|rb]
def Vp:d7 X (.È "int") (λxs H Q=>(∃i,xs=[.R i]/\Q (.R i) H)\/∃k,xs=[.bl k]/\Q (.R<|if k then 1 else 0) H):=by
 (intro ao s T H xs us Q I r h);rcases h with⟨i,rfl,q⟩|⟨k,rfl,q⟩
 .let(u,rfl,t,rfl):=vals1 r;show call_int_int %[1,.R i,H,I,%[_|rb]|q]
 .let(u,rfl,r1):=vals1 r;cases r1;show call_int_bool %[1,.R<|if k then 1 else 0,H,I.tok _,%[_|rb]|q]
end
structure Dz (h:Ō)(x dx C:Ĺ)(mA:Ŋ->ĸ Ķ):Prop where
 obj:h.Á x=ĳ (W.instObj C dx)
 ns:h.Ns1 dx mA
 ne:dx≠x
def Vq {h:Ō}(n:h.Ns1 dx mA):∃od,h.Á dx=ĳ od/\∀name,W.lookIn name od=ĳ (mA name):=by
 let(o,es,ep,D,hd,hk,_,hm):=n;calc%[0,o,D|λname=>?_];let e:=hm name;unfold nsFind findBy at e;rw[<-Array.find?_toList]at e;unfold W.lookIn;rw[hd];dsimp only;split
 .rename_i y q;rw[q]at e;show Œ ĳ e
 .rename_i q;rw[q]at e;let a:es.I.đ (·.refKey)=Ļ:=by
   rw[List.any_eq_false];intro y F;let(z,t,B):=hk y (vj.mp F);simp[DictEntry.refKey,B]
  let a':¬es.I.đ (·.refKey)=ķ:=by rw[a];show ck
  rw[ŀ a'];show Œ ĳ e
def Dz.look (I:Dz h x dx C mA):∃od,W.InstAt h x (W.instObj C dx) C (ĳ od)/\∀name,W.lookIn name od=ĳ (mA name):=let %[od,ho|hl]:=Vq I.ns
 %[0,od,%[I.obj,rb,rb|ho]|hl]
section
variable {prog:Ň}{w:ŋ}{A:ō}{E:AB}{s:Ľ}{K:W.Ê}{x dx C f:Ĺ}{mA:Ŋ->ĸ Ķ}{name:Ŋ}{v:Ķ}
def get_map (X:K.In s.H)(I:Dz s.H x dx C mA)(B:W.plainGet K C name=ķ)(D:W.hasDictIn K C=ķ)(ha:W.findIn K (.C C) name=ĳ ĺ)(hv:mA name=ĳ v)(q:W.handedIn v=ķ)(h:Q v {s with toks:=s.Ï+1}):Ł (ł prog w) A (getAttr (.C x) name expr) Q E s:=by let(od,J,F):=I.look;show W.get_value X J (wm B).1 (W.findObj_own D ha rb (by rw[F,hv])) q h
def Yz (X:K.In s.H)(I:Dz s.H x dx C mA)(q:W.plainGet K C name=ķ)(hf:W.findIn K (.C C) name=ĳ (ĳ<|.C f))(D:W.isFn K (.C f)=ķ)(hv:mA name=ĺ)(h:Q (.C f,[.C x]) s):Ł (ł prog w) A (getMethod (.C x) name pl) Q E s:=by let(od,J,B):=I.look;show W.method_fn X J (wm q).1 (wm q).2 hf (beq_iff_eq.mp D) (by show (W.lookIn name od).Q (·.ĝ)=ĳ Ļ;rw[B,hv];rfl) h
def abl (X:K.In s.H)(I:Dz s.H x dx C mA)(hs:W.findIn K (.C C) "__setattr__"=ĳ (ĳ<|.Õ "object.__setattr__"))(hp:W.plainOver K C=true)(Z:W.takerIn K C name=some none)(M:W.hasDictIn K C=true)(hw:PySem.Within mA ns)(hsz:ns.n<=sizeLine)(h:∀h',Dz h' x dx C (λy=>if y=name then ĳ v else mA y)->Heap.Ĉ dx s.H h'->Q () {s with heap:=h',toks:=s.Ï+2}):Ł (ł prog w) A (setAttr (.C x) name v) Q E s:=by let(od,J,hl):=I.look;calc W.set_plain X J hs<|W.osa_open (s:={s with toks:=s.Ï+1}) (r:=none) X J hp Z λb=>?_;let(cd,N,L):=W.any_some M;calc ab<|af<|ab<|ab<|wpAny_loadPart I.obj<|ab<|W.Looks.here (s:={s with toks:=s.Ï+1}) (W.looks_clsIn X N) ?_;rw[L];calc af (a:=ĳ dx)<|ab<|af<|ab ?_;calc wpAny_nsSet1 (s:={s with toks:=s.Ï+1}) I.ns λh' q B=>?_;let(oD,Y,O,D,F,G):=q.count (PySem.Within.Ð name v hw);calc ab<|wpAny_lookBehind D (by rw[F];show pastItsLine_dict<|aw G (by show ja hsz)) ?_;show af<|h _ %[(B.2 _<|lS I.ne).Z I.obj,q|I.ne] B
def YB (X:K.In s.H)(hm:W.makesIn K C=ķ)(hi:W.findIn K (.C C) "__init__"=ĳ (ĳ<|.C f))(hf:W.typeIn K (.C f)=ĳ (.È "function"))(h:codeAny (ł prog w) (A.under<|.Õ "type.__call__" %[.C C::vs|kw]) (.call (.C f) %[.C (s.d+1)::vs|kw]) (W.InitBack (s.d+1) R) {s with heap:=(s.H.Ò W.emptyDict).Ò<|W.instObj C s.d}):codeAny (ł prog w) A (.call (.C C) %[vs|kw]) R s:=by show W.make_core (W.makes_of X hm) (W.looks_findIn X hi) (λself=>W.bind_fn X self hf) (.Â rb) h
end
def jU (f:Ŋ)(v:V):Ĵ (Ŋ×V)->Ĵ (Ŋ×V)
 | []=>[(f,v)]
 | (g,x)::r=>if g=f then (g,v)::r else (g,x)::jU f v r
theorem CV (f g)(v):∀fs:Ĵ (Ŋ×V),(jU f v fs).Æ g=if g=f then ĳ v else fs.Æ g
 | []=>by
  show List.Æ g [(f,v)]=_;by_cases h:g=f
  .let q:(g==f)=ķ:=beq_iff_eq.Û h;simp only[List.lookup,q,Ŀ h]
  .let q:(g==f)=Ļ:=beq_eq_false_iff_ne.Û h;simp only[List.lookup,q,ŀ h]
 | (k,x)::r=>by
  let B:=CV f g v r;rw[show jU f v ((k,x)::r)=(if k=f then (k,v)::r else (k,x)::jU f v r) from rfl];by_cases hk:k=f
  .rw[Ŀ hk];by_cases h:g=k
   .let q:(g==k)=ķ:=beq_iff_eq.Û h;simp only[List.lookup,q,Ŀ (h.Z hk)]
   .let q:(g==k)=Ļ:=beq_eq_false_iff_ne.Û h;simp only[List.lookup,q,ŀ (λe:g=f=>h<|e.Z hk.Ù)]
  .rw[ŀ hk];by_cases h:g=k
   .let q:(g==k)=ķ:=beq_iff_eq.Û h;simp only[List.lookup,q,ŀ (λe:g=f=>hk<|h.Ù.Z e)]
   .let q:(g==k)=Ļ:=beq_eq_false_iff_ne.Û h;simp only[List.lookup,q];show B
theorem zL (f)(v):∀fs:Ĵ (Ŋ×V),f∈(jU f v fs).Q (·.1)/\∀g,g∈fs.Q (·.1)->g∈(jU f v fs).Q (·.1)
 | []=>%[by simp[jU]|λg h=>by simp at h]
 | (k,x)::r=>by
  let(q,B):=zL f v r;rw[show jU f v ((k,x)::r)=(if k=f then (k,v)::r else (k,x)::jU f v r) from rfl];by_cases hk:k=f
  .rw[Ŀ hk];subst hk;show%[yf|λg h=>by simpa using h]
  .rw[ŀ hk];refine%[?_|λg h=>?_]
   .rw[b7];show aE _ q
   .rw[b7]at h ⊢;rcases a_.mp h with e|e;.show a_.Û<|.Â e
    .show aE _<|B g e
theorem CW (f)(v):∀fs:Ĵ (Ŋ×V),(jU f v fs).n<=fs.n+1
 | []=>by simp[jU]
 | (k,x)::r=>by
  let q:=CW f v r;rw[show jU f v ((k,x)::r)=(if k=f then (k,v)::r else (k,x)::jU f v r) from rfl];by_cases hk:k=f;.rw[Ŀ hk,bX,bX];lia
  .rw[ŀ hk,bX,bX];show ja q
def jQ.some_of (r:jQ (ĳ v) o):∃u,o=ĳ u/\bL v u:=by
 cases o with| none=>show(show False from r).î| some u=>show%[0,u,rb|r]
def jQ.none_of (r:jQ ĺ o):o=ĺ:=by
 cases o with| none=>rfl| some u=>show(show False from r).î
def Vr (r:bL v u):W.handedIn u=ķ:=by
 cases v with
 | non=>cases(show u=Value.ß from r);rfl
 | bl b=>cases(show u=Value.Ć b from r);rfl
 | int i=>let(t,e):=(show ∃t,u=Value.R i t from r);cases e;rfl
 | str x=>let(t,e):=(show ∃t,u=Value.À x t from r);cases e;rfl
 | yQ b=>let(t,e):=(show ∃t,u=Value.bytes b t from r);cases e;rfl
 | flt b=>let(t,e):=(show ∃t,u=Value.float b t from r);cases e;rfl
 | ref a=>cases(show u=Value.C a from r);rfl
 | ty n=>cases(show u=Value.È n from r);rfl
 | sx x t=>cases(show u=Value.À x t from r);rfl
section
variable {P:Ň}{w:ŋ}{H:Hp}{h:Ō}{a C dx:Ĺ}{fs:Ĵ (Ŋ×V)}
def Bo (hok:gK P w H h)(e:H a=ĳ (.ins C dx fs)):∃mA,Dz h a dx C mA/\(∀f,jQ (fs.Æ f) (mA f))/\PySem.Within mA (fs.Q (·.1))/\fs.n<=1000/\H dx=ĳ (.own a):=by
 let(d,z,ne,ob,mA,n,r,q):=(show dg P w H h a (.ins C dx fs) from hok a _ e)
 show%[15,mA,%[ob,n|ne],r,q,z|d]
end
structure Cls (K:W.Ê)(C:Ĺ):Prop where
 pg:W.plainGet K C Str.empty=ķ
 hd:W.hasDictIn K C=ķ
 po:W.plainOver K C=ķ
 sa:W.findIn K (.C C) "__setattr__"=ĳ (ĳ<|.Õ "object.__setattr__")
def Cls.get {K:W.Ê}(c:Cls K C)(f:Ŋ):W.plainGet K C f=ķ:=c.pg
def mz (K:W.Ê)(C:Ĺ)(f:Ŋ):Prop:=W.findIn K (.C C) f=ĳ ĺ
def mz.taker {K:W.Ê}{f:Ŋ}(n:mz K C f):W.takerIn K C f=ĳ ĺ:=by unfold W.takerIn;rw[show W.findIn K (.C C) f=ĳ ĺ from n];rfl
structure Meth (K:W.Ê)(C:Ĺ)(m:Ŋ)(f:Ĺ):Prop where
 at_:W.findIn K (.C C) m=ĳ (ĳ<|.C f)
 fn:W.isFn K (.C f)=ķ
 kp:W.Ī K (.C f)=ķ
section
variable {X:Cx}{ao:AC}{T:St}{H:Hp}{s:Ľ}{a C dx:Ĺ}{fs:Ĵ (Ŋ×V)}{f:Ŋ}{v:V}{A:ō}{E:AB}
def SQ (I:aL X ao T H s)(e:H a=ĳ (.ins C dx fs))(c:Cls X.K C)(n:mz X.K C f)(l:fs.Æ f=ĳ v)(h:∀u s',aL X ao T H s'->bL v u->Q u s'):Ł (ł X.Ñ X.w) A (getAttr (.C a) f b) Q E s:=by let(mA,O,r,_,_,_):=Bo I.ê e;let(u,B,q):=jQ.some_of (v:=v) (o:=mA f) (by rw[<-l];show r f);show get_map I.jR O (c.get f) c.hd n B (Vr q)<|h u _ (I.tok _) q
def Fd (I:aL X ao T H s)(e:H a=ĳ (.ins C dx fs))(c:Cls X.K C)(k:Meth X.K C m g)(l:fs.Æ m=ĺ)(h:Q (.C g,[.C a]) s):Ł (ł X.Ñ X.w) A (getMethod (.C a) m pl) Q E s:=by let(mA,O,r,_,_,_):=Bo I.ê e;show Yz I.jR O (c.get m) k.č k.fn (jQ.none_of (by rw[<-l];show r m)) h
def SX (I:aL X ao T H s)(e:H a=ĳ (.ins C dx fs))(c:Cls X.K C)(n:mz X.K C f)(L:fs.n<1000)(D:bL y u)(h:∀s',aL X ao T (upd H a<|.ins C dx<|jU f y fs) s'->Q () s'):Ł (ł X.Ñ X.w) A (setAttr (.C a) f u) Q E s:=by
 let(mA,O,r,wi,_,B):=Bo I.ê e;let hz:(fs.Q (·.1)).n<=Ń:=by rw[aa,sizeLine_eq];lia
 calc abl I.jR O c.sa c.po n.taker c.hd wi hz λh' O' J=>h _ ?_;let hd:∃o,h'.Á dx=ĳ o:=let %[o,_,_,e'|_]:=O'.ns;%[o|e']
 calc I.write (x:=a) (e:=dx) (by rw[e];show True.intro) (.Ó B) (λb q F z=>(J.2 b F).Z z) hd ?_;calc%[by rw[bx O.ne];show B,?_,O.ne|%[23,O'.obj,_,O'.ns,λg=>?_|λg G=>?_]];.have:=CW f y fs;lia
 .rw[CV];by_cases q:g=f;.rw[Ŀ q,Ŀ q];show D
  .rw[ŀ q,ŀ q];show r g
 .by_cases q:g=f;.rw[q];show(zL f y fs).1
  .calc(zL f y fs).2 g<|wi g λz=>G ?_;rw[ŀ q];show z
def aL.made (I:aL X ao T H s):aL X ao T (upd (upd H s.d<|.own<|s.d+1) (s.d+1)<|.ins C s.d []) {s with heap:=(s.H.Ò W.emptyDict).Ò<|W.instObj C s.d}:=by
 let B:(s.H.Ò W.emptyDict).Á s.d=ĳ W.emptyDict:=aT s.H rfl;let F:((s.H.Ò W.emptyDict).Ò<|W.instObj C s.d).Á (s.d+1)=ĳ (W.instObj C s.d):=by
  have:=aT (s.H.Ò W.emptyDict) (o:=W.instObj C s.d) rfl
  rwa [d6]at this
 let J:(s.H.Ò W.emptyDict).Ns s.d (λ_=>ĺ):=%[8,W.emptyDict,#[],_,B,rb,(λe D=>ń D yf)|λ_=>rfl]
 calc (I.Ĝ (a:=s.heap.objs.size) (o:=.own (s.d+1)) (h':=s.H.Ò W.emptyDict) (t':=s.toks) (λb u q=>ag _ q) (ah _) %[_|B]).Ĝ (a:=s.d+1) (o:=.ins C s.d []) (t':=s.toks) (λb u q=>ag _ q) (mE<|d6 _ _) ?_;let ne:s.d≠s.d+1:=bn<|eQ _;refine%[by rw[bx ne,au],b5 _,ne|%[23,F,λ_=>ĺ,(Heap.Ns1.of_empty J).at λo q=>ag _ q,λ_=>True.intro|λy G=>ń rb G]]
def abm (B:attributeBase e f env (Ŕ e env)=Ŕ e env)(h:Ł (ł prog w) A (Ŕ e env) (λo q=>Ł (ł prog w) A (getAttr o f ķ) Q E q) E s):Ł (ł prog w) A (Ŕ (.Ą e f pos) env) Q E s:=Attribute_any_ h (by rw[arm_eval_Attribute,B])
end
def agw (K:W.Ê)(ta:TE)(f:Ŋ):TE:=λI H Q=>ta I H λx H1=>∃a C dx fs v,x=.C a/\H1 a=ĳ (.ins C dx fs)/\Cls K C/\mz K C f/\fs.Æ f=ĳ v/\Q v H1
def agx (K:W.Ê)(ta tv:TE)(f:Ŋ):TS:=λD I H=>tv I H λy H1=>ta I H1 λx q=>∃a C dx fs,x=.C a/\q a=ĳ (.ins C dx fs)/\Cls K C/\mz K C f/\fs.n<1000/\
 D.nx I (upd q a<|.ins C dx<|jU f y fs)
section
variable {X:Cx}{o e value:Ő}{f:Ŋ}{pos pos':Pos}{ta tv:TE}
variable {ao:AC}{T:St}{H:Hp}{s:Ľ}{A:ō}{E Q:AB}{c:Ķ}{b:œ}
def dF (B:QE X e ta)(J:attributeBase e f X.É (Ŕ e X.É)=Ŕ e X.É):QE X (.Ą e f pos) (agw X.K ta f):=⟨by
 intro ao s T H Q I h;calc abm J<|bJ (B.ã ao s T H _ I h) λu s1 zq=>?_;let(x,H1,I1,G,a,C,dx,fs,v,ex,D,c,n,l,q):=zq;subst ex;obtain rfl:u=Value.C a:=G;show SQ I1 D c n l λu' s2 I2 F=>%[1,v,H1,I2,F|q]⟩
def Fe (ha:QE X o ta)(hv:QE X value tv)(hs:swapsWith value (ĳ<|.Ą o f pos') pos.line X.É=pure Ļ):QS X (.Assign [.Ą o f pos'] value pos) (agx X.K ta tv f):=⟨by
 intro ao s T H D I h;calc plainObj_wpAny_Assign_Attribute (bJ (hv.ã ao s T H _ I h) λu s1 ⟨y,H1,I1,G,q⟩=>bJ (ha.ã ao s1 T H1 _ I1 q) λL s2 zq=>?_) hs;let(x,N,I2,J,a,C,dx,fs,ex,F,c,n,l,q2):=zq;subst ex;obtain rfl:L=Value.C a:=J;show SX I2 F c n l G λM B=>%[3,T,_,B|q2]⟩
inductive o_ (K:W.Ê) (H:Hp):V->Ķ->Prop where
 | non:o_ K H .ć (.È "NoneType")
 | bl (x:œ):o_ K H (.bl x) (.È "bool")
 | int (i:ļ):o_ K H (.R i) (.È "int")
 | str (x:Ŋ):o_ K H (.À x) (.È "str")
 | flt (x:UInt64):o_ K H (.flt x) (.È "float")
 | lst {a:Ĺ} {xs:Ĵ V} (e:H a=ĳ (.Ç xs)):o_ K H (.C a) (.È "list")
 | jk {a:Ĺ} {o:Obj} {xs:Ĵ V} (e:H a=ĳ (.jk o<|.Ç xs)):o_ K H (.C a) (.È "list")
 | tup {a:Ĺ} {xs:Ĵ V} (e:H a=ĳ (.Ã xs)):o_ K H (.C a) (.È "tuple")
 | dK {a:Ĺ} {kvs:Ĵ (Key×V)} (e:H a=ĳ (.dK kvs)):o_ K H (.C a) (.È "dict")
 | dT {a:Ĺ} {kvs:Ĵ (Ĵ Key×V)} (e:H a=ĳ (.dT kvs)):o_ K H (.C a) (.È "dict")
 | ins {a C dx:Ĺ} {fs:Ĵ (Ŋ×V)} (e:H a=ĳ (.ins C dx fs)) (cl:Cls K C) (ha:W.findIn K (.C C) "__class__"=ĳ (ĳ<|.Õ "object.__class__"))
   (hn:W.specialIn K (.Õ "object.__class__") "__get__"=ĳ (ĳ<|.Õ "getset_descriptor.__get__")) (htk:W.takesIn K (.Õ "object.__class__")=ĳ ķ)
   (hm:W.mroIn K C (.È "object")=ĳ ķ):o_ K H (.C a) (.C C)
def Vs (I:aL X ao T H s)(B:bL x u)(ty:o_ X.K H x t)(e:W.kitOne X.K t c=ĳ b)(h:∀tk,Q (.Ć b) {s with toks:=tk}):Ł (ł X.Ñ X.w) A (call (.Õ "isinstance") [u,c]) Q E s:=by
 cases ty with
 | non=>cases(show u=Value.ß from B);show iO W.kitx_none I.jR True.intro e (λz=>nomatch z) h
 | bl y=>cases(show u=Value.Ć y from B);show iO W.kitx_bool I.jR True.intro e (λz=>nomatch z) h
 | int i=>let(t,q):=(show ∃t,u=Value.R i t from B);cases q;show iO W.kitx_int I.jR True.intro e (λz=>nomatch z) h
 | str y=>let(t,q):=(show ∃t,u=Value.À y t from B);cases q;show iO W.kitx_str I.jR True.intro e (λz=>nomatch z) h
 | flt y=>let(t,q):=(show ∃t,u=Value.float y t from B);cases q;show iO W.kitx_float I.jR True.intro e (λz=>nomatch z) h
 | @lst a xs ea=>
  cases(show u=Value.C a from B);let(_,_,n,_,h1):=(show dg X.Ñ X.w H s.H a (.Ç xs) from I.ê a _ ea)
  show iO W.kitx_list I.jR %[0,_,h1|rb] e (λz=>nomatch z) h
 | @jk a ob xs ea=>
  cases(show u=Value.C a from B);let(_,_,_,n,_,h1):=(show dg X.Ñ X.w H s.H a (.jk ob<|.Ç xs) from I.ê a _ ea)
  show iO W.kitx_list I.jR %[0,_,h1|rb] e (λz=>nomatch z) h
 | @tup a xs ea=>
  cases(show u=Value.C a from B);let(_,_,_,p):=(show dg X.Ñ X.w H s.H a (.Ã xs) from I.ê a _ ea)
  let(o,h1,D,_):=p;show iO W.kitx_tuple I.jR %[0,o,h1|D] e (λz=>nomatch z) h
 | @dK a kvs ea=>
  cases(show u=Value.C a from B);let(_,_,vs,_,p):=(show dg X.Ñ X.w H s.H a (.dK kvs) from I.ê a _ ea)
  let(o,es,ep,h1,D,_):=p;show iO W.kitx_dict I.jR %[0,o,h1|D.1] e (λz=>nomatch z) h
 | @dT a kvs ea=>
  cases(show u=Value.C a from B);let(_,_,xs,_,o,es,ep,h1,D,_):=(show dg X.Ñ X.w H s.H a (.dT kvs) from I.ê a _ ea)
  show iO W.kitx_dict I.jR %[0,o,h1|D.1] e (λz=>nomatch z) h
 | @ins a C dx fs ea cl ha hn htk hm=>cases(show u=Value.C a from B);let(mA,O,_):=Bo I.ê ea;let(od,J,_):=O.look;show iO (W.kitx_own (cl.get _) cl.hd ha hn htk hm) I.jR J e (λz=>nomatch z) h
end
structure dR (k:ĵ)(A:ō):Prop where
 hd:A.ò=ĺ
 dp:A.depth+3*k+5<recursionLimit
 un:A.Þ+16*k+200<cLine
def dR.mono (r:dR k A)(h:Ž (j<=k) ſ):dR j A:=%[r.hd,by have:=r.dp;lia|by have:=r.un;lia]
def dR.deeper (r:dR (k+1) A)(env):dR k (A.deeper env):=%[r.hd,by have:=r.dp;show A.depth+1+3*k+5<_;lia|by have:=r.un;show A.Þ+3+16*k+200<_;lia]
def S7 {A:ō}:(A.under<|.Õ "type.__call__" %[.C C::us|kw]).depth=A.depth+1:=by first|rfl|simp[Around.under,Code.weight,Code.isCreation,Code.isGuard,Code.isCaller,Code.frames,Code.isFrame,guardIds]
def S8 {A:ō}:(A.under<|.Õ "type.__call__" %[.C C::us|kw]).Þ=A.Þ+1:=by first|rfl|simp[Around.under,Code.cUnits,Code.frames,Code.isFrame]
def dR.make (r:dR (k+1) A)(C)(us)(kw):dR k (A.under<|.Õ "type.__call__" %[.C C::us|kw]):=%[r.hd,by have:=r.dp;rw[S7];(simp_all;lia)|by have:=r.un;rw[S8];(simp_all;lia)]
def dR.depth (r:dR k A):A.depth<recursionLimit:=by have:=r.dp;lia
def dR.units (r:dR k A):A.Þ+64<cLine:=by have:=r.un;lia
def dR.adA (r:dR k A):A.Þ<cLine:=by have:=r.un;lia
def rK:TA:=λ_ H Q=>Q [] H
def jt (ta:TE)(q:TA):TA:=λI H Q=>ta I H λx H1=>q I H1 λxs B=>Q (x::xs) B
section
variable {X:Cx}{e:Ő}{es:Ĵ Ő}{te:TE}{t:TA}{pos:Pos}
def aq  : QA X [] rK:=⟨λ_ _ _ _ H Q I h=>oy %[1,[],H,I,.Ü|h]⟩
def ak (ha:QE X e te)(D:QA X es t)(hs:Ž (ŉ (e::es) X.É=(Ļ,Ŕ e X.É)::ŉ es X.É) ž):QA X (e::es) (jt te t):=⟨by
 intro pos ao s T H Q I h;rw[hs];show Ł _ _ (spliced<|(Ļ,Ŕ e X.É)::backTo pos (ŉ es X.É)) _ _ s;calc fN<|bJ (ha.ã ao s T H _ I h) λu s1 zq=>?_;let(x,H1,I1,r1,q1):=zq;show bJ (D.ã pos ao s1 T H1 _ I1 q1) λus s2 zq=>by let(xs,B,I2,q,q2):=zq;exact %[1,x::xs,B,I2,.Ð r1 q|q2]⟩
def adB (t:TA):TE:=λT H Q=>t T H λxs H1=>xs.n<=Ń/\∀p,H1 p=ĺ->Q (.C p) (upd H1 p<|.Ã xs)
def agy (t:TA):TE:=λT H Q=>t T H λxs H1=>xs.n<=Ń/\∀p,H1 p=ĺ->Q (.C p) (upd H1 p<|.Ç xs)
def cI {x1}(h:QA X es t):QE X (.Ă es x1 pos) (adB t):=⟨by
 intro ao s T H Q I B;calc wn<|bJ (h.ã pos ao s T H _ I B) λus s1 ⟨xs,H1,I1,r,z,q⟩=>%[by rw[<-r.length];show z|?_];calc%[1,.C s1.d,upd H1 s1.d<|.Ã xs,I1.Ĝ (t':=s1.toks) (λb u e=>ag _ e) (ah _) ?_,rb|q _ (I1.ê.ä<|ah _)];show%[14,z,us,r|%[37,_,aT _ rb,rb,_|rb]]⟩
def dN (h:QA X es t):QE X (.List es pos) (agy t):=⟨by
 intro ao s T H Q I B;calc wpAny_List_spliced<|bJ (h.ã pos ao s T H _ I B) λus s1 ⟨xs,H1,I1,r,z,q⟩=>%[by rw[<-r.length];show z|?_];calc%[1,.C s1.d,upd H1 s1.d<|.Ç xs,I1.Ĝ (t':=s1.toks) (λb u e=>ag _ e) (ah _) ?_,rb|q _ (I1.ê.ä<|ah _)];show%[16,z,us,0,r|aT _ rb]⟩
end
abbrev Sp:=Ĵ V->Hp->VK->XK->Prop
abbrev yS:=Ĵ Env->Hp->Ľ->XK->Ķ->Ľ->Prop
structure xO (P:Ň)(w:ŋ)(K:W.Ê)(mg:Ŋ->ĸ Ķ)(base:Ō)(A:ō)(outer:Ĵ Env)(s:Ľ)(H:Hp):Prop where
 frames:A.frames=ĳ outer
 mod:Mod K mg base
 bs:∀b o,base.Á b=ĳ o->s.H.Á b=ĳ o/\H b=ĺ
 zG:base.X.E<=s.d
 o7:s.H.FunFrames base outer
 Ey:∀b∈frs outer,H b=ĺ
 hok:gK P w H s.H
 bare:Š s.gens
 gh:Gh H s.Ï
def CE (outer:Ĵ Env)(P:Ň)(w:ŋ)(H:Hp)(s:Ľ)(Q:VK)(u:Ķ)(s':Ľ):Prop:=∃v H',s'.os=s.os/\Š s'.gens/\Un (frs outer) [] H H' s.H s'.H/\gK P w H' s'.H/\bL v u/\Q v H'/\Gh H' s'.Ï/\s.Ï<=s'.Ï
def CR (CX:yS)(outer:Ĵ Env)(P:Ň)(w:ŋ)(H:Hp)(s:Ľ)(Q:VK)(E:XK)(r:Ź)(s':Ľ):Prop:=match r with| .ok (.ret u)=>CE outer P w H s Q u s'| .ok _=>False| .error e=>CX outer H s E e s'
structure tW (P:Ň)(w:ŋ)(K:W.Ê)(mg:Ŋ->ĸ Ķ)(base:Ō)(CX:yS)(k:ĵ)(f:Ĺ)(fd:Ŝ)(ps:Ĵ Ŋ)(sp:Sp):Prop where
 len:∀vs H Q E,sp vs H Q E->vs.n=ps.n
 run:∀(A:ō) (outer:Ĵ Env) (s:Ľ) (H:Hp) (args:Args) (us:Ĵ Ķ) (vs:Ĵ V) (Q:VK) (E:XK),dR k A->xO P w K mg base A outer s H->š s fd args (ps.zip us)->Vals vs us->sp vs H Q E->
  codeAny (ł P w) A (.call (.C f) args) (CR CX outer P w H s Q E) s
structure qM (P:Ň)(w:ŋ)(K:W.Ê)(mg:Ŋ->ĸ Ķ)(base:Ō)(CX:yS)(k:ĵ)(f:Ĺ)(fd:Ŝ)(ps:Ĵ Ŋ)(sp:Sp):Prop where
 run:∀(A:ō) (outer:Ĵ Env) (s:Ľ) (H:Hp) (args:Args) (us:Ĵ Ķ) (vs:Ĵ V) (Q:VK) (E:XK),dR k A->(∀n:ĵ,xO P w K mg base A outer {s with toks:=n+1} H)->š s fd args (ps.zip us)->Vals vs us->sp vs H Q E->
  codeAny (ł P w) A (.call (.C f) args) (CR CX outer P w H s Q E) s
def qM.mono {K:W.Ê}{mg:Ŋ->ĸ Ķ}{CX:yS}{j k:ĵ}{ps:Ĵ Ŋ}{sp:Sp}(F:qM P w K mg base CX j f fd ps sp)(h:j<=k):qM P w K mg base CX k f fd ps sp:=⟨λA outer s H args us vs Q E q=>F.run A outer s H args us vs Q E<|q.Ø h⟩
def xO.make {K:W.Ê}{mg:Ŋ->ĸ Ķ}{outer:Ĵ Env}(e:xO P w K mg base A outer s H)(C:Ĺ)(us:Ĵ Ķ)(q:Ĵ (Ŋ×Ķ)):xO P w K mg base (A.under<|.Õ "type.__call__" %[.C C::us|q]) outer s H:=%[by first|show e.frames|(simpa [Around.under,Code.envs,Code.isFrame,pushEnvs] using e.frames),e.mod,e.bs,e.zG,e.o7,e.Ey,e.ê,e.bare|e.gh]
section
variable {X:Cx}{ao:AC}{T:St}{H:Hp}{s s':Ľ}
def aL.env0 (I:aL X ao T H s):xO X.Ñ X.w X.K X.mg X.ø X.A X.İ s H:=%[I.ok.frames,I.ok.mod,I.bs,aw I.ok.zG I.sz,I.İ,I.Qi,I.ê,I.bare|I.gh]
def aL.after (I:aL X ao T H s)(h:CE X.İ X.Ñ X.w H s Q u s'):EP X ao T Q u s':=by let(v,H',os,bare,un,hok,r,q,gh,tk):=h;let(D,g,d,t,B):=s';obtain rfl:B=s.os:=os;show%[1,v,H',I.call (h':=D) (g':=g) (d':=d) (t':=t) (ch:=[]) un hok bare gh tk λb z=>ń z yf,r|q]
end
def Bp (sp:Sp)(nF:Ĵ V)(E:XK)(t:TA):TE:=λI H Q=>t I H λvs H1=>sp (vs++nF) H1 Q E
def S9 (C:Ĺ)(m:Ŋ)(sp:Sp)(nF:Ĵ V)(E:XK)(ta:TE)(t:TA):TE:=λI H Q=>ta I H λx H1=>∃a dx fs,x=.C a/\H1 a=ĳ (.ins C dx fs)/\fs.Æ m=ĺ/\
 t I H1 λvs q=>sp (x::(vs++nF)) q Q E
def afv (C:Ĺ)(sp:Sp)(nF:Ĵ V)(E:XK)(t:TA):TE:=λI H Q=>t I H λvs H1=>∀x dx,H1 x=ĺ->H1 dx=ĺ->dx≠x->
 sp (.C x::(vs++nF)) (upd (upd H1 dx<|.own x) x<|.ins C dx []) (λv q=>v=.ć/\Q (.C x) q) E
def lN (K:W.Ê)(fd:Ŝ)(ps:Ĵ Ŋ)(ds:Ĵ Ķ):Prop:=∀(s:Ľ) (us:Ĵ Ķ),K.In s.H->(us++ds).n=ps.n->š s fd %[us|[]] (ps.zip<|us++ds)
def lN.all {K:W.Ê}{ps:Ĵ Ŋ}(h:∀us:Ĵ Ķ,us.n=ps.n->bindArgs fd %[us|[]]=pure (ps.zip us)):lN K fd ps []:=λs us _ q=>by rw[dS]at q ⊢;show .of_eq<|h us q
def Passes (CX:yS)(X:Cx)(E:XK):Prop:=∀(ao:AC) (I:St) (H:Hp) (s:Ľ) (e:Ķ) (s':Ľ),aL X ao I H s->CX X.İ H s E e s'->X.xe e s'
section
variable {X:Cx}{CX:yS}{k:ĵ}{f C:Ĺ}{fd:Ŝ}{ps:Ĵ Ŋ}{sp:Sp}{nF:Ĵ V}{ds:Ĵ Ķ}{E:XK}{x m:Ŋ}{p pos apos:Pos}{e o:Ő}{es:Ĵ Ő}{ta:TE}{t:TA}
def Lk {ao:AC}{T:St}{H:Hp}{s:Ľ}{Q:VK}{us:Ĵ Ķ}{vs:Ĵ V}(F:tW X.Ñ X.w X.K X.mg X.ø CX k f fd ps sp)(G:dR k X.A)(D:lN X.K fd ps ds)(hd:Vals nF ds)(hx:Passes CX X E)(I:aL X ao T H s)(r:Vals vs us)(h:sp (vs++nF) H Q E):Ł (ł X.Ñ X.w) X.A (call (.C f) us) (EP X ao T Q) X.xe s:=by
 let B:Vals (vs++nF) (us++ds):=r.append hd;let J:(us++ds).n=ps.n:=by rw[<-B.length];show F.Ċ _ _ _ _ h
 calc vn<|kG (F.run X.A X.İ s H %[us|[]] (us++ds) (vs++nF) Q E G I.env0 (D s us I.jR J) B h) λr s' q=>?_;cases r with
 | error e=>show hx ao T H s e s' I q
 | ok fl=>
  cases fl with| ret u=>show I.after q| next=>show False.î q| brk=>show False.î q| cont=>show False.î q
def abn (F:tW X.Ñ X.w X.K X.mg X.ø CX k f fd ps sp)(L:dR k X.A)(M:Gl X x)(hm:X.mg x=ĳ (.C f))(hk:W.Ī X.K (.C f)=ķ)(J:lN X.K fd ps ds)(hd:Vals nF ds)(hx:Passes CX X E)(ha:PA X (e::es) t)(B:Ž ((x==("__debug__":Ŋ))=Ļ) ſ)(G:Ž (ŉ (e::es) X.É=(Ļ,Ŕ e X.É)::ŉ es X.É) ž)(D:Ž ((backTo pos<|ŉ es X.É).đ (·.1)=Ļ) ž):PE X (.ĩ (.å x p) (e::es) [] pos) (Bp sp nF E t):=by intro ao s T H Q I h;calc n5<|Bh I M hm ?_ B;calc sD (h₀:=X.base) I.ok.mod.yR hk (bJ (ha pos ao s T H _ I h) λus s1 ⟨vs,H1,I1,r,q⟩=>%[I1.jR|?_]) G D;show Lk F L J hd hx I1 r q
def gZ {pl:Sem œ}(G:QE X o ta)(c:Cls X.K C)(hm:Meth X.K C m f)(F:tW X.Ñ X.w X.K X.mg X.ø CX k f fd ps sp)(N:dR k X.A)(M:lN X.K fd ps ds)(hd:Vals nF ds)(hx:Passes CX X E)(ha:QA X (e::es) t)(B:Ž (ŉ (e::es) X.É=(Ļ,Ŕ e X.É)::ŉ es X.É) ž)(D:Ž ((backTo pos<|ŉ es X.É).đ (·.1)=Ļ) ž)(O:Ž (Ŕ (.ĩ (.Ą o m apos) (e::es) [] pos) X.É=(do
   let ov <- Ŕ o X.É
   standAt apos.atName
   let (f,first) <- holding [ov] (getMethod ov m pl)
   callWith pos f first (backTo pos<|ŉ (e::es) X.É) (backToKw pos<|keywordEach [] X.É))) ž):QE X (.ĩ (.Ą o m apos) (e::es) [] pos) (S9 C m sp nF E ta t):=⟨by
 intro ao s T H Q I h;calc W.methodCall_KW (pl:=pl) (bJ (G.ã ao s T H _ I h) λu s1 zq=>?_) O;let(x,H1,I1,L,a,dx,fs,ex,J,l,q):=zq;subst ex;obtain rfl:u=Value.C a:=L;calc Fd I1 J c hm l ?_;calc sD (first:=[.C a]) (h₀:=X.base) I.ok.mod.yR hm.kp (bJ (ha.ã pos ao s1 T H1 _ I1 q) λus s2 ⟨vs,Y,I2,r,q2⟩=>%[I2.jR|?_]) B D;show Lk (us:=.C a::us) (vs:=.C a::vs) F N M hd hx I2 (.Ð rb r) q2⟩
def xP (B:QE X o ta)(c:Cls X.K C)(hm:Meth X.K C m f)(F:tW X.Ñ X.w X.K X.mg X.ø CX k f fd ps sp)(L:dR k X.A)(J:lN X.K fd ps ds)(hd:Vals nF ds)(hx:Passes CX X E)(M:Ž (Ŕ (.ĩ (.Ą o m apos) [] [] pos) X.É=(do
   let ov <- Ŕ o X.É
   standAt apos.atName
   let (f,first) <- holding [ov] (getMethod ov m pl)
   callWith pos f first (backTo pos<|ŉ [] X.É) (backToKw pos<|keywordEach [] X.É))) ž):QE X (.ĩ (.Ą o m apos) [] [] pos) (S9 C m sp nF E ta rK):=⟨by
 intro ao s T H Q I h;calc W.methodCall_KW (pl:=pl) (bJ (B.ã ao s T H _ I h) λu s1 zq=>?_) M;let(x,H1,I1,G,a,dx,fs,ex,D,l,q):=zq;subst ex;obtain rfl:u=Value.C a:=G;calc Fd I1 D c hm l ?_;show W.callWith_K0 (first:=[.C a]) I1.jR hm.kp<|Lk (us:=[.C a]) (vs:=[.C a]) F L J hd hx I1 (.Ð rb .Ü) q⟩
structure Mk (K:W.Ê)(C f:Ĺ):Prop where
 makes:W.makesIn K C=ķ
 init:W.findIn K (.C C) "__init__"=ĳ (ĳ<|.C f)
 fn:W.isFn K (.C f)=ķ
 kp:W.Ī K (.C C)=ķ
def YC {ao:AC}{T:St}{H:Hp}{s:Ľ}{Q:VK}{us:Ĵ Ķ}{vs:Ĵ V}(M:Mk X.K C f)(F:tW X.Ñ X.w X.K X.mg X.ø CX k f fd ps sp)(O:dR (k+1) X.A)(N:lN X.K fd ps ds)(hd:Vals nF ds)(hx:Passes CX X E)(I:aL X ao T H s)(r:Vals vs us)(h:∀x dx,H x=ĺ->H dx=ĺ->dx≠x->sp (.C x::(vs++nF)) (upd (upd H dx<|.own x) x<|.ins C dx []) (λv J=>v=.ć/\Q (.C x) J) E):Ł (ł X.Ñ X.w) X.A (call (.C C) us) (EP X ao T Q) X.xe s:=by
 let D:=h (s.d+1) s.d (I.ê.ä<|dq _) (I.ê.ä<|ah _)<|bn<|eQ _;let I2:=aL.made (C:=C) I;let B:Vals (V.C (s.d+1)::(vs++nF)) (Value.C (s.d+1)::(us++ds)):=.Ð rb<|r.append hd;let Y:(Value.C (s.d+1)::us++ds).n=ps.n:=by let e:=B.n;rw[F.Ċ _ _ _ _ D]at e;show e.Ù
 refine vn (YB (f:=f) I.jR M.makes M.init (beq_iff_eq.mp M.fn) (kG (F.run _ X.İ _ _ %[Value.C (s.d+1)::us|[]] (Value.C (s.d+1)::(us++ds)) _ _ E (O.make C us [])
  (I2.env0.make C us []) (N _ (Value.C (s.d+1)::us) I2.jR Y) B D) λr s' q=>?_))
 cases r with
 | error e=>show hx ao T _ _ e s' I2 q
 | ok fl=>
  cases fl with
  | ret u=>let(v,H',G,Z,L,q3):=I2.after q;subst L;show%[Z|%[1,V.C<|s.d+1,H',G,rb|q3]]
  | next=>show False.î q
  | brk=>show False.î q
  | cont=>show False.î q
def Bq (M:Mk X.K C f)(F:tW X.Ñ X.w X.K X.mg X.ø CX k f fd ps sp)(L:dR (k+1) X.A)(N:Gl X x)(hm:X.mg x=ĳ (.C C))(J:lN X.K fd ps ds)(hd:Vals nF ds)(hx:Passes CX X E)(ha:QA X (e::es) t)(B:Ž ((x==("__debug__":Ŋ))=Ļ) ſ)(G:Ž (ŉ (e::es) X.É=(Ļ,Ŕ e X.É)::ŉ es X.É) ž)(D:Ž ((backTo pos<|ŉ es X.É).đ (·.1)=Ļ) ž):QE X (.ĩ (.å x p) (e::es) [] pos) (afv C sp nF E t):=⟨by
 intro ao s T H Q I h;calc n5<|Bh I N hm ?_ B;calc sD (h₀:=X.base) I.ok.mod.yR M.kp (bJ (ha.ã pos ao s T H _ I h) λus s1 ⟨vs,H1,I1,r,q⟩=>%[I1.jR|?_]) G D;show YC M F L J hd hx I1 r q⟩
end
def PK (X:Cx)(kws:Ĵ Ţ)(t:TA):Prop:=∀(pos:Pos) (ao:AC) (s:Ľ) (I:St) (H:Hp) (Q:Ĵ V->Hp->Prop),aL X ao I H s->t I H Q->Ł (ł X.Ñ X.w) X.A (evalAll ((backToKw pos<|keywordEach kws X.É).Q (·.2))) (AP X ao I Q) X.xe s
section
variable {X:Cx}{x:Ŋ}{pos kpos:Pos}{e:Ő}{kws:Ĵ Ţ}{te:TE}{t:TA}{nm:ĸ Ŋ}
def adC:PK X [] rK:=λ_ _ _ _ H Q I h=>wpAny_evalAll_nil %[1,[],H,I,.Ü|h]
def abo (ha:PE X e te)(D:PK X kws t):PK X (%[nm,e|kpos]::kws) (jt te t):=by intro pos ao s T H Q I h;calc wpAny_evalAll_cons<|ab<|bJ (ha ao s T H _ I h) λu s1 ⟨x,H1,I1,r1,q1⟩=>ab<|t9<|af ?_;show bJ (D pos ao s1 T H1 _ I1 q1) λus s2 zq=>by let(xs,B,I2,q,q2):=zq;exact %[1,x::xs,B,I2,.Ð r1 q|q2]
end
structure aX (N P:Ĵ Ŋ)(sc:Ŗ):Prop where
 kind:sc.þ=.ĭ:=by rfl
 co:sc.isCoroutine=Ļ:=by rfl
 gen:sc.isGenerator=Ļ:=by rfl
 nd:N.Ý:=by decide +kernel
 pre:N.Å P.n=P:=by rfl
 par:∀x∈P,sc.Ú.Æ x=ĳ .ô\/sc.Ú.Æ x=ĳ .ñ:=by decide +kernel
 adD:∀y∈sc.Ú,y.2≠.Ô:=by decide +kernel
theorem Jk {kindOf:Ŋ->ĸ ş}{x:Ŋ}:∀{binds:Ĵ (Ŋ×Ķ)} {m:Ŋ->ĸ Ķ},(∀v,(x,v)∉binds)->bindL kindOf binds m x=m x
 | [],_,_=>rfl
 | (n,v)::r,m,h=>by
  unfold bindL;rw[Jk λw hw=>h w (aE _ hw)];split
  .have:x≠n:=by rintro rfl;show h v aS
   simp[this]
  .rfl
theorem Jl {kindOf:Ŋ->ĸ ş}{x:Ŋ}:∀{binds:Ĵ (Ŋ×Ķ)} {m:Ŋ->ĸ Ķ},(∀v,(x,v)∉binds)->bindC kindOf binds m x=m x
 | [],_,_=>rfl
 | (n,v)::r,m,h=>by
  unfold bindC;rw[Jl λw hw=>h w (aE _ hw)];split;.rfl
  .have:x≠n:=by rintro rfl;show h v aS
   simp[this]
theorem zM {kindOf:Ŋ->ĸ ş}{x:Ŋ}:∀{P:Ĵ Ŋ} {vs:Ĵ Ķ} {i:ĵ} {m:Ŋ->ĸ Ķ},P.Ý->P[i]?=ĳ x->vs[i]?=ĳ v->kindOf x=ĳ .ô->
  bindL kindOf (P.zip vs) m x=ĳ v
 | [],_,_,_,_,h,_,_=>by simp at h
 | _::_,[],_,_,_,_,h,_=>by simp at h
 | p::P,w::vs,0,m,nd,h1,h2,hk=>by simp at h1 h2;subst h1;subst h2;show bindL kindOf ((p,w)::P.zip vs) m p=_;unfold bindL;rw[Jk λv hv=>(gu.mp nd).1 (vv hv).1,Ŀ hk];simp
 | p::P,w::vs,i+1,m,nd,h1,h2,hk=>by show bindL kindOf ((p,w)::P.zip vs) m x=_;unfold bindL;show zM (i:=i) (gu.mp nd).2 (by simpa using h1) (by simpa using h2) hk
theorem Jm {kindOf:Ŋ->ĸ ş}{x:Ŋ}:∀{P:Ĵ Ŋ} {vs:Ĵ Ķ} {i:ĵ} {m:Ŋ->ĸ Ķ},P.Ý->P[i]?=ĳ x->vs[i]?=ĳ v->kindOf x≠ĳ .ô->
  bindC kindOf (P.zip vs) m x=ĳ v
 | [],_,_,_,_,h,_,_=>by simp at h
 | _::_,[],_,_,_,_,h,_=>by simp at h
 | p::P,w::vs,0,m,nd,h1,h2,hk=>by simp at h1 h2;subst h1;subst h2;show bindC kindOf ((p,w)::P.zip vs) m p=_;unfold bindC;rw[Jl λv hv=>(gu.mp nd).1 (vv hv).1,ŀ hk];simp
 | p::P,w::vs,i+1,m,nd,h1,h2,hk=>by show bindC kindOf ((p,w)::P.zip vs) m x=_;unfold bindC;show Jm (i:=i) (gu.mp nd).2 (by simpa using h1) (by simpa using h2) hk
def start (N:Ĵ Ŋ)(vs:Ĵ V):St:=vs.Q ĳ++List.Ë (N.n-vs.n) ĺ
def pA (CX:yS)(P:Ň)(w:ŋ)(K:W.Ê)(mg:Ŋ->ĸ Ķ)(base:Ō)(N:Ĵ Ŋ)(qual:Ŋ)(scope:Ŗ)(f:Ĺ)(B:Ķ)(A:ō)(outer:Ĵ Env)(s:Ľ)(H:Hp)(E:XK):Cx where
 prog:=P
 w:=w
 K:=K
 mg:=mg
 base:=base
 A:=A.deeper<|envOfC qual scope s.d f B
 N:=N
 s₀:=s
 H₀:=H
 env:=envOfC qual scope s.d f B
 outer:=outer
 stack:=envOfC qual scope s.d f B::outer
 ex:=[]
 calm:=ķ
 fn:=λ_=>ķ
 pn:=[]
 xe:=λe s'=>Ł (ł P w) (A.deeper<|envOfC qual scope s.d f B) (leaving (envOfC qual scope s.d f B) e) (λ_ q=>CX outer H s E e q) (λe' q=>CX outer H s E e' q) s'
def Ln {sc:Ŗ}(h:sc.Ú.Æ x=ĳ .ñ):∃c,(cellsFrom n sc.Ú []).Æ x=ĳ c:=by show Option.isSome_iff_exists.mp (W.cellsFrom_some sc.Ú n []<|.Â h)
def zN {CX:yS}{K:W.Ê}{mg:Ŋ->ĸ Ķ}{N ps:Ĵ Ŋ}{qual:Ŋ}{scope:Ŗ}{A:ō}{outer:Ĵ Env}{E:XK}{vs:Ĵ V}(S:aX N ps scope)(hd:A.ò=ĺ)(D:xO P w K mg base A outer s H)(Z:vs.n=ps.n)(r:Vals vs us)(x:Ų s s.d (bindL (envOfC qual scope s.d f cd).ę (ps.zip us) λ_=>ĺ) (cellsFrom (s.d+1) scope.Ú []) (bindC (envOfC qual scope s.d f cd).ę (ps.zip us) λ_=>ĺ) s1)(htk:s.Ï<=s1.Ï):aL (pA CX P w K mg base N qual scope f cd A outer s H E) [] (start N vs) H s1:=by
 let O:ps.n<=N.n:=by have:=Œ List.n S.pre;rw[a8]at this;lia
 let(h1,tk,rfl,hk):=x.done;let J:∀b:Ĺ,b∉(pA CX P w K mg base N qual scope f cd A outer s H E).ex:=λb z=>ń (show b∈([]:Ĵ Ĺ) from z) yf;refine%[%[D.mod,S.þ,rb,rb,ah _,λy z c h1 B=>?_,λy F=>?_,λy c _ h=>?_,λ_=>hd,Around.frames_deeper D.frames,.Ó %[rb|rb],λb z=>ń z<|J b,D.bs,D.zG,λb _ _=>J b,λb z=>ń z<|J b,D.o7|D.Ey],
  rfl,D.bare,Un.ġ hk,%[0,_,x.Ĥ.ns|λi y v h1 B Y=>?_],λy c h=>%[_|x.ñ y c h],D.ê.ä<|ah _,λy c h=>?_,λp hp=>ń (show p∈([]:AC) from hp) yf,D.ê.ġ hk,?_,D.gh.up htk|htk]
 .show name_of_addr x.apart (pT h1)<|pT B
 .rcases F with F|F;.show Ln F
  .show ń rb<|S.adD _<|pT F
 .show ax<|x.above y c<|pT h
 .let hi:i<vs.n:=by
   unfold start at B;by_cases hi:i<vs.n;.show hi
   .rw[dC (by simpa using hi)]at B;rw[List.getElem?_replicate]at B;split at B <;> cases B
  let ha:vs[i]?=ĳ v:=by
   unfold start at B;rw[fc (by simpa using hi),ba]at B;cases e:vs[i]? with
   | none=>rw[e]at B;cases B
   | some a=>rw[e]at B;cases B;rfl
  let(u,L,M):=r.get ha;let hp:ps[i]?=ĳ y:=by rw[<-S.pre,oP (by simp_all)];show h1
  let G:ps.Ý:=by rw[<-S.pre];show S.nd.sublist<|tJ _ _
  calc%[0,u,M|?_];rcases S.par y (a5 hp) with k|k;.show .Â %[k|zM G hp L k]
  .let(c,e):=Ln (n:=s.d+1) k;calc .Ó %[14,.Â k,c,e|?_];let q:=x.ñ y c e;rw[Jm G hp L (by show scope.Ú.Æ y≠_;rw[k];decide)]at q;show q
 .show D.ê.ä<|ax<|x.above y c<|pT h
 .unfold start;show _=N.n;simp_all
def afw {CX:yS}{P:Ň}{w:ŋ}{K:W.Ê}{mg:Ŋ->ĸ Ķ}{base:Ō}{k:ĵ}{f:Ĺ}{name qual:Ŋ}{B:ŷ}{D:Ĵ ŏ}{scope:Ŗ}{dV kV doc pm bw ct oc:Ķ}{an od:ĸ Ĺ}{osl:Ņ (ĸ Ķ)}{N ps:Ĵ Ŋ}{sp:Sp}(lk:K.Æ f=ĳ %[oc,od,.func<|W.fnOf name qual B D scope dV kV doc pm an bw ct|osl])(hcd:W.codeIn K bw qual=ķ)(S:aX N ps scope)(len:∀vs H Q E,sp vs H Q E->vs.n=ps.n)(F:∀(A:ō) (outer:Ĵ Env) (s:Ľ) (H:Hp) (vs:Ĵ V) (Q:VK) (E:XK),dR k (A.deeper<|envOfC qual scope s.d f bw)->sp vs H Q E->
   ∃t,CT (pA CX P w K mg base N qual scope f bw A outer s H E) D t/\t {nx:=λ_ H'=>Q .ć H',rt:=Q} (start N vs) H) :
  tW P w K mg base CX (k+1) f (W.fnOf name qual B D scope dV kV doc pm an bw ct) ps sp:=by
 calc%[len|λA outer s H args us vs Q E Z L hb r O=>?_];let KX:K.In s.H:=L.mod.yR.Đ λb o e=>(L.bs b o e).1;let G:∀y∈ps.zip us,scope.Ú.Æ y.1=ĳ .ô\/(scope.Ú.Æ y.1=ĳ .ñ/\((cellsFrom (s.d+1) scope.Ú []).Æ y.1).ĝ=ķ):=λzq hy=>by
  let(n,v):=zq
  rcases S.par n (vv hy).1 with q|q;.show .Â q
  .show .Ó %[q|W.cellsFrom_some _ _ _<|.Â q]
 calc uB Z.depth (KX _ _ lk) rb S.co S.gen rb (wT KX hcd)<|hb _ _ _ _ ?_;calc cj<|wpAny_newFunctionEnv_cells S.þ G λenv he s1 x htk=>?_;subst he;calc%[(L.mod.nolimit.Đ λb o e=>(L.bs b o e).1).Đ x.Ĥ.keep|codeAny_func ?_];let(t,ht,hq):=F A outer s H vs Q E (Z.deeper _) O;let I:aL (pA CX P w K mg base N qual scope f bw A outer s H E) [] (start N vs) H s1:=zN S Z.hd L (len _ _ _ _ O) r x htk;calc gz (ht [] s1 (start N vs) H _ I hq) (λfl s' hs=>?_) λe s' hs=>hs;let M:∀{T':St} {H':Hp} {v:V} {u:Ķ},aL (pA CX P w K mg base N qual scope f bw A outer s H E) [] T' H' s'->bL v u->Q v H'->CE outer P w H s Q u s':=λ{T' H' v u} J rv q=>%[53,v,H',J.os,J.bare,J.ø,J.ê,rv,q,J.gh|J.tk]
 cases fl with
 | ret u=>let(v,T',H',J,rv,q):=hs;show M J rv q
 | next=>let(T',H',J,q):=hs;show M (v:=V.non) (u:=Value.none) J rb q
 | brk=>let(_,_,_,q):=hs;show False.î q
 | cont=>let(_,_,_,q):=hs;show False.î q
def Pb (x:Ų s L m cs cm s1)(n):Ų {s with toks:=n} L m cs cm s1:=%[%[let %[h,k|e]:=x.Ĥ.same;%[5,h,k|e],x.Ĥ.ns,x.Ĥ.keep|x.Ĥ.ä],x.ñ,x.apart|x.above]
def abp {s:Ľ}{sc:Ŗ}(hk:sc.þ=.ĭ)(B:sc.Ú.Æ n=ĳ .ô)(q:∀env,env=newEnv sc s.d gl (cellsFrom (s.d+1) sc.Ú []) qual fo cd ĺ bl->∀s',Ų s env.ď (bindL env.ę [(n,v)] λ_=>ĺ) env.Ĭ (bindC env.ę [(n,v)] λ_=>ĺ) s'->s.Ï<s'.Ï->Q env s'):Ł M A (newFunctionEnv sc gl [] [(n,v)] qual fo cd ĺ bl) Q E s:=by
 simp only[newFunctionEnv,Option.isSome_none,a9,if_false];calc ab<|wpAny_alloc<|ab<|wpAny_layCells _ (λa b c=>by cases h:b==NameKind.ñ <;> simp[h]) _ _ _ _ ?_;let ok:=cellsFrom_ok sc.Ú (s.H.Ò {cls:=.È "frame",data:=.dict #[]}) (s.d+1) [] ⟨(λ_ _ z=>nomatch z),.Ü⟩ (by rw[d6];show ah _);rw[d6]at ok;rw[show ({s with heap:=s.H.Ò {cls:=.È "frame",data:=.dict #[]} }:Ľ).d=s.d+1 from d6 ..];let x:Ų s s.d (λ_=>ĺ) (cellsFrom (s.d+1) sc.Ú []) (λ_=>ĺ) {s with heap:=pushCells (s.H.Ò {cls:=.È "frame",data:=.dict #[]}) sc.Ú}:=%[%[%[5,_,_|rb],(Heap.Ns.new s.H<|.È "frame").Đ<|pushCells_keeps _ _,λb o e=>pushCells_keeps _ _ b o<|ag _ e|ah _],λa c h=>(ok.empty a c<|mem_of_lookup h).1,ok.apart|λa c h=>(ok.empty a c h).2]
 calc ab ?_;rw[gv];calc ab<|ab<|wpAny_storeName_local (env:=newEnv sc s.d gl (cellsFrom (s.d+1) sc.Ú []) qual fo cd none bl) B x.Ĥ.ns (λh' hn hs=>?_) (by rw[show (newEnv sc s.d gl (cellsFrom (s.d+1) sc.Ú []) qual fo cd ĺ bl).ĉ.þ=.ĭ from hk];rfl);calc af ?_;dsimp only;calc af<|af<|q _ rb _ %[%[%[5,h',_|rb],?_,λb o e=>?_|x.Ĥ.ä],λk c D=>?_,x.apart|x.above]<|eQ _;.unfold bindL;rw[Ŀ (show (newEnv sc s.d gl (cellsFrom (s.d+1) sc.Ú []) qual fo cd ĺ bl).ę n=ĳ .ô from B)];show hn
 .show hs.á b o (bn<|bq (a6 e) x.Ĥ.ä)<|x.Ĥ.keep b o e
 .unfold bindC;rw[Ŀ (show (newEnv sc s.d gl (cellsFrom (s.d+1) sc.Ú []) qual fo cd ĺ bl).ę n=ĳ .ô from B)];show(x.ñ k c D).sameBut hs<|ii<|x.above k c<|mem_of_lookup D
def adE {P:Ň}{w:ŋ}{K:W.Ê}{mg:Ŋ->ĸ Ķ}{base:Ō}{k:ĵ}{f:Ĺ}{name qual y:Ŋ}{B:ŷ}{D:Ĵ ŏ}{scope:Ŗ}{dV kV doc pm bw ct oc:Ķ}{an od:ĸ Ĺ}{osl:Ņ (ĸ Ķ)}{N:Ĵ Ŋ}{sp:Sp}(lk:K.Æ f=ĳ %[oc,od,.func<|W.fnOf name qual B D scope dV kV doc pm an bw ct|osl])(Z:W.codeIn K bw qual=ķ)(S:aX N [y] scope)(hl:scope.Ú.Æ y=ĳ .ô)(len:∀vs H Q E,sp vs H Q E->vs.n=1)(G:∀(A:ō) (outer:Ĵ Env) (s:Ľ) (H:Hp) (vs:Ĵ V) (Q:VK) (E:XK),dR k (A.deeper<|envOfC qual scope s.d f bw)->sp vs H Q E->
   ∃t,CT (pA (λ_ _ _ _ _ _=>ř) P w K mg base N qual scope f bw A outer s H E) D t/\t {nx:=λ_ H'=>Q .ć H',rt:=Q} (start N vs) H) :
  qM P w K mg base (λ_ _ _ _ _ _=>ř) (k+1) f (W.fnOf name qual B D scope dV kV doc pm an bw ct) [y] sp:=by
 calc⟨λA outer s H args us vs Q E Y e1 hb r M=>?_⟩;let L:=e1 s.Ï;let F:=len _ _ _ _ M;let KX:K.In s.H:=L.mod.yR.Đ λb o e=>(L.bs b o e).1;obtain⟨u,rfl⟩:∃u,us=[u]:=by
  have:=r.n
  match us,this with
  | [u],_=>show%[u|rb]
  | [],h=>rw[F]at h;cases h
  | _::_::_,h=>rw[F]at h;cases h
 calc uB Y.depth (KX _ _ lk) rb S.co S.gen rb (wT KX Z)<|hb _ _ _ _ ?_;calc abp S.þ hl λenv he s1 x htk=>?_;subst he;calc%[(L.mod.nolimit.Đ λb o e=>(L.bs b o e).1).Đ x.Ĥ.keep|codeAny_func ?_];let(t,ht,hq):=G A outer {s with toks:=s.Ï+1} H vs Q E (Y.deeper _) M;calc gz (ht [] s1 (start N vs) H _ (zN (CX:=λ_ _ _ _ _ _=>ř) (s:={s with toks:=s.Ï+1}) (E:=E) (us:=[u]) S Y.hd L F r (Pb x<|s.Ï+1) htk) hq) (λfl s' hs=>?_) λe s' hs=>hs;cases fl with
 | ret u=>let(v,T',H',J,rv,q):=hs;show%[53,v,H',J.os,J.bare,J.ø,J.ê,rv,q,J.gh|Nat.le_of_succ_le J.tk]
 | next=>let(T',H',J,q):=hs;show%[53,.ć,H',J.os,J.bare,J.ø,J.ê,rb,q,J.gh|Nat.le_of_succ_le J.tk]
 | brk=>let(_,_,_,q):=hs;show False.î q
 | cont=>let(_,_,_,q):=hs;show False.î q
section
variable {X:Cx}{x:Ŋ}{p pos:Pos}{e:Ő}{es:Ĵ Ő}{t:TA}{id T:ŗ}{r:Ĵ V->Hp->VK->Prop}
def tCB (r:Ĵ V->Hp->VK->Prop)(t:TA):TE:=λC H Q=>t C H λvs H1=>r vs H1 Q
def aO (F:d7 X (.Õ id) r)(G:Gl X x)(hm:X.mg x=ĺ)(hv:bootBuiltins x=ĳ (.Õ id))(ha:QA X (e::es) t)(hn:Ž (x≠"__name__") ſ)(q:Ž ((x==("__debug__":Ŋ))=Ļ) ſ)(D:Ž (ŉ (e::es) X.É=(Ļ,Ŕ e X.É)::ŉ es X.É) ž)(B:Ž ((backTo pos<|ŉ es X.É).đ (·.1)=Ļ) ž):QE X (.ĩ (.å x p) (e::es) [] pos) (tCB r t):=⟨by
 intro ao s C H Q I h;calc n5<|nA I G hm hv ?_ hn q;show PyProof.â.callWith_builtin1 (bJ (ha.ã pos ao s C H _ I h) λus s1 zq=>by let(vs,H1,I1,r1,q1):=zq;exact F ao s1 C H1 vs us Q I1 r1 q1) D B⟩
def c7 (F:d7 X (.È T) r)(G:Gl X x)(hm:X.mg x=ĺ)(hv:bootBuiltins x=ĳ (.È T))(ha:QA X (e::es) t)(hn:Ž (x≠"__name__") ſ)(q:Ž ((x==("__debug__":Ŋ))=Ļ) ſ)(D:Ž (ŉ (e::es) X.É=(Ļ,Ŕ e X.É)::ŉ es X.É) ž)(B:Ž ((backTo pos<|ŉ es X.É).đ (·.1)=Ļ) ž):QE X (.ĩ (.å x p) (e::es) [] pos) (tCB r t):=⟨by
 intro ao s C H Q I h;calc n5<|nA I G hm hv ?_ hn q;show g6 (bJ (ha.ã pos ao s C H _ I h) λus s1 zq=>by let(vs,H1,I1,r1,q1):=zq;exact F ao s1 C H1 vs us Q I1 r1 q1) D B⟩
end
end L2
namespace HT
open PySem PyProof.Rows
section
variable {prog:Ň}{w:ŋ}{A:ō}{E:AB}{s:Ľ}
def abq {vs ws:Ĵ Ķ}(ht:ź s.H t vs.Y)(hb:ź s.H b ws.Y)(hv:vs≠[])(h1:ws=[]->Q (.C t) s)(Z:ws≠[]->Q (.C s.d) {s with heap:=s.H.Ò {cls:=.È "tuple",data:=.ð (vs++ws).Y} })(hsz:vs.n+ws.n<=Ń):Ł (ł prog w) A (binaryOp .Add (.C t)<|.C b) Q E s:=by
 let((cls,O,data,sl),J,M,n,hd):=id ht;let((Y,D,L,B),q,G,N,F):=id hb;simp only at M hd G F;subst M hd G F;by_cases hw:ws=[]
 .show concat_meets %[0,_,J|rb] %[0,_,q|rb] noFill_tuple_add seq_tuple_add tS tq (sF _ _)
   (tuple_addW1 t b vs.Y ws.Y n N O D sl B (by simpa using hv) (by simp[hw])) %[J,q|h1 hw]
 .refine concat_meets %[0,_,J|rb] %[0,_,q|rb] noFill_tuple_add seq_tuple_add tS tq (sF _ _)
   (tuple_addW2 t b vs.Y ws.Y n N O D sl B (by simpa using hv) (by simpa using hw) (by show hsz)) %[J,q|?_]
  rw[(show vs.Y++ws.Y=(vs++ws).Y from yf)];show Z hw
def cL (n d:ĵ):ĸ ļ->ĵ
 | none=>d
 | some v=>if v<0 then (v+(n:ļ)).Ö else min v.Ö n
def YD (n d):cL n d ĺ=d:=rfl
def wF (n d k:ĵ):cL n d (ĳ (k:ļ))=min k n:=by show (if (k:ļ)<0 then ((k:ļ)+(n:ļ)).Ö else min (k:ļ).Ö n)=min k n;rw[ŀ ye,b3]
def Vu (n d)(hd:d<=n)(o):cL n d o<=n:=by
 cases o with
 | none=>show hd
 | some v=>
  show (if v<0 then (v+(n:ļ)).Ö else min v.Ö n)<=n;by_cases hv:v<0;.rw[Ŀ hv];lia
  .rw[ŀ hv];show xC _ _
def Br (v:ļ)(n d:ĵ):(if v<0 then max (v+(n:ļ)) 0 else min v (n:ļ))=((cL n d (ĳ v):ĵ):ļ):=by
 show (if v<0 then max (v+(n:ļ)) 0 else min v (n:ļ))=(((if v<0 then (v+(n:ļ)).Ö else min v.Ö n):ĵ):ļ)
 by_cases hv:v<0;.simp only[Ŀ hv];lia
 .simp only[ŀ hv];grind
def S_ (lo hi:ĸ ļ)(n:ĵ):Builtin.Slice.sliceAdjust lo hi 1 (n:ļ)=(((cL n 0 lo:ĵ):ļ),((cL n n hi:ĵ):ļ)):=by
 unfold Builtin.Slice.sliceAdjust;refine ue ?_ ?_
 .cases lo with| none=>rfl| some v=>show Br v n 0
 .cases hi with| none=>rfl| some v=>show Br v n n
def Tc (i j:ĵ):Builtin.Slice.slicePlaces (i:ļ) (j:ļ) 1=j-i:=by unfold Builtin.Slice.slicePlaces;simp only[(show (1:ļ) > 0 from ye),if_true,Int.ediv_one];split <;> simp_all
def Fg (p:Ũ v o)(h:Q o s):Ł (ł prog w) A (Builtin.Slice.slicePartIndex v) Q E s:=by
 cases p with| none=>show slicePart_none h| int i t=>show slicePart_int h
def DG {sl:Ĺ}{vl D:Ķ}{lo hi:ĸ ļ}{n:ĵ}{Q:ļ×ļ×ĵ->Ľ->Prop}(hs:s.H.IsSliceOf sl vl D .ß)(pl:Ũ vl lo)(G:Ũ D hi)(h:Q (((cL n 0 lo:ĵ):ļ),1,cL n n hi-cL n 0 lo) s):Ł (ł prog w) A (Builtin.Slice.sliceApplied (.C sl)<|pure (n:ļ)) Q E s:=by let(os,q,F,B):=id hs;calc ab<|ab<|im q B (x:=vl) rb<|ab<|im q B (x:=D) rb<|ab<|im q B (x:=.ß) rb<|af ?_;calc ab<|slicePart_none ?_;calc ab<|Fg pl<|ab<|Fg G<|ab<|af ?_;show Ł _ _ (match Builtin.Slice.sliceAdjust lo hi 1 (n:ļ) with|(lo,hi)=>pure (lo,(1:ļ),Builtin.Slice.slicePlaces lo hi 1)) _ _ s;rw[S_ lo hi n];show Ł _ _ (pure (((cL n 0 lo:ĵ):ļ),(1:ļ),Builtin.Slice.slicePlaces ((cL n 0 lo:ĵ):ļ) ((cL n n hi:ĵ):ļ) 1)) _ _ s;rw[Tc];show af h
def YF (xs:Ņ Ķ)(i k:ĵ):((List.æ k).û λ(m:ĵ)=>xs[((i:ļ)+(m:ļ)*1).Ö]?).Y=((xs.I.Î i).Å k).Y:=by
 let e:(λ(m:ĵ)=>xs[((i:ļ)+(m:ļ)*1).Ö]?)=λm=>xs[i+m]?:=by
  funext m;have:((i:ļ)+(m:ļ)*1).Ö=i+m:=by lia
  rw[this]
 rw[e];have:=pick_run xs i k;rw[List.filterMap_map]at this;rw[(show ((λx=>xs[x]?) ∘ λx=>i+x)=λm=>xs[i+m]? from rfl)]at this;rw[this]
def CJ {lo hi:ĸ ļ}(B:ź s.H t items)(hs:s.H.IsSliceOf sl vl vu .ß)(pl:Ũ vl lo)(N:Ũ vu hi)(hw:¬(cL items.E 0 lo=0/\cL items.E items.E hi=items.E))(h:Q (.C s.d) {s with heap:=s.H.Ò {cls:=.È "tuple",data:=.ð ((items.I.Î<|cL items.E 0 lo).Å<|cL items.E items.E hi-cL items.E 0 lo).Y} })(hsz:items.E<=Ń):Ł (ł prog w) A (getItem (.C t)<|.C sl) Q E s:=by
 let J:sizeOk (.ð ((items.I.Î<|cL items.E 0 lo).Å<|cL items.E items.E hi-cL items.E 0 lo).Y):=by show ((items.I.Î<|cL items.E 0 lo).Å<|cL items.E items.E hi-cL items.E 0 lo).Y.E<=Ń;rw[bP,a8,cn,bo];show aw (Nat.min_le_right _ _) (aw (nS _ _) hsz)
 let(os,F,D,M):=id hs;let L:s.Ā (.C sl) "slice":=%[0,os,F|D]
 unfold getItem
 try with_reducible refine eK ?_
 first|refine ab<|af ?_|skip
 calc ab<|wpAny_sequenceKey B.Ġ yi ?_;refine ab (ee (name:=Str.ċ "__getitem__") B.Ġ qi
 <|de qi B.Ġ entry_tuple_getitem ?_<|args_tuple_getitem _ _)
 show Ł _ _ (Builtin.Ă.tupleItemsOf (.C t) >>= _) _ _ s;calc ab<|tupleItemsOf_ B ?_;calc ab<|vw L ?_;calc ab<|DG hs pl N ?_;let G:¬((((cL items.E 0 lo:ĵ):ļ)==0&&(1:ļ)==1&&(cL items.E items.E hi-cL items.E 0 lo)==items.E)=ķ):=by intro q;rw[df,df]at q;let q1:((cL items.E 0 lo:ĵ):ļ)=0:=eq_of_beq q.1.1;let q2:cL items.E items.E hi-cL items.E 0 lo=items.E:=eq_of_beq q.2;show hw %[Iff.mp Int.ofNat_inj q1|by simp_all]
 show Ł _ _ (if (((cL items.E 0 lo:ĵ):ļ)==0&&(1:ļ)==1&&(cL items.E items.E hi-cL items.E 0 lo)==items.E)=ķ then _ else _) _ _ s;rw[ŀ G,YF]
 first| show ab (m:=Builtin.Ă.tupleExact _)<|dE (af %[0,_,rb|af h]) J| show ab (m:=Builtin.Ă.tupleExact _)<|dE (ab<|af<|af %[_,rb|af h]) J| show ab<|ab (m:=Builtin.Ă.tupleExact _)<|dE (af<|af %[_,rb|af h]) J| show ab<|ab (m:=Builtin.Ă.tupleExact _)<|dE (af %[_,rb|af h]) J
end
end HT
namespace L2
open PySem PySem.Spec PyProof.Rows
abbrev TO:=St->Hp->(ĸ ļ->Hp->Prop)->Prop
def PO (X:Cx)(e:ĸ Ő)(t:TO):Prop:=∀(ao:AC) (s:Ľ) (I:St) (H:Hp) (Q:ĸ ļ->Hp->Prop),aL X ao I H s->t I H Q->
  Ł (ł X.Ñ X.w) X.A (evalPart e X.É) (λu s'=>∃o H',aL X ao I H' s'/\Ũ u o/\Q o H') X.xe s
structure QO (X:Cx)(e:ĸ Ő)(t:TO):Prop where
 out:PO X e t
def Bs:TO:=λ_ H Q=>Q ĺ H
def KN (t:TE):TO:=λI H Q=>t I H λx H1=>∃i,x=.R i/\Q (ĳ i) H1
section
variable {X:Cx}{e:Ő}{te:TE}{lo hi:ĸ Ő}{tl th:TO}{pos p2:Pos}
def mR  : QO X ĺ Bs:=⟨by
 intro ao s C H Q I h;show af %[1,ĺ,H,I,.ß|h]⟩
def iQ (h:QE X e te):QO X (ĳ e) (KN te):=⟨by
 intro ao s C H Q I hw;calc bJ (h.ã ao s C H _ I hw) λu s1 zq=>?_;let(x,H1,I1,r1,q1):=zq;let(i,rfl,q):=q1;let(t,rfl):=r1;show%[1,ĳ i,H1,I1,.R i t|q]⟩
def Vv (X:Cx)(r:V->ĸ ļ->ĸ ļ->Hp->VK->Prop):Prop:=∀(ao:AC) (s:Ľ) (C:St) (H:Hp) (x:V) (v vl q:Ķ) (lo hi:ĸ ļ) (sl:Ĺ) (Q:VK),aL X ao C H s->bL x v->s.H.IsSliceOf sl vl q .ß->Ũ vl lo->Ũ q hi->r x lo hi H Q->
  ∃T id,typeLookup (.È T) "__getitem__"=pure (ĳ<|.Õ id)/\s.Ā v T/\Ł (ł X.Ñ X.w) X.A (getItem v<|.C sl) (EP X ao C Q) X.xe s
def tSl (r:V->ĸ ļ->ĸ ļ->Hp->VK->Prop)(te:TE)(tl th:TO):TE:=λC H Q=>te C H λx H1=>tl C H1 λl B=>th C B λu q=>r x l u q Q
def iW (N:Vv X r)(G:QE X e te)(O:QO X lo tl)(hu:QO X hi th):QE X (.Č e (.Slice lo hi ĺ p2) pos) (tSl r te tl th):=⟨by
 intro ao s C H Q I h;calc Ů<|bJ (G.ã ao s C H _ I h) λv s1 zq=>?_;let(x,H1,I1,r1,q1):=zq;calc wpAny_Slice<|bJ (O.ã ao s1 C H1 _ I1 q1) λvl s2 ⟨l,M,I2,pl,q2⟩=>bJ (hu.ã ao s2 C M _ I2 q2) λD B zq=>?_;let(u,F,J,pu,q3):=zq;calc af ?_;let(T,id,L,Z,hg):=N ao {B with heap:=B.H.Ò {cls:=.È "slice",data:=.ì #[vl,D,.ß]} } C F x v vl D l u B.d Q (J.ġ (t':=B.toks) λb ob q=>ag _ q) r1 (Heap.IsSliceOf.new ..) pl pu q3;show tail_any (ops:=[.C B.d,v]) Z L hg (by with_unfolding_all rfl)⟩
def lH (xs:Ĵ V)(lo hi:ĸ ļ):Ĵ V:=(xs.Î<|HT.cL xs.n 0 lo).Å (HT.cL xs.n xs.n hi-HT.cL xs.n 0 lo)
def CZ (xs)(lo hi):(lH xs lo hi).n<=xs.n:=by unfold lH;rw[a8,cn];show aw (Nat.min_le_right _ _) (nS _ _)
def adF (K:W.Ê):V->ĸ ļ->ĸ ļ->Hp->VK->Prop:=λx lo hi H Q=>∃a xs,x=.C a/\aM K H a xs/\
 ¬(HT.cL xs.n 0 lo=0/\HT.cL xs.n xs.n hi=xs.n)/\∀p,H p=ĺ->Q (.C p) (upd H p<|.Ã<|lH xs lo hi)
def adG:Vv X (adF X.K):=by
 intro ao s C H x v vl J lo hi sl Q I F hs pl G h;let(a,xs,rfl,hx,hw,q):=h;cases F;let(its,r,D,hz):=I.ğ hx;let B:its.Y.E=xs.n:=by show r.n.Ù
 calc%[1,"tuple",_,qi.Æ,D.Ġ|?_];calc HT.CJ D hs pl G (by rw[B];show hw) ?_ (by rw[B];show hz);rw[B];calc%[1,.C s.d,_,I.Ĝ (t':=s.toks) (o:=.Ã (lH xs lo hi)) (λb ob q=>ag _ q) (ah _) ?_,rb|q _<|I.ê.ä<|ah _];show%[14,aw (CZ xs lo hi) hz,_,(r.Î<|HT.cL xs.n 0 lo).Å<|HT.cL xs.n xs.n hi-HT.cL xs.n 0 lo|IsTup.new _ _]
def Vals.Bu (r:Vals xs us):us=[]↔xs=[]:=by
 cases r with| nil=>simp| cons _ _=>simp
end
def C_ (n:ĵ)(i:ļ):ĸ ĵ:=if 0<=i then (if i<n then ĳ i.Ö else ĺ) else if -(n:ļ)<=i then ĳ (i+n).Ö else ĺ
def ju {I:Type}(xs:Ĵ I)(i:ļ):ĸ I:=(C_ xs.n i).bind λj=>xs[j]?
def Qt (h:C_ n i=ĳ j):seqIndex? i n=ĳ j/\j<n/\-(n:ļ)<=i/\i<n:=by
 unfold C_ at h;by_cases q:0<=i
 .rw[Ŀ q]at h;by_cases h1:i<n
  .rw[Ŀ h1]at h;let e:i.Ö=j:=bd h;show%[by rw[seqIndex_of q h1,e],ye,ye|h1]
  .rw[ŀ h1]at h;cases h
 .rw[ŀ q]at h;by_cases h1:-(n:ļ)<=i
  .rw[Ŀ h1]at h;show%[by rw[seqIndex_neg ye h1,(bd h)],ye,h1|ye]
  .rw[ŀ h1]at h;cases h
def Bv {I:Type}{xs:Ĵ I}{v:I}(h:ju xs i=ĳ v):∃j,seqIndex? i xs.n=ĳ j/\xs[j]?=ĳ v/\j<xs.n/\-(xs.n:ļ)<=i/\i<xs.n:=by
 unfold ju at h;cases e:C_ xs.n i with
 | none=>rw[e]at h;cases h
 | some j=>rw[e]at h;let(h1,q,D,B):=Qt e;show%[15,j,h1,h,q,D|B]
def aQ {I:Type}{xs:Ĵ I}{j:ĵ}{v:I}(h:xs[j]?=ĳ v):ju xs (j:ļ)=ĳ v:=by
 let e:C_ xs.n (j:ļ)=ĳ j:=by unfold C_;rw[Ŀ (ie eJ ((ap.mp h).1))];simp
 unfold ju;rw[e];show h
def YG {I:Type}(xs:Ĵ I)(v:I):ju (xs++[v]) (-1)=ĳ v:=by
 let e:C_ (xs++[v]).n (-1)=ĳ xs.n:=by unfold C_;simp +arith
 unfold ju;rw[e];simp
def Qu (b:Ő):Prop:=∀o i,subscripted b Ļ o i=operate [o,i] (getItem o i)
def Lp (X:Cx)(r:R2):Prop:=∀(value q:Ő) (ao:AC) (s:Ľ) (I:St) (H:Hp) (x y:V) (v u:Ķ) (Q:VK),aL X ao I H s->bL x v->bL y u->r x y H Q->
  subscripted q Ļ v u=operate [v,u] (getItem v u)->Ł (ł X.Ñ X.w) X.A (subscriptTail value q v u) (EP X ao I Q) X.xe s
def wG (X:Cx)(id:ŗ)(r:V->Ĵ V->Hp->VK->Prop):Prop:=∀(ao:AC) (s:Ľ) (I:St) (H:Hp) (x:V) (xs:Ĵ V) (v:Ķ) (us:Ĵ Ķ) (Q:VK),aL X ao I H s->bL x v->Vals xs us->r x xs H Q->
  Ł (ł X.Ñ X.w) X.A (call (.Õ id)<|v::us) (EP X ao I Q) X.xe s
section
variable {X:Cx}{a b:Ő}{ta tb:TE}{pos:Pos}
def bB (J:Lp X r)(ha:QE X a ta)(G:QE X b tb)(hs:Qu b):QE X (.Č a b pos) (wD r ta tb):=⟨by
 intro ao s C H Q I h;show Ů<|Yx ha.ã G.ã I h λv u s2 x y D I2 F B q=>J a b ao s2 C D x y v u Q I2 F B q<|hs _ _⟩
def adH (K:W.Ê):R2:=λx y H Q=>∃p xs i v,x=.C p/\y=.R i/\aP K H p xs/\ju xs i=ĳ v/\Q v H
def Td (K:W.Ê):R2:=λx y H Q=>∃p xs i v,x=.C p/\y=.R i/\aM K H p xs/\ju xs i=ĳ v/\Q v H
def adI:R2:=λx y H Q=>∃z i c,x=.À z/\y=.R i/\z.n<=Ń/\ju z.ē.I i=ĳ c/\Q (.À ⟨#[c]⟩) H
def iR:Lp X (adH X.K):=by
 intro value D ao s C H x y v u Q I rx Z h hs;let(p,xs,i,z,rfl,rfl,hq,L,q):=h;cases rx;let(t,rfl):=Z;let(its,r,pl,hz):=I.ĕ hq;let(j,h1,M,h3,N,O):=Bv L;let(w,G,Y):=r.get M;let hl:=r.n;let hn:=tV;let B:EP X ao C Q w s:=%[1,z,H,I,Y|q]
 by_cases J:0<=i
 .let F:i.Ö=j:=by
   rw[seqIndex_of J O]at h1;show bd h1
  show item_listR pl.ö J ye (by rw[F];simpa using G) B hs
 .let F:(i+(its.Y.E:ļ)).Ö=j:=by
   rw[seqIndex_neg ye N]at h1;rw[bP,<-hl];show bd h1
  show subscriptTail_builtinR (x:=w) pl.ö.Ġ slot_list_getitem.Æ
   (wpAny_getItem_list_neg (Q:=λr s'=>r=w/\EP X ao C Q r s') pl.ö ye (by rw[bP] <;> lia) ye (by rw[F];simpa using G) %[rb|B]) hs
def bY:Lp X (Td X.K):=by
 intro value B ao s C H x y v u Q I L J h hs;let(p,xs,i,z,rfl,rfl,Y,F,q):=h;cases L;let(t,rfl):=J;let(its,r,pl,hz):=I.ğ Y;let(j,h1,G,h3,Z,h5):=Bv F;let(w,M,O):=r.get G;let hn:=tV;let D:EP X ao C Q w s:=%[1,z,H,I,O|q]
 show subscriptTail_builtinR (x:=w) pl.Ġ slot_tuple_getitem.Æ
  (getItem_tuple (j:=j) (Q:=λr s'=>r=w/\EP X ao C Q r s') pl ye ye (by rw[bP,<-r.n];show h1) (by simpa using M) %[rb|D]) hs
def adJ:Lp X adI:=by
 intro value B ao s C H x y v u Q I N L h hs;let(z,i,c,rfl,rfl,hz,D,q):=h;let(t,rfl):=N;let(t',rfl):=L;let(j,h1,F,Z,G,J):=Bv D;let O:z.ē.I.n=z.n:=by simp[Str.length]
 rw[O]at h1 G J;let hn:=tV;show tail_any (typeIs_str s z t) slot_str_getitem.Æ (getItem_str (c:=c) (by
  rw[(al ye),(al ye),si]) (by rw[h1];simpa using F) %[1,.À ⟨#[c]⟩,H,I.tok _,%[_|rb]|q]) hs
def Te (its:Ĵ Ķ)(n j)(u):Obj.Ĳ (·.ï j u) {cls:=.È "list",data:=.ð its.Y n}={cls:=.È "list",data:=.ð (its.Ď j u).Y n}:=by simp[Obj.mapSeq]
def aL.lst {ao:AC}{C:St}{H:Hp}{s:Ľ}{p:Ĺ}{xs:Ĵ V}(I:aL X ao C H s)(h:H p=ĳ (.Ç xs)):∃(its:Ĵ Ķ) (n:Nat),Vals xs its/\s.H.Á p=ĳ {cls:=.È "list",data:=.ð its.Y n}/\xs.n<=Ń:=by let(z,its,n,r,e):=I.ê p _ h;show%[1,its,n,r,e|z]
def aL.adK {ao:AC}{C:St}{H:Hp}{s:Ľ}{p:Ĺ}{xs ys:Ĵ V}{its its':Ĵ Ķ}{n n':ĵ}{f:Obj->Obj}(I:aL X ao C H s)(h:H p=ĳ (.Ç xs))(B:s.H.Á p=ĳ {cls:=.È "list",data:=.ð its.Y n})(hf:f {cls:=.È "list",data:=.ð its.Y n}={cls:=.È "list",data:=.ð its'.Y n' })(r:Vals ys its')(hz:ys.n<=Ń)(t:ĵ)(F:Ž (s.Ï<=t) δ):aL X ao C (upd H p<|.Ç ys) {s with heap:=s.H.ī p f,toks:=t}:=by
 let e:(s.H.ī p f).Á p=ĳ {cls:=.È "list",data:=.ð its'.Y n' }:=by rw[f8 f B (by rw[hf] <;> rfl),hf]
 calc I.write (x:=p) (e:=p) (by rw[h];trivial) (.Â rb) (λb u D q=>(md _ _<|lS D).Z q) %[_|e] ?_;show%[16,hz,its',n',r|e]
def afx:V->V->V->Hp->(Hp->Prop)->Prop:=λo i v H Q=>∃p xs k j,o=.C p/\i=.R k/\H p=ĳ (.Ç xs)/\C_ xs.n k=ĳ j/\Q (upd H p<|.Ç<|xs.Ď j v)
def set_list:Yw X afx:=by
 intro ao s C H o i v ov Y u Q I L M N h;let(p,xs,k,j,rfl,rfl,hp,O,q):=h;cases L;let(t,rfl):=M;let(its,n,r,B,hz):=I.Ç hp;let(h1,Z,G,F):=Qt O;let D:=r.n;let hn:=tV;let I':aL X ao C (upd H p<|.Ç<|xs.Ď j v) {s with heap:=s.H.ī p (Obj.Ĳ (·.ï j u))}:=I.adK hp B (Te its n j u) (r.Ď N j) (by rw[qr];show hz) s.Ï
 by_cases J:0<=k
 .let hk:k.Ö=j:=by
   rw[seqIndex_of J F]at h1;show bd h1
  show W.ki_setAt B J ye (by rw[bP,<-D];show F) (by rw[hk];show%[0,_,I'|q])
 .let hk:(k+(its.Y.E:ļ)).Ö=j:=by
   rw[seqIndex_neg ye G]at h1;rw[bP,<-D];show bd h1
  show W.ki_setBack B ye (by rw[bP,<-D];show G) ye (by rw[hk];show%[0,_,I'|q])
def Lq (lo hi)(n):(sliceBounds lo hi ĺ n).1=((HT.cL n 0 lo:ĵ):ļ)/\(sliceBounds lo hi ĺ n).2.1=((HT.cL n n hi:ĵ):ļ)/\(sliceBounds lo hi ĺ n).2.2=1:=by
 refine%[?_,?_|rb]
 .cases lo with
  | none=>simp[sliceBounds,HT.cL]
  | some i=>
   simp only[sliceBounds,HT.cL,Option.getD_none,show (1:ļ) > 0 by decide,if_true];by_cases h:i<0
   .simp only[h,if_true] <;> grind
   .simp only[h,if_false] <;> grind
 .cases hi with
  | none=>simp[sliceBounds,HT.cL]
  | some i=>
   simp only[sliceBounds,HT.cL,Option.getD_none,show (1:ļ) > 0 by decide,if_true];by_cases h:i<0
   .simp only[h,if_true] <;> lia
   .simp only[h,if_false] <;> lia
def Kf (its:Ĵ Ķ)(lo hi):slicePick its.Y lo hi ĺ=((its.Î<|HT.cL its.n 0 lo).Å<|HT.cL its.n its.n hi-HT.cL its.n 0 lo).Y:=by let(h1,q,B):=Lq lo hi its.Y.E;unfold slicePick;rw[h1,q,B];simp only[sliceRange_one,pick_run,bP] <;> rfl
def agz (K:W.Ê):V->ĸ ļ->ĸ ļ->Hp->VK->Prop:=λx lo hi H Q=>∃a xs,x=.C a/\aP K H a xs/\∀p,H p=ĺ->Q (.C p) (upd H p<|.Ç<|lH xs lo hi)
def Bw:Vv X (agz X.K):=by intro ao s C H x v vl J lo hi sl Q I F hs pl G h;let(a,xs,rfl,hx,q):=h;cases F;let(its,r,B,hz):=I.ĕ hx;let D:=r.n;calc%[1,"list",_,slot_list_getitem.Æ,B.ö.Ġ|?_];calc wpAny_getItem_list_slice B.ö hs pl G .ß yf ?_ (by rw[bP] <;> simp_all);rw[Kf,<-D];calc%[1,.C s.d,_,I.Ĝ (t':=s.toks) (o:=.Ç (lH xs lo hi)) (λb ob q=>ag _ q) (ah _) ?_,rb|q _<|I.ê.ä<|ah _];show%[16,aw (CZ xs lo hi) hz,_,0,(r.Î<|HT.cL xs.n 0 lo).Å<|HT.cL xs.n xs.n hi-HT.cL xs.n 0 lo|aT _ rb]
def pB:V->œ
 | .ć=>true
 | .bl _=>true
 | .R _=>true
 | .À _=>true
 | _=>false
def rR:V->V->œ
 | .ć,.ć=>true
 | .bl a,.bl b=>a==b
 | .bl a,.R b=>(if a then 1 else 0)==b
 | .R a,.bl b=>a==(if b then 1 else 0)
 | .R a,.R b=>a==b
 | .À a,.À b=>a==b
 | _,_=>false
def adL (D:bL y u)(q:bL x v)(F:pB y=ķ)(B:pB x=ķ):SeqAt.EqAt A s u v (rR y x):=by
 cases y with
 | non=>
  cases D;cases x with
  | non=>cases q;show SeqAt.EqAt.same _
  | bl b=>cases q;show SeqAt.EqAt.none_bool b
  | int b=>let(t,rfl):=q;show SeqAt.EqAt.none_int b t
  | str b=>let(t,rfl):=q;show SeqAt.EqAt.none_str b t
  | _=>show ń (show Ļ=ķ from B) ck
 | bl a=>
  cases D;cases x with
  | non=>cases q;show SeqAt.EqAt.bool_none a
  | bl b=>cases q;show SeqAt.EqAt.bool_bool a b
  | int b=>let(t,rfl):=q;show SeqAt.EqAt.bool_int a b t
  | str b=>let(t,rfl):=q;show SeqAt.EqAt.bool_str a b t
  | _=>show ń (show Ļ=ķ from B) ck
 | int a=>
  let(t',rfl):=D;cases x with
  | non=>cases q;show SeqAt.EqAt.int_none a t'
  | bl b=>cases q;show SeqAt.EqAt.int_bool a t' b
  | int b=>let(t,rfl):=q;show iS a t' b t
  | str b=>let(t,rfl):=q;show SeqAt.EqAt.int_str a t' b t
  | _=>show ń (show Ļ=ķ from B) ck
 | str a=>
  let(t',rfl):=D;cases x with
  | non=>cases q;show SeqAt.EqAt.str_none a t'
  | bl b=>cases q;show SeqAt.EqAt.str_bool a t' b
  | int b=>let(t,rfl):=q;show SeqAt.EqAt.str_int a t' b t
  | str b=>let(t,rfl):=q;show SeqAt.EqAt.str_str a t' b t
  | _=>show ń (show Ļ=ķ from B) ck
 | _=>show ń (show Ļ=ķ from F) ck
def tX (x:V)(u:Ķ):œ:=match u with| .ß=>rR .ć x| .Ć b=>rR (.bl b) x| .R i _=>rR (.R i) x| .À z _=>rR (.À z) x| _=>false
def Vw (r:bL y u)(f:pB y=ķ):tX x u=rR y x:=by
 cases y with
 | non=>cases r;rfl
 | bl b=>cases r;rfl
 | int i=>let(t,rfl):=r;rfl
 | str z=>let(t,rfl):=r;rfl
 | _=>show ń (show Ļ=ķ from f) ck
theorem wH:∀{xs:Ĵ V} {us:Ĵ Ķ},Vals xs us->xs.ė pB=ķ->us.đ (tX x)=xs.đ λy=>rR y x
 | _,_,.Ü,_=>rfl
 | y::xs,u::us,.Ð r t,f=>by rw[xa,df]at f;rw[oo,oo,Vw r f.1,wH t f.2]
theorem tY (B:bL x v)(D:pB x=ķ):∀{xs:Ĵ V} {us:Ĵ Ķ},Vals xs us->xs.ė pB=ķ->∀u∈us,SeqAt.EqAt A s u v (tX x u)
 | _,_,.Ü,_=>λu q=>by cases q
 | y::xs,u::us,.Ð r t,f=>λu' q=>by
  rw[xa,df]at f;rcases a_.mp q with rfl|q;.rw[Vw r f.1];show adL r B f.1 D
  .show tY B D t f.2 u' q
def inV (x:V)(xs:Ĵ V):œ:=xs.đ λy=>rR y x
def rIn (K:W.Ê)(q:œ):R2:=λx y H Q=>∃p xs,y=.C p/\(aP K H p xs\/aM K H p xs)/\pB x=ķ/\xs.ė pB=ķ/\Q (.bl<|if q then !inV x xs else inV x xs) H
def Vx:fB X (compareOp .In) (rIn X.K Ļ):=by
 intro ao s C H x y v u Q I F G h;let(p,xs,rfl,B,D,fs,q):=h;cases G;rcases B with B|B
 .let(its,r,pl,hz):=I.ĕ B;calc SeqAt.in_listAt (tX x) pl.ö (λw hw=>tY F D r fs w (by simpa using hw)) %[1,.bl _,H,I,rb|?_];rw[show its.Y.đ (tX x)=its.đ (tX x) by simp,wH r fs];show q
 .let(its,r,pl,hz):=I.ğ B;calc SeqAt.in_tupleAt (tX x) pl (λw hw=>tY F D r fs w (by simpa using hw)) %[1,.bl _,H,I,rb|?_];rw[show its.Y.đ (tX x)=its.đ (tX x) by simp,wH r fs];show q
def tZ:fB X (compareOp .NotIn) (rIn X.K ķ):=by
 intro ao s C H x y v u Q I F G h;let(p,xs,rfl,B,D,fs,q):=h;cases G;rcases B with B|B
 .let(its,r,pl,hz):=I.ĕ B;calc SeqAt.notIn_listAt (tX x) pl.ö (λw hw=>tY F D r fs w (by simpa using hw)) %[1,.bl _,H,I,rb|?_];rw[show its.Y.đ (tX x)=its.đ (tX x) by simp,wH r fs];show q
 .let(its,r,pl,hz):=I.ğ B;calc SeqAt.notIn_tupleAt (tX x) pl (λw hw=>tY F D r fs w (by simpa using hw)) %[1,.bl _,H,I,rb|?_];rw[show its.Y.đ (tX x)=its.đ (tX x) by simp,wH r fs];show q
def Lr:fB X (compareOp .NotIn) (λx y H Q=>∃i j,x=.À i/\y=.À j/\Q (.bl<|!(!(Builtin.Str.occurrences j i 0 j.n 1).Ė)) H):=by intro ao s C H x y v u Q I D B h;let(i,j,rfl,rfl,q):=h;let(t,rfl):=D;let(t',rfl):=B;show notIn_str %[1,.bl _,H,I,rb|q]
def cu:d7 X (.Õ "len") (λxs H Q=>∃p ys,xs=[.C p]/\(aP X.K H p ys\/aM X.K H p ys)/\Q (.R ys.n) H):=by
 intro ao s C H xs us Q I r h;let(p,ys,rfl,B,q):=h;let(u,rfl,F):=vals1 r;cases F;let hn:=tV;rcases B with B|B
 .let(its,r',pl,hz):=I.ĕ B;let D:=r'.n;show Calls.call_len_list pl.ö (by simp only[bP] <;> lia) %[1,.R ys.n,H,I.tok _,%[s.Ï+1|by rw[bP,D]]|q]
 .let(its,r',pl,hz):=I.ğ B;let D:=r'.n;show len_tuple pl (by simp only[bP] <;> lia) %[1,.R ys.n,H,I.tok _,%[s.Ï+1|by rw[bP,D]]|q]
def Ls:d7 X (.Õ "len") (λxs H Q=>∃z,xs=[.À z]/\z.n<=Ń/\Q (.R z.n) H):=by intro ao s C H xs us Q I r h;let(z,rfl,hz,q):=h;let(u,rfl,t,rfl):=vals1 r;let hn:=tV;show len_str ye %[1,.R z.n,H,I.tok _,%[_|rb]|q]
def dU:d7 X (.È "tuple") (λxs H Q=>∃p ys,xs=[.C p]/\((aP X.K H p ys/\∀l,H l=ĺ->Q (.C l) (upd H l<|.Ã ys))\/(aM X.K H p ys/\Q (.C p) H))):=by
 intro ao s C H xs us Q I r h;let(p,ys,rfl,h):=h;let(u,rfl,D):=vals1 r;cases D;rcases h with⟨B,q⟩|⟨B,q⟩
 .let(its,r',pl,hz):=I.ĕ B;let F:=r'.n;calc call_tuple_list pl.ö (λh' kp=>?_) (by simp only[bP] <;> lia);let I1:aL X ao C H {s with heap:=h' }:=I.ġ (t':=s.toks) kp;let I2:aL X ao C (upd H h'.X.E<|.Ã ys) {s with heap:=h'.Ò {cls:=.È "tuple",data:=.ð its.Y} }:=
   I1.Ĝ (t':=s.toks) (λb o e=>ag _ e) (ah _)<|show dg X.Ñ X.w _ _ _ (.Ã ys) from %[14,hz,its,r'|IsTup.new _ _]
  show%[1,.C h'.X.E,_,I2,rb|q _<|I1.ê.ä<|ah _]
 .let(its,r',pl,hz):=I.ğ B;show call_tuple_same pl %[1,.C p,H,I,rb|q]
def tyV (K:W.Ê)(T:ŗ)(x:V)(H:Hp):Prop:=match x with
 | .À _=>T="str"
 | .R _=>T="int"
 | .C p=>(T="list"/\∃xs,aP K H p xs)\/(T="tuple"/\∃o,K.Æ p=ĳ o/\o.cls=.È "tuple"/\o.dict=ĺ)\/
   (T="dict"/\((∃kvs,H p=ĳ (.dK kvs))\/∃kvs,H p=ĳ (.dT kvs)))\/(T="set"/\∃S n,H p=ĳ (.Ď S n))
 | _=>False
def Vy {ao:AC}{C:St}{H:Hp}{s:Ľ}{T:ŗ}{x:V}{v:Ķ}(I:aL X ao C H s)(r:bL x v)(ty:tyV X.K T x H):s.Ā v T/\∀a,v=.C a->∃ob,s.H.Á a=ĳ ob/\ob.dict=ĺ:=by
 cases x with
 | str z=>let(t,rfl):=r;cases(show T="str" from ty);show%[typeIs_str s z t|λ_ e=>nomatch e]
 | int i=>let(t,rfl):=r;cases(show T="int" from ty);show%[typeIs_int s i t|λ_ e=>nomatch e]
 | ref p=>
  cases r;rcases ty with⟨rfl,xs,D⟩|⟨rfl,o,hk,B,hd⟩|⟨rfl,hk⟩|⟨rfl,S,n,hk⟩
  .let(its,_,pl,_):=I.ĕ D;calc%[pl.ö.Ġ|λa e=>?_];cases e;let(o,n,e,c,hd,_):=pl;show%[0,o,e|hd]
  .calc%[%[0,o,I.jR p o hk|B]|λa e=>?_];cases e;show%[0,o,I.jR _ o hk|hd]
  .let z:∃o,s.H.Á p=ĳ o/\o.ExactDict:=by
    rcases hk with⟨kvs,hk⟩|⟨kvs,hk⟩
    .let(_,_,_,_,o,_,_,e,ex,_):=I.ê p _ hk;show%[0,o,e|ex]
    .let(_,_,_,_,o,_,_,e,ex,_):=I.ê p _ hk;show%[0,o,e|ex]
   let(o,e,ex):=z;calc%[%[0,o,e|ex.1]|λa q=>?_];cases q;show%[0,o,e|ex.2.1]
  .let(o,_,_,_,e,ex,_):=I.ê p _ hk;calc%[%[0,o,e|ex.1]|λa q=>?_];cases q;show%[0,o,e|ex.2.1]
 | _=>show False.î ty
def YH (K:W.Ê)(T:ŗ)(r:V->Ĵ V->Hp->VK->Prop)(to:TE):TE:=λC H Q=>to C H λx H1=>tyV K T x H1/\r x [] H1 Q
def Vz (K:W.Ê)(T:ŗ)(r:V->Ĵ V->Hp->VK->Prop)(to:TE)(t:TA):TE:=λC H Q=>to C H λx H1=>tyV K T x H1/\t C H1 λxs q=>r x xs q Q
variable {o e:Ő}{es:Ĵ Ő}{to:TE}{t:TA}{name:Ŋ}{apos cpos:Pos}{T id:ŗ}{r:V->Ĵ V->Hp->VK->Prop}
def pC (G:ů T)(slot:Slot T name id)(D:typeOf (.Õ id)=pure (.È "method_descriptor"))(hm:wG X id r)(J:QE X o to)(B:Ž (attributeBase o name X.É (Ŕ o X.É)=Ŕ o X.É) ž)(q:Ž ((apos.endLine==cpos.line)=ķ) ž):QE X (.ĩ (.Ą o name apos) [] [] cpos) (YH X.K T r to):=⟨by
 intro ao s C H Q I h;calc wpAny_Call_method0_late B q<|bJ (J.ã ao s C H _ I h) λv s1 zq=>?_;let(x,H1,I1,r1,ty,q1):=zq;let(h1,F):=Vy I1 r1 ty;show%[27,T,id,G,slot,D,h1,F|nL rb<|PySem.evalArgs_none<|hm ao s1 C H1 x [] v [] Q I1 r1 .Ü q1]⟩
def dH (N:ů T)(slot:Slot T name id)(G:typeOf (.Õ id)=pure (.È "method_descriptor"))(hm:wG X id r)(Y:QE X o to)(ha:QA X (e::es) t)(D:Ž (attributeBase o name X.É (Ŕ o X.É)=Ŕ o X.É) ž)(F:Ž (((backTo cpos<|starEach (e::es) X.É).ė (λx=>!x.1)&&(backToKw cpos<|keywordEach [] X.É).ė (λx=>x.1.ĝ)
   && ľ ((e::es).n+([]:Ĵ Ţ).n+(if ([]:Ĵ Ţ).Ė then 0 else 1)<30))=ķ) ž) (B:Ž ((apos.endLine==cpos.line)=ķ) ž) (hs:Ž (ŉ (e::es) X.É=(Ļ,Ŕ e X.É)::ŉ es X.É) ž) (q:Ž ((backTo cpos<|ŉ es X.É).đ (·.1)=Ļ) ž):QE X (.ĩ (.Ą o name apos) (e::es) [] cpos) (Vz X.K T r to t):=⟨by
 intro ao s C H Q I h;calc wpAny_Call_method_late D F B rb<|bJ (Y.ã ao s C H _ I h) λv s1 zq=>?_;let(x,H1,I1,r1,ty,q1):=zq;let(h1,M):=Vy I1 r1 ty;calc%[27,T,id,N,slot,G,h1,M|?_];let J:=ha.ã cpos ao s1 C H1 _ I1 q1;rw[hs]at J ⊢;calc nL (by show (Ļ||(backTo cpos<|ŉ es X.É).đ (·.1))=Ļ;rw[q] <;> rfl)<|vx ?_;show bJ J λus s2 zq=>by let(vs,O,I2,L,q2):=zq;exact hm ao s2 C O x vs v us Q I2 r1 L q2⟩
end
def MtM (X:Cx)(id:ŗ)(r:V->Ĵ V->Hp->VK->Prop):Prop:=∀(ao:AC) (s:Ľ) (I:St) (H:Hp) (x:V) (xs:Ĵ V) (v:Ķ) (us:Ĵ Ķ) (Q:VK),aL X ao I H s->bL x v->Vals xs us->r x xs H Q->
  Ł (ł X.Ñ X.w) X.A (call (.Õ id)<|v::us) (EP X ao I Q) X.xe s
def Vals.one {x:V}{us:Ĵ Ķ}(h:Vals [x] us):∃u,us=[u]/\bL x u:=by cases h with|cons r t=>cases t;show%[0,_,rb|r]
theorem Vals.zero:∀{us:Ĵ Ķ},Vals [] us->us=[]
 | _,.Ü=>rfl
theorem Vals.eraseIdx:∀{xs:Ĵ V} {us:Ĵ Ķ} (i:ĵ),Vals xs us->Vals (xs.eraseIdx i) (us.eraseIdx i)
 | _,_,_,.Ü=>.Ü
 | _,_,0,.Ð _ t=>t
 | _,_,i+1,.Ð r t=>.Ð r (Vals.eraseIdx i t)
section
variable {X:Cx}{ao:AC}{T:St}{H:Hp}{s:Ľ}{l:Ĺ}{xs ys:Ĵ V}
def aL.YJ {its its':Ĵ Ķ}(I:aL X ao T H s)(F:H l=ĳ (.Ç xs))(e:s.H.Á l=ĳ {cls:=.È "list",data:=.ð its.Y n})(hf:f its.Y=its'.Y)(hv:Vals ys its')(hz:ys.n<=Ń)(G:Ž (s.Ï<=t') δ):aL X ao T (upd H l<|.Ç ys) {s with heap:=s.H.ī l<|Obj.Ĳ f,toks:=t' }:=by let q:=PySem.IsL.ī e f;rw[hf]at q;calc I.write (x:=l) (e:=l) (by rw[F];show trivial) (.Â rb) (λb' u B D=>(md s.H (Obj.Ĳ f)<|lS B).Z D) %[_|q] ?_;show%[16,hz,its',_,hv|q]
def aL.adM (I:aL X ao T H s)(hv:Vals ys its)(hz:ys.n<=Ń)(B:Ž (s.Ï<=t') δ):aL X ao T (upd H s.d<|.Ç ys) {s with heap:=s.H.Ò {cls:=.È "list",data:=.ð its.Y},toks:=t' }:=I.Ĝ (λ_ _ q=>ag _ q) (ah _) %[16,hz,its,0,hv|aT _ rb]
def aL.fresh (I:aL X ao T H s):H s.d=ĺ:=I.ê.ä (ah _)
def aL.Hu (I:aL X ao T H s)(q:H l=ĳ (.Ç xs)):xs.n<=Ń/\∃(its:Ĵ Ķ) (n:Nat),Vals xs its/\xs.n=its.n/\s.H.Á l=ĳ {cls:=.È "list",data:=.ð its.Y n}:=by let(z,its,n,r,e):=I.ê l _ q;show%[17,z,its,n,r,r.n|e]
def YK (h:n<=Ń):Builtin.List.listTooLong n=Ļ:=by show al ye
end
section
variable {X:Cx}
def abr:V->Ĵ V->Hp->VK->Prop:=λx vs H Q=>∃l xs y,x=.C l/\vs=[y]/\H l=ĳ (.Ç xs)/\xs.n<Ń/\Q .ć (upd H l<|.Ç<|xs++[y])
def gQ:MtM X "list.append" abr:=by intro ao s T H x vs v us Q I G J h;let(l,xs,y,rfl,rfl,B,hz,q):=h;cases G;let(u,rfl,D):=J.one;let(z,its,n,r,L,e):=I.Hu B;calc call_meets F.slot_list_append %[0,_,e|rb] F.entry_list_append (F.args_list_append_2 _ _) (PySem.list_append l its.Y n u (by rw[bP];simp_all)) %[e|?_];calc%[1,.ć,_,I.YJ (its':=its++[u]) B e yf (r.append<|.Ð D .Ü) ?_,rb|q];rw[ay];show hz
def Bx:V->Ĵ V->Hp->VK->Prop:=λx vs H Q=>∃l b xs q,x=.C l/\vs=[.C b]/\H l=ĳ (.Ç xs)/\H b=ĳ (.Ç q)/\xs.n+q.n<=Ń/\Q .ć (upd H l<|.Ç<|xs++q)
def rC:MtM X "list.extend" Bx:=by
 intro ao s T H x vs v us Q I O rv h;let(l,b,xs,zs,rfl,rfl,G,Z,hz,q):=h;cases O;let(u,rfl,M):=rv.one;cases M;let(z,its,n,r,hl,e):=I.Hu G;let(z2,B,Y,J,L,N):=I.Hu Z;let hsz:its.Y.E+B.Y.E<=Ń:=by simp_all
 let D:¬(!its.Y.Ė&&Builtin.List.listTooLong (its.Y.E+B.Y.E))=ķ:=by rw[YK hsz,ko];show ck
 refine call_meets F.slot_list_extend %[0,_,e|rb] F.entry_list_extend (F.args_list_extend_2 _ _)
  (AutoSeq1.list_extend_list_list_0 l its.Y n b B.Y Y D (by simp_all)<|kr hsz) %[e,N|?_]
 calc%[1,.ć,_,I.YJ (its':=its++B) G e yf (r.append J) ?_,rb|q];rw[ay];show hz
def agA:R2:=λx y H Q=>∃l b xs q,x=.C l/\y=.C b/\H l=ĳ (.Ç xs)/\H b=ĳ (.Ç q)/\xs.n+q.n<=Ń/\∀p,H p=ĺ->Q (.C p) (upd H p<|.Ç<|xs++q)
def VB:fB X (binaryOp .Add) agA:=by intro ao s T H x y v u Q I M J h;let(l,b,xs,Y,rfl,rfl,O,N,hz,q):=h;cases M;cases J;let(z,its,n,r,hl,e):=I.Hu O;let(Z,B,n2,D,F,L):=I.Hu N;calc PySem.P.add_list e L ?_ (by rw[bP,bP];lia);rw[(show its.Y++B.Y=(its++B).Y from yf)];show%[1,.C _,_,I.adM (t':=s.toks) (r.append D) (by rw[ay];lia),rb|q _ I.ä]
def len_rep {C:Type}(xs:Ĵ C)(k):(List.Ë k xs).Ì.n=k*xs.n:=by
 induction k with| zero=>simp| succ k ih=>rw[gE,gd,ay,ih,oQ,Nat.add_comm]
end
section
variable {I:Type}[Ŏ I]
def fO (kvs:Ĵ (I×V))(k:I):ĸ V:=(kvs.find? λq=>ľ<|q.1=k).Q (·.2)
def putK (kvs:Ĵ (I×V))(k:I)(v:V):Ĵ (I×V):=if (kvs.đ λq=>ľ<|q.1=k)=true then kvs.Q (λq=>if q.1=k then (q.1,v) else q) else kvs++[(k,v)]
def ig {p:I×V}(e:p.1=k):fO (p::r) k=ĳ p.2:=by simp[fO,mI,e]
def iu {p:I×V}(e:¬p.1=k):fO (p::r) k=fO r k:=by simp[fO,mI,e]
theorem qu (k:I):∀kvs:Ĵ (I×V),(kvs.đ λq=>ľ<|q.1=k)=(fO kvs k).ĝ
 | []=>rfl
 | p::r=>by
  rw[oo];by_cases e:p.1=k;.simp only[ig e,am e,Bool.true_or,Option.isSome_some]
  .rw[iu e,al e,Bool.false_or];show qu k r
theorem Lw (k j:I)(y):∀kvs:Ĵ (I×V),fO (kvs.Q λq=>if q.1=k then (q.1,y) else q) j=(fO kvs j).Q λx=>if j=k then y else x
 | []=>rfl
 | p::r=>by
  let B:=Lw k j y r;rw[b7];by_cases h:p.1=k
  .rw[Ŀ h];by_cases e:p.1=j;.rw[ig (p:=(p.1,y)) e,ig e,lI,Ŀ (e.Ù.Z h)]
   .rw[iu (p:=(p.1,y)) e,iu e,B]
  .rw[ŀ h];by_cases e:p.1=j;.rw[ig (p:=p) e,ig e,lI,ŀ (λz=>h<|e.Z z)]
   .rw[iu (p:=p) e,iu e,B]
theorem Jo (k j:I)(y):∀kvs:Ĵ (I×V),fO kvs k=ĺ->fO (kvs++[(k,y)]) j=if j=k then ĳ y else fO kvs j
 | [],_=>by
  by_cases e:k=j;.rw[Ŀ e.Ù];show ig (p:=(k,y)) e
  .rw[ŀ (λz=>e z.Ù)];show iu (p:=(k,y)) e
 | p::r,hn=>by
  rw[List.cons_append];let hk:¬p.1=k:=λz=>by rw[ig z]at hn;cases hn
  rw[iu hk]at hn;let q:=Jo k j y r hn;by_cases e:p.1=j;.rw[ig e,ig e,ŀ (λz=>hk<|e.Z z)]
  .rw[iu e,iu e,q]
def Lx (kvs:Ĵ (I×V))(k j:I)(y):fO (putK kvs k y) j=if j=k then ĳ y else fO kvs j:=by
 unfold putK;by_cases a:(kvs.đ λB=>ľ<|B.1=k)=ķ
 .rw[Ŀ a,Lw];rw[qu]at a;by_cases e:j=k
  .let(x,hx):=Option.isSome_iff_exists.mp a;rw[Ŀ e,e,hx,lI,Ŀ rfl]
  .rw[ŀ e];cases fO kvs j with| none=>rfl| some x=>rw[lI,ŀ e]
 .rw[ŀ a];calc Jo k j y kvs ?_;rw[qu]at a;cases q:fO kvs k with| none=>rfl| some x=>rw[q]at a;show(a rb).î
def Dc (kvs:Ĵ (I×V))(k:I)(v):(putK kvs k v).n<=kvs.n+1:=by
 unfold putK;split;.rw[aa];lia
 .rw[ay,bX,om];lia
def YL {kvs:Ĵ (I×V)}{k:I}(v:V)(h:fO kvs k=ĺ):putK kvs k v=kvs++[(k,v)]:=by unfold putK;rw[qu,h];show ŀ yi
def jQ.zP (r:jQ o u):o.ĝ=u.ĝ:=by
 cases o with
 | none=>cases u with| none=>rfl| some _=>show(show False from r).î
 | some _=>cases u with| none=>show(show False from r).î| some _=>rfl
def jQ.getD (r:jQ o u)(q:bL d d'):bL (o.Í d) (u.Í d'):=by
 cases o with
 | none=>cases u with| none=>show q| some _=>show(show False from r).î
 | some _=>cases u with| none=>show(show False from r).î| some _=>show r
def KV.val (r:KV kvs vs)(k:I):jQ (fO kvs k) (valueAt vs k):=by
 induction r with
 | nil=>show True.intro
 | @cons p q ps qs h t ih=>
  let(h1,B):=h;by_cases e:p.1=k
  .let e':q.1=k:=h1.Ù.Z e;let b:valueAt (q::qs) k=ĳ q.2:=by simp[valueAt,mI,e']
   rw[ig e,b];show B
  .let e':¬q.1=k:=λz=>e<|h1.Z z
   let b:valueAt (q::qs) k=valueAt qs k:=by simp[valueAt,mI,e']
   rw[iu e,b];show ih
def KV.any (r:KV kvs vs)(k:I):(kvs.đ λq=>ľ<|q.1=k)=vs.đ λq=>ľ (q.1=k):=by
 induction r with| nil=>rfl| cons h t ih=>rw[oo,oo,ih,h.1]
def KV.repl (r:KV kvs vs)(k:I)(D:bL y u):KV (kvs.Q λB=>if B.1=k then (B.1,y) else B) (vs.Q λB=>if B.1=k then (B.1,u) else B):=by
 induction r with
 | nil=>show .Ü
 | @cons p q ps qs h t ih=>
  rw[b7,b7];calc .Ð ?_ ih;let(h1,F):=h;by_cases e:p.1=k;.rw[Ŀ e,Ŀ (h1.Ù.Z e)];show%[h1|D]
  .rw[ŀ e,ŀ (λz=>e<|h1.Z z)];show%[h1|F]
def KV.put (r:KV kvs vs)(k:I)(q:bL y u):KV (putK kvs k y) (stored vs k u):=by
 unfold putK stored;rw[r.đ k];by_cases e:(vs.đ λB=>ľ<|B.1=k)=ķ;.rw[Ŀ e,Ŀ e];show r.repl k q
 .rw[ŀ e,ŀ e];show Paired.snoc r %[rb|q]
def KV.keys {kvs:Ĵ (I×V)}{vs:Ĵ (I×Ķ)}(r:KV kvs vs):kvs.Q (·.1)=vs.Q (·.1):=by
 induction r with| nil=>rfl| cons h t ih=>rw[b7,b7,ih,h.1]
def KV.length {kvs:Ĵ (I×V)}{vs:Ĵ (I×Ķ)}(r:KV kvs vs):kvs.n=vs.n:=mf r
end
def Fi (r:bL (kV k) u):(cV P w).is k u=ķ:=by
 cases k with
 | inl i=>let(t,e):=(show ∃t,u=Value.R i t from r);subst e;show O_ P w i t
 | inr x=>let(t,e):=(show ∃t,u=Value.À x t from r);subst e;show Pa P w x t
theorem Jp:∀{ks:Ĵ Key} {us:Ĵ Ķ},Vals (ks.Q kV) us->ItemsAre (cV P w) ks us
 | [],_,r=>by rw[n9]at r;cases r;show .Ü
 | k::ks,_,r=>by
  rw[b7]at r;cases r with| cons h t=>show .Ð (Fi h)<|Jp t
abbrev KT (H:Hp):Ĵ (Ĵ Key×V)->Ĵ (Ĵ Key×Ĺ×Ķ)->Prop:=Ř λp q=>p.1=q.1/\H q.2.1=ĳ (.Ã<|p.1.Q kV)/\bL p.2 q.2.2
def KT.val (r:KT H kvs xs)(k:Ĵ Key):jQ (fO kvs k) ((atKey xs k).Q (·.2)):=by
 induction r with
 | nil=>show True.intro
 | @cons p q ps qs h t ih=>
  let(h1,_,B):=h;by_cases e:p.1=k
  .let e':q.1=k:=h1.Ù.Z e;let b:atKey (q::qs) k=ĳ q.2:=by simp[atKey,mI,e']
   rw[ig e,b];show B
  .let e':¬q.1=k:=λz=>e<|h1.Z z
   let b:atKey (q::qs) k=atKey qs k:=by simp[atKey,mI,e']
   rw[iu e,b];show ih
def KT.repl (r:KT H kvs xs)(k:Ĵ Key)(F:bL y u):KT H (kvs.Q λB=>if B.1=k then (B.1,y) else B) (xs.Q<|putAt k u):=by
 induction r with
 | nil=>show .Ü
 | @cons p q ps qs h t ih=>
  rw[b7];calc .Ð ?_ ih;let(h1,D,G):=h;unfold putAt;by_cases e:p.1=k;.rw[Ŀ e,Ŀ (h1.Ù.Z e)];show%[h1,D|F]
  .rw[ŀ e,ŀ (λz=>e<|h1.Z z)];show%[h1,D|G]
def KT.put (r:KT H kvs xs)(k:Ĵ Key)(F:H b=ĳ (.Ã<|k.Q kV))(B:bL y u):KT H (putK kvs k y) (storedH xs k b u):=by
 let e:(kvs.đ λD=>ľ<|D.1=k)=(atKey xs k).ĝ:=by rw[qu,(r.val k).zP,xk]
 unfold putK storedH;rw[e];by_cases q:(atKey xs k).ĝ=ķ;.rw[Ŀ q,Ŀ q];show r.repl k B
 .rw[ŀ q,ŀ q];show Paired.snoc r %[rb,F|B]
def KT.keeps (r:KT H kvs xs)(q:∀b ys,H b=ĳ (.Ã ys)->H' b=ĳ (.Ã ys)):KT H' kvs xs:=Paired.Hr r λ_ _ z=>%[z.1,q _ _ z.2.1|z.2.2]
section
variable {P:Ň}{w:ŋ}{H:Hp}{h:Ō}{a:Ĺ}
def aaU (ok:gK P w H h)(e:Rd H a u):dg P w H h a u:=e.ok ok
def BJ (ok:gK P w H h)(e:Rd H a (.dK kvs)):kvs.n<=Ń/\(a==sysModules)=Ļ/\∃vs,KV kvs vs/\h.DictOf (cV P w) a vs:=show dg P w H h a (.dK kvs) from aaU ok e
def Tf (ok:gK P w H h)(e:H a=ĳ (.dK kvs)):kvs.n<=Ń/\(a==sysModules)=Ļ/\∃vs,KV kvs vs/\h.DictOf (cV P w) a vs:=BJ ok (.Â e)
def zQ {ks:Ĵ Key}(ok:gK P w H h)(e:H a=ĳ (.Ã<|ks.Q kV)):(tupleKind<|cV P w).is h ks a:=by
 let(_,its,r,o,h1,q,n,B):=(show dg P w H h a (.Ã<|ks.Q kV) from ok a _ e)
 show%[8,o,its.Y,n,h1,q,B|by simpa using Jp r]
def BL (ok:gK P w H h)(e:Rd H a (.dT kvs)):kvs.n<=Ń/\(a==sysModules)=Ļ/\
  ∃xs,KT H kvs xs/\h.DictOfH (tupleKind<|cV P w) a xs:=by
 let(z,y,xs,r,o,es,ep,h1,B,F,D,G):=(show dg P w H h a (.dT kvs) from aaU ok e)
 calc%[20,z,y,xs,r|%[42,o,es,ep,h1,B,F,D,λx hx=>?_|G]];let all:∀{l:Ĵ (Ĵ Key×V)} {m:Ĵ (Ĵ Key×Ĺ×Ķ)},KT H l m->∀x∈m,(tupleKind<|cV P w).is h x.1 x.2.1:=by
  intro l m q
  induction q with
  | nil=>intro x hx;show nomatch hx
  | @cons p q ps qs hq t ih=>
   intro x hx;rcases a_.mp hx with e|hx
   .subst e;show zQ ok (by rw[<-hq.1];show hq.2.1)
   .show ih x hx
 show all r x hx
def afz (ok:gK P w H h)(e:H a=ĳ (.dT kvs)):kvs.n<=Ń/\(a==sysModules)=Ļ/\
  ∃xs,KT H kvs xs/\h.DictOfH (tupleKind<|cV P w) a xs:=BL ok (.Â e)
end
def pD (H:Hp)(a:Ĺ)(y:V)(r:ĸ V):Prop:=(∃kvs k,Rd H a (.dK kvs)/\y=kV k/\r=fO kvs k)\/∃kvs k b,Rd H a (.dT kvs)/\y=.C b/\H b=ĳ (.Ã<|k.Q kV)/\r=fO kvs k
def t_ (H:Hp)(a:Ĺ)(y v:V)(H':Hp):Prop:=(∃kvs k,H a=ĳ (.dK kvs)/\y=kV k/\kvs.n<Ń/\H'=upd H a (.dK<|putK kvs k v))\/
 ∃kvs k b,H a=ĳ (.dT kvs)/\y=.C b/\H b=ĳ (.Ã<|k.Q kV)/\kvs.n<Ń/\H'=upd H a (.dT<|putK kvs k v)
theorem pD.k {kvs:Ĵ (Key×V)}{k:Key}(e:H a=ĳ (.dK kvs)):pD H a (kV k) (fO kvs k):=.Â %[1,kvs,k,.Â e,rb|rb]
def pD.t {k:Ĵ Key}(e:H a=ĳ (.dT kvs))(q:H b=ĳ (.Ã<|k.Q kV)):pD H a (.C b) (fO kvs k):=.Ó %[8,kvs,k,b,.Â e,rb,q|rb]
theorem t_.k {kvs:Ĵ (Key×V)}{k:Key}{v:V}(e:H a=ĳ (.dK kvs))(q:kvs.n<Ń):t_ H a (kV k) v (upd H a<|.dK<|putK kvs k v):=.Â %[4,kvs,k,e,rb,q|rb]
def t_.t {k:Ĵ Key}(e:H a=ĳ (.dT kvs))(B:H b=ĳ (.Ã<|k.Q kV))(q:kvs.n<Ń):t_ H a (.C b) v (upd H a<|.dT<|putK kvs k v):=.Ó %[7,kvs,k,b,e,rb,B,q|rb]
section
variable {X:Cx}{ao:AC}{T:St}{H:Hp}{s:Ľ}{a:Ĺ}{y v:V}{u r:Ķ}{o:ĸ V}{A:ō}{E:AB}
def aL.big (I:aL X ao T H s):sysModules<s.d:=by show mM yi ((I.mod.glob.Đ I.bk).lt)
def VD (L:A.Þ+1<cLine)(I:aL X ao T H s)(g:pD H a y (ĳ v))(G:bL y u)(h:∀w' s',aL X ao T H s'->bL v w'->Q w' s'):Ł (ł X.Ñ X.w) A (getItem (.C a) u) Q E s:=by
 rcases g with⟨kvs,k,e,B,l⟩|⟨kvs,k,b,e,B,J,l⟩
 .subst B;let(z,hd,vs,q,F):=BJ I.ê e;let(w',hw,O):=jQ.some_of (v:=v) (o:=valueAt vs k) (by rw[l];show q.val k);show wpAny_getItem_of (Fi G) F.mapOf hw<|h w' _ (I.tok _) O
 .subst B;cases(show u=Value.C b from G);let(z,hd,xs,q,F):=BL I.ê e;let(w',hw,O):=jQ.some_of (v:=v) (o:=(atKey xs k).Q (·.2)) (by rw[l];show q.val k);let(p,hp,D):=io.mp hw;calc wpAny_getItem_heap (tupleKind_room_in1 L) (zQ I.ê J) F hp ?_;rw[D];show h w' _ (I.tok _) O
def agB (L:A.Þ+1<cLine)(I:aL X ao T H s)(g:pD H a y o)(G:bL y u)(h:∀s',aL X ao T H s'->Q (.Ć o.ĝ) s'):Ł (ł X.Ñ X.w) A (compareOp .In u<|.C a) Q E s:=by
 rcases g with⟨kvs,k,e,D,l⟩|⟨kvs,k,b,e,D,J,l⟩
 .subst D;let(z,hd,vs,B,F):=BJ I.ê e;calc wpAny_in_of (Fi G) hd F.mapOf ?_;rw[<-(B.val k).zP,<-l];show h _<|I.tok _
 .subst D;cases(show u=Value.C b from G);let(z,hd,xs,B,F):=BL I.ê e;calc wpAny_in_heap (tupleKind_room_in1 L) (zQ I.ê J) hd F ?_;let q:=(B.val k).zP;rw[xk]at q;rw[<-q,<-l];show h _<|I.tok _
def Hv (I:aL X ao T H s)(G:Vc (H a))(hs:Heap.Ĉ a s.H h')(D:∃q,h'.Á a=ĳ q)(B:dg X.Ñ X.w (upd H a ob) h' a ob)(J:Ž (s.Ï<=t') δ)(L:Ž (Je ob t') η):aL X ao T (upd H a ob) {s with heap:=h',toks:=t' }:=I.write (x:=a) (e:=a) G (.Â rb) (λb q F z=>(hs.2 b F).Z z) D B J L
def adN {h':Ō}{kvs:Ĵ (Key×V)}(z:kvs.n<=Ń)(hd:(a==sysModules)=Ļ)(q:KV kvs vs)(B:h'.DictOf (cV P w) a vs):dg P w H' h' a (.dK kvs):=%[20,z,hd,vs,q|B]
def VF (hu:A.Þ+1<cLine)(I:aL X ao T H s)(g:t_ H a y v H')(N:bL y u)(Y:bL v r)(h:∀s',aL X ao T H' s'->Q () s'):Ł (ł X.Ñ X.w) A (setItem (.C a) u r) Q E s:=by
 rcases g with⟨kvs,k,e,G,l,M⟩|⟨kvs,k,b,e,G,O,l,M⟩
 .subst G M;let(z,hd,vs,B,L):=Tf I.ê e;let hz:vs.n<=Ń:=by rw[<-B.length];show z
  let J:(putK kvs k v).n<=Ń:=by have:=Dc kvs k v;lia
  calc wpAny_setItem_pairs (hsz:=hz) (Fi N) L λh' D hs=>h _ ?_;let he:∃q,h'.Á a=ĳ q:=let %[q,_,_,F|_]:=D;%[q|F]
  show Hv I (by rw[e];show True.intro) hs he<|adN J hd (B.put k Y) D
 .subst G M;cases(show u=Value.C b from N);let(z,hd,xs,B,L):=afz I.ê e;let hz:xs.n<=Ń:=by rw[<-mf B];show z
  let J:(putK kvs k v).n<=Ń:=by have:=Dc kvs k v;lia
  calc wpAny_setItem_heap (hsz:=hz) (tupleKind_room_in1 hu) (zQ I.ê O) L λh' D hs=>h _ ?_;let(q,es,ep,F,h2,h3,h4,_,h5):=D;calc Hv I (by rw[e];show True.intro) hs %[q|F] %[20,J,hd,_,(B.put k O Y).Đ λc ys Z=>?_|%[7,q,es,ep,F,h2,h3,h4|h5]];rw[bx (afn Z e λz=>nomatch z)];show Z
end
def YM (i:Ő):Prop:=∀q B,subscripted i Ļ q B=operate [q,B] (getItem q B)
def abt {T id:ŗ}(M:typeLookup (.È T) "__getitem__"=pure (ĳ<|.Õ id))(hs:YM slice)(h:wpAny (model prog w) A (eval value env) (λo F=>Ł (ł prog w) A (Ŕ slice env) (λi B=>B.Ā o T/\Ł (ł prog w) A (getItem o i) Q E B) E F) E s):Ł (ł prog w) A (Ŕ (.Č value slice pos) env) Q E s:=by
 calc Ů<|gz h (λo F N=>gz N (λi B D=>?_) λ_ _ x=>x) λ_ _ x=>x;let(G,D):=D;calc ab ?_;calc ab<|qA G M ?_;let q:Ł (ł prog w) A (subscripted slice Ļ o i) (λr J=>Ł (ł prog w) A (letTemporaryGo value o r >>= λ_=>pure r) Q E J) E B:=by rw[hs o i];show wpAny_operating<|gz D (λr J L=>ab<|wpAny_letTemporaryGo<|af L) λ_ _ x=>x
 first| show af<|ab q| show ab<|af<|ab q| show ab q
def Pg {X:Cx}{ao:AC}{T:St}{H:Hp}{s:Ľ}{a:Ĺ}{y:V}{o:ĸ V}(I:aL X ao T H s)(g:pD H a y o):s.Ā (.C a) "dict":=by
 rcases g with⟨kvs,k,e,_,_⟩|⟨kvs,k,b,e,_,_,_⟩
 .let(_,_,vs,_,q):=BJ I.ê e;show q.Ġ
 .let(_,_,xs,_,q):=BL I.ê e;show q.Ġ
def aaV (td ty:TE):TE:=λI H Q=>td I H λx H1=>ty I H1 λy q=>∃a v,x=.C a/\pD q a y (ĳ v)/\Q v q
def agC (ty td:TE):TE:=λI H Q=>ty I H λy H1=>td I H1 λx q=>∃a o,x=.C a/\pD q a y o/\Q (.bl o.ĝ) q
def afA (td ty tv:TE):TS:=λD I H=>tv I H λv H1=>td I H1 λx F=>ty I F λy B=>∃a q,x=.C a/\t_ B a y v q/\D.nx I q
section
variable {X:Cx}{o i value:Ő}{pos pos':Pos}{td ty tv:TE}
def abu (L:X.A.Þ+1<cLine)(G:PE X o td)(hi:PE X i ty)(hs:YM i):PE X (.Č o i pos) (aaV td ty):=by intro ao s T H Q I h;calc abt PySem.F.slot_dict_getitem.Æ hs<|bJ (G ao s T H _ I h) λu s1 q=>?_;let(x,H1,I1,J,q1):=q;calc bJ (hi ao s1 T H1 _ I1 q1) λM s2 q=>?_;let(y,F,I2,D,a,v,ex,g,q2):=q;subst ex;obtain rfl:u=Value.C a:=J;show%[Pg I2 g|VD L I2 g D λw' N B O=>%[1,v,F,B,O|q2]]
def adO (L:X.A.Þ+1<cLine)(hi:QE X i ty)(F:QE X o td):QC X .In i o (agC ty td):=⟨by
 intro ao s T H Q I h;calc bJ (hi.ã ao s T H _ I h) λM s1 ⟨y,H1,I1,B,q1⟩=>bJ (F.ã ao s1 T H1 _ I1 q1) λu s2 zq=>?_;let(x,D,I2,G,a,J,ex,g,q2):=zq;subst ex;obtain rfl:u=Value.C a:=G;show agB L I2 g B λN q=>%[1,.bl J.ĝ,D,q,rb|q2]⟩
def BP (O:X.A.Þ+1<cLine)(G:QE X o td)(hi:QE X i ty)(hv:QE X value tv)(hs:swapsWith value (ĳ<|.Č o i pos') pos.line X.É=pure Ļ):QS X (.Assign [.Č o i pos'] value pos) (afA td ty tv):=⟨by
 intro ao s T H D I h;calc wpAny_Assign_Subscript (bJ (hv.ã ao s T H _ I h) λr s1 ⟨v,H1,I1,N,q1⟩=>bJ (G.ã ao s1 T H1 _ I1 q1) λu s2 ⟨x,F,I2,J,q2⟩=>bJ (hi.ã ao s2 T F _ I2 q2) λY s3 zq=>?_) hs;let(y,Z,q,B,a,L,ex,g,q3):=zq;subst ex;obtain rfl:u=Value.C a:=J;show VF O q g B N λs4 M=>%[3,T,L,M|q3]⟩
end
def YQ (h:Ō)(q:sysModules<h.X.E):dg P w H (h.Ò {cls:=.È "dict",data:=.dict #[]}) h.X.E (.dK []):=%[20,b5 _,beq_eq_false_iff_ne.Û<|lS<|bn q,[],.Ü|Heap.DictOf.new h]
def YS (h:Ō)(q:sysModules<h.X.E):dg P w H (h.Ò {cls:=.È "dict",data:=.dict #[]}) h.X.E (.dT []):=%[20,b5 _,beq_eq_false_iff_ne.Û<|lS<|bn q,[],.Ü|%[7,_,#[],0,aT _ rb,%[rb,rb|rb],rb,rb|oC]]
def adP:TE:=λ_ H Q=>∀p,H p=ĺ->Q (.C p) (upd H p<|.dK [])
def VG:TE:=λ_ H Q=>∀p,H p=ĺ->Q (.C p) (upd H p<|.dT [])
section
variable {X:Cx}{pos:Pos}
def Ly  : QE X (.Dict [] [] pos) adP:=⟨λao s T H Q I h=>wpAny_Dict_empty %[1,.C s.d,_,I.Ĝ (a:=s.heap.objs.size) (o:=.dK []) (t':=s.toks) (λ_ _ q=>ag _ q) (ah _)<|YQ s.H I.big,rb|h _<|I.ê.ä<|ah _]⟩
def YT:PE X (.Dict [] [] pos) VG:=λao s T H Q I h=>wpAny_Dict_empty %[1,.C s.d,_,I.Ĝ (a:=s.heap.objs.size) (o:=.dT []) (t':=s.toks) (λ_ _ q=>ag _ q) (ah _)<|YS s.H I.big,rb|h _<|I.ê.ä<|ah _]
end
structure M2 (X:Cx)(o:Ő)(m:Ŋ)(apos:Pos)(e f:Ő)(cpos:Pos):Prop where
 base:attributeBase o m X.É (Ŕ o X.É)=Ŕ o X.É
 few:((backTo cpos<|starEach [e,f] X.É).ė (λx=>!x.1)&&(backToKw cpos<|keywordEach [] X.É).ė (λx=>x.1.ĝ)
  && ľ (([e,f]:Ĵ Ő).n+([]:Ĵ Ţ).n+(if ([]:Ĵ Ţ).Ė then 0 else 1)<30))=ķ
 line:(apos.endLine==cpos.line)=ķ
 trees:backTo cpos (ŉ [e,f] X.É)=[(Ļ,Ŕ e X.É),(Ļ,Ŕ f X.É)]
def IsD (H:Hp)(a:Ĺ):Prop:=(∃kvs,Rd H a (.dK kvs))\/∃kvs,Rd H a (.dT kvs)
def adQ {X:Cx}{ao:AC}{T:St}{H:Hp}{s:Ľ}{a:Ĺ}(I:aL X ao T H s)(d:IsD H a):s.Ā (.C a) "dict"/\(∀b,Value.C a=.C b->∃ob,s.H.Á b=ĳ ob/\ob.dict=ĺ)/\(a==sysModules)=Ļ:=by
 rcases d with⟨kvs,e⟩|⟨kvs,e⟩
 .let(_,hd,vs,_,B):=BJ I.ê e;calc%[B.Ġ,λb q=>?_|hd];cases q;let(ob,_,_,h1,D,_):=B;show%[0,ob,h1|D.2.1]
 .let(_,hd,xs,_,B):=BL I.ê e;calc%[B.Ġ,λb q=>?_|hd];cases q;let(ob,_,_,h1,D,_):=B;show%[0,ob,h1|D.2.1]
section
variable {X:Cx}{ao:AC}{T:St}{H:Hp}{s:Ľ}{a:Ĺ}{y d:V}{u r:Ķ}{o:ĸ V}{A:ō}{E:AB}
def adR (L:A.Þ+1<cLine)(I:aL X ao T H s)(g:pD H a y o)(G:bL y u)(F:bL d r)(h:∀w' s',aL X ao T H s'->bL (o.Í d) w'->Q w' s'):Ł (ł X.Ñ X.w) A (call (.Õ "dict.get") [.C a,u,r]) Q E s:=by
 rcases g with⟨kvs,k,e,D,l⟩|⟨kvs,k,b,e,D,J,l⟩
 .subst D;let(z,hd,vs,q,B):=BJ I.ê e;calc call_meetsIn uC B.Ġ PySem.F.entry_dict_get (PySem.F.args_dict_get_3 _ _ _) (meets_dict_get_default (cV X.Ñ X.w) a (Fi G) hd r) %[0,_,B.mapOf|h _ _ (I.tok _) ?_];rw[l];show(q.val k).Í F
 .subst D;cases(show u=Value.C b from G);let(z,hd,xs,q,B):=BL I.ê e;calc call_meetsIn uC B.Ġ PySem.F.entry_dict_get (PySem.F.args_dict_get_3 _ _ _) (meetsH_dict_get_default (tupleKind<|cV X.Ñ X.w) a b hd r) %[17,tupleKind_room_in1 L,k,xs,zQ I.ê J,B|h _ _ (I.tok _) ?_];rw[l];show(q.val k).Í F
end
def VH (td ty tx:TE):TE:=λI H Q=>td I H λx H1=>∃a,x=.C a/\IsD H1 a/\ty I H1 λy B=>tx I B λz q=>∃o,pD q a y o/\Q (o.Í z) q
section
variable {X:Cx}{o e f:Ő}{apos cpos:Pos}{td ty tx:TE}
def YW (Z:X.A.Þ+1<cLine)(M:PE X o td)(q:PE X e ty)(hf:PE X f tx)(m:M2 X o "get" apos e f cpos):PE X (.ĩ (.Ą o "get" apos) [e,f] [] cpos) (VH td ty tx):=by
 intro ao s T H Q I h;calc wpAny_Call_method m.ø m.few m.line PySem.F.plainAttrs_dict uC PySem.F.type_dict_get<|bJ (M ao s T H _ I h) λu s1 zq=>?_;let(x,H1,I1,N,a,ex,d,q1):=zq;subst ex;obtain rfl:u=Value.C a:=N;let(t1,G,_):=adQ I1 d;calc%[t1,G|?_];rw[m.trees];refine nL rb<|vx<|fN<|bJ (q ao s1 T H1 _ I1 q1) λiv s2 ⟨y,L,I2,J,q2⟩=>fN<|bJ (hf ao s2 T L _ I2 q2) λfv s3 ⟨z,B,D,F,ov,g,q3⟩=>oy ?_
 show adR Z D g J F λw' s4 Y O=>%[1,_,B,Y,O|q3]
end
end L2
namespace Att
open PySem PySem.W PySem.Calls PyProof.Rows
def Fj:∀(ns:Ĵ ļ) (vs:Ĵ Ķ),WellAll P h vs (ns.Q WData.R)->ū vs ns:=by
 intro ns
 induction ns with
 | nil=>intro vs w;cases w;show .Ü
 | cons n ns ih=>
  intro vs w;cases w with| cons a b=>cases a;show .Ð _ _<|ih _ b
def VJ {l:OpenLaw}(hn:l.most=ĳ n)(B:l.row.toRowW.claim.pre args=ķ)(G:WellAll P h vals args):∃a vs ns,vals=[Value.C a]/\args=[WData.ĕ (ns.Q WData.R)]/\h.Á a=ĳ {cls:=.È "list",data:=.ð vs.Y}/\ū vs ns/\ns.n<=n:=by
 let(d,r,rfl,h1,N):=hasAllW_cons ((pre_splitW B).1);obtain rfl:=hasAllW_nil N;let(xs,rfl,O):=hasW_list h1;let(ns,rfl):=items_int O;let M:ns.n<=n:=by
  let D:(WTm.not<|.lt (.lit<|.R (n:ļ))<|.Ċ<|.arg 0).holds [] {args:=[.ĕ (ns.Q .R)]}=ķ:=by let D:=(holds_andW ((pre_splitW B).2)).1;rw[hn]at D;show D
  let F:=condW_of D<|w_not<|w_lt w_lit<|w_len_list<|w_arg rb;rw[aa]at F;calc Nat.le_of_not_lt λq=>?_;let q':(n:ļ)<((ns.n:ĵ):ļ):=ie eJ q
  first| (rw[am q']at F;show ń F yi)| (simp at F;lia)
 cases G with
 | cons w1 w2=>
  cases w2;cases w1 with| list ho hall=>show%[7,_,_,ns,rb,rb,ho,Fj ns _ hall|M]
def VL (l:OpenLaw)(args:Ĵ WData):l.row.toRowW.claim.post args (.Ć ķ) args=ķ:=postW_of (r:=l.row.toRowW) (X:=(ķ==ķ))
  (show WShape.has [] (.Ć ķ) .Ć=ķ by first|rfl|decide|simp[WShape.has,WShape.arms,WShape.armsAll])
  (show (WTm.eq .res<|.lit<|.Ć ķ).value [] {args:=args,res:=ĳ<|.Ć ķ,after:=args}=ĳ (.Ć<|ķ==ķ) from w_eq_bool (w_res rb) w_lit) rfl
def Ph {l:OpenLaw}{d:DefRec}(hn:l.most=ĳ n)(O:d.ç.defaults=[])(call:∀(w:ŋ) (s₀ B:Ľ) (mg mb:Ŋ->ĸ Ķ) (F:Ĺ) (o:Obj) (pm M doc:Ķ) (a:Ĺ) (vs:Ĵ Ķ) (ns:Ĵ ļ),
   Ground q loose [] XP w s₀ mg mb B.H->YP w B.H->
   B.H.Á F=ĳ o->o.ă=.func (docDef d.name d.ç d.body d.ĉ pm M doc)->B.H.CodeRec M d.name->mg d.name=ĳ (.C F)->
   B.H.Á a=ĳ {cls:=.È "list",data:=.ð vs.Y}->ū vs ns->ns.n<=n->B.gens=#[]->
   codeAny (ł l.Ñ w) callerA (.call (.C F) %[[.C a]|[]]) (λr s'=>r=.ok (.ret<|.Ć ķ)/\OldK B.H s'.H/\s'.os=B.os/\Š s'.gens) B) :
  WalkO q loose XP YP l.row.toRowW d [] (λf vs=>PySem.call f vs):=by
 intro w s₀ B mg mb G Y F o pm M doc dV kV ho hd hcd hD N hg args vals as J hlay hrd Z hlo;obtain rfl:dV=.ß:=Dflts.ß hD O;obtain rfl:kV=.ß:=Dflts.noKw hD;let(a,vs,ns,rfl,rfl,L,D,bW):=VJ hn J Z;calc enter_call<|kG (call w s₀ B mg mb F o pm M doc a vs ns G Y ho (fd_plain hd) hcd N L D bW hg) λr s' hq=>?_;let(rfl,h2,h3,h4):=hq;show%[.Â %[7,.Ć ķ,.Ć ķ,[],rb,λ_=>rfl,.Ć ķ,VL l _|λ_=>%[List.Ä.Ü|λ_ hm=>(nomatch hm)]],h2,h3|h4]
end Att
namespace L2
open PySem PySem.Spec PyProof.Rows
theorem Jq:∀{vs:Ĵ Ķ} {ns:Ĵ ļ},ū vs ns->Vals (ns.Q V.R) vs
 | _,_,.Ü=>.Ü
 | _,_,.Ð n t h=>.Ð %[t|rb] (Jq h)
theorem Qw:∀{vs:Ĵ Ķ} {ns:Ĵ ļ},ū vs ns->∀x t,Value.À x t∉vs
 | _,_,.Ü,_,_,z=>by simp at z
 | _,_,.Ð n t h,x,u,z=>by
  rcases a_.mp z with z|z;.cases z
  .show Qw h x u z
def VN (h:ū vs ns):sH {cls:=.È "list",data:=.ð vs.Y} n:=λx t z=>ń (by simpa using z) (Qw h x t)
def Only (H:Hp):Prop:=∀b,H b=ĺ\/∃o xs,H b=ĳ (.jk o<|.Ç xs)
def YX {K:W.Ê}{B:Ľ}{vs:Ĵ Ķ}(KX:K.In B.H)(O:B.H.Ns mainGlobals mg)(D:B.H.Ns builtinsNs mb)(hbb:∀x:Ŋ,x≠"__name__"->mb x=bootBuiltins x)(N:B.H.NoLimit)(hg:B.gens=#[])(ha:B.H.Á a=ĳ {cls:=.È "list",data:=.ð vs.Y})(hi:ū vs ns)(hl:ns.n<=Ń)(hr:dR k callerA)(F:∀base:Ō,K.In base->base.Ns mainGlobals mg->qM P w K mg base CX k fa fd [x] sp)(L:∀(s:Ľ) (u:Ķ),š s fd %[[u]|[]] [(x,u)])(hsp:∀H:Hp,Only H->aP K H a (ns.Q V.R)->sp [.C a] H (λv _=>v=.bl ķ) λ_ _ _=>ř)(hCX:∀H e s',CX [] H B (λ_ _ _=>ř) e s'->ř):codeAny (ł P w) callerA (.call (.C fa) %[[.C a]|[]]) (λr s'=>r=.ok (.ret<|.Ć ķ)/\OldK B.H s'.H/\s'.os=B.os/\Š s'.gens) B:=by
 let rv:=Jq hi;let J:∀H:Hp,Only H->aP K H a (ns.Q V.R)->gK P w H B.H->(∀b,H b≠ĺ->b=a)->(H a≠ĺ->K.Æ a=ĺ)->
   codeAny (ł P w) callerA (.call (.C fa) %[[.C a]|[]]) (λr s'=>r=.ok (.ret<|.Ć ķ)/\OldK B.H s'.H/\s'.os=B.os/\Š s'.gens) B:=by
  intro H hO hS hok hA hK;let Qx:∀{b:Ĺ} {o:Obj},B.H.Á b=ĳ o->H b=ĺ->(xJ B.H H).Á b=ĳ o:=λe n=>Yu e n;let Vt:∀{b:Ĺ} {o:Obj} {es:Ņ ŝ} {ep:ĵ},B.H.Á b=ĳ o->o.ă=.dict es ep->H b=ĺ:=λ{b o es ep} e d=>by
   cases q:H b with| none=>rfl| some u=>have e':b=a:=hA b (by rw[q];simp);subst e';rw[ha]at e;cases e;cases d
  let G:∀{b:Ĺ} {m:Ŋ->ĸ Ķ},B.H.Ns b m->(xJ B.H H).Ns b m:=λ{b m} zq=>by let(o,es,ep,e,d,r):=zq;exact %[31,o,es,ep,Qx e<|Vt e d,d|r]
  let M:K.In (xJ B.H H):=λb o e=>Qx (KX b o e) (by
   cases q:H b with
   | none=>rfl
   | some u=>have e':b=a:=hA b (by rw[q];simp);subst e';rw[hK (by rw[q];simp)]at e;cases e)
  let hM:Mod K mg (xJ B.H H):=%[M,G O,%[0,mb,G D|hbb]|let %[mc,h1|h2]:=N;%[0,mc,G h1|h2]]
  let e0:∀n:ĵ,xO P w K mg (xJ B.H H) callerA [] {B with toks:=n+1} H:=λn=>%[rb,hM,λb o e=>abj e,mE<|Vd _ _,trivial,λb D=>ń (show b∈([]:Ĵ Ĺ) from D) yf,hok,.of_eq hg,mN _|λb o e=>by
   rcases hO b with z|⟨ob,xs,z⟩;.rw[z]at e;cases e
   .rw[z]at e;cases e;let e':b=a:=hA b (by rw[z];simp);subst e';let(e1,_):=hok b _ z;rw[ha]at e1;cases e1;show VN hi]
  calc kG ((F _ M<|G O).run callerA [] B H %[[.C a]|[]] [.C a] [.C a] _ _ hr e0 (L B<|.C a) (.Ð rb .Ü)<|hsp H hO hS) λr s' h=>?_;cases r with
  | error e=>show(hCX H e s' h).î
  | ok fl=>
   cases fl with
   | next=>show False.î h
   | brk=>show False.î h
   | cont=>show False.î h
   | ret u=>
    let(v,H',os,bare,un,Z,r',q,_):=h;subst q;obtain rfl:u=Value.Ć ķ:=r';calc%[rb,OldK.of_keep λb o e=>?_,os|bare];cases q:H b with
    | none=>show un.keep b o e q (by intro z;show ń (show b∈([]:Ĵ Ĺ) from z) yf) yf
    | some u=>
     rcases hO b with z|⟨ob,xs,z⟩;.rw[q]at z;cases z
     .let(e1,_):=hok b _ z;let(e2,_):=Z b _ (un.vQ b ob _ z);rw[e]at e1;cases e1;show e2
 cases hk:K.Æ a with
 | some o=>have e:=KX a o hk;rw[ha]at e;cases e;refine J (λ_=>ĺ) (λ_=>.Â rb) (.Ó %[40,_,vs.Y,_,hk,rb,rb,rb,by rw[bP,hi.n];show hl,by simpa using rv|λv z=>by let(i,_,rfl):=ar.mp z;rfl]) (λb u z=>by let z':(ĺ:ĸ HO)=ĳ u:=z;cases z') (λb z=>ń rb z) λz=>ń rb z
 | none=>
  refine J (λb=>if b=a then ĳ (.jk {cls:=.È "list",data:=.ð vs.Y}<|.Ç<|ns.Q V.R) else none) (λb=>?_) (.Â<|.Ó %[{cls:=.È "list",data:=.ð vs.Y}|if_pos rb]) (λb u z=>?_) (λb z=>?_) λ_=>hk
  .by_cases D:b=a;.show .Ó %[5,_,_|Ŀ D]
   .show .Â<|ŀ D
  .by_cases D:b=a
   .let z':=(Ŀ D).Ù.Z z;cases z';subst D;show%[ha|%[16,by rw[aa];show hl,vs,_,rv|ha]]
   .let z':=(ŀ D).Ù.Z z;cases z'
  .by_cases D:b=a;.show D
   .show ń (ŀ D) z
abbrev KOf {K:W.Ê}{h:Ō}(_:K.In h):W.Ê:=K
def abv {l:W.OpenLaw}{n k:ĵ}{D:Ĵ Ŋ}{XP:(Ŋ->ĸ Ķ)->Ō->Prop}{YP:ŋ->Ō->Prop}{d:DefRec}{K:Params->W.Ê}{CX:ŋ->yS}{sp:ŋ->Sp}{x:Ŋ}(hn:l.most=ĳ n)(O:n<=Ń)(N:d.ç.defaults=[])(hr:dR k callerA)(hY:∀(w:ŋ) (h:Ō),YP w h->(K w.ç).In h)(F:∀(w:ŋ) (mg:Ŋ->ĸ Ķ) (L:Ĺ) (h:Ō),(K w.ç).In h->h.Ns mainGlobals mg->mg d.name=ĳ (.C L)->
   ∃fd:FuncData,(∀(s:Ľ) (u:Ķ),š s fd %[[u]|[]] [(x,u)])/\
    ∀base:Ō,(K w.ç).In base->base.Ns mainGlobals mg->qM l.Ñ w (K w.ç) mg base (CX w) k L fd [x] (sp w))
  (Z:∀(w:ŋ) (H:Hp) (a:Ĺ) (ns:Ĵ ļ),ns.n<=n->Only H->aP (K w.ç) H a (ns.Q V.R)->sp w [.C a] H (λv _=>v=.bl ķ) λ_ _ _=>ř)
  (hCX:∀(w:ŋ) (H:Hp) (s:Ľ) (e:Ķ) (s':Ľ),CX w [] H s (λ_ _ _=>ř) e s'->ř) :
  W.WalkO q D XP YP l.row.toRowW d [] (λf vs=>PySem.call f vs):=by
 calc Att.Ph hn N λw s₀ s₁ mg mb L o pm cd doc a vs ns G Y ho hd hcd M J B bW hg=>?_;let KX:=hY w _ Y;let(fd,hb,hF):=F w mg L _ KX G.T.g M;show YX KX G.T.g G.T.b G.T.builtins G.T.nolimit hg J B (aw bW O) hr hF hb (λH hO hS=>Z w H a ns bW hO hS) λH e s'=>hCX w H s₁ e s'
def inClass (s:ŏ)(j:ĵ):ŏ:=match s with| .ClassDef _ _ _ body _ _ _ _ _ _ _=>body.Í j (.Pass %[(0),(0),(0)|0])| _=>.Pass %[(0),(0),(0)|0]
def iT (s:ŏ):ŷ:=match s with| .FunctionDef _ a _ _ _ _ _ _ _ _=>a| _=>{posonlyargs:=[],args:=[],vararg:=ĺ,kwonlyargs:=[],kw_defaults:=[],kwarg:=ĺ,defaults:=[]}
def eU (s:ŏ):Ĵ ŏ:=match s with| .FunctionDef _ _ b _ _ _ _ _ _ _=>b| _=>[]
def aJ (s:ŏ):Ŗ:=match s with| .FunctionDef _ _ _ _ _ _ sc _ _ _=>sc| _=>{kind:=.ĭ,names:=[],isGenerator:=Ļ,isCoroutine:=Ļ}
abbrev qj:yS:=λ_ _ _ _ _ _=>ř
abbrev E0:XK:=λ_ _ _=>ř
def f9:Passes qj X E0:=λ_ _ _ _ _ _ _ h=>h.î
structure rD (K:W.Ê)(x qual:Ŋ)(st:ŏ)(f:Ĺ)(fd:Ŝ):Prop where
 ex:∃(oc:Value) (od:ĸ Ĺ) (kV doc pm:Value) (an:ĸ Ĺ) (bw ct:Value) (osl:Ņ (ĸ Ķ)),
  fd=W.fnOf x qual (iT st) (eU st) (aJ st) .ß kV doc pm an bw ct/\K.Æ f=ĳ %[oc,od,.func fd|osl]/\W.codeIn K bw qual=ķ
 kp:W.Ī K (.C f)=ķ
section
variable {P:Ň}{w:ŋ}{K:W.Ê}{mg:Ŋ->ĸ Ķ}{base:Ō}
def rD.ok {x qual:Ŋ}{st:ŏ}{N ps:Ĵ Ŋ}{k:ĵ}{sp:Sp}(F:rD K x qual st f fd)(S:aX N ps (aJ st))(len:∀vs H Q E,sp vs H Q E->vs.n=ps.n)(B:∀(bw:Ķ) (A:ō) (outer:Ĵ Env) (s:Ľ) (H:Hp) (vs:Ĵ V) (Q:VK) (E:XK),dR k (A.deeper<|envOfC qual (aJ st) s.d f bw)->sp vs H Q E->
   ∃t,CT (pA qj P w K mg base N qual (aJ st) f bw A outer s H E).zH (eU st) t/\t {nx:=λ_ H'=>Q .ć H',rt:=Q} (start N vs) H):tW P w K mg base qj (k+1) f fd ps sp:=by
 let(oc,od,kV,doc,pm,an,bw,ct,osl,rfl,J,G):=F.ex;calc afw J G S len λA outer s H vs Q E L D=>?_;let(t,h,q):=B bw A outer s H vs Q E L D;show%[0,t,h.zH|q]
def rD.VP {x qual y:Ŋ}{st:ŏ}{f:Ĺ}{fd:Ŝ}{N:Ĵ Ŋ}{k:ĵ}{sp:Sp}(F:rD K x qual st f fd)(S:aX N [y] (aJ st))(M:(aJ st).Ú.Æ y=ĳ .ô)(len:∀vs H Q E,sp vs H Q E->vs.n=1)(B:∀(bw:Ķ) (A:ō) (outer:Ĵ Env) (s:Ľ) (H:Hp) (vs:Ĵ V) (Q:VK) (E:XK),dR k (A.deeper<|envOfC qual (aJ st) s.d f bw)->sp vs H Q E->
   ∃t,CT (pA qj P w K mg base N qual (aJ st) f bw A outer s H E).zH (eU st) t/\t {nx:=λ_ H'=>Q .ć H',rt:=Q} (start N vs) H):qM P w K mg base qj (k+1) f fd [y] sp:=by
 let(oc,od,kV,doc,pm,an,bw,ct,osl,rfl,J,G):=F.ex;calc adE J G S M len λA outer s H vs Q E L D=>?_;let(t,h,q):=B bw A outer s H vs Q E L D;show%[0,t,h.zH|q]
def rD.binds {x qual:Ŋ}{st:ŏ}{ps:Ĵ Ŋ}(F:rD K x qual st f fd)(h:∀(kV doc pm:Ķ) (an:ĸ Ĺ) (bw ct:Ķ) (us:Ĵ Ķ),us.n=ps.n->bindArgs (W.fnOf x qual (iT st) (eU st) (aJ st) .ß kV doc pm an bw ct) %[us|[]]=pure (ps.zip us)):lN K fd ps []:=by let(oc,od,kV,doc,pm,an,bw,ct,osl,rfl,B,q):=F.ex;show .ė<|h kV doc pm an bw ct
def zR {x qual:Ŋ}{st:ŏ}{f:Ĺ}{oc:Ķ}{od an:ĸ Ĺ}{osl:Ņ (ĸ Ķ)}{kV doc pm bw ct:Ķ}(l:K.Æ f=ĳ %[oc,od,.func<|W.fnOf x qual (iT st) (eU st) (aJ st) .ß kV doc pm an bw ct|osl])(c:W.codeIn K bw qual=ķ)(k:W.Ī K (.C f)=ķ):rD K x qual st f (W.fnOf x qual (iT st) (eU st) (aJ st) .ß kV doc pm an bw ct):=%[%[5,oc,od|%[24,kV,doc,pm,an,bw,ct,osl,rb,l|c]]|k]
end
def BR (q:dR k A):A.Þ+1<cLine:=fR (pV (by decide:1<=64) _) q.Þ
def aF (h:n<=1000):n<Ń:=fR h yi
section
variable {X:Cx}
def pv (i:ĵ){x:Ŋ}{pos:Pos}(N:Ž (X.N[i]?=ĳ x) ž)(hv:Ž (Ve X.É.ĉ x) ι)(hd:Ž ((x==("__debug__":Ŋ))=Ļ) ſ)(q:Ž ((x==("__classdict__":Ŋ))=Ļ) ſ):PE X (.å x pos) (eG i):=adg N hv hd q
end
def bK {A B:Prop}(h:B):if Ļ=ķ then A else B:=by show h
def bZ {A B:Prop}(h:A):if ķ=ķ then A else B:=by show h
def jT9 {q A B:Prop}[Decidable q](h:q)(x:A):if decide q=true then A else B:=by rw[decide_eq_true h];exact x
def jF9 {q A B:Prop}[Decidable q](h:¬q)(x:B):if decide q=true then A else B:=by rw[decide_eq_false h];exact x
def DK {c A B:Prop} [Ŭ c] (h1:c->A)(q:¬c->B):if c then A else B:=by
 by_cases h:c
 .rw[Ŀ h];show h1 h
 .rw[ŀ h];show q h
def KQ {c A B:Prop} [Ŭ c] (q:c)(h:B):if (!ľ c)=ķ then A else B:=by rw[am q];show bK h
def aA (H H':Hp):Prop:=∀b o,H b=ĳ o->H' b=ĳ o
def aA.refl (H):aA H H:=λ_ _ h=>h
def aA.trans (a:aA H H1)(b:aA H1 H2):aA H H2:=λc o h=>b c o (a c o h)
def aA.free (e:aA H H')(h:H' l=Option.ß):H l=Option.ß:=by
 cases q:H l with| none=>rfl| some o=>rw[e l o q]at h;cases h
def aA.seq {K:W.Ê}{xs:Ĵ V}(e:aA H H')(h:aP K H a xs):aP K H' a xs:=by
 rcases h with(h|⟨o,h⟩)|h;.show .Â<|.Â<|e _ _ h
 .show .Â<|.Ó %[o|e _ _ h]
 .show .Ó h
section
variable {I:Type}[Ŏ I]
theorem Qy:∀{l:Ĵ I} {k:I},l.Ý->¬k∈l->(l++[k]).Ý
 | [],k,_,_=>by simp
 | a::r,k,h,hk=>by
  let(h1,B):=gu.mp h;show (a::(r++[k])).Ý;calc gu.Û %[λm=>?_|Qy B λm=>hk<|a_.Û<|Or.Ó m];rcases a7.mp m with q|q;.show h1 q
  .show hk<|a_.Û<|Or.Â (av.mp q).Ù
end
def blk (X:Cx)(scope:Ŗ)(cl:Ĵ (Ŋ×Ĺ))(C:Ĺ)(x:Ŋ)(s₀:Ľ)(H₀:Hp)(fp:Ĵ Ĺ):Cx:={X with N:=x::X.N,s₀:=s₀,H₀:=H₀,env:=compEnvC scope cl C X.É,outer:=X.İ,ex:=fp,fn:=λ_=>Ļ,pn:=[],xe:=λ_ _=>ř}
structure fQ (X:Cx)(scope:Ŗ)(x:Ŋ):Prop where
 kind:scope.þ=.ĭ
 Fl:∀y∈scope.Ú,y.2≠.ñ
 names:∀y∈scope.Ú,y.2=.ô->scope.Ú.Æ y.1=ĳ .ô
 hx:scope.Ú.Æ x=ĳ .ô
 free:∀y∈scope.Ú,y.2=.Ô->X.É.ę y.1=ĳ .ñ\/X.É.ę y.1=ĳ .Ô
 out:∀y∈X.N,scope.Ú.Æ y≠ĳ .ô
 nd:X.N.Ý
def Qz (sc:Ŗ)(N:Ĵ Ŋ)(scope:Ŗ)(x:Ŋ):œ:=scope.þ == .ĭ&&scope.Ú.ė (λy=>y.2 != .ñ)&&scope.Ú.ė (λy=>y.2 != .ô||scope.Ú.Æ y.1==ĳ .ô)&&scope.Ú.Æ x==ĳ .ô &&
 scope.Ú.ė (λy=>y.2 != .Ô||sc.Ú.Æ y.1==ĳ .ñ||sc.Ú.Æ y.1==some .Ô)&&N.ė (λy=>scope.Ú.Æ y != ĳ .ô)
def fQ.of {X:Cx}(N:X.N.Ý)(h:Qz X.É.ĉ X.N scope x=ķ):fQ X scope x:=by
 unfold Qz at h;simp only[df,fE,vy,bne_iff_ne,beq_iff_eq,ne_eq]at h;let(((((h1,D),F),G),J),B):=h;calc%[h1,λy q=>D y q,λy q e=>(F y q).resolve_left λz=>z e,G,λy q e=>?_,λy q=>B y q|N];rcases J y q with(z|z)|z;.show ń e z
 .show .Â z
 .show .Ó z
theorem jH {I:Type}:∀{l:Ĵ (Ŋ×I)} {x:Ŋ} {a:I},l.Æ x=ĳ a->(x,a)∈l
 | [],_,_,h=>by simp at h
 | (y,b)::r,x,a,h=>by
  rw[mr]at h;split at h
  .rename_i e;let e':x=y:=by simpa using e
   cases h;subst e';show aS
  .show aE _<|jH h
theorem xQ {env:Env}:∀(names:Ĵ (Ŋ×ş)),(∀y∈names,y.2=.Ô->∃c,env.Ĭ.Æ y.1=ĳ c)->∀B:Ĵ (Ŋ×Ĺ),(∀n c,B.Æ n=ĳ c->env.Ĭ.Æ n=ĳ c)->
  ∃cl,(ų names B (λ(p:Ŋ×ş) (M:Ĵ (Ŋ×Ĺ))=>if (p.2==NameKind.Ô)=ķ then (do let a <- cellOf env p.1;pure (ForInStep.yield<|(p.1,a)::M)) else (pure (ForInStep.yield M):Sem _)):Sem (Ĵ<|Ŋ×Ĺ))=pure cl/\
   (∀n c,cl.Æ n=ĳ c->env.Ĭ.Æ n=ĳ c)/\(∀n,(∃c,B.Æ n=ĳ c)->∃c,cl.Æ n=ĳ c)/\∀n,(n,NameKind.Ô)∈names->∃c,cl.Æ n=ĳ c
 | [],_,B,ha=>%[11,B,yf,ha,λ_ h=>h|λ_ h=>by simp at h]
 | (n,k)::r,hf,B,ha=>by
  let L:∀y∈r,y.2=.Ô->∃c,env.Ĭ.Æ y.1=ĳ c:=λy Y=>hf y<|aE _ Y;by_cases hk:k=.Ô
  .subst hk;let(c,J):=hf (n,.Ô) aS rfl;let(cl,e,h1,D,F):=xQ r L ((n,c)::B) (λn' c' h=>by
    rw[mr]at h;split at h
    .rename_i q;let q':n'=n:=by simpa using q
     cases h;subst q';show J
    .show ha n' c' h)
   refine%[11,cl,?_,h1,λn' h=>D n' ?_|λn' h=>?_]
   .rw[gv];simp only[beq_self_eq_true,if_true];let N:cellOf env n=pure c:=by unfold cellOf;rw[J]
    rw[N];simp only[pure_bind];show e
   .let(c',G):=h;rw[mr];split;.show%[c|rb]
    .show%[c'|G]
   .rcases a_.mp h with q|q
    .calc D n' %[c|?_];cases q;rw[mr,beq_self_eq_true]
    .show F n' q
  .let O:(k==NameKind.Ô)=Ļ:=by simpa using hk
   let(cl,e,h1,D,F):=xQ r L B ha;refine%[11,cl,?_,h1,D|λn' h=>?_]
   .rw[gv];simp only[O,a9,if_false,pure_bind];show e
   .rcases a_.mp h with q|q;.cases q;show ń rb hk
    .show F n' q
theorem iU {env:Env}:∀{names:Ĵ (Ŋ×ş)} {x:Ŋ} {k:ş},
  (names.Q λ(n,k)=>if (k==NameKind.Ô&&env.ĉ.þ == .ĭ&&env.ę n==ĳ .ñ) then (n,NameKind.ñ) else (n,k)).Æ x=ĳ k->names.Æ x=ĳ k\/(k=.ñ/\names.Æ x=ĳ .Ô)
 | [],_,_,h=>by simp at h
 | (n,j)::r,x,k,h=>by
  let B:=@iU env r x k;let h':List.Æ x ((if (j==NameKind.Ô&&env.ĉ.þ == .ĭ&&env.ę n==ĳ .ñ)=ķ then (n,NameKind.ñ) else (n,j))::_)=ĳ k:=h;by_cases q:(j==NameKind.Ô&&env.ĉ.þ == .ĭ&&env.ę n==ĳ .ñ)=ķ
  .rw[Ŀ q]at h';cases hx:x==n with
   | true=>
    simp only[mr,hx]at h' ⊢;cases h';have:j=.Ô:=by simp at q;show q.1.1
    show .Ó %[rb|by rw[this]]
   | false=>simp only[mr,hx]at h' ⊢;show B h'
  .rw[ŀ q]at h';cases hx:x==n with| true=>simp only[mr,hx]at h' ⊢;show .Â h'| false=>simp only[mr,hx]at h' ⊢;show B h'
def Tg (I:ĵ->Ľ->Prop)(q:∀n s,I n s->Ł (ł prog w) A (pyNext it) (λr D=>match r with
   | none=>R (.ok .next) D
   | some v=>Ł (ł prog w) A (letOwnedTupleGo target it v) (λ_ s₀=>Ł (ł prog w) A (assign target env v) (λ_ F=>
     Ł (ł prog w) A (ų ifs ķ λc r=>if r=ķ then do let ok <- isTrue c env (Ŕ c env);pure (ForInStep.yield ok) else pure (ForInStep.yield r)) (λok B=>
      if ok=ķ then Ł (ł prog w) A (Ŕ elt env) (λx J=>Ł (ł prog w) A (call (.Õ "list.append") [acc,x]) (λ_ L=>∃m,m<n/\I m L) (λ_ _=>ř) J) (λ_ _=>ř) B
      else ∃m,m<n/\I m B) (λ_ _=>ř) F) (λ_ _=>ř) s₀) (λ_ _=>ř) D) (λ_ _=>ř) s)
  (n) (h:I n s) :
  codeAny (ł prog w) A (.compLoop (.ListComp elt [%[target,iter,ifs|0]] scope pos) 0 it acc env) R s:=by
 calc codeAny_loop rb I (λn s Y=>?_) n h;show Ł _ A ((compTurn (.ListComp elt [%[target,iter,ifs|0]] scope pos) 0 it acc env).onRaise λx=>do noteFrame x env;theTreesLotGoes x) _ _ s;calc wpAny_noted ?_;rw[compTurn_list];calc ab<|t9<|ab<|gz (q n s Y) (λr D M=>?_) λ_ _ h'=>h'.î;cases r with
 | none=>show af M
 | some v=>
  calc ab<|gz M (λ_ s₀ h₀=>?_) λ_ _ h'=>h'.î;calc ab<|gz h₀ (λ_ F O=>ab<|gz O (λok B G=>?_) λ_ _ h'=>h'.î) λ_ _ h'=>h'.î;cases ok with| false=>show af %[rb|G]| true=>show ab<|ab<|gz G (λx J Z=>ab<|gz Z (λ_ L N=>af<|af %[rb|N]) λ_ _ h'=>h'.î) λ_ _ h'=>h'.î
def PTs (X:Cx)(ifs:Ĵ Ő)(t:TT):Prop:=∀(ao:AC) (s:Ľ) (I:St) (H:Hp) (Q:œ->Hp->Prop),aL X ao I H s->t I H Q->
  Ł (ł X.Ñ X.w) X.A (ų ifs ķ λc r=>if r=ķ then do let ok <- isTrue c X.É (Ŕ c X.É);pure (ForInStep.yield ok) else pure (ForInStep.yield r)) (TP X ao I Q) X.xe s
structure VR (X:Cx)(ifs:Ĵ Ő)(t:TT):Prop where
 out:PTs X ifs t
def gb:TT:=λ_ H Q=>Q ķ H
def cF  : VR X [] gb:=⟨λ_ _ _ H _ I h=>wpAny_tests_nil %[0,H,I|h]⟩
def BW (h:QT X c t):VR X [c] t:=⟨λao s T H Q I q=>wpAny_tests_one<|h.ã ao s T H Q I q⟩
def dz (n i:ĵ)(P:Prop):Prop:=∃m',m'<n-i/\m'=n-(i+1)/\i+1<=n/\P
abbrev DN (n i:ĵ)(D:Ĺ)(ys:Ĵ V)(P:Ĵ V->Hp->Prop)(y:V)(H3:Hp):Prop:=H3 D=ĳ (.Ç ys)/\ys.n<Ń/\dz n i (P (ys++[y])<|upd H3 D<|.Ç<|ys++[y])
abbrev rM (J:It)(D:Ĺ)(H:Hp)(R:Hp->Prop)(B:V->Hp->VK->(Hp->Prop)->Prop):Prop:=∃W:ĵ->ĵ->Ĵ V->Hp->Prop,(∃m,W 0 m [] (upd H D<|.Ç []))/\
 ∀i m ys H,W i m ys H->(J.stop i H/\R H)\/(J.go i H/\∀x H',J.E_ i H x H'->B x H' (λy H3=>H3 D=ĳ (.Ç ys)/\ys.n<Ń/\∃m',m'<m/\W (i+1) m' (ys++[y]) (upd H3 D<|.Ç<|ys++[y])) λH2=>∃m',m'<m/\W (i+1) m' ys H2)
def DP {J:It}{D:Ĺ}{H:Hp}{R:Hp->Prop}{B:V->Hp->VK->(Hp->Prop)->Prop}(n:ĵ)(q:ĵ->Ĵ V->Hp->Prop)(N:q 0 [] (upd H D<|.Ç []))(M:∀i ys H,i<n->q i ys H->J.go i H/\∀x H',J.E_ i H x H'->B x H' (DN n i D ys<|q<|i+1) λL=>dz n i (q (i+1) ys L))(G:∀ys H,q n ys H->J.stop n H/\R H):rM J D H R B:=by
 calc%[0,λi m ys H=>m=n-i/\i<=n/\q i ys H,%[2,n,yf,b5 _|N]|?_];intro i m ys H z;let(rfl,hi,p):=z;by_cases F:i<n;.show .Ó<|M i ys H F p
 .let e:i=n:=ye;subst e;show .Â<|G ys H p
def xR {G:Hp->Ĵ V->Prop}{B:V->Hp->VK->(Hp->Prop)->Prop}{xs:Ĵ V}{D:Ĺ}{H:Hp}{R:Hp->Prop}(q:ĵ->Ĵ V->Hp->Prop)(L:q 0 [] (upd H D<|.Ç []))(F:∀i ys H,i<=xs.n->q i ys H->G H xs)(hs:∀i x ys H,xs[i]?=ĳ x->q i ys H->B x H (DN xs.n i D ys<|q<|i+1) λJ=>dz xs.n i (q (i+1) ys J))(hd:∀ys H,q xs.n ys H->R H):rM (ItS G) D H R B:=DP xs.n q L (λi ys H h p=>%[%[3,xs,xs[i],F i ys H (ax h) p|by simp[h]]|λx H' zq=>by let(e,y):=zq;subst e;show hs i x ys _ (y xs<|F i ys _ (ax h) p) p]) λys H p=>%[%[0,xs,F _ ys H (ah _) p|ah _]|hd ys H p]
abbrev Lz (I:St)(tt:TT)(te:TE)(x:V)(H:Hp)(k:VK)(l:Hp->Prop):Prop:=tt (ĳ x::I) H λb H2=>if b=ķ then te (ĳ x::I) H2 k else l H2
def KR (wi:TI)(tt:TT)(te:TE):TE:=λI H Q=>wi I H λJ H1=>∀D,H1 D=ĺ->rM J D H1 (Q<|.C D) (Lz I tt te)
def dW (X:Cx)(scope:Ŗ)(cl:Ĵ (Ŋ×Ĺ))(C:Ĺ)(N:Ĵ Ŋ)(s₀:Ľ)(H₀:Hp)(fp:Ĵ Ĺ):Cx:={X with N:=N,s₀:=s₀,H₀:=H₀,env:=compEnvC scope cl C X.É,outer:=X.İ,ex:=fp,fn:=λ_=>Ļ,pn:=[],xe:=λ_ _=>ř}
structure fu (X:Cx)(scope:Ŗ)(ns N2:Ĵ Ŋ)(f:St->St):Prop where
 kind:scope.þ=.ĭ
 Fl:∀y∈scope.Ú,y.2≠.ñ
 names:∀y∈scope.Ú,y.2=.ô->scope.Ú.Æ y.1=ĳ .ô
 free:∀y∈scope.Ú,y.2=.Ô->X.É.ę y.1=ĳ .ñ\/X.É.ę y.1=ĳ .Ô
 agD:∀σ:St,(f σ).n=σ.n
 agE:N2.n=X.N.n
 out:∀(σ:St) (i:ĵ) (y:Ŋ) (v:V),N2[i]?=ĳ y->(f σ)[i]?=ĳ (ĳ v)->X.N[i]?=ĳ y/\σ[i]?=ĳ (ĳ v)/\scope.Ú.Æ y≠ĳ .ô
def Fo (X:Cx)(tg:Ő)(k:ĵ)(TP:V->Hp->(St->Prop)->Prop):Prop:=∀(ao:AC) (s:Ľ) (pre rest:St) (H:Hp) (v:V) (u:Ķ) (Q:St->Prop),pre.n=k->aL X ao (pre++rest) H s->bL v u->TP v H Q->
  Ł (ł X.Ñ X.w) X.A (assign tg X.É u) (λ_ s'=>∃q,q.n=k/\aL X ao (q++rest) H s'/\Q q) (λ_ _=>ř) s
def zT (TP:V->Hp->(St->Prop)->Prop)(f:St->St)(I:St)(tt:TT)(te:TE)(x:V)(H:Hp)(k:VK)(l:Hp->Prop):Prop:=TP x H λpre=>tt (pre++f I) H λb q=>if b=ķ then te (pre++f I) q k else l q
def zU (f:St->St)(k:ĵ)(wi:TI)(TP:V->Hp->(St->Prop)->Prop)(tt:TT)(te:TE):TE:=λI H Q=>wi I H λJ H1=>∀D,H1 D=ĺ->rM J D H1 (Q<|.C D) (zT TP f I tt te)
def zV {X:Cx}{Y iter tg:Ő}{ns N2:Ĵ Ŋ}{f:St->St}{TP:V->Hp->(St->Prop)->Prop}{ifs:Ĵ Ő}{scope:Ŗ}{pos:Pos}{wi:TI}{tt:TT}{te:TE}(hc:X.Ě=ķ)(ok:fu X scope ns N2 f)(hi:PI X tg iter wi)(hg:∀cl C s₀ H₀ fp,Fo (dW X scope cl C (ns++N2) s₀ H₀ fp) tg ns.n TP)(ht:∀cl C s₀ H₀ fp,PTs (dW X scope cl C (ns++N2) s₀ H₀ fp) ifs tt)(he:∀cl C s₀ H₀ fp,PE (dW X scope cl C (ns++N2) s₀ H₀ fp) Y te)(hs:Ž (∀x,foldedSetIterable iter X.É x=pure x) ε){use:ĸ (Ķ->Sem ť)}{RR:AB}{p1:Pos}{ao:AC}{s:Ľ}{P:St}{H:Hp}{Q:V->Hp->Prop}(I:aL X ao P H s)(h:zU f ns.n wi TP tt te P H Q)(fin:∀(D C:Ĺ) (H4:Hp) (s5:Ľ) (m:Ŋ->ĸ Ķ),s5.H.Ns C m->(∀h',Heap.Ĉ C s5.H h'->aL X ao P H4 {s5 with heap:=h' })->mq X ao H4 C->Q (.C D) H4->compPost (ł X.Ñ X.w) X.A X.xe use RR (.C D) C (.ok .next) s5):Ł (ł X.Ñ X.w) X.A (comprehension (.ListComp Y [%[tg,iter,ifs|0]] scope pos) scope X.É p1 (newList []) Ļ (Ŕ iter X.É) use) RR X.xe s:=by
 let(cl,hcl,F,_,hall):=xQ (env:=X.env) scope.Ú (λy hy e=>I.ok.has y.1<|ok.Ô y hy e) [] (λ_ _ z=>by simp at z);let hclos:closureFor scope X.É=pure cl:=by unfold closureFor;simp only[bind_pure];show hcl
 calc wpAny_comprehension_free (use:=use) (E:=X.xe) (cl:=cl) rb hs hclos ok.þ ok.Ú<|bJ (hi ao s P H _ I h) λv s1 h1=>bJ h1 λitv s2 Z=>?_;let(it,fp,tn,J,H2,e,I2,T,st2,f2,R):=Z;subst e;let(W,(m0,w0),turn):=R s2.d I2.ä;calc dE<|wpAny_newFunctionEnv ok.Fl (by intro y hy;simp at hy) (λh₁ hns₁ hsb₁=>?_) ok.þ;let G:aL X ao P (upd H2 s2.d<|.Ç []) {s2 with heap:=s2.H.Ò {cls:=.È "list",data:=.ð ([]:Ĵ Ķ).Y} }:=I2.adM (t':=s2.toks) (ys:=[]) (its:=[]) .Ü<|b5 _;generalize hH3:upd H2 s2.d (HO.Ç [])=H3 at *
 generalize hs3:s2.H.Ò {cls:=.È "list",data:=.ð ([]:Ĵ Ķ).Y}=hp3 at *
 generalize hD:s2.heap.objs.size=D at *
 generalize hC:hp3.objs.size=C at *
 let hDC:D<C:=by rw[<-hC,<-hs3,d6,hD];show eQ _
 let L:∀b o,hp3.Á b=ĳ o->h₁.Á b=ĳ o:=λb o e=>(hsb₁.2 b (by rw[<-hC];show bn<|a6 e)).Z<|ag _ e;let fpl:∀b∈fp,b<C:=λb B=>by let(o,e,_):=T.obj _ _ st2 b B;rw[<-hC,<-hs3,d6];show hV<|a6 e
 let f3:∀b∈fp,mq X ao H3 b:=λb B=>by let(o,e,_):=T.obj _ _ st2 b B;calc%[?_|(f2 b B).2];rw[<-hH3,bx (by rw[<-hD];show bn<|a6 e)];show(f2 b B).1
 let adS:∀b∈fp,b∉frs X.İ:=λb B z=>by
  let(_,g1,g2,_):=f3 b B;rcases a_.mp (G.La b z) with q|q;.show g1 q
  .show g2 q
 let YOk:(dW X scope cl C (ns++N2) {s2 with heap:=hp3} H3 fp).Ok:=by
  calc%[I.ok.mod,?_,I.ok.glob,I.ok.blt,mE hC,?_,?_,?_,I.ok.hd,I.ok.frames,.Â rb,?_,?_,?_,?_,?_,?_|?_];.show ok.þ
  .show λa b c h1 Z=>I.ok.inj a b c (F a c h1)<|F b c Z
  .intro a ha;calc hall a ?_;rcases ha with z|z
   .rcases iU (env:=X.env) z with q|⟨_,q⟩;.show ń rb<|ok.Fl _<|jH q
    .show jH q
   .rcases iU (env:=X.env) z with q|⟨q,_⟩;.show jH q
    .cases q
  .intro a c hf;cases hf
  .intro b B;refine%[bn<|fpl b B|λa c h1=>(f3 b B).2.2.2.2.1 a c<|F a c h1]
  .show G.bs
  .show aw I.ok.zG G.sz
  .intro b o e B;rcases(f3 b B).2.2.2.1 with z|z;.show I.ok.Dv b o e z
   .show ń (bq (a6 e)<|aw I.ok.zG z)<|mh _
  .show adS
  .show G.İ
  .show G.Qi
 let Y0:aL (dW X scope cl C (ns++N2) {s2 with heap:=hp3} H3 fp) [] (List.Ë ns.n ĺ++f P) H3 {s2 with heap:=h₁,toks:=s2.Ï+([]:Ĵ (Ŋ×Ķ)).n}:=by
  refine%[YOk,rb,G.bare,Un.ġ L,%[0,_,hns₁|?_],?_,?_,?_,λp hp=>by simp[dW]at hp,G.ê.ġ L,?_,G.gh|ah _]
  .intro i y v e1 e2 e3;by_cases cJ:i<ns.n
   .rw[fc (by rw[dL];show cJ),List.getElem?_replicate,Ŀ cJ]at e2;simp at e2
   .obtain⟨i,rfl⟩:∃k,i=ns.n+k:=%[i-ns.n|by simp_all]
    let e1a:(ns++N2)[ns.n+i]?=ĳ y:=e1;rw[dC ye,lh]at e1a;rw[dC (by rw[dL];lia),dL,lh]at e2;let(e1',e2',hout):=ok.ã P i y v e1a e2;let N:(y,NameKind.Ô)∈scope.Ú:=by
     let key:∀k,(relabel scope X.É).Ú.Æ y=ĳ k->k≠.ô->k=.ñ\/k=.Ô->(y,NameKind.Ô)∈scope.Ú:=λk q n hk=>by
      rcases iU (env:=X.env) q with z|⟨_,z⟩
      .rcases hk with rfl|rfl;.show ń rb<|ok.Fl _<|jH z
       .show jH z
      .show jH z
     rcases e3 with z|z|z
     .rcases iU (env:=X.env) z with q|⟨q,_⟩;.show ń q hout
      .cases q
     .show key _ z yi<|.Â rb
     .show key _ z yi<|.Ó rb
    let hk:=ok.Ô _ N rfl;let(m,hn,hl):=G.loc;let(u,r,q):=hl i y v e1' e2' (by rcases hk with z|z;show .Ó<|.Â z;show .Ó<|.Ó z);refine%[0,u,r|.Ó %[?_|?_]]
    .rcases e3 with z|z|z
     .rcases iU (env:=X.env) z with q|⟨q,_⟩;.show ń q hout
      .cases q
     .show .Â z
     .show .Ó z
    .rcases q with⟨z,_⟩|⟨_,c,hc',hcell⟩
     .rcases hk with q|q <;> (rw[z]at q;cases q)
     .let(c',hc2):=hall y N;have:c'=c:=by have:=F y c' hc2;rw[hc']at this;show(bd this).Ù
      subst this;let(o,ho,hd):=hcell;show%[49,c',hc2,o,L _ _ ho|hd]
  .intro a c h1;let(v,o,ho,hd):=G.ñ a c (F a c h1);show%[3,v,o,L _ _ ho|hd]
  .show G.ê.ä<|mE hC
  .show λa c h1=>G.mO a c<|F a c h1
  .show (List.Ë ns.n ĺ++f P).n=(ns++N2).n;rw[ay,ay,dL,ok.agD,I.len,ok.agE]
 let back:∀(s':Ľ) (v:St) (H':Hp) (h':Ō),aL (dW X scope cl C (ns++N2) {s2 with heap:=hp3} H3 fp) [] v H' s'->Heap.Ĉ C s'.H h'->(∀b∈fp,H' b=ĺ)->aL X ao P H' {s' with heap:=h' }:=by
  intro s' v H' h' I' sb fr;let Jg:∀b o,hp3.Á b=ĳ o->b≠C:=λb o e=>by rw[<-hC];show bn<|a6 e
  let U:Un (frs X.İ) fp H3 H' hp3 s'.H:=I'.ø;refine G.call' (ch:=fp) (H':=H') (s':={s' with heap:=h' }) I'.os %[λb o e n h1 Z=>(sb.2 b<|Jg b o e).Z<|U.keep b o e n h1 Z,λb o e n h1 Z=>?_,U.Ô,λb o e Z=>?_,U.tups,U.vQ|U.xH] (λb ob e=>?_) I'.bare I'.gh I'.tk λb B=>?_
  .let(sl,q):=U.slot b o e n h1 Z;show%[sl|(sb.2 b<|Jg b o e).Z q]
  .let(o',q):=U.there b o e Z;show%[o'|(sb.2 b<|Jg b o e).Z q]
  .let fC:H' C=ĺ:=I'.Ô;calc(I'.ê b ob e).stay (λc w' hc q=>(sb.2 c ?_).Z q) (λ_ q=>q) λ_ _ q=>q;rintro rfl;rcases hc with rfl|hc
   .rw[fC]at e;cases e
   .rw[fC]at hc;cases hc
  .let(_,g1,_,g3,g4,g5):=f3 b B;show%[g3,g1,g4|g5]
 let M:∀{H':Hp},(∀b∈fp,H' b=ĺ)->∀b∈fp,mq (dW X scope cl C (ns++N2) {s2 with heap:=hp3} H3 fp) [] H' b:=λhn b B=>%[hn b B,bn<|fpl b B,adS b B,.Â B,λa c h1=>(f3 b B).2.2.2.2.1 a c<|F a c h1|λp hp=>by simp[dW]at hp]
 let st₁:tn 0 h₁:=T.keep _ _ _ st2 λb _ o e=>L b o (by rw[<-hs3];show ag _ e);let loop:codeAny (ł X.Ñ X.w) X.A (.compLoop (.ListComp Y [%[tg,iter,ifs|0]] scope pos) 0 (.C it) (.C D)<|compEnvC scope cl C X.É) (compPost (ł X.Ñ X.w) X.A X.xe use RR (.C D) C)
   {s2 with heap:=h₁,toks:=s2.Ï+([]:Ĵ (Ŋ×Ķ)).n}:=by
  calc Tg (λn s'=>∃i v ys H',v.n=ns.n/\aL (dW X scope cl C (ns++N2) {s2 with heap:=hp3} H3 fp) [] (v++f P) H' s'/\tn i s'.H/\(∀b∈fp,H' b=ĺ)/\W i n ys H') ?_ m0 %[6,0,List.Ë ns.n ĺ,[],H3,dL,Y0,st₁,λb B=>(f3 b B).1|w0];intro n s4 z;let(i,v,ys,H4,hv4,I4,eY,QB,w4):=z;rcases turn i n ys H4 w4 with⟨stop,qn⟩|⟨go,step⟩
  .refine bJ (T.done (dW X scope cl C (ns++N2) {s2 with heap:=hp3} H3 fp) rb rb rb hc i [] s4 (v++f P) H4 _ I4 (M QB) eY stop) λr s5 zq=>?_;let(hr,I5):=zq
   subst hr;let(m,hn,_):=id I5.loc;show fin D C H4 s5 m hn (λh' sb=>back s5 (v++f P) H4 h' I5 sb QB) %[I5.Ô|(G.m_ (H':=H3) (mE hC)<|G.ê.ä<|mE hC).2] qn
  .calc bJ (T.item (dW X scope cl C (ns++N2) {s2 with heap:=hp3} H3 fp) rb rb rb hc i [] s4 (v++f P) H4 _ I4 (M QB) eY go) λr s5 O=>?_;let(u,hr,h5):=O
   subst hr;calc bJ h5 λ_ s6 O=>?_;let(y,H6,I6,r6,y6,st6,fr6):=O;calc bJ (hg cl C {s2 with heap:=hp3} H3 fp _ s6 v (f P) H6 y u _ hv4 (I6.pinned (M fr6)<|T.obj _ _ st6) r6<|step y H6 y6) λ_ s7 O=>?_;let(pre,hpre,I7',q7):=O;calc bJ (ht cl C {s2 with heap:=hp3} H3 fp _ s7 _ H6 _ I7' q7) λb s8 O=>?_;let(H8,I8,q8):=O;let V0:∀{P':St} {H':Hp} {s':Ľ},aL (dW X scope cl C (ns++N2) {s2 with heap:=hp3} H3 fp) ([]++wC fp s6.H) P' H' s'->tn (i+1) s'.H/\∀b∈fp,H' b=ĺ:=λ{P' H' s'} I9=>by calc%[T.keep _ _ _ st6 λb B o e=>(I9.pin (b,o)<|cS _<|cS _<|mQ B e).1|λb B=>?_];let(o,e,d):=T.obj _ _ st6 b B;show(I9.pin (b,o)<|cS _<|cS _<|mQ B e).2.1
   cases b with
   | false=>let(m',hm,w'):=q8;let(k1,k2):=V0 I8;show%[0,m',hm|%[6,i+1,pre,ys,H8,hpre,I8.jG,k1,k2|w']]
   | true=>have q8':te (pre++f P) H8 _:=q8;calc bJ (he cl C {s2 with heap:=hp3} H3 fp _ s8 _ H8 _ I8 q8') λz s9 O=>?_;let(zv,H9,I9,r9,hD9,hz9,m',hm,w'):=O;calc bJ (gQ (X:=dW X scope cl C (ns++N2) {s2 with heap:=hp3} H3 fp) _ s9 _ H9 (.C D) [zv] (.C D) [z] (λ_ H'=>H'=upd H9 D (.Ç<|ys++[zv])) I9 rb (.Ð r9 .Ü) %[7,D,ys,zv,rb,rb,hD9,hz9|rb]) λ_ s10 O=>?_;let(_,H10,I10,_,e10):=O;subst e10;let(k1,k2):=V0 I10;show%[0,m',hm|%[6,i+1,pre,ys++[zv],_,hpre,I10.jG,k1,k2|w']]
 show codeAny_compStart_list loop<|T.self X.A 0 _ _ _ st₁ loop
def tE {scope:Ŗ}{N:Ĵ Ŋ}(B:N.Ý)(G:N[0]?=ĳ x)(hx:scope.Ú.Æ x=ĳ .ô):Fo (dW X scope cl C N s₀ H₀ fp) (.å x pos) 1 (λv _ Q=>Q [ĳ v]):=by intro ao s pre rest H v u Q hp I r q;let(L,rfl):=List.length_eq_one_iff.mp hp;calc bJ (jT (X:=dW X scope cl C N s₀ H₀ fp) (i:=0) B G (.Â<|lookup_relabel_local hx) (.Ó<|lookup_relabel_local hx) ao s _ H v u (λT' H'=>H'=H/\T'=ĳ v::rest) I r %[rb|rb]) λ_ s' F=>?_;let(T',H',I',J,D):=F;subst J D;show%[2,[ĳ v],rb,I'|q]
def fU {X:Cx}(L:X.Ě=ķ)(ok:fQ X scope x)(hi:QI X (.å x px) iter wi)(N:∀cl C s₀ H₀ fp,VR (blk X scope cl C x s₀ H₀ fp) ifs tt)(F:∀cl C s₀ H₀ fp,QE (blk X scope cl C x s₀ H₀ fp) elt te)(hs:Ž (∀x,foldedSetIterable iter X.É x=pure x) ε):QE X (.ListComp elt [%[.å x px,iter,ifs|0]] scope pos) (KR wi tt te):=⟨λao s T H Q I h=>by
 let G:fu X scope [x] X.N id:=%[ok.þ,ok.Fl,ok.Ú,ok.Ô,λ_=>rfl,rb|λT i y v B J=>%[B,J|ok.ã y<|a5 B]]
 show zV L G hi.ã (λcl C s₀ H₀ fp=>tE (gu.Û %[λz=>ok.ã x z ok.hx|ok.nd]) rb ok.hx) (λcl C s₀ H₀ fp=>(λcl C s₀ H₀ fp=>(N cl C s₀ H₀ fp).ã) cl C s₀ H₀ fp) (λcl C s₀ H₀ fp=>(λcl C s₀ H₀ fp=>(F cl C s₀ H₀ fp).ã) cl C s₀ H₀ fp) hs I h λD C M Y m hn bk _ q=>%[0,m,hn|λh' O=>%[1,.C D,M,bk h' O,rb|q]]⟩
def dz.mk {P:Prop}(h:i<n)(p:P):dz n i P:=%[11,_,pM h<|eQ _,rb,h|p]
def oU {K:W.Ê}{a D:Ĺ}{xs:Ĵ V}{te:TE}{I:St}{H:Hp}{R:Hp->Prop}(q:ĵ->Ĵ V->Hp->Prop)(B:q 0 [] (upd H D<|.Ç []))(F:∀i ys H,i<=xs.n->q i ys H->aP K H a xs)(hs:∀i x ys H,xs[i]?=ĳ x->q i ys H->te (ĳ x::I) H (DN xs.n i D ys<|q<|i+1))(hd:∀ys H,q xs.n ys H->R H):rM (Itl K a) D H R (Lz I gb te):=xR q B F hs hd
def Fp {lo:ļ}{n:ĵ}{D:Ĺ}{te:TE}{I:St}{H:Hp}{R:Hp->Prop}(q:ĵ->Ĵ V->Hp->Prop)(B:q 0 [] (upd H D<|.Ç []))(hs:∀i ys H,i<n->q i ys H->te (ĳ (.R<|lo+i)::I) H (DN n i D ys<|q<|i+1))(hd:∀ys H,q n ys H->R H):rM (Qn lo n) D H R (Lz I gb te):=DP n q B (λi ys H h p=>%[h|λx H' y=>by let(rfl,rfl):=y;show hs i ys _ h p]) λys H p=>%[ah _|hd ys H p]
def S (l:Ĵ ĵ):Ŋ:=⟨l.Y⟩
def Ti (l):(S l).ē.I=l:=rfl
def jg (l):(S l).n=l.n:=rfl
def uW (h:S a=S b):a=b:=Œ (λs:Ŋ=>s.ē.I) h
def YZ (z:Ŋ):S z.ē.I=z:=by cases z;rfl
def afB (a b):S a++S b=S (a++b):=by
 show (⟨a.Y++b.Y⟩:Ŋ)=⟨(a++b).Y⟩
 simp
def aaW (a b):ľ (V.À (S a)=V.À (S b))=ľ (a=b):=by
 by_cases e:a=b;.subst e;simp
 .rw[al e,al];intro z;injection z with z;show e<|uW z
section
variable {X:Cx}{a b c e o:Ő}{pos:Pos}
def abw (l){j pos}(h:x=S l):PE X (.ù (.À x) j pos) (tC<|.À<|S l):=by rw[h];show adi
def BX:R2:=λx y H Q=>∃i j,x=.À (S i)/\y=.À (S j)/\i.n+j.n<=Ń/\Q (.À<|S<|i++j) H
def lG:fB X (binaryOp .Add) BX:=by intro ao s T H x y v u Q I B D h;let(i,j,rfl,rfl,hz,q):=h;show SN ao s T H _ _ v u Q I B D %[4,S i,S j,rb,rb,hz|by rw[afB];show q]
def afC:R2:=λx y H Q=>∃l i c,x=.À (S l)/\y=.R i/\l.n<=Ń/\ju l i=ĳ c/\Q (.À<|S [c]) H
def vR:Lp X afC:=by intro value B ao s T H x y v u Q I G D h hs;let(l,i,c,rfl,rfl,hz,F,q):=h;show adJ value B ao s T H _ _ v u Q I G D %[7,S l,i,c,rb,rb,hz,F|q] hs
def afD:Ĵ V->Hp->VK->Prop:=λxs H Q=>∃l,xs=[.À (S l)]/\l.n<=Ń/\Q (.R l.n) H
def cP:d7 X (.Õ "len") afD:=by (intro ao s T H xs us Q I r h);let(l,rfl,hz,q):=h;show Ls ao s T H _ us Q I r %[2,S l,rb,hz|q]
def agF:R2:=λx y H Q=>∃i j,x=.À (S i)/\y=.À (S j)/\Q (.bl<|ľ<|i=j) H
def uc:fB X (compareOp .Eq) agF:=by intro ao s T H x y v u Q I B D h;let(i,j,rfl,rfl,q):=h;show kE ao s T H _ _ v u Q I B D %[rb|by rw[aaW];show q]
def agG:R2:=λx y H Q=>∃i j,x=.À (S i)/\y=.À (S j)/\Q (.bl<|!ľ (i=j)) H
def mC:fB X (compareOp .NotEq) agG:=by intro ao s T H x y v u Q I B D h;let(i,j,rfl,rfl,q):=h;show Fb ao s T H _ _ v u Q I B D %[rb|by rw[aaW];show q]
def agH:R2:=λx y H Q=>∃c l,x=.À (S [c])/\y=.À (S l)/\Q (.bl<|ľ<|c∈l) H
def Fq:fB X (compareOp .In) agH:=by
 intro ao s T H x y v u Q I B D h;let(c,l,rfl,rfl,q):=h;show Vm ao s T H _ _ v u Q I B D %[1,S [c],S l,rb,rb|by
  rw[show (S [c])=(⟨#[c]⟩:Ŋ) from rb,(xl (S l) c)];show q]
def mD (l:Ĵ ĵ)(lo hi:ĸ ļ):Ĵ ĵ:=(l.Î<|HT.cL l.n 0 lo).Å (HT.cL l.n l.n hi-HT.cL l.n 0 lo)
def QD (lo hi)(n):Builtin.Str.strSliceIndices lo hi 1 n=(List.æ<|HT.cL n n hi-HT.cL n 0 lo).Q (λk=>HT.cL n 0 lo+k):=by
 let q:∀(v:ļ) (d:ĵ),max (0:ļ) (min (if v<0 then v+(n:ļ) else v) (n:ļ))=((HT.cL n d (ĳ v):ĵ):ļ):=λv d=>by rw[<-HT.Br];split <;> grind
 let B:∀a b:ĵ,sliceRange (a:ļ) (b:ļ) 1=(List.æ<|b-a).Q (λk=>a+k):=λa b=>by
  simp only[sliceRange,show ((1:ļ) > 0)=True from by simp,if_true];by_cases D:(a:ļ)<b
  .let F:(((b:ļ)-a+1-1)/1).Ö=b-a:=by first|simp|(simp;done)|(simp;lia)
   simp only[D,if_true,F];calc du λk _=>?_;lia
  .have:b-a=0:=by simp_all
   simp[D,this]
 unfold Builtin.Str.strSliceIndices;cases lo with
 | none=>
  cases hi with| none=>show B 0 n| some j=>dsimp only;rw[q j n];show B 0 _
 | some i=>
  cases hi with| none=>dsimp only;rw[q i 0];show B _ n| some j=>dsimp only;rw[q i 0,q j n];show B _ _
def V1 (l)(lo hi):Txt.slice (S l) lo hi=S (mD l lo hi):=by
 let L:HT.cL l.n l.n hi<=l.n:=HT.Vu _ _ (ah _) _;let D:((Builtin.Str.strSliceIndices lo hi 1 (S l).n).û ((S l).ē[·]?))=mD l lo hi:=by
  rw[QD];unfold mD;by_cases q:HT.cL l.n 0 lo<=HT.cL l.n l.n hi
  .let J:=(StrLaws.picks l (HT.cL l.n l.n hi-HT.cL l.n 0 lo)<|HT.cL l.n 0 lo) (by simp_all);rw[jg];simpa [S] using J
  .let e:HT.cL l.n l.n hi-HT.cL l.n 0 lo=0:=Nat.sub_eq_zero_of_le ye;rw[jg,e];simp
 unfold Txt.slice;split
 .rename_i q;let F:(Builtin.Str.strSliceIndices lo hi 1 (S l).n).n=l.n:=by
   simpa [jg] using q
  let B:HT.cL l.n l.n hi-HT.cL l.n 0 lo=l.n:=by rw[QD,jg]at F;simpa using F
  let e:mD l lo hi=l:=by
   unfold mD;rw[B];rcases (show HT.cL l.n 0 lo=0\/l.n=0 from ye) with z|z;.rw[z];simp
   .have:l=[]:=nB.mp z;subst this;simp
  rw[e]
 .rw[D];rfl
def Tj:V->ĸ ļ->ĸ ļ->Hp->VK->Prop:=λx lo hi H Q=>∃l,x=.À (S l)/\l.n<=Ń/\Q (.À<|S<|mD l lo hi) H
def part_of {o:ĸ ļ}(p:Ũ v o):∃l:ĸ (ļ×Tok),v=partValue l/\l.Q (·.1)=o:=by
 cases p with| none=>show%[0,ĺ,rb|rb]| int i t=>show%[0,ĳ (i,t),rb|rb]
def Hw:Vv X Tj:=by intro ao s T H x v vl J lo hi sl Q I D hs pl G h;let(l,rfl,hz,q):=h;let(t,rfl):=D;let(p1,rfl,rfl):=part_of pl;let(p2,rfl,rfl):=part_of G;calc%[1,"str",_,F.slot_str_getitem.Æ,typeIs_str _ _ _|?_];calc cj<|wpAny_getItem_str_slice (l:=p1) (u:=p2) (st:=none) hs rb ?_;let e:=V1 l (p1.Q (·.1)) (p2.Q (·.1));calc post_val_or_str %[(aw (Txt.slice_le _ _ _) hz)|λt' k L=>?_];show%[1,.À (S (mD l (p1.Q (·.1)) (p2.Q (·.1)))),H,I.tok _,%[t'|congrArg (λz=>Value.À z t') (show (if ((Option.Q (λx:ļ×Tok=>x.1) ĺ).Í 1==1&&(slicePicked (S l) p1 p2 ĺ).n==(S l).n)=ķ then S l else ⟨((slicePicked (S l) p1 p2 ĺ).û ((S l).ē[·]?)).Y⟩)=S (mD l (p1.Q (·.1)) (p2.Q (·.1))) from e)]|q]
abbrev Ts (ls:AA):Ĵ V:=ls.Q λl=>V.À (S l)
def aaX (K:W.Ê):Ĵ V->Hp->VK->Prop:=λxs H Q=>∃x n t b,xs=[x,.ty n]/\o_ K H x t/\W.kitOne K t (.È n)=ĳ b/\Q (.bl b) H
def iI:d7 X (.Õ "isinstance") (aaX X.K):=by (intro ao s T H xs us Q I r h);let(x,n,t,b,rfl,ty,k,q):=h;let(u,w',rfl,r1,B):=vals2 r;cases B;show cj<|Vs I r1 ty k λtk D=>%[1,.bl b,H,I.tok tk,rb|q]
def afE:R2:=λx y H Q=>∃l n,x=.À (S l)/\y=.R (n:ĵ)/\1<=n/\n<1000/\l.n<1000/\Q (.À<|S (List.Ë n l).Ì) H
theorem LC (l:Ĵ ĵ):∀(n:ĵ) (q:Ņ ĵ),((List.Ë n l.Y).foldl (· ++ ·) q).I=q.I++(List.Ë n l).Ì
 | 0,q=>by simp
 | n+1,q=>by rw[gE,sn,LC l n,gE];simp
def abx:fB X (binaryOp .Mult) afE:=by
 intro ao s T H x y v u Q I N M h;let(l,n,rfl,rfl,h1,J,L,q):=h;let(t,rfl):=N;let(t',rfl):=M;let B:l.n*n<=1000*1000:=iE (ax L)<|ax J;let D:(1000*1000:ĵ)<=Ń:=by decide
 calc PySem.P.mul_str ?_ ?_ ?_ ?_;.rw[al yf,al ye];rfl
 .intro _ _;let e:(2^63-1:ļ)/(n:ļ)>=1000:=by
   calc Int.le_ediv_of_mul_le (ie eJ h1) ?_;have:(1000:ļ)*(n:ļ)<=1000*1000:=by lia
   lia
  rw[jg];lia
 .intro _ _;show ľ (_ > _)=Ļ;rw[al];rw[jg,b3];lia
 .rw[ŀ ye];let F:(⟨(List.Ë (n:ļ).Ö (S l).ē).foldl (· ++ ·) #[]⟩:Ŋ)=S (List.Ë n l).Ì:=by
   let e:=LC l n #[];unfold S;congr 1;apply nI.mp;simpa using e
  rw[F];split
  .rename_i G;let e:(List.Ë n l).Ì=l:=by
    simp at G;rcases G with z|z
    .have:n=1:=by lia
     subst this;simp
    .have:l=[]:=by simpa [S,Str.length] using z
     subst this;simp
   rw[e]at q;show%[1,.À<|S l,H,I,%[t|rb]|q]
  .calc%[17,?_,.À<|S (List.Ë n l).Ì,H,I.tok _,%[_|rb]|q];rw[jg,len_rep,ge];show aw B D
def QF (ls:AA):Txt.join (S []) (ls.Q S)=S ls.Ì:=by
 unfold Txt.join Builtin.Str.glued;let B:∀(ls:AA) (q:Ņ ĵ),((ls.Q S).foldl (λq p=>q++(S []).ē++p.ē) q).I=q.I++ls.Ì:=by
  intro ls
  induction ls with| nil=>intro q;simp| cons l r ih=>intro q;rw[b7,sn,ih];simp[S]
 congr 1;apply nI.mp;cases ls with| nil=>rfl| cons l r=>have:=B r (S l).ē;show this.Z (by simp[S])
def rJoin (K:W.Ê):V->Ĵ V->Hp->VK->Prop:=λx vs H Q=>∃p ls,x=.À (S [])/\vs=[.C p]/\aP K H p (Ts ls)/\ls.Ì.n<=1000/\Q (.À<|S ls.Ì) H
theorem BZ:∀{ls:AA} {us:Ĵ Ķ},Vals (Ts ls) us->ŭ us (ls.Q S)
 | [],_,.Ü=>.Ü
 | l::r,_,.Ð q t=>by let(t',rfl):=q;show .Ð (S l) t'<|BZ t
def QH (ls:AA):((ls.Q S).Q (·.n)).sum=ls.Ì.n:=by
 induction ls with| nil=>rfl| cons l r ih=>rw[b7,b7,List.sum_cons,ih,gd,ay,jg]
def oV:wG X "str.join" (rJoin X.K):=by
 intro ao s T H x vs v us Q I D F h;let(p,ls,rfl,rfl,G,hz,q):=h;let(t,rfl):=D;let(u,rfl,B):=vals1 F;cases B;let(its,r,pl,_):=I.ĕ G;calc cj<|join_list pl.ö (ys:=ls.Q S) (by simpa using BZ r) ?_ λt' k J=>?_;.rw[QH];show _+_*0<=_;lia
 .show%[1,.À<|S ls.Ì,H,I.tok k,%[t'|congrArg (λz=>Value.À z t')<|QF ls]|q]
end
structure sI (K:W.Ê)(mg:Ŋ->ĸ Ķ)(name:Ŋ)(st:ŏ)(ps:Ĵ Ŋ):Prop where
 ex:∃f fd,rD K name name st f fd/\lN K fd ps []/\mg name=ĳ (.C f)
structure Ft (P:Ň)(w:ŋ)(K:W.Ê)(mg:Ŋ->ĸ Ķ)(base:Ō)(name:Ŋ)(k:ĵ)(ps:Ĵ Ŋ)(sp:Sp):Prop where
 ex:∃f fd,tW P w K mg base qj k f fd ps sp/\lN K fd ps []/\mg name=ĳ (.C f)/\W.Ī K (.C f)=ķ
def sI.ok {K:W.Ê}{mg:Ŋ->ĸ Ķ}{name:Ŋ}{st:ŏ}{N ps:Ĵ Ŋ}{k:ĵ}{sp:Sp}(D:sI K mg name st ps)(S:aX N ps (aJ st))(len:∀vs H Q E,sp vs H Q E->vs.n=ps.n)(q:∀(f:Ĺ) (bw:Ķ) (A:ō) (outer:Ĵ Env) (s:Ľ) (H:Hp) (vs:Ĵ V) (Q:VK) (E:XK),dR k (A.deeper<|envOfC name (aJ st) s.d f bw)->sp vs H Q E->
   ∃t,CT (pA qj P w K mg base N name (aJ st) f bw A outer s H E).zH (eU st) t/\t {nx:=λ_ H'=>Q .ć H',rt:=Q} (start N vs) H):Ft P w K mg base name (k+1) ps sp:=by
 let(f,fd,F,b,g):=D.ex;show%[f,fd,F.ok S len<|q f,b,g|F.kp]
section
variable {X:Cx}{x:Ŋ}{p pos:Pos}{e:Ő}{es:Ĵ Ő}{t:TA}
def aV (D:Ft X.Ñ X.w X.K X.mg X.ø x k ps sp)(J:dR k X.A)(F:Gl X x)(ha:QA X (e::es) t)(q:Ž ((x==("__debug__":Ŋ))=Ļ) ſ)(hs:Ž (ŉ (e::es) X.É=(Ļ,Ŕ e X.É)::ŉ es X.É) ž)(B:Ž ((backTo pos<|ŉ es X.É).đ (·.1)=Ļ) ž):QE X (.ĩ (.å x p) (e::es) [] pos) (Bp sp [] E0 t):=⟨by
 let(f,fd,G,b,g,kp):=D.ex;show abn G J F g kp b .Ü f9 ha.ã q hs B⟩
end
theorem aA.upd (h:H p=ĺ):aA H (upd H p o):=λb o' e=>by rw[bx (bU e h)];show e
def aA.bH (s:aA H H')(h:H p=ĺ):aA H (L2.è H' p o):=λb o' e=>by rw[bx (bU e h)];show s b o' e
def Y4 {K:W.Ê}{h:Ō}{mg:Ŋ->ĸ Ķ}{name:Ŋ}{st:ŏ}{ps:Ĵ Ŋ}{f:Ĺ}{oc:Ķ}{od an:ĸ Ĺ}{osl:Ņ (ĸ Ķ)}{kV doc pm bw ct:Ķ}(X:K.In h)(G:h.Ns mainGlobals mg)(a:W.nsIn K mainGlobals name=ĳ (ĳ<|.C f))(l:K.Æ f=ĳ %[oc,od,.func<|W.fnOf name name (iT st) (eU st) (aJ st) .ß kV doc pm an bw ct|osl])(c:W.codeIn K bw name=ķ)(k:W.Ī K (.C f)=ķ)(q:∀(kV doc pm:Ķ) (an:ĸ Ĺ) (bw ct:Ķ) (us:Ĵ Ķ),us.n=ps.n->bindArgs (W.fnOf name name (iT st) (eU st) (aJ st) .ß kV doc pm an bw ct) %[us|[]]=pure (ps.zip us)):sI K mg name st ps:=%[f,_,zR l c k,(zR l c k).binds q|xb X G a]
def adT {K:W.Ê}{h:Ō}{mg:Ŋ->ĸ Ķ}{st:ŏ}{x:Ŋ}{f B:Ĺ}{oc:Ķ}{od an:ĸ Ĺ}{osl:Ņ (ĸ Ķ)}{kV doc pm bw ct:Ķ}(X:K.In h)(G:h.Ns mainGlobals mg)(q:mg "law"=ĳ (.C B))(a:W.nsIn K mainGlobals "law"=ĳ (ĳ<|.C f))(l:K.Æ f=ĳ %[oc,od,.func<|W.fnOf "law" "law" (iT st) (eU st) (aJ st) .ß kV doc pm an bw ct|osl])(c:W.codeIn K bw "law"=ķ)(k:W.Ī K (.C f)=ķ)(D:∀(kV doc pm:Ķ) (an:ĸ Ĺ) (bw ct v:Ķ),bindArgs (W.fnOf "law" "law" (iT st) (eU st) (aJ st) .ß kV doc pm an bw ct) %[[v]|[]]=pure [(x,v)]):∃fd:FuncData,rD K "law" "law" st B fd/\∀(s:Ľ) (v:Ķ),š s fd %[[v]|[]] [(x,v)]:=by let e:=q.Ù.Z<|xb X G a;cases e;show%[0,_,zR l c k|λs v=>.of_eq<|D kV doc pm an bw ct v]
def Tn (K:W.Ê):Sp:=λvs H Q _=>∃(a:Addr) (ns:Ĵ ļ),vs=[.C a]/\aP K H a (ns.Q V.R)/\ns.n<=63/\∀H',Q (.bl ķ) H'
def aby {x:Ŋ}{l:W.OpenLaw}{B:Ĵ Ŋ}{M:(Ŋ->ĸ Ķ)->Ō->Prop}{Y:ŋ->Ō->Prop}{d:DefRec}{K:Params->W.Ê}(hn:l.most=ĳ 63)(D:d.ç.defaults=[])(J:∀(w:ŋ) (h:Ō),Y w h->(K w.ç).In h)(F:∀(w:ŋ) (mg:Ŋ->ĸ Ķ) (G:Ĺ) (h:Ō),(K w.ç).In h->h.Ns mainGlobals mg->mg d.name=ĳ (.C G)->
   ∃fd:FuncData,(∀(s:Ľ) (u:Ķ),š s fd %[[u]|[]] [(x,u)])/\∀base:Ō,(K w.ç).In base->base.Ns mainGlobals mg->qM l.Ñ w (K w.ç) mg base qj 20 G fd [x] (Tn<|K w.ç)) :
  W.WalkO q B M Y l.row.toRowW d [] (λf vs=>PySem.call f vs):=
 L2.abv (n:=63) (k:=20) (x:=x) (CX:=λ_=>qj) (sp:=λw=>Tn (K w.ç)) hn yi D %[rb,yi|yi] J F (λ_ _ a ns L _ N=>%[4,a,ns,rb,N,L|λ_=>rfl]) λ_ _ _ _ _ z=>z
namespace RV
end RV
def QW.qt (h:QW X e t):QT X e t:=⟨h.ã.pt⟩
section
variable {X:Cx}{tg:Ő}
def cW (hp:Ū (ł X.Ñ X.w) X.A X.É X.xe)(D:X.Ě=ķ)(hi:QI X tg iter wi)(q:QG X tg g)(B:tU X body tb)(hs:Ž (∀x,foldedSetIterable iter X.É x=pure x) ε):QS X (.For tg iter body [] pos) (adv wi g tb):=⟨adw hp D hi.ã q.ã B.ã hs⟩
end
section
variable {X:Cx}{pos:Pos}
def bD (N:X.N.Ý)(hi:X.N[i]?=ĳ x)(hx:Loc X.É.ĉ x)(hf:Ž (X.fn x=ķ\/X.É.ĉ.Ú.Æ x=ĳ .ô) ζ):QG X (.å x pos) (lM i):=⟨jT N hi hx hf⟩
def jV {es:Ĵ Ő}{k:ĵ}{t:zJ}{n:ĵ}(B:X.Ě=ķ)(h:Vi X es t)(hn:Ž ((assignEach es X.É).n=n) ž)(q:Ž ((assignEach es X.É).findIdx? (·.1)=ĺ) ž):QG X (.Ă es k pos) (Le X.K n t):=⟨EY B h.ã hn q⟩
def g_  : Vi X [] Ld:=⟨Bk⟩
def bO (h1:QG X e t)(q:Vi X es u)(hs:Ž ((assignEach (e::es) X.É).Q (·.2)=assign e X.É::(assignEach es X.É).Q (·.2)) ž):Vi X (e::es) (o9 t u):=⟨jF h1.ã q.ã hs⟩
def qv (i:ĵ){x:Ŋ}{pos:Pos}(N:Ž (X.N[i]?=ĳ x) ž)(hv:Ž (Ve X.É.ĉ x) ι)(hd:Ž ((x==("__debug__":Ŋ))=Ļ) ſ)(q:Ž ((x==("__classdict__":Ŋ))=Ļ) ſ):QE X (.å x pos) (eG i):=⟨pv i N hv hd q⟩
def aG {X:Cx}{x:Ŋ}{pos:Pos}:=@qv X 0 x pos
def aW {X:Cx}{x:Ŋ}{pos:Pos}:=@qv X 1 x pos
def bh {X:Cx}{x:Ŋ}{pos:Pos}:=@qv X 2 x pos
def bG {X:Cx}{x:Ŋ}{pos:Pos}:=@qv X 3 x pos
def bV {X:Cx}{x:Ŋ}{pos:Pos}:=@qv X 4 x pos
def cB {X:Cx}{x:Ŋ}{pos:Pos}:=@qv X 5 x pos
def cM {X:Cx}{x:Ŋ}{pos:Pos}:=@qv X 6 x pos
def gO {X:Cx}{x:Ŋ}{pos:Pos}:=@qv X 7 x pos
def jO {X:Cx}{x:Ŋ}{pos:Pos}:=@qv X 8 x pos
def nQ {X:Cx}{x:Ŋ}{pos:Pos}:=@qv X 9 x pos
end
section
variable {X:Cx}
def b_ (l){j pos}(h:x=S l):QE X (.ù (.À x) j pos) (tC<|.À<|S l):=⟨abw l h⟩
end
def rfg {as:Ĵ Ĺ}{n:ĵ}{x:V}(h:(as.Q V.C)[n]?=ĳ x):∃h:n<as.n,V.C as[n]=x:=by
 let hn:n<as.n:=by have:=(ap.mp h).1;simpa using this
 rw[ba,ae hn]at h;show%[hn|bd h]
def sI.cQ {K:W.Ê}{mg:Ŋ->ĸ Ķ}{name:Ŋ}{st:ŏ}{N ps:Ĵ Ŋ}{k:ĵ}{sp:Sp}(D:sI K mg name st ps)(S:aX N ps (aJ st))(q:∀(f:Ĺ) (bw:Ķ) (A:ō) (outer:Ĵ Env) (s:Ľ) (H:Hp) (vs:Ĵ V) (Q:VK) (E:XK),dR k (A.deeper<|envOfC name (aJ st) s.d f bw)->sp vs H Q E->
   ∃t,tU (pA qj P w K mg base N name (aJ st) f bw A outer s H E).zH (eU st) t/\t {nx:=λ_ H'=>Q .ć H',rt:=Q} (start N vs) H) (len:Ž (∀vs H Q E,sp vs H Q E->vs.n=ps.n) μ):Ft P w K mg base name (k+1) ps sp:=
 D.ok S len λf bw A outer s H vs Q E B h=>let %[t,a|b]:=q f bw A outer s H vs Q E B h;%[0,t,a.ã|b]
def rD.cQ {K:W.Ê}{mg:Ŋ->ĸ Ķ}{x qual:Ŋ}{st:ŏ}{N ps:Ĵ Ŋ}{k:ĵ}{sp:Sp}(F:rD K x qual st f fd)(S:aX N ps (aJ st))(q:∀(bw:Ķ) (A:ō) (outer:Ĵ Env) (s:Ľ) (H:Hp) (vs:Ĵ V) (Q:VK) (E:XK),dR k (A.deeper<|envOfC qual (aJ st) s.d f bw)->sp vs H Q E->
   ∃t,tU (pA qj P w K mg base N qual (aJ st) f bw A outer s H E).zH (eU st) t/\t {nx:=λ_ H'=>Q .ć H',rt:=Q} (start N vs) H) (len:Ž (∀vs H Q E,sp vs H Q E->vs.n=ps.n) μ):tW P w K mg base qj (k+1) f fd ps sp:=
 F.ok S len λbw A outer s H vs Q E B h=>let %[t,a|b]:=q bw A outer s H vs Q E B h;%[0,t,a.ã|b]
def rD.agI {K:W.Ê}{mg:Ŋ->ĸ Ķ}{x qual y:Ŋ}{st:ŏ}{N:Ĵ Ŋ}{k:ĵ}{sp:Sp}(F:rD K x qual st f fd)(S:aX N [y] (aJ st))(D:(aJ st).Ú.Æ y=ĳ .ô)(len:∀vs H Q E,sp vs H Q E->vs.n=1)(q:∀(bw:Ķ) (A:ō) (outer:Ĵ Env) (s:Ľ) (H:Hp) (vs:Ĵ V) (Q:VK) (E:XK),dR k (A.deeper<|envOfC qual (aJ st) s.d f bw)->sp vs H Q E->
   ∃t,tU (pA qj P w K mg base N qual (aJ st) f bw A outer s H E).zH (eU st) t/\t {nx:=λ_ H'=>Q .ć H',rt:=Q} (start N vs) H):qM P w K mg base qj (k+1) f fd [y] sp:=
 F.VP S D len λbw A outer s H vs Q E B h=>let %[t,a|b]:=q bw A outer s H vs Q E B h;%[0,t,a.ã|b]
section
variable {prog:Ň}{w:ŋ}{A:ō}{E:AB}{s:Ľ}
def Fv (Y:Ł (ł prog w) A.ħ (collect v) (λvs s1=>∃ss,ŭ vs ss/\vs.n<64/\
   ∀(h':Ō) (B:Ĵ Ķ) (q:Ĵ Ŋ) (e:ĵ),(∀b o,s1.H.Á b=ĳ o->h'.Á b=ĳ o)->h'.Á s1.d=ĳ (seqObj "list" B.Y e)->ŭ B q->q.ú ss->sortedS q=ķ->
    Q (.C s1.d) {s1 with heap:=h' }) E s):Ł (ł prog w) A (call (.Õ "sorted") [v]) Q E s:=by
 calc Calls.call_function_entry kind_sorted plain_sorted entry_sorted (args_sorted1 _) ?_;calc ab (m:=checkCount "sorted" 1 1 _)<|af ?_;calc ab<|bJ Y λvs s1 zq=>?_;let(ss,F,D,h):=zq;calc ab<|xc ?_;let L:(s1.H.Ò<|seqObj "list" vs.Y 0).Á s1.d=ĳ (seqObj "list" vs.Y 0):=aT _ rfl;refine ab (eK (de slot_list_sort (s:={s1 with heap:=s1.H.Ò<|seqObj "list" vs.Y 0}) %[0,_,L|rb] entry_list_sort
  (list_sort_treeK (s:={s1 with heap:=s1.H.Ò<|seqObj "list" vs.Y 0}) strKind_oneLt L F.keysOf (λO Z rest e=>keyKind_strs (by rw[<-e];show F)) D λst' hp hs=>%[0,_,rb|?_])<|args_list_sort _))
 let(q,h1,M,N):=sorted_out_str F hp hs;let(e,J):=sortedHeap_at (vs:=vs) (out:=(arrOf st').Q (·.2)) L;calc af %[0,_,rb|h _ ((arrOf st').Q (·.2)).I q e (λb o z=>?_) (by show J) h1 M N];let G:b<s1.d:=a6 z;rw[sortedHeap_old (bn G) (by rw[d6];show hV G)];show ag _ z
theorem pF:∀{ss:Ĵ Ŋ} {us:Ĵ Ķ},ŭ us ss->Vals (ss.Q V.À) us
 | _,_,.Ü=>.Ü
 | _,_,.Ð x t r=>.Ð %[t|rb] (pF r)
end
def Its (l:Ĵ ĵ):It:=%[λi _=>i<l.n,λi H x H'=>H'=H/\∃c,l[i]?=ĳ c/\x=.À (S [c])|λi _=>l.n<=i]
def LK {P:Ň}{w:ŋ}{K:W.Ê}{tg:Ő}{ty:ŗ}(B:ty="str_ascii_iterator"\/ty="str_iterator")(l:Ĵ ĵ)(t:Tok)(it:Ĺ):Turn P w K tg (Its l) [it] it (λi h=>i<=l.n/\h.Ē it ty (S l) t i) where
 mem:=by simp
 obj:=λi h st b q=>by
  let e:b=it:=by simpa using q
  subst e;let(_,o,e,c,d):=st;show%[0,o,e|λv z=>by rw[d]at z;cases z]
 keep:=λi h h' st k=>%[st.1|let %[o,ho|r]:=st.2;%[0,o,k it yf o ho|r]]
 item:=by
  intro X hP hw hK G i ao s T H E I hf st Z;subst hP hw hK;let(M,Y,f2,f3,N,O):=hf it yf;let L:i<(S l).ē.E:=Z;let J:∀(v:Ķ) (h':Ō) (tk:ĵ),SignAt (S l) i v->h'.Ē it ty (S l) t (i+1)->(∀b o,b∉[it]->s.H.Á b=ĳ o->h'.Á b=ĳ o)->s.Ï<=tk->
    ∃u,ĳ v=ĳ u/\Ł (ł X.Ñ X.w) X.A (letOwnedTupleGo tg (.C it) u) (λ_ s2=>∃x H',aL X ao T H' s2/\bL x u/\(Its l).E_ i H x H'/\(i+1<=l.n/\s2.H.Ē it ty (S l) t (i+1))/\∀b∈[it],H' b=ĺ) E {s with heap:=h',toks:=tk}:=by
   intro v h' tk hv st' D F;let(c,u,hc',rfl):=hv;let(o,e,c2,d2):=id st';refine%[0,_,rb|Bl (s:={s with heap:=h',toks:=tk}) e c2 d2 (by rcases B with rfl|rfl <;> decide) %[12,.À<|S [c],H,(I.ı (λb o q e=>D b o (by simpa using q) e) M Y f3 N O),%[u|rb],%[14,rb,c,by simpa [S] using hc'|rb],%[Z|st']|λb q=>(hf b q).1]]
  rcases B with rfl|rfl;.show cj<|(Walks.strAscii (prog:=X.prog) (w:=X.w) (I.ok.hd G) it (S l) t).item i s _ _ L st.2 λv h' tk hv st' D F=>J v h' tk hv st' D F
  .show cj<|(Walks.strWide (prog:=X.prog) (w:=X.w) (I.ok.hd G) it (S l) t).item i s _ _ L st.2 λv h' tk hv st' D F=>J v h' tk hv st' D F
 done:=by
  intro X hP hw hK G i ao s T H E I hf st Z;subst hP hw hK;let(M,Y,f2,f3,N,O):=hf it yf;let hi:i=(S l).ē.E:=vE st.1 Z;let st':=st.2;rw[hi]at st';rcases B with rfl|rfl;.show cj<|(Walks.strAscii (prog:=X.prog) (w:=X.w) (I.ok.hd G) it (S l) t).done s _ _ st' λh' tk D F=>%[rb|I.ı (λb o q e=>D b o (by simpa using q) e) M Y f3 N O]
  .show cj<|(Walks.strWide (prog:=X.prog) (w:=X.w) (I.ok.hd G) it (S l) t).done s _ _ st' λh' tk D F=>%[rb|I.ı (λb o q e=>D b o (by simpa using q) e) M Y f3 N O]
 self:=λA i s Q E st h=>by
  rcases B with rfl|rfl;.show wpAny_pyIter_striter_ascii st.2 h
  .show wpAny_pyIter_striter_wide st.2 h
def V2 {a b c:Ĵ ĵ}(h1:¬b<a)(D:¬c<b):¬c<a:=by show List.le_trans h1 D
theorem Jr:∀(r:Ĵ Ŋ) (p:Ŋ),risingS p r=ķ->(∀x∈r,¬x.ē.I<p.ē.I)/\(r.Q λy=>y.ē.I).Ä (λa b=>ľ (b<a)=Ļ)
 | [],_,_=>%[λ_ h=>by simp at h|List.Ä.Ü]
 | y::r,p,h=>by
  rw[risingS,df]at h;let q:¬y.ē.I<p.ē.I:=by have:=h.1;simpa [ltCps_eq] using this
  let(h1,D):=Jr r y h.2;refine%[λx hx=>?_|?_]
  .rcases a_.mp hx with e|e;.rw[e];show q
   .show V2 q<|h1 x e
  .rw[b7];calc List.Ä.Ð (λb B=>?_) D;let(x,hx,rfl):=ar.mp B;show al<|h1 x hx
def zW (ss)(h:sortedS ss=ķ):(ss.Q λy=>y.ē.I).Ä (λa b=>ľ (b<a)=Ļ):=by
 cases ss with| nil=>show List.Ä.Ü| cons x r=>let(h1,B):=Jr r x h;calc List.Ä.Ð (λb q=>?_) B;let(y,D,rfl):=ar.mp q;show al<|h1 y D
section
variable {X:Cx}{tg:Ő}
def agJ (tl:TE):TI:=λT H R=>tl T H λx H1=>∃l,x=.À (S l)/\R (Its l) H1
def wI (F:QE X l tl):QI X tg l (agJ tl):=⟨by
 intro ao s T H R I h;calc bJ (F.ã ao s T H _ I h) λv s1 G=>?_;let(x,H1,I1,r1,q1):=G;let(l,e,q):=q1;subst e;let(t,rfl):=r1;calc rh ?_;let B:strIterType (S l)="str_ascii_iterator"\/strIterType (S l)="str_iterator":=by unfold strIterType;split <;> simp
 calc%[13,s1.d,[s1.d],_,_,H1,rb,I1.ġ (t':=s1.toks) λb o e=>ag _ e,LK B l t _,%[23,b5 _,_,aT _ rb,rb|rb],λb D=>?_|q];let e:b=s1.d:=by simpa using D
 subst e;show I1.m_ (ah _)<|I1.ê.ä<|ah _⟩
def xT {l:Ĵ ĵ}{D:Ĺ}{te:TE}{T:St}{H:Hp}{R:Hp->Prop}(q:ĵ->Ĵ V->Hp->Prop)(F:q 0 [] (upd H D<|.Ç []))(hs:∀i c ys H,l[i]?=ĳ c->q i ys H->te (ĳ (.À<|S [c])::T) H (DN l.n i D ys<|q<|i+1))(hd:∀ys H,q l.n ys H->R H):rM (Its l) D H R (Lz T gb te):=DP l.n q F (λi ys H h p=>%[h|λx H' y=>by let(rfl,c,B,rfl):=y;show hs i c ys _ B p]) λys H p=>%[ah _|hd ys H p]
def iY (O:X.Ě=ķ):d7 X (.Õ "all") (λxs H Q=>∃(p:Addr) (bs:Ĵ œ),xs=[.C p]/\aP X.K H p (bs.Q V.bl)/\Q (.bl<|bs.ė id) H):=by
 (intro ao s T H xs us Q I r h);let(p,bs,rfl,hq,q):=h;let(u,rfl,D):=vals1 r;cases D;let(its,G,pl,hz):=I.ĕ hq;let L:p≠s.d:=by let(o,Y,_):=pl.ö;show bn<|a6 Y
 let Z:∀(i:ĵ) (v:Ķ),its[i]?=ĳ v->v=.Ć (bs.Í i ķ):=λi v hv=>by
  let B:=G.n;let hi:i<bs.n:=by have:=(ap.mp hv).1;simp_all
  let(u,N,D):=G.get (i:=i) (x:=.bl bs[i]) (by simp[hi]);rw[hv]at N;cases N;cases D;simp[List.getD,hi]
 calc cj<|call_all_walk<|ox pl.ö ?_;refine%[56,s.d,_,_,_,_,_,λi=>bs.Í i ķ,rb,Walks.ĕ (A:=X.A.in1) (I.ok.hd O) s.d p L its.Y,%[%[2,_,aT _ rb,rb|rb]|pl.ö.at λo e=>ag _ e],?_|λh' tk kk ht=>?_]
 .intro i v s' Q' E' hv J;let e:=Z i v (by simpa using hv);subst e;show fq J
 .let I1:aL X ao T H {s with heap:=h',toks:=tk}:=I.ġ λb o e=>kk b o (by
   intro hm;have:b=s.d:=by simpa using hm
   subst this;show ń (a6 e)<|mh _)<|ag _ e
  calc%[1,.bl<|bs.ė id,H,I1,?_|q];let B:its.Y.E=bs.n:=by have:=G.n;simp at this;simp[this]
  rw[B];congr 1;let F:∀bs:Ĵ œ,(List.æ bs.n).ė (λi=>bs.Í i ķ)=bs.ė id:=λbs=>by
   rw[iN,fE,fE];constructor
   .intro h x hx;let(i,hi,rfl):=cE.mp hx;have:=h i<|bS.Û hi;simpa [List.getD,hi] using this
   .intro h i hi;let M:=bS.mp hi;have:=h bs[i]<|aI _;simpa [List.getD,M] using this
  show F bs
def Y6:R2:=λx y H Q=>∃i j,x=.À (S i)/\y=.À (S j)/\Q (.bl<|!ľ (j<i)) H
def rE:fB X (compareOp .LtE) Y6:=by intro ao s T H x y v u Q I D B h;let(i,j,rfl,rfl,q):=h;let(t,rfl):=D;let(t',rfl):=B;show ya %[1,.bl _,H,I,rb|q]
abbrev gR (l:Ĵ ĵ):Key:=Sum.Ó (S l)
def LQ (hc:X.Ě=ķ):d7 X (.Õ "sorted") (λxs H Q=>∃(d:Addr) (kvs:Ĵ (Key×V)) (ws:AA),xs=[.C d]/\H d=ĳ (.dK kvs)/\kvs.Q (·.1)=ws.Q gR/\ws.n<64/\
  ∀(p:Ĺ) (G:AA),H p=ĺ->G.ú ws->G.Ä (λa b=>ľ (b<a)=Ļ)->Q (.C p) (upd H p<|.Ç<|Ts G)):=by
 (intro ao s T H xs us Q I r h);let(d,kvs,ws,rfl,hd,hk,Z,q):=h;let(u,rfl,ru):=vals1 r;cases ru;let(hz,lo,vs,L,dd):=Tf I.ê hd;let(ep,hat):=dd.dictAt;let O:vs.n=ws.n:=by let h1:=KV.n L;let h2:=Œ List.n hk;simp at h2;lia
 calc cj<|Fv<|W.kdu_collect (A:=X.A.in1) (W.kdl_dict (knd:=cV X.Ñ X.w) (kvs:=vs) (ep:=ep) lo) (I.ok.hd hc) hat (by rw[O];show ax<|aF ye) λh' tk Y kk D=>?_;let hS:ŭ Y.I (ws.Q S):=by
  let N:∀(l:Ĵ Ķ) (m:AA),l.n=m.n->(∀(j:ĵ) v,l[j]?=ĳ v->∃c,m[j]?=ĳ c/\∃u,v=.À (S c) u)->ŭ l (m.Q S):=by
   intro l
   induction l with
   | nil=>intro m J _;cases m with|nil=>show .Ü|cons c r=>simp at J
   | cons a r ih=>
    intro m J hv;cases m with
    | nil=>simp at J
    | cons c m=>
     let(c',e,u,rfl):=hv 0 a rfl;let e':c=c':=by simpa using e
     subst e';show .Ð _ u<|ih m (by simpa using J) λj v hj=>hv (j+1) v hj
  calc N _ _ (by rw[bo,D.1,O]) λj v hj=>?_;let(k,x,hx,hi):=D.2 j v (by simpa using hj);let F:(ws.Q gR)[j]?=ĳ k:=by rw[<-hk,(KV.keys L),ba,hx];rfl
  rw[ba]at F;cases hw:ws[j]? with
  | none=>rw[hw]at F;cases F
  | some c=>
   rw[hw]at F;let e:gR c=k:=by simpa using F
   subst e;calc%[0,c,rb|?_];rcases dG (show jN (Sum.Ó<|S c) v=ķ from hi) with⟨i,t,e1,_⟩|⟨y,t,e1,e2⟩;.cases e1
   .cases e1;show%[t|e2]
 calc%[2,_,hS,by rw[bo,D.1,O];show Z|λh2 M B e k2 he hS' pm so ht=>?_];let I1:aL X ao T H {s with heap:=h',toks:=tk}:=I.ġ kk;let es:B=(B.Q λy=>y.ē.I).Q S:=by rw[cp];calc(me _).Ù.Z<|du λy _=>?_;show(YZ y).Ù
 let pG:(B.Q λy=>y.ē.I).ú ws:=by have:=pm.Q λy:Ŋ=>y.ē.I;rw[cp]at this;let e:((λy:Ŋ=>y.ē.I) ∘ S)=id:=rfl;rw[e,me]at this;show this
 let hv:Vals (Ts<|B.Q λy=>y.ē.I) M:=by have:=pF hS';rw[es]at this;simpa [Ts,tN] using this
 let J:(Ts<|B.Q λy=>y.ē.I).n<=Ń:=by rw[aa,pG.length_eq];show ax<|aF ye
 refine%[1,.C h'.X.E,_,I1.Ĝ (o:=.Ç _) (t':=tk) k2 (ah _) %[16,J,M,e,hv|he],rb|q _ _ I1.ä pG<|zW B so]
def QI.or (h1:QI X tg iter w1)(q:QI X tg iter w2):QI X tg iter (λT H R=>w1 T H R\/w2 T H R):=⟨λao s T H R I h=>by
 rcases h with h|h;.show h1.ã ao s T H R I h
 .show q.ã ao s T H R I h⟩
end
def aP.keep {K:W.Ê}{xs:Ĵ V}(k:∀b o,H b=ĳ o->b≠p->H' b=ĳ o)(hp:∀o,H p=ĳ o->(∀ys,o≠.Ç ys)/\∀u ys,o≠.jk u (.Ç ys))(h:aP K H a xs):aP K H' a xs:=by
 rcases h with(h|⟨o,h⟩)|h;.show .Â<|.Â<|k _ _ h λe=>(hp _<|e ▸ h).1 _ rb
 .show .Â<|.Ó %[o|k _ _ h λe=>(hp _<|e ▸ h).2 _ _ rb]
 .show .Ó h
def aM.keep {K:W.Ê}{xs:Ĵ V}(k:∀b o,H b=ĳ o->b≠p->H' b=ĳ o)(hp:∀o,H p=ĳ o->(∀ys,o≠.Ã ys)/\∀u ys,o≠.jk u (.Ã ys))(h:aM K H a xs):aM K H' a xs:=by
 rcases h with(h|⟨o,h⟩)|h;.show .Â<|.Â<|k _ _ h λe=>(hp _<|e ▸ h).1 _ rb
 .show .Â<|.Ó %[o|k _ _ h λe=>(hp _<|e ▸ h).2 _ _ rb]
 .show .Ó h
section
variable {X:Cx}
def agK:V->Ĵ V->Hp->VK->Prop:=λx vs H Q=>∃l,x=.À (S l)/\vs=[]/\l.n<=1000/\(∀c∈l,c<128)/\Q (.À<|S<|l.Q up1) H
def adU:wG X "str.upper" agK:=by
 intro ao s T H x vs v us Q I G J h;let(l,rfl,rfl,hz,ha,q):=h;let(t,rfl):=G;let D:=J.zero;subst D;let B:Builtin.Str.tooLong (Txt.upper<|S l).n=Ļ:=fit_upper (by rw[jg];lia);calc call_gives F.slot_str_upper (typeIs_str s _ t) F.entry_str_upper (F.args_str_upper_1 _) (gives_str_upper (S l) t B) %[fit_le B|?_];let e:Txt.upper (S l)=S (l.Q up1):=by rw[upper_ascii (x:=S l) ha];simp[S]
 show%[1,.À<|S<|l.Q up1,H,I.tok _,%[s.Ï|congrArg (λz=>Value.À z s.Ï) e]|q]
def adV:V->Ĵ V->Hp->VK->Prop:=λx vs H Q=>∃l,x=.À (S l)/\vs=[]/\l.n<=1000/\(∀c∈l,c<128)/\Q (.À<|S<|l.Q lo1) H
def pH:wG X "str.lower" adV:=by
 intro ao s T H x vs v us Q I G J h;let(l,rfl,rfl,hz,ha,q):=h;let(t,rfl):=G;let D:=J.zero;subst D;let B:Builtin.Str.tooLong (Txt.lower<|S l).n=Ļ:=fit_lower (by rw[jg];lia);calc call_gives F.slot_str_lower (typeIs_str s _ t) F.entry_str_lower (F.args_str_lower_1 _) (gives_str_lower (S l) t B) %[fit_le B|?_];let e:Txt.lower (S l)=S (l.Q lo1):=by rw[lower_ascii (x:=S l) ha];simp[S]
 show%[1,.À<|S<|l.Q lo1,H,I.tok _,%[s.Ï|congrArg (λz=>Value.À z s.Ï) e]|q]
end
def abz {l:Ĵ ĵ}{g:TG}{tb:TS}{D:Ends}{I:St}{H:Hp}(q:ĵ->St->Hp->Prop)(G:q 0 I H)(hs:∀i c I H,l[i]?=ĳ c->q i I H->g (.À<|S [c]) I H λI2 F=>tb {D with nx:=q<|i+1,ct:=q<|i+1,bk:=D.nx} I2 F)(hd:∀I H,q l.n I H->D.nx I H):Dy (Its l) g tb D I H:=Lg l.n q G (λi I H h p=>%[h|λx H' y=>by let(rfl,c,B,rfl):=y;show hs i c I _ B p]) λI H p=>%[ah _|hd I H p]
def AL:Ĵ ĵ:=(List.æ 26).Q (97 + ·)
def DQ {ds:Ĵ ļ}{lo hi:ĸ ļ}{v:V}(h:v∈lH (ds.Q V.R) lo hi):∃d∈ds,v=.R d:=by let(d,hd,e):=ar.mp (kR<|eL h);show%[0,d,hd|e.Ù]
def QJ {I:Type}{xs:Ĵ I}(hn:xs.n=n)(h:0<n)(c):∃v,ju xs (c%(n:ļ))=ĳ v/\v∈xs:=by
 let B:0<=c%(n:ļ):=iP _ ye;let h1:c%(n:ļ)<n:=fS _<|ie eJ h;obtain⟨k,hk⟩:∃k:Nat,c%(n:ļ)=(k:ļ):=%[(c%(n:ļ)).Ö|ye]
 rw[hk];let q:k<xs.n:=by simp_all
 show%[0,xs[k],aQ (by simp[q])|aI _]
inductive Dt where
 | non|int (i:ļ)|str (l:Ĵ ĵ)|tup (ds:Ĵ Dt)|lst (ds:Ĵ Dt)
mutual
def toP:Dt->Ŧ
 | .ć=>.ß
 | .R i=>.R i
 | .À l=>.À (S l)
 | .Ã ds=>.ğ (eO ds)
 | .Ç ds=>.ĕ (eO ds)
def eO:Ĵ Dt->Ĵ Ŧ
 | []=>[]
 | d::ds=>toP d::eO ds
end
mutual
theorem Fw:∀d e:Dt,PyData.eqv (toP d) (toP e)=ķ↔d=e
 | .ć,.ć=>by simp[toP,PyData.eqv]
 | .ć,.R _=>by simp[toP,PyData.eqv]
 | .ć,.À _=>by simp[toP,PyData.eqv]
 | .ć,.Ã _=>by simp[toP,PyData.eqv]
 | .ć,.Ç _=>by simp[toP,PyData.eqv]
 | .R _,.ć=>by simp[toP,PyData.eqv]
 | .R _,.R _=>by simp[toP,PyData.eqv]
 | .R _,.À _=>by simp[toP,PyData.eqv]
 | .R _,.Ã _=>by simp[toP,PyData.eqv]
 | .R _,.Ç _=>by simp[toP,PyData.eqv]
 | .À _,.ć=>by simp[toP,PyData.eqv]
 | .À _,.R _=>by simp[toP,PyData.eqv]
 | .À a,.À b=>by simp only[toP,PyData.eqv,beq_iff_eq,Dt.str.injEq];show%[uW|λz=>by rw[z]]
 | .À _,.Ã _=>by simp[toP,PyData.eqv]
 | .À _,.Ç _=>by simp[toP,PyData.eqv]
 | .Ã _,.ć=>by simp[toP,PyData.eqv]
 | .Ã _,.R _=>by simp[toP,PyData.eqv]
 | .Ã _,.À _=>by simp[toP,PyData.eqv]
 | .Ã ds,.Ã es=>by simp only[toP,PyData.eqv,Dt.tup.injEq];show LR ds es
 | .Ã _,.Ç _=>by simp[toP,PyData.eqv]
 | .Ç _,.ć=>by simp[toP,PyData.eqv]
 | .Ç _,.R _=>by simp[toP,PyData.eqv]
 | .Ç _,.À _=>by simp[toP,PyData.eqv]
 | .Ç _,.Ã _=>by simp[toP,PyData.eqv]
 | .Ç ds,.Ç es=>by simp only[toP,PyData.eqv,Dt.lst.injEq];show LR ds es
theorem LR:∀ds es:Ĵ Dt,PyData.eqvAll (eO ds) (eO es)=ķ↔ds=es
 | [],[]=>by simp[eO,PyData.eqvAll]
 | [],_::_=>by simp[eO,PyData.eqvAll]
 | _::_,[]=>by simp[eO,PyData.eqvAll]
 | d::ds,e::es=>by simp only[eO,PyData.eqvAll,df,x6];rw[Fw d e,LR ds es]
end
open Classical in
def Hx (d e:Dt):PyData.eqv (toP d) (toP e)=ľ (d=e):=by
 by_cases h:d=e;.rw[am h];show(Fw d e).Û h
 .rw[al h];cases z:PyData.eqv (toP d) (toP e) with| false=>rfl| true=>show ń ((Fw d e).mp z) h
mutual
inductive fX (K:W.Ê) (H:Hp):ĵ->Dt->V->Prop
 | non {n}:fX K H n .ć .ć
 | int {n} (i:ļ):fX K H n (.R i) (.R i)
 | str {n} (l:Ĵ ĵ) (h:∀c∈l,c<128):fX K H n (.À l) (.À<|S l)
 | tup {n a ds xs} (h:aM K H a xs) (hs:fV K H n ds xs):fX K H (n+1) (.Ã ds) (.C a)
 | lst {n a ds xs} (h:aP K H a xs) (hs:fV K H n ds xs):fX K H (n+1) (.Ç ds) (.C a)
inductive fV (K:W.Ê) (H:Hp):ĵ->Ĵ Dt->Ĵ V->Prop
 | nil {n}:fV K H n [] []
 | cons {n d ds x xs} (h:fX K H n d x) (hs:fV K H n ds xs):fV K H n (d::ds) (x::xs)
end
def QK (h:∀c∈l,c<128):PyData.strOk (S l)=ķ:=by show l.Y.ė _=ķ;rw[Array.all_eq_true_iff_forall_mem];intro x hx;have:=h x (by simpa using hx);show am ye
def fX.lay {K:W.Ê}{n:ĵ}{d:Dt}{x:V}(h:fX K H n d x):(toP d).canLay0=ķ/\(toP d).depth<=n:=by
 refine fX.rec (motive_1:=λn d _ _=>(toP d).canLay0=ķ/\(toP d).depth<=n) (motive_2:=λn d _ _=>PyData.canLayAll0 (eO d)=ķ/\PyData.depthAll (eO d)<=n) ?_ (λ_=>?_) (λl h=>?_) (λ_ _ i=>?_) (λ_ _ i=>?_) ?_ (λ_ _ a b=>?_) h
 .simp[toP,PyData.canLay0,PyData.depth]
 .simp[toP,PyData.canLay0,PyData.depth]
 .simp only[toP,PyData.canLay0,PyData.depth];show%[QK h|b5 _]
 .simp only[toP,PyData.canLay0,PyData.depth];show%[i.1|ja i.2]
 .show%[i.1|ja i.2]
 .simp[eO,PyData.canLayAll0,PyData.depthAll]
 simp only[eO,PyData.canLayAll0,PyData.depthAll,df];show%[%[a.1|b.1]|Nat.max_le.Û %[a.2|b.2]]
def fX.same {K:W.Ê}(q:aA H H')(st:∀a xs,aM K H a xs->aM K H' a xs){n:ĵ}{d:Dt}{x:V}(h:fX K H n d x):fX K H' n d x:=fX.rec (motive_1:=λn d x _=>fX K H' n d x) (motive_2:=λn d x _=>fV K H' n d x) .ć .R .À (λh _ i=>.Ã (st _ _ h) i) (λh _ i=>.Ç (q.ð h) i) .Ü (λ_ _=>.Ð) h
def aA.adW {K:W.Ê}{xs:Ĵ V}(e:aA H H')(h:aM K H a xs):aM K H' a xs:=by
 rcases h with(h|⟨o,h⟩)|h;.show .Â<|.Â<|e _ _ h
 .show .Â<|.Ó %[o|e _ _ h]
 .show .Ó h
def fX.mv {K:W.Ê}(q:aA H H'){n:ĵ}{d:Dt}{x:V}(h:fX K H n d x):fX K H' n d x:=h.same q λ_ _=>q.adW
section
variable {X:Cx}
def fX.reads {ao:AC}{T:St}{H:Hp}{s:Ľ}(I:aL X ao T H s){n:ĵ}{d:Dt}{x:V}{u:Ķ}(h:fX X.K H n d x)(r:bL x u):∃as,Ŵ s.H u (toP d) as:=by
 refine fX.rec (motive_1:=λ_ d x _=>∀u,bL x u->∃as,Ŵ s.H u (toP d) as) (motive_2:=λ_ d x _=>∀u,Vals x u->∃as,ũ s.H u (eO d) as) (λu r=>?_) (λi u r=>?_) (λl h u r=>?_) (λh _ i u r=>?_) (λh _ i u r=>?_) (λu r=>?_) (λ_ _ i j u r=>?_) h u r
 .cases r;show%[[]|by rw[toP];show .ß]
 .let(t,rfl):=r;show%[[]|by show .R i t]
 .let(t,rfl):=r;show%[[]|by show .À _ t]
 .cases r;let(its,F,pl,_):=I.ğ h;let(as,D):=i _ F;let(o,B,q,n,hd):=pl;show%[as|by show .ğ B q hd (by simpa using D)]
 .cases r;let(its,F,pl,_):=I.ĕ h;let(as,D):=i _ F;let(o,B,q,n,hd):=pl.ö;show%[_::as|by show .ĕ B q hd (by simpa using D)]
 .cases r;show%[[]|by rw[eO];show .Ü]
 cases r with| cons q t=>let(as,a):=i _ q;let(bs,b):=j _ t;show%[as++bs|by show .Ð a b]
def fX.shaped {K:W.Ê}{n:ĵ}{d:Dt}{x:V}(h:fX K H n d x)(hn:n<=64):SeqAt.shaped (toP d)=ķ:=by unfold SeqAt.shaped;rw[h.lay.1,am (aw h.lay.2 hn)];rfl
open Classical in
def adX (K:W.Ê)(q:œ):R2:=λx y H Q=>∃n d e,n<=64/\fX K H n d x/\fX K H n e y/\Q (.bl<|if q then !ľ (d=e) else ľ (d=e)) H
def V3 (L:X.A.Þ+64<cLine):fB X (compareOp .Eq) (adX X.K Ļ):=by intro ao s T H x y v u Q I G F h;let(n,d,e,hn,hd,B,q):=h;let(as,J):=hd.reads I G;let(bs,D):=B.reads I F;calc SeqAt.compareEq_shaped J D (hd.shaped hn) (B.shaped hn) L %[1,.bl _,H,I,rb|?_];rw[Hx];show q
def Fx (L:X.A.Þ+64<cLine):fB X (compareOp .NotEq) (adX X.K ķ):=by intro ao s T H x y v u Q I G F h;let(n,d,e,hn,hd,B,q):=h;let(as,J):=hd.reads I G;let(bs,D):=B.reads I F;calc SeqAt.compareNe_shaped J D (hd.shaped hn) (B.shaped hn) L %[1,.bl _,H,I,rb|?_];rw[Hx];show q
def adY (K:W.Ê):V->Ĵ V->Hp->VK->Prop:=λx vs H Q=>∃p ls,x=.À (S [])/\vs=[.C p]/\aM K H p (Ts ls)/\ls.Ì.n<=1000/\Q (.À<|S ls.Ì) H
def xU:wG X "str.join" (adY X.K):=by
 intro ao s T H x vs v us Q I D F h;let(p,ls,rfl,rfl,G,hz,q):=h;let(t,rfl):=D;let(u,rfl,B):=vals1 F;cases B;let(its,r,pl,_):=I.ğ G;calc cj<|join_tuple pl (ys:=ls.Q S) (by simpa using BZ r) ?_ λt' k J=>?_;.rw[QH];show _+_*0<=_;lia
 .show%[1,.À<|S ls.Ì,H,I.tok k,%[t'|congrArg (λz=>Value.À z t')<|QF ls]|q]
end
def ud {K:W.Ê}{a D:Ĺ}{xs:Ĵ V}{te:TE}{I:St}{H:Hp}{R:Hp->Prop}(q:ĵ->Ĵ V->Hp->Prop)(B:q 0 [] (upd H D<|.Ç []))(F:∀i ys H,i<=xs.n->q i ys H->aM K H a xs)(hs:∀i x ys H,xs[i]?=ĳ x->q i ys H->te (ĳ x::I) H (DN xs.n i D ys<|q<|i+1))(hd:∀ys H,q xs.n ys H->R H):rM (Qm K a) D H R (Lz I gb te):=xR q B F hs hd
section
variable {X:Cx}{x:Ŋ}{pos:Pos}
def kJ (q:Gl X x)(hm:∃t,X.mg x=ĳ (.À (S l) t))(hd:Ž ((x==("__debug__":Ŋ))=Ļ) ſ):QE X (.å x pos) (tC<|.À<|S l):=let %[t|e]:=hm;Qk q e %[t|rb] hd
def KY (q:Gl X x)(hm:∃t,X.mg x=ĳ (.R i t))(hd:Ž ((x==("__debug__":Ŋ))=Ļ) ſ):QE X (.å x pos) (tC<|.R i):=let %[t|e]:=hm;Qk q e %[t|rb] hd
def adZ (q:QE X o to)(hi:QE X i ti)(hs:Yw X t)(ha:Ž (∀v,assign (.Č o i pos) X.É v=(do
   let ov <- holding [v] (Ŕ o X.É)
   let iv <- holding [v,ov] (Ŕ i X.É)
   standAt pos
   holding [v,ov,iv] (setItem ov iv v)
   release [v,ov,iv] [])) ε):QG X (.Č o i pos) (adp to ti t):=⟨adq q.ã hi.ã hs ha⟩
end
def iJ:bootBuiltins "all"=ĳ (.Õ "all"):=by decide +kernel
def zY:bootBuiltins "any"=ĳ (.Õ "any"):=by decide +kernel
def Y7 {K:W.Ê}(X:K.In h)(G:h.Ns mainGlobals mg)(a:W.nsIn K mainGlobals x=ĳ (ĳ<|.À (S l) t)):∃t,mg x=ĳ (.À (S l) t):=%[t|xb X G a]
def Y8 {K:W.Ê}(X:K.In h)(G:h.Ns mainGlobals mg)(a:W.nsIn K mainGlobals x=ĳ (ĳ<|.R i t)):∃t,mg x=ĳ (.R i t):=%[t|xb X G a]
section
variable {X:Cx}
def Y9 (K:W.Ê)  (h:Ž (X.K=K) ž):Lp X (adH K):=by subst h;show iR
def iV (K:W.Ê)  (h:Ž (X.K=K) ž):Lp X (Td K):=by subst h;show bY
def abA (K:W.Ê)  (h:Ž (X.K=K) ž):Vv X (adF K):=by subst h;show adG
def yU (K:W.Ê)  (h:Ž (X.K=K) ž):d7 X (.Õ "len") (λxs H Q=>∃p ys,xs=[.C p]/\(aP K H p ys\/aM K H p ys)/\Q (.R ys.n) H):=by subst h;show cu
def L_ (K:W.Ê)  (h:Ž (X.K=K) ž):d7 X (.Õ "isinstance") (aaX K):=by subst h;show iI
def Y_ (K:W.Ê)  (h:Ž (X.K=K) ž):wG X "str.join" (rJoin K):=by subst h;show oV
def Kg (K:W.Ê)  (h:Ž (X.K=K) ž):fB X (compareOp .NotIn) (rIn K ķ):=by subst h;show tZ
def Hy (K:W.Ê)  (h:Ž (X.K=K) ž):d7 X (.È "tuple") (λxs H Q=>∃p ys,xs=[.C p]/\((aP K H p ys/\∀l,H l=ĺ->Q (.C l) (upd H l<|.Ã ys))\/(aM K H p ys/\Q (.C p) H))):=by subst h;show dU
def V4 {name:Ŋ}{apos cpos:Pos}{T id:ŗ}(K:W.Ê)(J:ů T)(slot:Slot T name id)(G:typeOf (.Õ id)=pure (.È "method_descriptor"))(hm:wG X id r)(L:QE X o to)(ha:QA X (e::es) t)(D:Ž (attributeBase o name X.É (Ŕ o X.É)=Ŕ o X.É) ž)(F:Ž (((backTo cpos<|starEach (e::es) X.É).ė (λx=>!x.1)&&(backToKw cpos<|keywordEach [] X.É).ė (λx=>x.1.ĝ)
   && ľ ((e::es).n+([]:Ĵ Ţ).n+(if ([]:Ĵ Ţ).Ė then 0 else 1)<30))=ķ) ž) (B:Ž ((apos.endLine==cpos.line)=ķ) ž) (hs:Ž (ŉ (e::es) X.É=(Ļ,Ŕ e X.É)::ŉ es X.É) ž) (q:Ž ((backTo cpos<|ŉ es X.É).đ (·.1)=Ļ) ž) (h:Ž (X.K=K) ž):QE X (.ĩ (.Ą o name apos) (e::es) [] cpos) (Vz K T r to t):=by subst h;show dH J slot G hm L ha D F B hs q
end
def cN (l:Ĵ ĵ):Ĵ ĵ:=l.takeWhile λc=>c != 46
def cC (l:Ĵ ĵ):Ĵ ĵ:=(l.ü.takeWhile λc=>c != 46).ü
theorem uf:∀{l:Ĵ ĵ} {i:ĵ},l[i]?=ĳ 46->(∀k,k<i->l[k]?≠ĳ 46)->cN l=l.Å i
 | [],i,h,_=>by simp at h
 | c::l,0,h,_=>by
  have:c=46:=by simpa using h
  subst this;simp[cN]
 | c::l,i+1,h,hk=>by let D:c≠46:=λe=>hk 0 ye (by simp[e]);let B:=uf (l:=l) (i:=i) (by simpa using h) (λk q=>by have:=hk (k+1)<|ui q;simpa using this);unfold cN at B ⊢;rw[sk (by simpa using D),B,wo]
def uZ (h:46∉l):cN l=l:=by
 unfold cN
 induction l with| nil=>rfl| cons c r ih=>have q:c≠46:=λe=>h (by rw[e];show aS);rw[sk (by simpa using q),ih λz=>h (aE _ z)]
def u9 (h:46∉l):cC l=l:=by have:=uZ (l:=l.reverse) (by simpa using h);unfold cN at this;unfold cC;rw[this,List.reverse_reverse]
def DR (h:l[i]?=ĳ 46)(hk:∀k,i<k->l[k]?≠ĳ 46):cC l=l.Î (i+1):=by
 let hi:i<l.n:=(ap.mp h).1;let e:cN l.ü=l.ü.Å (l.n-(i+1)):=by
  refine uf ?_ λk q=>?_
  .rw[List.getElem?_reverse (b6 ye ye),show l.n-1-(l.n-(i+1))=i by lia];show h
  .rw[List.getElem?_reverse (by simp[cy,c6]at *;lia)];show hk _ (by simp[cy,c6]at *;lia)
 unfold cN at e;unfold cC;rw[e,List.take_reverse,List.reverse_reverse,show l.n-(l.n-(i+1))=i+1 by rw[jn (by assumption)]]
def Ma (l:Ĵ ĵ)(n:ĵ):mD l ĺ (ĳ (n:ļ))=l.Å n:=by
 unfold mD;show (l.Î 0).Å (min n l.n-0)=_;rw[rS,Nat.sub_zero];by_cases h:n<=l.n;.rw[sq h]
 .rw[Nat.min_eq_right ye,cw (ah _),cw ye]
def xV (l:Ĵ ĵ)(n:ĵ):mD l (ĳ (n:ļ)) ĺ=l.Î n:=by
 unfold mD;show (l.Î<|min n l.n).Å (l.n-min n l.n)=_;rw[cw (by rw[cn];lia)];by_cases h:n<=l.n;.rw[sq h]
 .rw[Nat.min_eq_right ye,rc (ah _),rc ye]
def KZ (l)(i j):Builtin.Str.strSub (S l) i j=S ((l.Å j).Î i):=by unfold Builtin.Str.strSub S;congr 1;apply nI.mp;simp[List.drop_take]
section
variable {X:Cx}
def V5 (l):(Txt.partition (S l)<|S [46]).1=S (cN l):=by
 rcases partition_head (S l) (S [46]) with⟨e,h⟩|⟨i,e,h,hk⟩
 .rw[e,uZ λhm=>?_];let(i,hi):=mx.mp hm;show h i<|(ku (S l) 46 i).Û hi
 .rw[e,KZ,rS,uf (l:=l) ((ku (S l) 46 i).mp h) λk q z=>hk k q ((ku (S l) 46 k).Û z)]
def Tp (l):(Txt.rpartition (S l)<|S [46]).2.2=S (cC l):=by
 unfold Txt.rpartition;rcases StrLaws.last_spec (S l) (S [46]) with⟨e,h⟩|⟨i,e,h,hk⟩
 .rw[e];rw[u9 λhm=>?_];let(i,hi):=mx.mp hm;show h i<|(ku (S l) 46 i).Û hi
 .rw[e];show Builtin.Str.strSub (S l) (i+1) l.n=_;rw[KZ,cw (ah _),DR (l:=l) ((ku (S l) 46 i).mp h) λk q z=>hk k q ((ku (S l) 46 k).Û z)]
def afF:V->Ĵ V->Hp->VK->Prop:=λx vs H Q=>∃l,x=.À (S l)/\vs=[.À (S [46])]/\l.n<=1000/\∀(p:Ĺ) (b c:Ŋ),H p=ĺ->Q (.C p) (upd H p<|.Ã [.À (S<|cN l),.À b,.À c])
def abB:wG X "str.partition" afF:=by
 intro ao s T H x vs v us Q I G J h;let(l,rfl,rfl,hz,q):=h;let(t,rfl):=G;let(u,rfl,B):=vals1 J;let(D,rfl):=B;calc call_meets F.slot_str_partition (typeIs_str _ _ _) F.entry_str_partition (F.args_str_partition_2 _ _) (meets_str_partition (S l) (S [46]) t D rb (ax<|aF hz)) ?_;let q':=λb c=>q s.d b c<|I.ê.ä<|ah _;rw[<-(V5 l)]at q';unfold Txt.partition at q'
 revert q'
 cases Builtin.Str.occurrences (S l) (S [46]) 0 (S l).n 1 with| nil=>intro q';calc%[1,.C s.d,_,I.Ĝ (o:=.Ã _) (t':=s.Ï+1) (λb ob z=>ag _ z) (ah _) ?_,rb|q' Str.empty Str.empty];show%[14,zsz 3,_,.Ð %[_|rb]<|.Ð %[_|rb]<|.Ð %[_|rb] .Ü|%[37,_,aT _ rb,rb,0|rb]]| cons i r=>intro q';calc%[1,.C s.d,_,I.Ĝ (o:=.Ã _) (t':=s.Ï+1+1) (λb ob z=>ag _ z) (ah _) ?_,rb|q' (S [46])<|Builtin.Str.strSub (S l) (i+(S [46]).n) (S l).n];show%[14,zsz 3,_,.Ð %[_|rb]<|.Ð %[_|rb]<|.Ð %[_|rb] .Ü|%[37,_,aT _ rb,rb,0|rb]]
def ad0:V->Ĵ V->Hp->VK->Prop:=λx vs H Q=>∃l,x=.À (S l)/\vs=[.À (S [46])]/\l.n<=1000/\∀(p:Ĺ) (a b:Ŋ),H p=ĺ->Q (.C p) (upd H p<|.Ã [.À a,.À b,.À (S<|cC l)])
def Za:wG X "str.rpartition" ad0:=by
 intro ao s T H x vs v us Q I G J h;let(l,rfl,rfl,hz,q):=h;let(t,rfl):=G;let(u,rfl,B):=vals1 J;let(D,rfl):=B;calc call_meets F.slot_str_rpartition (typeIs_str _ _ _) F.entry_str_rpartition (F.args_str_rpartition_2 _ _) (meets_str_rpartition (S l) (S [46]) t D rb (ax<|aF hz)) ?_;let q':=λb c=>q s.d b c<|I.ê.ä<|ah _;rw[<-(Tp l)]at q';unfold Txt.rpartition at q'
 revert q'
 cases Builtin.Str.lastOccurrence (S l) (S [46]) 0 (S l).n with| none=>intro q';calc%[1,.C s.d,_,I.Ĝ (o:=.Ã _) (t':=s.Ï+1) (λb ob z=>ag _ z) (ah _) ?_,rb|q' Str.empty Str.empty];show%[14,zsz 3,_,.Ð %[_|rb]<|.Ð %[_|rb]<|.Ð %[_|rb] .Ü|%[37,_,aT _ rb,rb,0|rb]]| some i=>intro q';calc%[1,.C s.d,_,I.Ĝ (o:=.Ã _) (t':=s.Ï+1+1) (λb ob z=>ag _ z) (ah _) ?_,rb|q' (Builtin.Str.strSub (S l) 0 i)<|S [46]];show%[14,zsz 3,_,.Ð %[_|rb]<|.Ð %[_|rb]<|.Ð %[_|rb] .Ü|%[37,_,aT _ rb,rb,0|rb]]
end
def Zb {X:Cx}{B iter tg:Ő}{ns N2:Ĵ Ŋ}{f:St->St}{TP:V->Hp->(St->Prop)->Prop}{ifs:Ĵ Ő}{scope:Ŗ}{wi:TI}(G:X.Ě=ķ)(ok:fu X scope ns N2 f)(hi:PI X tg iter wi)(M:∀cl C s₀ H₀ fp,Fo (dW X scope cl C (ns++N2) s₀ H₀ fp) tg ns.n TP)(L:∀cl C s₀ H₀ fp,PTs (dW X scope cl C (ns++N2) s₀ H₀ fp) ifs tt)(F:∀cl C s₀ H₀ fp,PE (dW X scope cl C (ns++N2) s₀ H₀ fp) B te)(hs:Ž (∀x,foldedSetIterable iter X.É x=pure x) ε):PE X (.ListComp B [%[tg,iter,ifs|0]] scope pos) (zU f ns.n wi TP tt te):=λao s T H Q I h=>by show zV G ok hi M L F hs I h λD C J O m hn bk _ q=>%[0,m,hn|λh' N=>%[1,.C D,J,bk h' N,rb|q]]
def eF (ks:Ĵ ĵ):ĵ->St->St
 | _,[]=>[]
 | i,v::r=>(if ks.contains i=ķ then ĺ else v)::eF ks (i+1) r
theorem Js (ks):∀(i:ĵ) (I:St),(eF ks i I).n=I.n
 | _,[]=>rfl
 | i,_::r=>by rw[eF,bX,bX,Js ks (i+1) r]
theorem Jt (ks):∀(i:ĵ) (I:St) (j:ĵ) (v:V),(eF ks i I)[j]?=ĳ (ĳ v)->ks.contains (i+j)=Ļ/\I[j]?=ĳ (ĳ v)
 | _,[],j,v,h=>by simp[eF]at h
 | i,x::r,0,v,h=>by
  rw[eF]at h;cases e:ks.contains i with| true=>rw[e]at h;simp at h| false=>rw[e]at h;show⟨by first|rfl|show e,by simpa using h⟩
 | i,x::r,j+1,v,h=>by rw[eF,tw]at h;let(a,b):=Jt ks (i+1) r j v h;show%[by rw[show i+(j+1)=i+1+j by lia];show a|by rw[tw];show b]
def ad1 (sc:Ŗ)(N:Ĵ Ŋ)(scope:Ŗ)(N2:Ĵ Ŋ)(ks:Ĵ ĵ):œ:=scope.þ == .ĭ&&scope.Ú.ė (λy=>y.2 != .ñ)&&scope.Ú.ė (λy=>y.2 != .ô||scope.Ú.Æ y.1==ĳ .ô) &&
 scope.Ú.ė (λy=>y.2 != .Ô||sc.Ú.Æ y.1==ĳ .ñ||sc.Ú.Æ y.1==ĳ .Ô)&&N2.n==N.n &&
 (List.æ N.n).ė (λi=>ks.contains i||(N2[i]? == N[i]? && (N[i]?.Q λy=>scope.Ú.Æ y != ĳ .ô)==ĳ ķ))
def fu.of {X:Cx}(N2)(ks)(h:ad1 X.É.ĉ X.N scope N2 ks=ķ):fu X scope ns N2 (eF ks 0):=by
 unfold ad1 at h;simp only[df,fE,vy,bne_iff_ne,beq_iff_eq,ne_eq]at h;let(((((h1,J),L),M),D),O):=h;refine%[h1,λy q=>J y q,λy q e=>(L y q).resolve_left λz=>z e,λy q e=>?_,Js ks 0,D|λI i y v B N=>?_]
 .rcases M y q with(z|z)|z;.show ń e z
  .show .Â z
  .show .Ó z
 .let(a,b):=Jt ks 0 I i v N;rw[ki]at a;let hi:i<X.N.n:=by rw[<-D];show(ap.mp B).1
  rcases O i (bS.Û hi) with z|⟨F,G⟩;.rw[a]at z;cases z
  .rw[<-F,B]at G;rw[F]at B;show%[B,b|by simpa using G]
def uLz {I:Type}:ĵ->(Ĵ I->Prop)->Prop|0,p=>p []|n+1,p=>∀a,uLz n λus=>p (a::us)
def uAz {I:Type}{m:ĵ}{p:Ĵ I->Prop}(h:uLz m p)(us:Ĵ I)(q:us.n=m):p us:=by
 induction us generalizing m p with|nil=>subst q;exact h|cons a l i=>subst q;exact i (h a) rfl
def B_ {X:Cx}{scope:Ŗ}{N:Ĵ Ŋ}(K:W.Ê)(J:X.Ě=ķ)(D:N.Ý)(L:N[0]?=ĳ x)(h1:N[1]?=ĳ y)(hx:scope.Ú.Æ x=ĳ .ô)(F:scope.Ú.Æ y=ĳ .ô)(O:Ž (X.K=K) ž):Fo (dW X scope cl C N s₀ H₀ fp) (.Ă [.å x px,.å y py] k pos) 2 (λv H Q=>∃a p q,v=.C a/\aM K H a [p,q]/\Q [ĳ p,ĳ q]):=by
 subst O;intro ao s pre rest H v u Q hp I r q;let(a,p,q',rfl,M,q):=q;obtain⟨B,p1,rfl⟩:∃B p1,pre=[B,p1]:=by refine uAz (p:=λpre=>∃B p1,pre=[B,p1]) ?_ _ hp;show λB p1=>%[5,B,p1|rb]
 refine bJ ((EY (X:=dW X scope cl C N s₀ H₀ fp) J<|jF (jT (i:=0) D L (.Â<|lookup_relabel_local hx)<|.Ó<|lookup_relabel_local hx)<|jF (jT (i:=1) D h1 (.Â<|lookup_relabel_local F)<|.Ó<|lookup_relabel_local F) Bk) ao s _ H (.C a) u (λT' H'=>H'=H/\T'=ĳ p::ĳ q'::rest) I r
  %[46,a,[p,q'],rb,M,rb,p,[q'],rb,q',[],rb,rb|%[rb|rb]]) λ_ s' ⟨T',H',I',Y,G⟩=>?_
 subst Y G;show%[2,[ĳ p,ĳ q'],rb,I'|q]
def mU {X:Cx}{scope:Ŗ}{N:Ĵ Ŋ}(K:W.Ê)(L:X.Ě=ķ)(D:N.Ý)(M:N[0]?=ĳ x)(h1:N[1]?=ĳ y)(G:N[2]?=ĳ z)(hx:scope.Ú.Æ x=ĳ .ô)(F:scope.Ú.Æ y=ĳ .ô)(hz:scope.Ú.Æ z=ĳ .ô)(Y:Ž (X.K=K) ž):Fo (dW X scope cl C N s₀ H₀ fp) (.Ă [.å x px,.å y py,.å z pz] k pos) 3 (λv H Q=>∃a p q r,v=.C a/\aM K H a [p,q,r]/\Q [ĳ p,ĳ q,ĳ r]):=by
 subst Y;intro ao s pre rest H v u Q hp I r q;let(a,p,q',r',rfl,O,q):=q;obtain⟨B,p1,p2,rfl⟩:∃B p1 p2,pre=[B,p1,p2]:=by refine uAz (p:=λpre=>∃B p1 p2,pre=[B,p1,p2]) ?_ _ hp;show λB p1 p2=>%[9,B,p1,p2|rb]
 refine bJ ((EY (X:=dW X scope cl C N s₀ H₀ fp) L<|jF (jT (i:=0) D M (.Â<|lookup_relabel_local hx)<|.Ó<|lookup_relabel_local hx)<|jF (jT (i:=1) D h1 (.Â<|lookup_relabel_local F)<|.Ó<|lookup_relabel_local F)<|jF (jT (i:=2) D G (.Â<|lookup_relabel_local hz)<|.Ó<|lookup_relabel_local hz) Bk) ao s _ H (.C a) u (λT' H'=>H'=H/\T'=ĳ p::ĳ q'::ĳ r'::rest) I r
  %[1,a,[p,q',r'],rb,O|%[16,rb,p,[q',r'],rb|%[3,q',[r'],rb|%[4,r',[],rb,rb,rb|rb]]]]) λ_ s' ⟨T',H',I',Z,J⟩=>?_
 subst Z J;show%[2,[ĳ p,ĳ q',ĳ r'],rb,I'|q]
def eX {X:Cx}{q iter tg:Ő}{ns N2:Ĵ Ŋ}{f:St->St}{TP:V->Hp->(St->Prop)->Prop}{ifs:Ĵ Ő}{scope:Ŗ}{wi:TI}(D:X.Ě=ķ)(ok:fu X scope ns N2 f)(hi:QI X tg iter wi)(G:∀cl C s₀ H₀ fp,Fo (dW X scope cl C (ns++N2) s₀ H₀ fp) tg ns.n TP)(F:∀cl C s₀ H₀ fp,VR (dW X scope cl C (ns++N2) s₀ H₀ fp) ifs tt)(B:∀cl C s₀ H₀ fp,QE (dW X scope cl C (ns++N2) s₀ H₀ fp) q te)(hs:Ž (∀x,foldedSetIterable iter X.É x=pure x) ε):QE X (.ListComp q [%[tg,iter,ifs|0]] scope pos) (zU f ns.n wi TP tt te):=⟨Zb D ok hi.ã G (λcl C s₀ H₀ fp=>(F cl C s₀ H₀ fp).ã) (λcl C s₀ H₀ fp=>(B cl C s₀ H₀ fp).ã) hs⟩
def qN (n i:ĵ)(D:Ĺ)(TP:V->Hp->(St->Prop)->Prop)(f:St->St)(I:St)(tt:TT)(te:TE)(x:V)(H:Hp)(ys:Ĵ V)(P:Ĵ V->Hp->Prop):Prop:=zT TP f I tt te x H (DN n i D ys P) λq=>dz n i (P ys q)
def vU {K:W.Ê}{a:Ĺ}{f:St->St}{I:St}{tt:TT}{te:TE}:=@xR (λH=>aP K H a) (zT (λv _ Q=>Q [ĳ v]) f I tt te)
def Tq {K:W.Ê}{a:Ĺ}{f:St->St}{I:St}{tt:TT}{te:TE}:=@xR (λH=>aM K H a) (zT (λv _ Q=>Q [ĳ v]) f I tt te)
def Tr {l:Ĵ ĵ}{f:St->St}{tt:TT}{D:Ĺ}{te:TE}{I:St}{H:Hp}{R:Hp->Prop}(q:ĵ->Ĵ V->Hp->Prop)(F:q 0 [] (upd H D<|.Ç []))(hs:∀i c ys H,l[i]?=some c->q i ys H->qN l.n i D (λv _ Q=>Q [ĳ v]) f I tt te (.À<|S [c]) H ys (q<|i+1))(hd:∀ys H,q l.n ys H->R H):rM (Its l) D H R (zT (λv _ Q=>Q [ĳ v]) f I tt te):=DP l.n q F (λi ys H h p=>%[h|λx H' y=>by let(rfl,c,B,rfl):=y;show hs i c ys _ B p]) λys H p=>%[ah _|hd ys H p]
def Pj {K KT:W.Ê}{a:Ĺ}{f:St->St}{I:St}{tt:TT}{te:TE}:=@xR (λH=>aP K H a) (zT (λv H Q=>∃a p q,v=.C a/\aM KT H a [p,q]/\Q [ĳ p,ĳ q]) f I tt te)
def vV {K KT:W.Ê}{a:Ĺ}{f:St->St}{I:St}{tt:TT}{te:TE}:=@xR (λH=>aP K H a) (zT (λv H Q=>∃a p q r,v=.C a/\aM KT H a [p,q,r]/\Q [ĳ p,ĳ q,ĳ r]) f I tt te)
def kO {K KT:W.Ê}{a:Ĺ}{f:St->St}{I:St}{tt:TT}{te:TE}:=@xR (λH=>aM K H a) (zT (λv H Q=>∃a p q r,v=.C a/\aM KT H a [p,q,r]/\Q [ĳ p,ĳ q,ĳ r]) f I tt te)
def aaY (h:te ([ĳ x]++f I) H λy q=>q D=ĳ (.Ç ys)/\ys.n<Ń/\dz n i (P (ys++[y])<|upd q D<|.Ç<|ys++[y])):qN n i D (λv _ Q=>Q [ĳ v]) f I gb te x H ys P:=by show (if ķ=ķ then (te ([ĳ x]++f I) H λy q=>q D=ĳ (.Ç ys)/\ys.n<Ń/\dz n i (P (ys++[y])<|upd q D<|.Ç<|ys++[y])) else dz n i (P ys H));show h
def Tt {KT:W.Ê}{n i:ĵ}{p q:V}{f:St->St}{x:V}{ys:Ĵ V}{P:Ĵ V->Hp->Prop}(hx:x=.C a)(F:aM KT H a [p,q])(h:te ([ĳ p,ĳ q]++f I) H λy B=>B D=ĳ (.Ç ys)/\ys.n<Ń/\dz n i (P (ys++[y])<|upd B D<|.Ç<|ys++[y])):qN n i D (λv H Q=>∃a p q,v=.C a/\aM KT H a [p,q]/\Q [ĳ p,ĳ q]) f I gb te x H ys P:=by calc%[31,a,p,q,hx,F|?_];show (if ķ=ķ then (te ([ĳ p,ĳ q]++f I) H λy B=>B D=ĳ (.Ç ys)/\ys.n<Ń/\dz n i (P (ys++[y])<|upd B D<|.Ç<|ys++[y])) else dz n i (P ys H));show h
def sJ {KT:W.Ê}{n i:ĵ}{p q r:V}{f:St->St}{x:V}{ys:Ĵ V}{P:Ĵ V->Hp->Prop}(hx:x=.C a)(F:aM KT H a [p,q,r])(h:te ([ĳ p,ĳ q,ĳ r]++f I) H λy B=>B D=ĳ (.Ç ys)/\ys.n<Ń/\dz n i (P (ys++[y])<|upd B D<|.Ç<|ys++[y])):qN n i D (λv H Q=>∃a p q r,v=.C a/\aM KT H a [p,q,r]/\Q [ĳ p,ĳ q,ĳ r]) f I gb te x H ys P:=by calc%[21,a,p,q,r,hx,F|?_];show (if ķ=ķ then (te ([ĳ p,ĳ q,ĳ r]++f I) H λy B=>B D=ĳ (.Ç ys)/\ys.n<Ń/\dz n i (P (ys++[y])<|upd B D<|.Ç<|ys++[y])) else dz n i (P ys H));show h
section
variable {X:Cx}
def abC:V->Ĵ V->Hp->VK->Prop:=λx vs H Q=>∃(l:Addr) (us:AA) (w:Ĵ ĵ),x=.C l/\vs=[.À (S w)]/\H l=ĳ (.Ç<|Ts us)/\w∈us/\us.n<=1000/\Q .ć (upd H l<|.Ç<|Ts<|us.ý w)
def strEq (w:Ĵ ĵ)(u:Ķ):œ:=match u with| .À z _=>z.ē.I==w| _=>false
def V6 {us:AA}:us.ý w=us.eraseIdx (us.idxOf w):=by
 induction us with
 | nil=>rfl
 | cons a r ih=>
  by_cases h:a=w;.subst h;simp
  .rw[r8 (by simpa using h),List.idxOf_cons,cond_eq_ite,ŀ (by simpa using h),tz,ih]
def V7:MtM X "list.remove" abC:=by
 intro ao s T H x vs v us Q I N rv h;let(l,ls,w,rfl,rfl,J,hw,hz,q):=h;cases N;let(u,rfl,M):=rv.one;let(t,rfl):=M;let(z,its,n,r,Y,e):=I.Hu J;let L:its.n=ls.n:=by rw[<-Y,aa]
 let hj:ls.idxOf w<ls.n:=List.idxOf_lt_length_of_mem hw;let get:∀(m:ĵ) (hm:m<its.Y.E),∃(tk:Tok) (B:m<ls.n),its.Y[m]=.À (S ls[m]) tk:=λm hm=>by
  let B:m<ls.n:=by simp_all
  let(u1,D,s1):=r.get (i:=m) (x:=.À (S ls[m])) (by simp[B]);let(tk,rfl):=s1;calc%[5,tk,B|?_];rw[ae hm]at D;simpa using D
 refine call_meets F.slot_list_remove %[0,_,e|rb] F.entry_list_remove (F.args_list_remove_2 _ _) (PySem.MeetsSeq.list_remove l its.Y n (.À (S w) t) (strEq w) (λy Z=>?_) (ls.idxOf w) (by simp_all) ?_ (λm hm G=>?_) (by rw[bP,L];show ax<|aF hz)) %[e|?_]
 .let(m,hm,rfl):=Array.mem_iff_getElem.mp Z;let(tk,_,D):=get m hm;rw[D];show PySem.SeqRoads2.EqGives.À _ _ _ _
 .let(tk,B,D):=get (ls.idxOf w) (by rw[bP];lia);rw[D];show (ls[ls.idxOf w]==w)=ķ;simp
 .let(tk,B,D):=get m hm;rw[D];show (ls[m]==w)=Ļ;have:=List.not_of_lt_findIdx (p:=λa=>a==w) (xs:=ls)<|show m<ls.findIdx (λa=>a==w) from G;simpa using this
 .refine%[1,.ć,_,I.YJ (its':=its.eraseIdx (ls.idxOf w)) J e ?_ ?_ ?_,rb|q]
  .simp
  .rw[V6];let O:∀(xs:AA) (i:ĵ),Ts (xs.eraseIdx i)=(Ts xs).eraseIdx i:=by
    intro xs
    induction xs with
    | nil=>intro i;rfl
    | cons a r ih=>
     intro i;cases i with| zero=>rfl| succ i=>rw[tz,Ts,b7,Ts,b7,tz];congr 1;show ih i
   rw[O];show (Vals.eraseIdx (ls.idxOf w) r)
  .rw[aa];show aw (mP ..)<|ax<|aF hz
def ad2 (K:W.Ê):Ĵ V->Hp->VK->Prop:=λxs H Q=>∃(a:Addr) (ws:AA),xs=[.C a]/\aP K H a (Ts ws)/\ws.n<64/\∀(p:Ĺ) (q:AA),H p=ĺ->q.ú ws->q.Ä (λa b=>ľ (b<a)=Ļ)->Q (.C p) (upd H p<|.Ç<|Ts q)
def ug:d7 X (.Õ "sorted") (ad2 X.K):=by
 (intro ao s T H xs us Q I r h);let(a,ws,rfl,Y,J,q):=h;let(u,rfl,L):=vals1 r;cases L;let(its,D,pl,_):=I.ĕ Y;let bW:its.n=ws.n:=by have:=D.n;simpa using this.symm
 calc sorted_strs pl.ö (BZ D) (by simp_all) λout B M Z O=>?_;let(e,F):=sortedAll_at s.H its out;let G:(B.Q λy=>y.ē.I).ú ws:=by have:=Z.Q λy:Ŋ=>y.ē.I;rw[cp]at this;let e:((λy:Ŋ=>y.ē.I) ∘ S)=id:=rfl;rw[e,me]at this;show this
 let hv:Vals (Ts<|B.Q λy=>y.ē.I) out.I:=by
  have:=pF M;let es:(B.Q V.À)=Ts (B.Q λy=>y.ē.I):=by rw[Ts,cp];show du λy _=>by simp[tN,YZ]
  rw[es]at this;show this
 let N:(Ts<|B.Q λy=>y.ē.I).n<=Ń:=by rw[aa,G.length_eq];show ax<|aF ye
 refine%[1,.C<|s.d+1,_,I.Ĝ (o:=.Ç _) (t':=s.toks) (λb o z=>sortedAll_old z) (dq _) %[16,N,out.I,e,hv|by show F],rb|q _ _ (I.ê.ä<|dq _) G<|zW B O]
def agL (t:TS):TS:=λD T H=>∃q:St->Hp->Prop,t {D with nx:=q} T H/\∀T' H',q T' H'->D.nx T' H'
def rF {st:ŏ}(h:QS X st t):QS X st (agL t):=⟨λao s T H D I zq=>by
 let(J,a,b):=zq
 calc bJ (h.ã ao s T H _ I a) λf s' q=>?_;cases f with
 | next=>let(T7,F,G,B):=q;show%[3,T7,F,G|b _ _ B]
 | cont=>show q
 | brk=>show q
 | ret v=>show q⟩
end
end L2
namespace L2
open PySem PySem.Spec PyProof.Rows PySem.W
def ad3 (H:Hp)(cf:Ĺ->ĵ)(a:Ĺ):Prop:=∃(x y:Nat) (rest:Ĵ V),Rd H a (.Ã<|.R x :: .R y::rest)/\y<1000/\cf a=x*1000+y/\(rest=[]\/∃z,rest=[.À z])
section
theorem u_:∀{as:Ĵ Ĺ} {us:Ĵ Ķ},Vals (as.Q V.C) us->us=as.Q Value.C
 | [],_,.Ü=>rfl
 | a::as,_,.Ð r t=>by cases r;rw[b7,u_ t]
theorem vd:∀(as:Ĵ Ĺ),Vals (as.Q V.C) (as.Q Value.C)
 | []=>.Ü
 | a::as=>.Ð rb (vd as)
end
def Raw (h:Ō)(d:Ĺ)(g:Ņ ŝ)(e:ĵ):Prop:=∃x,h.Á d=ĳ x/\x.ExactDict/\x.ă=.dict g e
def Raw.ty {s:Ľ}(m:Raw s.H d g e):s.Ā (.C d) "dict":=let %[x,p,q|_]:=m;%[0,x,p|q.1]
def Raw.mv {h h':Ō}(m:Raw h d g e)(k:∀x,h.Á d=ĳ x->h'.Á d=ĳ x):Raw h' d g e:=let %[x,p|q]:=m;%[0,x,k _ p|q]
def Raw.lt (m:Raw h d g e):d<h.X.E:=let %[x,p|q]:=m;a6 p
section
variable {prog:Ň}{w:ŋ}{A:ō}{E:AB}{s:Ľ}{d a:Ĺ}{g:Ņ ŝ}{e i:ĵ}
variable {X:Cx}{pos:Pos}
def Zc (hd:(d==sysModules)=Ļ)(m:Raw s.H d g e)(q:Q (.C s.d) {s with heap:=s.H.Ò {cls:=.È "dict_keyiterator",data:=.ì #[.C d,.R 0 0,.R g.E 0,.R e 0]} }):Ł (ł prog w) A (pyIter<|.C d) Q E s:=by let T:=m.ty;let(x,p1,p2,p3):=m;calc xm T F.slot_dict_iter<|de F.slot_dict_iter T F.entry_dict_iter ?_<|F.args_dict_iter_1 _;calc ab<|ab<|wpAny_notOrdered_dict T ?_;calc af ?_;show Ł _ _ (Builtin.Dict.showsAll d >>= _) _ _ s;unfold Builtin.Dict.showsAll;rw[ŀ (by rw[hd];show ck)];calc ab<|af<|ab<|xo p1 p3<|ab<|wpAny_dictEpoch p1 p3 ?_;calc ab<|dE<|af %[38,_,rb,"dict_keyiterator",_,%[0,_,aT _ rb|rb],kS.Æ|?_];simpa [rawInt] using q
def Zd (t:s.H.IsKeyIter a d i g.E e)(m:Raw s.H d g e)(hi:i<g.E)(q:∀h',h'.IsKeyIter a d (i+1) g.E e->Heap.Ĉ a s.H h'->Q (ĳ g[i].key) {s with heap:=h' }):Ł (ł prog w) A (pyNext<|.C a) Q E s:=by
 let T:=t.Ġ;let(x,D,G,B):=id t;let(y,p1,p2,p3):=m;calc ab<|ml<|ee (name:=Str.ċ "__next__") T kS<|de kS T F.entry_dict_keyiterator_next ?_<|F.args_dict_keyiterator_next_1 _;refine ab<|af<|ab<|ab ?_
 first|refine ab<|ny T<|af ?_|refine ab<|oS T<|af ?_
 calc ab<|rV D B ?_;let Z:Builtin.Dict_items.ownsTuple "dict_keyiterator"=Ļ:=by decide
 show Ł _ _ (if (Value.C d==Value.ß)=ķ then _ else _) _ _ s;calc ab<|af<|ab<|xo p1 p3 ?_;rw[ŀ yf];calc ab<|af<|ab<|wpAny_dictEpoch p1 p3 ?_;rw[ŀ yf];calc af ?_;simp only[show ¬((i:ļ)<0) from by simp,if_false,b3,b8 hi];refine ab ?_
 first|refine ab<|ny T<|af ?_|refine ab<|oS T<|af ?_
 calc ab<|wpAny_isOneOf_keyiter T ?_;show Ł _ _ (setField (.C a) 1 (ś<|(i:ļ)+1) >>= _) _ _ s;calc ab<|kq D B yf ?_;let t':(s.H.ī a (Obj.mapFields (·.ï 1<|ś<|(i:ļ)+1))).IsKeyIter a d (i+1) g.E e:=%[2,_,f8 _ D<|my<|eW B _,(rj ..).Z G|by rw[eW B];simp[rawInt]]
 calc ab (eK (ab (wpAny_isOneOf_keyiter (s:={s with heap:=s.H.ī a (Obj.mapFields (·.ï 1<|ś<|(i:ļ)+1))}) t'.Ġ ?_)));show af<|af %[0,_,rb|af<|q _ t'<|f_ ..]
def abD (G:A.ò=ĺ)(t:s.H.IsKeyIter a d i g.E e)(m:Raw s.H d g e)(hi:g.E<=i)(q:∀h',Heap.ExtBut a s.H h'->Q ĺ {s with heap:=h' }):Ł (ł prog w) A (pyNext<|.C a) Q E s:=by
 let T:=t.Ġ;let(x,D,J,B):=id t;let(y,p1,p2,p3):=m;calc ab<|ml<|ee (name:=Str.ċ "__next__") T kS<|de kS T F.entry_dict_keyiterator_next ?_<|F.args_dict_keyiterator_next_1 _;refine ab<|af<|ab<|ab ?_
 first|refine ab<|ny T<|af ?_|refine ab<|oS T<|af ?_
 calc ab<|rV D B ?_;let Z:Builtin.Dict_items.ownsTuple "dict_keyiterator"=Ļ:=by decide
 show Ł _ _ (if (Value.C d==Value.ß)=ķ then _ else _) _ _ s;calc ab<|af<|ab<|xo p1 p3 ?_;rw[ŀ yf];calc ab<|af<|ab<|wpAny_dictEpoch p1 p3 ?_;rw[ŀ yf];calc af ?_;simp only[show ¬((i:ļ)<0) from by lia,if_false,b3,nN hi];refine ab ?_
 first|refine ab<|ny T<|af ?_|refine ab<|oS T<|af ?_
 show Ł _ _ (setField (.C a) 0 .ß >>= _) _ _ s;calc ab<|kq D B yf ?_;calc ab ?_;(calc ab<|dE ?_ yv;calc ab (m:=firstArgMember _ _)<|oB (a:=Value.none) (by first|rfl|(simp only[firstArgMember];rfl))<|dE ?_ yv;simp only[raiseNew];calc ab<|xf ?_);rw[show A.ħ.ò=ĺ from G];(calc ab<|af<|wpAny_throw ?_;calc ab (m:=Ş _ _)<|ip (T:="StopIteration") (b:=true) %[0,_,aT _ rb|rb] isSubtype_stop ?_);show af<|q _<|((f_ ..).á.Ò _).Ò _
def V8 (F:A.ò=ĺ)(I:Ĺ)(D:d≠I)(g:Ņ ŝ)(e:ĵ):Ÿ prog w A I [I,d] [I] g.E (λi v=>∃z,g[i]?=ĳ z/\v=z.key) (λi h=>h.IsKeyIter I d i g.E e/\Raw h d g e) where
 sub:=λb q=>by simp at q;simp[q]
 frame:=λ_ _ _ st hk=>%[st.1.at λo z=>hk I yf o z|st.2.mv λo z=>hk d yf o z]
 item:=λi s Q E hi st B=>Zd st.1 st.2 hi λh' t' k=>B _ h' s.Ï %[0,g[i],by simp[hi]|rb] %[t'|st.2.mv λo z=>k.á d o D z] λb o q z=>k.á b o (λy=>q (by simp[y])) z
 done:=λs Q E st B=>abD F st.1 st.2 (ah _) λh' k=>B h' s.Ï λb o q z=>k b o (λy=>q (by simp[y])) z
 self:=λ_ _ _ _ st B=>wpAny_pyIter_keyiter st.1 B
def abE (lo:(d==sysModules)=Ļ)(g:Ņ ŝ)(e:ĵ):KdlSrc prog w "dict" d d g.E (λi v=>∃z,g[i]?=ĳ z/\v=z.key) (λh=>Raw h d g e) where
 type:=λ_ m=>m.ty
 there:=λ_ m=>%[m.lt|m.lt]
 keep:=λ_ _ m hk=>m.mv λo z=>hk d (.Â rb) o z
 notList:=by decide
 notTuple:=by decide
 hint:=λ_ _ _ _ m q=>kdl_hint_dict m.ty q
 iter:=λ_ _ B m=>%[1,_,_,(λ_ _ q=>Zc lo m q),V8 B _ (bn m.lt) g e|%[%[2,_,aT _ rb,rb|rb]|m.mv λo z=>ag _ z]]
open Classical in
def ad4 (K:W.Ê)(q:œ):R2:=λx y H Q=>∃n d es,n<=60/\fX K H n d x/\fX K H n (.Ã es) y/\Q (.bl<|if q then !ľ (d∈es) else ľ (d∈es)) H
open Classical in
theorem Hz (d:Dt):∀es:Ĵ Dt,((eO es).đ λy=>PyData.eqv y<|toP d)=ľ (d∈es)
 | []=>by simp[eO]
 | e::es=>by
  rw[eO,oo,Hz d es,Hx];by_cases z:e=d;.subst z;simp
  .let z':¬d=e:=λy=>z y.Ù
   simp[z,z']
def abF {o i:Ő}{td ty:TE}(B:X.A.Þ+1<cLine)(q:QE X o td)(hi:QE X i ty)(hs:YM i):QE X (.Č o i pos) (aaV td ty):=⟨abu B q.ã hi.ã hs⟩
def Mf:QE X (.Dict [] [] pos) VG:=⟨YT⟩
def ad5 {a b:Ĺ}{J ob:Obj}{na nb:ĵ}{x1 D G B:ĵ}{Y M O t4:Tok}{r1 L:Ĵ Ķ}{Q:AB}(ha:s.H.Á a=ĳ J)(ca:J.cls=.È "tuple")(da:J.ă=.ð (Value.R x1 Y::Value.R D M::r1).Y na)(hb:s.H.Á b=ĳ ob)(cb:ob.cls=.È "tuple")(db:ob.ă=.ð (Value.R G O::Value.R B t4::L).Y nb)(l1:D<1000)(l2:B<1000)(hu:A.Þ<cLine)(Z:x1*1000+D≠G*1000+B)(q:Q (.Ć<|ľ<|x1*1000+D<G*1000+B) s):Ł (ł prog w) A (compareOp .Lt (.C a)<|.C b) Q E s:=by
 let Ta:s.Ā (.C a) "tuple":=%[0,J,ha|ca]
 let Tb:s.Ā (.C b) "tuple":=%[0,ob,hb|cb]
 calc og (op:=.Lt) (T:="tuple") Ta Tb qB (de qB Ta F.entry_tuple_lt ?_<|xp _ _) hu;show Ł _ _ (Ş (.C b) (.È "tuple") >>= _) _ _ s;calc ab<|ip Tb isSubtype_tuple_tuple ?_;calc ab<|iX ha da<|ab<|iX hb db<|ab ?_;rw[show (Value.R (x1:ļ) Y::Value.R (D:ļ) M::r1).Y.I.zip (Value.R (G:ļ) O::Value.R (B:ļ) t4::L).Y.I=(Value.R (x1:ļ) Y,Value.R (G:ļ) O)::(Value.R (D:ļ) M,Value.R (B:ļ) t4)::r1.zip L from rfl];(rw[gv];calc ab ?_;dsimp only;calc ab<|iS _ _ _ _ prog w _ _ ?_);by_cases ex:x1=G
 .subst ex;(simp only[beq_self_eq_true,eP,a9,if_false];calc af ?_;dsimp only);(rw[gv];calc ab ?_;dsimp only;calc ab<|iS _ _ _ _ prog w _ _ ?_);let N:((D:ļ)==(B:ļ))=Ļ:=by
   apply beq_eq_false_iff_ne.mpr;intro z;show Z ye
  simp only[N,kU,if_true];calc ab<|gL<|ab<|lt_int ?_;calc ab<|af<|af<|af<|af %[2,_,rb,yf|?_];rw[show ľ ((D:ļ)<(B:ļ))=ľ (x1*1000+D<x1*1000+B) by simp];show q
 .let N:((x1:ļ)==(G:ļ))=Ļ:=by
   apply beq_eq_false_iff_ne.mpr;intro z;show ex ye
  simp only[N,kU,if_true];calc ab<|gL<|ab<|lt_int ?_;calc ab<|af<|af<|af<|af %[2,_,rb,yf|?_];rw[show ľ ((x1:ļ)<(G:ļ))=ľ (x1*1000+D<G*1000+B) by
    by_cases z:x1<G;.rw[am (ie eJ z),am ye]
    .rw[al (by simp[*]),al ye]]
  show q
def agM:R2:=λx y H Q=>∃(a b:Addr) (x1 B D q:Nat) (r1 F:Ĵ V),x=.C a/\y=.C b/\H a=ĳ (.Ã<|.R x1 :: .R B::r1)/\H b=ĳ (.Ã<|.R D :: .R q::F)/\B<1000/\q<1000/\x1*1000+B≠D*1000+q/\
 Q (.bl<|ľ<|x1*1000+B<D*1000+q) H
def ad6 (hu:X.A.Þ<cLine):fB X (compareOp .Lt) agM:=by
 intro ao s C H x y v u Q I Z M h;let(a,b,x1,y1,x2,y2,r1,r2,rfl,rfl,J,eb,L,l2,G,q):=h;cases Z;cases M;let(_,tv,O,o,Y,N,n,hd):=I.ê _ _ J;let(_,tv',Zf,o',B,D,n',F):=I.ê _ _ eb;cases O with
 | cons q1 rr=>
  cases rr with
  | cons q2 rr=>
   cases Zf with
   | cons q3 rr'=>
    cases rr' with| cons q4 rr'=>let(t1,rfl):=q1;let(t2,rfl):=q2;let(t3,rfl):=q3;let(t4,rfl):=q4;show ad5 Y N hd B D F L l2 hu G %[1,.bl _,H,I,rb|q]
end
section
variable {X:Cx}
def ad7:Ĵ V->Hp->VK->Prop:=λxs H Q=>∃l:Ĵ ĵ,xs=[.À (S l)]/\l.n<=1000/\∀p,H p=ĺ->Q (.C p) (upd H p<|.Ç<|Ts<|l.Q λc=>[c])
theorem Ju:∀(l:Ĵ ĵ) (us:Ĵ Ķ),us.n=l.n->(∀(i c:ĵ),l[i]?=ĳ c->∃t,us[i]?=ĳ (.À (S [c]) t))->Vals (Ts<|l.Q λc=>[c]) us
 | [],[],_,_=>.Ü
 | [],_::_,h,_=>by simp at h
 | _::_,[],h,_=>by simp at h
 | c::l,u::us,h,k=>by let(t,e):=k 0 c rfl;let e:u=.À (S [c]) t:=bd e;show .Ð %[t|e]<|Ju l us (by simpa using h) λi d hd=>k (i+1) d hd
def xW (G:X.Ě=ķ):d7 X (.È "list") ad7:=by
 (intro ao s T H xs us Q I r h);let(l,rfl,O,q):=h;let(u,rfl,L):=vals1 r;let(t,rfl):=L;let hz:l.n<=Ń:=ax<|aF O;calc cj<|call_list_str (I.ok.hd G) (S l) t (λh' tk B c' hk J D Z=>?_) (by show l.Y.E<=_;simpa using hz);let hsz:B.E=l.n:=by rw[D.1];show l.Y.E=_;simp
 calc%[1,.C s.d,_,I.Ĝ (o:=.Ç (Ts<|l.Q λc=>[c])) (t':=tk) hk (ah _) %[16,by rw[aa,aa];show hz,B.I,c',?_|by simpa using J],rb|q _<|I.ê.ä<|ah _];calc Ju l B.I (by show hsz) λi c G=>?_;let hi:i<B.E:=by rw[hsz];show(ap.mp G).1
 let(Y,M,F,N):=D.2 i B[i] (by simp[hi]);let F:l.Y[i]?=ĳ Y:=F;rw[List.getElem?_toArray,G]at F;show%[M|by rw[cq,b8 hi,N,(bd F)];rfl]
end
end L2
namespace L2
open PySem PySem.Spec PyProof.Rows
def abG {X:Cx}{ix:ĵ}{G:Ŋ}{J q:Pos}{B iter tg:Ő}{ns N2:Ĵ Ŋ}{f:St->St}{TP:V->Hp->(St->Prop)->Prop}{ifs:Ĵ Ő}{scope:Ŗ}{pos:Pos}{wi:TI}{tt:TT}{te:TE}(hN:X.N.Ý)(O:X.N[ix]?=ĳ G)(Z:Loc X.É.ĉ G)(hc:X.Ě=ķ)(ok:fu X scope ns N2 f)(hi:PI X tg iter wi)(hg:∀cl C s₀ H₀ fp,Fo (dW X scope cl C (ns++N2) s₀ H₀ fp) tg ns.n TP)(ht:∀cl C s₀ H₀ fp,PTs (dW X scope cl C (ns++N2) s₀ H₀ fp) ifs tt)(Y:∀cl C s₀ H₀ fp,PE (dW X scope cl C (ns++N2) s₀ H₀ fp) B te)(hs:Ž (∀x,foldedSetIterable iter X.É x=pure x) ε)(L:Ž (swapsWith (.ListComp B [%[tg,iter,ifs|0]] scope pos) (ĳ<|.å G J) q.line X.É=pure ķ) ž)(hf:Ž (X.fn G=ķ\/X.É.ĉ.Ú.Æ G=ĳ .ô) ζ):PS X (.Assign [.å G J] (.ListComp B [%[tg,iter,ifs|0]] scope pos) q) (Ss (zU f ns.n wi TP tt te)<|lM ix):=λao s T H De I h=>by
 rw[exec_Assign_Name_used _ _ _ _ L];calc ab<|t9<|ab<|ab ?_;calc bJ (Q:=λ_ s'=>∃T' H',aL X ao T' H' s'/\De.nx T' H') ?_ λ_ s' hq=>af<|af hq;calc zV (use:=ĳ (assign (.å G J) X.É)) hc ok hi hg ht Y hs I h λD C H4 s5 m hn bk F qn=>?_;calc tI<|uV (bk s5.H<|Heap.Ĉ.Ğ _ _) hN O Z (show bL (.C D) (.C D) from rb) (λs6 I6 zq _=>?_) hf;let(a,M,ha):=zq;let N:C≠a:=by
  rcases ha with z|z;.rw[z];show F.2.1
  .show λy=>F.2.2.2.2.1 _ _ z y.Ù
 let(o,es,ep,e1,e2):=hn;refine%[0,m,%[26,o,es,ep,(M.2 C N).Z e1|e2]|λh' sb=>%[3,_,H4,I6.ı (t':=s6.toks) (λb o hb e=>(sb.2 b hb).Z e) F.1 F.2.1 F.2.2.2.1 F.2.2.2.2.1 F.2.2.2.2.2|qn]]
def QM {X:Cx}{ix:ĵ}{D:Ŋ}{J q:Pos}{B iter tg:Ő}{ns N2:Ĵ Ŋ}{f:St->St}{TP:V->Hp->(St->Prop)->Prop}{ifs:Ĵ Ő}{scope:Ŗ}{pos:Pos}{wi:TI}{tt:TT}{te:TE}(N:X.N.Ý)(G:X.N[ix]?=ĳ D)(Z:Loc X.É.ĉ D)(M:X.Ě=ķ)(ok:fu X scope ns N2 f)(hi:QI X tg iter wi)(Y:∀cl C s₀ H₀ fp,Fo (dW X scope cl C (ns++N2) s₀ H₀ fp) tg ns.n TP)(O:∀cl C s₀ H₀ fp,VR (dW X scope cl C (ns++N2) s₀ H₀ fp) ifs tt)(L:∀cl C s₀ H₀ fp,QE (dW X scope cl C (ns++N2) s₀ H₀ fp) B te)(hs:Ž (∀x,foldedSetIterable iter X.É x=pure x) ε)(F:Ž (swapsWith (.ListComp B [%[tg,iter,ifs|0]] scope pos) (ĳ<|.å D J) q.line X.É=pure ķ) ž)(hf:Ž (X.fn D=ķ\/X.É.ĉ.Ú.Æ D=ĳ .ô) ζ):QS X (.Assign [.å D J] (.ListComp B [%[tg,iter,ifs|0]] scope pos) q) (Ss (zU f ns.n wi TP tt te)<|lM ix):=⟨abG N G Z M ok hi.ã Y (λa b c d e=>(O a b c d e).ã) (λa b c d e=>(L a b c d e).ã) hs F hf⟩
end L2
namespace L2
open PySem PySem.Spec PyProof.Rows PySem.W
section
variable {X:Cx}
theorem Fy:∀(m:AA) (l:Ĵ Ķ),l.n=m.n->(∀(j:ĵ) (c:Ĵ ĵ),m[j]?=ĳ c->∃t,l[j]?=ĳ (.À (S c) t))->Vals (Ts m) l
 | [],[],_,_=>.Ü
 | [],_::_,h,_=>by simp at h
 | _::_,[],h,_=>by simp at h
 | c::m,a::l,h,k=>by
  let(t,e):=k 0 c rfl;let e':a=.À (S c) t:=by simpa using e
  subst e';show .Ð %[t|rb]<|Fy m l (by simpa using h) λj c q=>k (j+1) c q
def ad8:Ĵ V->Hp->VK->Prop:=λxs H Q=>∃(d:Addr) (kvs:Ĵ (Key×V)) (ws:AA),xs=[.C d]/\H d=ĳ (.dK kvs)/\kvs.Q (·.1)=ws.Q gR/\ws.n<=900/\∀p:Ĺ,H p=ĺ->Q (.C p) (upd H p<|.Ç<|Ts ws)
def Tv (hc:X.Ě=ķ):d7 X (.È "list") ad8:=by
 (intro ao s T H xs us Q I r h);let(d,kvs,ws,rfl,hd,hk,h64,q):=h;let(u,rfl,ru):=vals1 r;cases ru;let(hz,lo,vs,F,dd):=Tf I.ê hd;let(ep,N):=dd.dictAt;let O:vs.n=ws.n:=by let h1:=KV.n F;let h2:=Œ List.n hk;simp at h2;lia
 calc cj<|kdl_call (kdl_dict (knd:=cV X.Ñ X.w) (kvs:=vs) (ep:=ep) lo) (I.ok.hd hc) N (by rw[O];show ax<|aF ye) λh' tk D c' M hD B ht=>?_;let hv:Vals (Ts ws) D.I:=by
  calc Fy ws _ (by rw[bo,B.1,O]) λj c Z=>?_;let G:j<D.E:=by rw[B.1,O];show(ap.mp Z).1
  let(k,x,hx,hi):=B.2 j D[j] (by simp[G]);let J:(ws.Q gR)[j]?=ĳ k:=by rw[<-hk,(KV.keys F),ba,hx];rfl
  rw[ba,Z]at J;let e:gR c=k:=by simpa using J
  subst e;rcases dG (show jN (Sum.Ó<|S c) D[j]=ķ from hi) with⟨i,t,Y,_⟩|⟨y,t,Y,e2⟩;.cases Y
  .cases Y;show%[t|by rw[cq,b8 G,e2]]
 show%[1,.C s.d,_,I.Ĝ (o:=.Ç _) (t':=tk) M (ah _) %[16,by rw[aa];show ax<|aF ye,D.I,c',hv|by simpa using hD],rb|q _<|I.ê.ä<|ah _]
end
end L2
namespace L2
open PySem PySem.Spec PyProof.Rows PySem.W
open AutoSeq1 (wpAny_loadPart')
section
variable {prog:Ň}{w:ŋ}{A:ō}{E:AB}{s:Ľ}
def Zg (t:s.H.Ħ u a i)(p:s.H.IsTuple a g)(hx:g[i]?=ĳ x)(q:∀h',h'.Ħ u a (i+1)->Heap.Ĉ u s.H h'->Q x {s with heap:=h' }):Ł (ł prog w) A (Builtin.į.nextOf<|.C u) Q E s:=by let(o,B,J,hd):=id t;let(L,D,_,M,G):=p;(calc ab<|ee (name:=Str.ċ "__next__") t.Ġ oq<|de oq t.Ġ F.entry_tuple_iterator_next ?_<|F.args_tuple_iterator_next_1 _;show Ł _ _ (Ŷ (.C u) 0 >>= _) _ _ s;calc ab<|im B hd (x:=.C a) rb ?_;show Ł _ _ (if (Value.C a==Value.ß)=ķ then _ else _) _ _ s);calc ab<|im B hd (x:=.R i 0) rb ?_;calc ab<|iF D G ?_;simp only[b3,hx];calc ab<|kq B hd yf<|af %[0,x,rb|af<|q _ ?_<|f_ ..];show%[2,_,f8 _ B<|my<|eW hd _,(rj ..).Z J|by rw[eW hd];simp[rawInt]]
def QV (J:A.ò=ĺ)(t:s.H.Ħ u a i)(p:s.H.IsTuple a g)(hx:g[i]?=ĺ)(q:∀h' e,Heap.ExtBut u s.H h'->(∃o,h'.Á e=ĳ o/\o.cls=.È "StopIteration")->E (.C e) {s with heap:=h' }):Ł (ł prog w) A (Builtin.į.nextOf<|.C u) Q E s:=by
 let(o,B,M,hd):=id t;let(L,G,_,N,D):=p;(calc ab<|ee (name:=Str.ċ "__next__") t.Ġ oq<|de oq t.Ġ F.entry_tuple_iterator_next ?_<|F.args_tuple_iterator_next_1 _;show Ł _ _ (Ŷ (.C u) 0 >>= _) _ _ s;calc ab<|im B hd (x:=.C a) rb ?_;show Ł _ _ (if (Value.C a==Value.ß)=ķ then _ else _) _ _ s);calc ab<|im B hd (x:=.R i 0) rb ?_;calc ab<|iF G D ?_;simp only[b3,hx]
 first|refine ab<|gL<|ab<|kq B hd yf ?_|refine ab<|kq B hd yf ?_
 calc ab ?_;calc ab<|dE ?_ yv;calc ab (m:=firstArgMember _ _)<|oB (a:=Value.none) (by first|rfl|(simp only[firstArgMember];rfl)) ?_;calc dE ?_ yv;refine ab<|xf ?_
 first|rw[show A.ħ.ò=ĺ from J]|rw[J]
 calc ab<|af<|wpAny_throw ?_;show q _ _ (((f_ ..).á.Ò _).Ò _) %[0,_,aT _ rb|rb]
def ad9 (F:A.ò=ĺ)(u a:Ĺ)(D:a≠u)(g:Ņ Ķ):ż prog w A u [u,a] g.E (λi v=>g[i]?=ĳ v) (λi h=>h.Ħ u a i/\h.IsTuple a g) where
 live:=λ_ _ st=>let %[o,ho|_]:=st.1;%[o|ho]
 frame:=λ_ _ _ st hk=>%[st.1.at λo e=>hk u yf o e|let %[o,ho|r]:=st.2;%[0,o,hk a yf o ho|r]]
 item:=λi s Q E hi st G=>by calc Zg st.1 st.2 (x:=g[i]) (by simp[hi]) λh' q B=>?_;show G _ h' s.Ï (by simp[hi]) %[q|let %[o,ho|r]:=st.2;%[0,o,B.á a o D ho|r]] B
 done:=λs Q E st J=>QV F st.1 st.2 yf J
def newT (a)(g)(n)(dct)(sl):ŵ (Builtin.«enumerate.__new__» %[[.È "enumerate",.C a]|[]]) (λ_ R s=>s.H.Á a=ĳ {cls:=.È "tuple",dict:=dct,data:=.ð g n,slots:=sl}/\
   R (.ok<|.ret<|.C (s.H.Ò {cls:=.È "tuple_iterator",data:=.ì #[.C a,.R 0 0]}).X.E)
    {s with heap:=(s.H.Ò {cls:=.È "tuple_iterator",data:=.ì #[.C a,.R 0 0]}).Ò {cls:=.È "enumerate",data:=.ì #[.ß,.Ć Ļ,.C s.d,ś 0,.ß,.ß]} }):=
 .of_wp λprog w A R s h=>by
  let(hp,g,d,tk,os):=s;let(q,h):=h;let B:=sub_enumerate;let L:Heap.IsTuple (Shared.H %[hp,g,d,tk|os]) a _:=%[37,_,q,rb,n|rb]
  wp_walk using lL q
  refine wpAny_stack_any λst=>af ?_
  split
  .rename_i c _ _ _ _ _;cases(c==Value.È "enumerate")
   .wp_walk using lL q,qq L
    show%[0,_,rb|h]
   .wp_walk using lL q,qq L
    show%[0,_,rb|h]
  .wp_walk using lL q,qq L
   show%[0,_,rb|h]
def afG (L:s.H.IsTuple a g)(q:∀h',Ű h' (s.d+1) s.d 0 .ß->h'.Ħ s.d a 0->h'.X.E=s.d+2->(∀b o,s.H.Á b=ĳ o->h'.Á b=ĳ o)->Q (.C<|s.d+1) {s with heap:=h' }):Ł (ł prog w) A (call (.È "enumerate") [.C a]) Q E s:=by
 let((c,B,M,sl),J,D,n,hd):=L;subst D hd;calc callType_new sK yi (F.typeCall_enumerate_1 _) (F.newCall_enumerate_1 _) (λobj=>F.args_object_init_2 obj _) F.entry_enumerate_new (newT a g n B sl) %[J|?_];let hz:(s.H.Ò {cls:=.È "tuple_iterator",data:=.ì #[.C a,.R 0 0]}).X.E=s.d+1:=d6 ..;rw[hz];let G:Ű ((s.H.Ò {cls:=.È "tuple_iterator",data:=.ì #[.C a,.R 0 0]}).Ò {cls:=.È "enumerate",data:=.ì #[.ß,.Ć Ļ,.C s.d,ś 0,.ß,.ß]}) (s.d+1) s.d 0 .ß:=by have:=aT (s.H.Ò {cls:=.È "tuple_iterator",data:=.ì #[.C a,.R 0 0]}) (o:={cls:=.È "enumerate",data:=.ì #[.ß,.Ć Ļ,.C s.d,ś 0,.ß,.ß]}) rfl;rw[hz]at this;show this
 show%[%[0,_,G|rb]|q _ G %[2,_,ag _<|aT _ rb,rb|rb] (by rw[d6,hz]) λb o x=>ag _<|ag _ x]
end
section
variable {X:Cx}{ao:AC}{T:St}{H:Hp}{s:Ľ}{h':Ō}
def aL.Ca {t':ĵ}{fp:Ĵ Ĺ}(I:aL X ao T H s)(k:∀b o,b∉fp->s.H.Á b=ĳ o->h'.Á b=ĳ o)(hf:∀b∈fp,mq X ao H b)(F:Ž (s.Ï<=t') δ):aL X ao T H {s with heap:=h',toks:=t' }:=by
 let D:∀b u,H b=ĳ u->b∉fp:=λb u e z=>by rw[(hf b z).1]at e;cases e
 refine I.step (g':=s.gens) (d':=s.drawn) (ch:=fp) (λb M=>?_) (λb o _ _ B e _=>k b o B e) (λb o _ _ B e _=>%[o.slots|k b o B e]) (λ_ _ _ _ n=>n)
  (λb o B e=>%[o|k b o B e]) (λ_ _ e=>e) (λ_ _ _ e=>e) (λb ps e=>%[#[]|by rw[e];simp]) (λm hm=>?_) (λb u e=>?_) I.bare (I.gh.up F) F
 .let(Y,N,Z,O,G,L):=hf b M;show%[O,N,G|L]
 .let(o,es,ep,J,r):=hm;show%[26,o,es,ep,k _ o (λz=>(hf _ z).2.1 rb) J|r]
 .refine(I.ê b u e).stay (λc v B q=>k c v ?_ q) (λ_ q=>q) λ_ _ q=>q
  rcases B with z|z;.rw[z];show D b u e
  .show D c _ z
def aL.pair {e it:Ĺ}{i tk:ĵ}{x:V}{u:Ķ}{h1 D:Ō}(I:aL X ao T H s)(hf:∀b∈[e,it],mq X ao H b)(le:e<s.d)(li:it<s.d)(N:bL x u)(J:h1.Á s.d=ĳ {cls:=.È "tuple",data:=.ð #[.R i tk,u]})(hk:∀b o,b≠e->b≠it->s.H.Á b=ĳ o->h1.Á b=ĳ o)(hs:Heap.Ĉ e h1 D)(ht:Ž (s.Ï<=tk+1) δ):aL X ao T (upd H s.d<|.Ã [.R i,x]) {s with heap:=D,toks:=tk+1}/\∀b∈[e,it],upd H s.d (.Ã [.R i,x]) b=ĺ:=by
 let I2:aL X ao T (upd H s.d<|.Ã [.R i,x]) {s with heap:=s.H.Ò {cls:=.È "tuple",data:=.ð #[.R i tk,u]},toks:=tk+1}:=I.Ĝ (λb v e=>ag _ e) (ah _) %[14,zsz 2,[.R i tk,u],.Ð %[tk|rb]<|.Ð N .Ü|%[37,_,aT _ rb,rb,_|rb]]
 let ne:∀b∈[e,it],b≠s.d:=λb q=>by
  rcases a_.mp q with z|z;.rw[z];show bn le
  .rw[av.mp z];show bn li
 let fr:∀b∈[e,it],upd H s.d (.Ã [.R i,x]) b=ĺ:=λb q=>by rw[bx (ne b q)];show(hf b q).1
 let G:=aL.Ca (s:={s with heap:=s.H.Ò {cls:=.È "tuple",data:=.ð #[.R i tk,u]},toks:=tk+1}) (h':=D) (fp:=[e,it]) (t':=tk+1) I2 (λb o q g=>?_) λb q=>?_
 .show%[G|fr]
 .let B:b≠e:=λz=>q (by simp[z])
  let F:b≠it:=λz=>q (by simp[z]);rw[hs.2 b B];rcases Heap.get?_push_cases g with⟨M,O⟩|z
  .rw[M,O];show J
  .show hk b o B F z
 .let(f0,Y,Z,f3,L,f5):=hf b q;show%[fr b q,Y,Z,f3,L|f5]
end
def Zh (K:W.Ê)(a:Ĺ):It:=%[λi H=>∃xs x,aM K H a xs/\xs[i]?=ĳ x,λi H v H'=>∃T y,H T=ĺ/\v=.C T/\(∀xs,aM K H a xs->xs[i]?=ĳ y)/\H'=upd H T (.Ã [.R i,y])|λi H=>∃xs,aM K H a xs/\xs.n<=i]
def Mh (l:Ĵ ĵ):It:=%[λi _=>i<l.n,λi H v H'=>∃T c,H T=ĺ/\v=.C T/\l[i]?=ĳ c/\H'=upd H T (.Ã [.R i,.À (S [c])])|λi _=>l.n<=i]
section
variable {prog:Ň}{w:ŋ}{A:ō}{E:AB}{s:Ľ}
def Pk {it:Ĺ}{fp:Ĵ Ĺ}{n:ĵ}{B:ĵ->Ķ->Prop}{St:ĵ->Ō->Prop}(D:ż prog w A it fp n B St)(k:ĵ):ż prog w A it fp (k+n) (λj v=>∃i,j=k+i/\B i v) (λj h=>∃i,j=k+i/\St i h) where
 live:=λj h ⟨i,_,st⟩=>D.live i h st
 frame:=λj h h' ⟨i,e,st⟩ hk=>%[0,i,e|D.frame i h h' st hk]
 item:=λj s Q E J zq F=>by let(i,e,st):=zq;subst e;show D.item i s Q E (by simp_all) st λv h' tk hp st' q=>F v h' tk %[0,i,rb|hp] %[0,i+1,rb|st'] q
 done:=λs Q E zq G=>by
  let(i,e,st):=zq
  have:i=n:=by lia
  subst this;show D.done s Q E st G
end
def z9 (l:Ĵ ĵ)(k:ĵ):It:=%[λi _=>i<l.n,λi H v H'=>∃T c,H T=ĺ/\v=.C T/\l[i]?=ĳ c/\H'=upd H T (.Ã [.R ((k+i:ĵ):ļ),.À (S [c])])|λi _=>l.n<=i]
def Fz {P:Ň}{w:ŋ}{K:W.Ê}{elts:Ĵ Ő}{x1}{pos:Pos}{ty:ŗ}(J:ty="str_ascii_iterator"\/ty="str_iterator")(l:Ĵ ĵ)(k:ĵ)(t:Tok)(it e:Ĺ):Turn P w K (.Ă elts x1 pos) (z9 l k) [e,it] e (λi h=>e≠it/\i<=l.n/\(∃q,Ű h e it ((k+i:ĵ):ļ) q)/\h.Ē it ty (S l) t i) where
 mem:=by simp
 obj:=λi h st b L=>by
  let(_,_,(q,F),o,G,_,hd):=st;rcases a_.mp L with z|z;.show%[0,_,by rw[z];show F|λv y=>by cases y]
  .show%[0,o,by rw[av.mp z];show G|λv y=>by rw[hd]at y;cases y]
 keep:=λi h h' st k=>by let(n,le,(q,F),o,G,r):=st;show%[n|%[20,le,%[q|k e yf _ F],o,k it yf o G|r]]
 item:=by
  intro X N hw hK hc i ao s T H E I hf st Z;subst N hw hK;let(ne,le,(q,F),hs):=st;let M:X.A.ħ.ò=ĺ:=by simp[I.ok.hd hc]
  let Y:∀(D:ż X.Ñ X.w X.A.ħ it [it] (S l).ē.E (λi v=>∃c u,(S l).ē[i]?=ĳ c/\v=.À ⟨#[c]⟩ u) (λi h=>h.Ē it ty (S l) t i)),
    Ł (ł X.Ñ X.w) X.A (pyNext<|.C e) (λr s1=>∃u,r=ĳ u/\Ł (ł X.Ñ X.w) X.A (letOwnedTupleGo (.Ă elts x1 pos) (.C e) u) (λ_ s2=>∃x H',aL X ao T H' s2/\bL x u/\(z9 l k).E_ i H x H'/\(e≠it/\i+1<=l.n/\(∃q,Ű s2.H e it ((k+(i+1):ĵ):ļ) q)/\s2.H.Ē it ty (S l) t (i+1))/\∀b∈[e,it],H' b=ĺ) E s1) E s:=by
   intro D;calc cj<|wpAny_pyNext_enum_itemD (Pk D k) F %[0,i,rb|hs] (wq Z k) ne (by simp[ne]) λx h' tk N G B hT hsz hk ht=>?_;let(i',ei,c,u,hc',rfl):=N;let(i'',ei2,B):=B;obtain rfl:i'=i:=by lia
   obtain rfl:i''=i'+1:=by lia
   calc%[0,_,rb|wpAny_letOwnedTupleGo_enum G λh2 he2 O=>?_];let(o,ho2,r2):=B;let(oi,hoi,_):=id hs;let(I3,fr):=aL.pair (i:=k+i') (x:=.À (S [c])) I hf (a6 F) (a6 hoi) %[u|rb] hT hk O;refine%[12,.C s.d,_,I3,rb,%[4,s.d,c,I.ê.ä<|ah _,rb,by simpa [S] using hc'|rb],%[ne|%[20,Z,%[_|by simpa [Int.add_assoc] using he2],o,(O.2 it<|lS ne).Z ho2|r2]]|fr]
  rcases J with rfl|rfl;.show Y<|Draws.strAscii M it (S l) t
  .show Y<|Draws.strWide M it (S l) t
 done:=by
  intro X N hw hK hc i ao s T H E I hf st Z;let(ne,le,(q,F),hs):=st;let M:X.A.ħ.ò=ĺ:=by simp[I.ok.hd hc]
  let B:=hs;rw[(vE le Z)]at B;let(f0,f1,f2,f3,f4,f5):=hf it yf;rcases J with rfl|rfl
  .show wpAny_pyNext_enum_endD (Draws.strAscii M it (S l) t) F B λh' eb=>%[rb|I.ı (t':=s.toks) (λb o L e=>eb b o L e) f0 f1 f3 f4 f5]
  .show wpAny_pyNext_enum_endD (Draws.strWide M it (S l) t) F B λh' eb=>%[rb|I.ı (t':=s.toks) (λb o L e=>eb b o L e) f0 f1 f3 f4 f5]
 self:=λA i s Q E st h=>by let(_,_,(q,F),_):=st;show rl F h
def Tw {K:W.Ê}{elts:Ĵ Ő}{x1}{ty:ŗ}(q:ty="str_ascii_iterator"\/ty="str_iterator")(l:Ĵ ĵ)(t:Tok)(it e:Ĺ):Turn P w K (.Ă elts x1 pos) (Mh l) [e,it] e (λi h=>e≠it/\i<=l.n/\(∃B,Ű h e it i B)/\h.Ē it ty (S l) t i):=by
 let h:=Fz (P:=P) (w:=w) (K:=K) (elts:=elts) (x1:=x1) (pos:=pos) q l 0 t it e;let D:z9 l 0=Mh l:=by unfold z9 Mh;simp only[ki]
 simp only[ki]at h;rw[D]at h;show h
def Tz {P:Ň}{w:ŋ}{K:W.Ê}{elts:Ĵ Ő}{x1}{pos:Pos}(a it e:Ĺ):Turn P w K (.Ă elts x1 pos) (Zh K a) [e,it] e (λi h=>(e≠it/\a≠e/\a≠it)/\(∃q,Ű h e it i q)/\h.Ħ it a i) where
 mem:=by simp
 obj:=λi h st b hb=>by
  let(_,(q,B),o,D,_,hd):=st;rcases a_.mp hb with z|z;.show%[0,_,by rw[z];show B|λv y=>by cases y]
  .show%[0,o,by rw[av.mp z];show D|λv y=>by rw[hd]at y;cases y]
 keep:=λi h h' st k=>by let(n,(q,B),o,D,r):=st;show%[20,n,%[q|k e yf _ B],o,k it yf o D|r]
 item:=by
  intro X L hw hK hc i ao s C H E I hf st hg;subst L hw hK;let((ne,J,G),(q,B),hs):=st;let(xs,x,O,hx):=hg;let(its,rv,p,hz):=I.ğ O;let(v,hv,ru):=rv.get hx;let hh:X.A.ħ.ò=ĺ:=by simp[I.ok.hd hc]
  let hit:i<its.Y.E:=by have:=(ap.mp hv).1;simpa using this
  calc cj<|wpAny_pyNext_enum_itemD (ad9 hh it a G its.Y) B %[hs|p] hit ne (by simp[ne,J.symm]) λy h' tk L D hs' N hsz hk ht=>?_;calc%[0,_,rb|wpAny_letOwnedTupleGo_enum D λh2 he2 M=>?_];let((o,ho2,r2),_):=hs';let(oi,Y,_):=id hs;let ey:y=v:=by
   let h1:its[i]?=ĳ y:=by simpa using L
   rw[hv]at h1;show(bd h1).Ù
  subst ey;let(I3,fr):=aL.pair (x:=x) I hf (a6 B) (a6 Y) ru N hk M;refine%[12,.C s.d,_,I3,rb,%[4,s.d,x,I.ê.ä<|ah _,rb,λys hy=>by rw[I.Ji hy O];show hx|rb],%[20,%[ne,J|G],%[_|by simpa using he2],o,(M.2 it<|lS ne).Z ho2|r2]|fr]
 done:=by
  intro X L hw hK hc i ao s C H E I hf st hg;subst L hw hK;let((ne,J,G),(q,B),hs):=st;let(xs,O,hx):=hg;let(its,rv,p,hz):=I.ğ O;let hl:=rv.n;let hh:X.A.ħ.ò=ĺ:=by simp[I.ok.hd hc]
  let(f0,f1,f2,f3,f4,f5):=hf it yf;let N:s.Ā (.C e) "enumerate":=%[0,_,B|rb]
  calc ab<|ml<|ee (name:=Str.ċ "__next__") N F.slot_enumerate_next<|de F.slot_enumerate_next N F.entry_enumerate_next ?_<|F.args_enumerate_next_1 _;show Ł _ _ (Ŷ (.C e) 2 >>= _) _ _ _;calc ab<|im B rb (x:=.C it) rb ?_;calc ab<|QV hh hs (show s.H.IsTuple a its.Y from p) (by simp;simp_all) λh' x Z hx'=>?_;let(o,D,hc'):=hx';calc ab<|ip (T:="StopIteration") (b:=true) %[0,o,D|hc'] isSubtype_stop ?_;show af %[rb|I.ı (t':=s.toks) (λb o hb e=>Z b o hb e) f0 f1 f3 f4 f5]
 self:=λA i s Q E st h=>by let(_,(q,B),_):=st;show rl B h
section
variable {X:Cx}{elts:Ĵ Ő}{x1:ĵ}{tp:Pos}
def ad_ (ta:TA):TI:=λT H R=>ta T H λvs H1=>∃l,vs=[.À (S l)]/\R (Mh l) H1
def aea (K:W.Ê)(ta:TA):TI:=λT H R=>ta T H λvs H1=>∃a,vs=[.C a]/\(∃xs,aM K H1 a xs)/\R (Zh K a) H1
def Zi (J:Gl X "enumerate")(hm:X.mg "enumerate"=ĺ)(ha:QA X [a] ta)(hs:Ž (ŉ [a] X.É=[(Ļ,Ŕ a X.É)]) ž):QI X (.Ă elts x1 tp) (.ĩ (.å "enumerate" p) [a] [] pos) (ad_ ta):=⟨by
 intro ao s T H R I h;calc Ż<|nA I J hm boot_enumerate<|g6 (bJ (ha.ã pos ao s T H _ I h) λus s1 L=>?_) hs rb;let(vs,H1,I1,r1,q1):=L;let(l,e,q):=q1;subst e;cases r1 with
 | cons r rr=>
  cases rr;let(t,rfl):=r;let B:strIterType (S l)="str_ascii_iterator"\/strIterType (S l)="str_iterator":=by unfold strIterType;split <;> simp
  calc call_enumerate_str λh' F D hsz hk=>rl F ?_;calc%[13,s1.d+1,[s1.d+1,s1.d],_,_,H1,rb,I1.ġ (t':=s1.toks) hk,Tw B l t s1.d _,%[xD _,b5 _,%[_|F]|D],λb G=>?_|q];rcases a_.mp G with z|z
  .rw[z];show I1.m_ (dq _)<|I1.ê.ä<|dq _
  .rw[av.mp z];show I1.m_ (ah _)<|I1.ê.ä<|ah _⟩
def Zj (M:Gl X "enumerate")(hm:X.mg "enumerate"=ĺ)(ha:QA X [a] ta)(hs:Ž (ŉ [a] X.É=[(Ļ,Ŕ a X.É)]) ž):QI X (.Ă elts x1 tp) (.ĩ (.å "enumerate" p) [a] [] pos) (aea X.K ta):=⟨by
 intro ao s T H R I h;calc Ż<|nA I M hm boot_enumerate<|g6 (bJ (ha.ã pos ao s T H _ I h) λus s1 N=>?_) hs rb;let(vs,H1,I1,r1,q1):=N;let(a,e,(xs,O),q):=q1;subst e;cases r1 with
 | cons r rr=>
  cases rr;cases r;let(its,Y,G,hz):=I1.ğ O;let B:a<s1.d:=by
   let(o,J,_):=(show s1.H.IsTuple a its.Y from G)
   show a6 J
  calc afG (show s1.H.IsTuple a its.Y from G) λh' F D hsz hk=>rl F ?_;calc%[13,s1.d+1,[s1.d+1,s1.d],_,_,H1,rb,I1.ġ (t':=s1.toks) hk,Tz a s1.d _,%[%[xD _,bn<|hV B|bn B],%[_|F]|D],λb L=>?_|q];rcases a_.mp L with z|z
  .rw[z];show I1.m_ (dq _)<|I1.ê.ä<|dq _
  .rw[av.mp z];show I1.m_ (ah _)<|I1.ê.ä<|ah _⟩
end
def V_ {K:W.Ê}{a:Ĺ}{xs:Ĵ V}{g:TG}{tb:TS}{D:Ends}{I:St}{H:Hp}(q:ĵ->St->Hp->Prop)(L:q 0 I H)(B:∀i I H,i<=xs.n->q i I H->aM K H a xs)(hs:∀i x I H T,xs[i]?=ĳ x->q i I H->H T=ĺ->g (.C T) I (upd H T<|.Ã [.R i,x]) λI2 G=>tb {D with nx:=q<|i+1,ct:=q<|i+1,bk:=D.nx} I2 G)(hd:∀I H,q xs.n I H->D.nx I H):Dy (Zh K a) g tb D I H:=Lg xs.n q L (λi I H h p=>%[%[3,xs,xs[i],B i I H (ax h) p|by simp[h]]|λx H' y=>by let(T,y,F,rfl,J,rfl):=y;show hs i y I _ T (J xs<|B i I H (ax h) p) p F]) λI H p=>%[%[0,xs,B _ I H (ah _) p|ah _]|hd I H p]
def Wa {l:Ĵ ĵ}{f:St->St}{tt:TT}{KT:W.Ê}{D:Ĺ}{te:TE}{I:St}{H:Hp}{R:Hp->Prop}(B:ĵ->Ĵ V->Hp->Prop)(J:B 0 [] (upd H D<|.Ç []))(hs:∀i c ys H T,l[i]?=some c->B i ys H->H T=none->qN l.n i D (λv H Q=>∃a p q,v=.C a/\aM KT H a [p,q]/\Q [ĳ p,ĳ q]) f I tt te (.C T) (upd H T<|.Ã [.R i,.À (S [c])]) ys (B<|i+1))(hd:∀ys H,B l.n ys H->R H):rM (Mh l) D H R (zT (λv H Q=>∃a p q,v=.C a/\aM KT H a [p,q]/\Q [ĳ p,ĳ q]) f I tt te):=DP l.n B J (λi ys H h p=>%[h|λx H' y=>by let(T,c,F,rfl,G,rfl):=y;show hs i c ys H T G p F]) λys H p=>%[ah _|hd ys H p]
section
variable {X:Cx}
def DW (O:X.Ě=ķ):d7 X (.Õ "any") (λxs H Q=>∃(p:Addr) (bs:Ĵ œ),xs=[.C p]/\aP X.K H p (bs.Q V.bl)/\Q (.bl<|bs.đ id) H):=by
 (intro ao s T H xs us Q I r h);let(p,bs,rfl,hq,q):=h;let(u,rfl,D):=vals1 r;cases D;let(its,G,pl,hz):=I.ĕ hq;let L:p≠s.d:=by let(o,Y,_):=pl.ö;show bn<|a6 Y
 let Z:∀(i:ĵ) (v:Ķ),its[i]?=ĳ v->v=.Ć (bs.Í i Ļ):=λi v hv=>by
  let B:=G.n;let hi:i<bs.n:=by have:=(ap.mp hv).1;simp_all
  let(u,N,D):=G.get (i:=i) (x:=.bl bs[i]) (by simp[hi]);rw[hv]at N;cases N;cases D;simp[List.getD,hi]
 calc cj<|call_any_walk<|ox pl.ö ?_;refine%[56,s.d,_,_,_,_,_,λi=>bs.Í i Ļ,rb,Walks.ĕ (A:=X.A.in1) (I.ok.hd O) s.d p L its.Y,%[%[2,_,aT _ rb,rb|rb]|pl.ö.at λo e=>ag _ e],?_|λh' tk kk ht=>?_]
 .intro i v s' Q' E' hv J;let e:=Z i v (by simpa using hv);subst e;show fq J
 .let I1:aL X ao T H {s with heap:=h',toks:=tk}:=I.ġ λb o e=>kk b o (by
   intro hm;have:b=s.d:=by simpa using hm
   subst this;show ń (a6 e)<|mh _)<|ag _ e
  calc%[1,.bl<|bs.đ id,H,I1,?_|q];let B:its.Y.E=bs.n:=by have:=G.n;simp at this;simp[this]
  rw[B];congr 1;let F:∀bs:Ĵ œ,(List.æ bs.n).đ (λi=>bs.Í i Ļ)=bs.đ id:=λbs=>by
   rw[iN,mw,mw];constructor
   .intro z;let(i,hi,h):=z;let M:=bS.mp hi;show%[0,bs[i],aI _|by simpa [List.getD,M] using h]
   .intro z;let(x,hx,h):=z;let(i,hi,rfl):=cE.mp hx;show%[0,i,bS.Û hi|by simpa [List.getD,hi] using h]
  show F bs
end
structure ZA (z ti to u v a b:Ĺ):Prop where
 q1:ti≠z
 q2:to≠z
 q3:u≠z
 q4:v≠z
 q5:ti≠to
 q6:ti≠u
 q7:ti≠v
 q8:to≠u
 q9:to≠v
 p1:u≠v
 p2:a≠z
 p3:a≠to
 p4:a≠u
 p5:a≠v
 p6:b≠z
 p7:b≠to
 p8:b≠u
 p9:b≠v
section
variable {X:Cx}{ao:AC}{T:St}{H:Hp}{s:Ľ}
def aL.aaZ {fp:Ĵ Ĺ}{tk:ĵ}{x y:V}{p q:Ķ}{D:Ō}(I:aL X ao T H s)(hf:∀b∈fp,mq X ao H b)(lt:∀b∈fp,b<s.d)(N:bL x p)(L:bL y q)(G:D.Á s.d=ĳ {cls:=.È "tuple",data:=.ð #[p,q]})(hk:∀b o,b∉fp->s.H.Á b=ĳ o->D.Á b=ĳ o)(ht:Ž (s.Ï<=tk) δ):aL X ao T (upd H s.d<|.Ã [x,y]) {s with heap:=D,toks:=tk}/\∀b∈fp,upd H s.d (.Ã [x,y]) b=ĺ:=by
 let I2:aL X ao T (upd H s.d<|.Ã [x,y]) {s with heap:=s.H.Ò {cls:=.È "tuple",data:=.ð #[p,q]},toks:=tk}:=I.Ĝ (λb v e=>ag _ e) (ah _) %[14,zsz 2,[p,q],.Ð N<|.Ð L .Ü|%[37,_,aT _ rb,rb,_|rb]]
 let fr:∀b∈fp,upd H s.d (.Ã [x,y]) b=ĺ:=λb B=>by rw[bx (bn<|lt b B)];show(hf b B).1
 let F:=aL.Ca (s:={s with heap:=s.H.Ò {cls:=.È "tuple",data:=.ð #[p,q]},toks:=tk}) (h':=D) (fp:=fp) (t':=tk) I2 (λb o B g=>?_) λb B=>?_
 .show%[F|fr]
 .rcases Heap.get?_push_cases g with⟨M,Y⟩|z;.rw[M,Y];show G
  .show hk b o B z
 .let(f0,Z,f2,f3,J,O):=hf b B;show%[fr b B,Z,f2,f3,J|O]
def Jv:bootBuiltins "zip"=ĳ (.È "zip"):=by decide +kernel
end
end L2
namespace HT
open PySem PySem.Spec PyProof.Rows
end HT
namespace L2
open PySem PySem.Spec PyProof.Rows PySem.W
section
variable {X:Cx}
def afH (K:W.Ê):R2:=λx y H Q=>∃a b xs ys,x=.C a/\y=.C b/\aM K H a xs/\aM K H b ys/\xs.n+ys.n<=Ń/\(xs=[]->H b=ĳ (.Ã ys))/\(ys=[]->xs≠[]->H a=ĳ (.Ã xs))/\
 ∀p H',aA H H'->H' p=ĳ (.Ã<|xs++ys)->Q (.C p) H'
def QX:fB X (binaryOp .Add) (afH X.K):=by
 intro ao s C H x y v u Q I rx ry h;let(a,b,xs,ys,rfl,rfl,ha,hb,hz,e1,e2,q):=h;cases rx;cases ry;let(its,r1,p1,_):=I.ğ ha;let(B,L,p2,_):=I.ğ hb;by_cases hx:xs=[]
 .let((cls,dd,data,sl),Y,O,n,hd):=id p1;let((cls2,M,N,J),F,G,n2,D):=id p2;simp only at O hd G D;subst O hd G D;show concat_meets %[0,_,Y|rb] %[0,_,F|rb] noFill_tuple_add seq_tuple_add tS tq (sF _ _)
   (tuple_addW0 a b its.Y B.Y n n2 dd M sl J (by simp[(r1.Bu.Û hx)])) %[Y,F|%[1,.C b,H,I,rb|q b H (aA.Ğ _) (by rw[hx];show e1 hx)]]
 .refine HT.abq p1 p2 (λz=>hx<|r1.Bu.mp z) (λz=>%[1,.C a,H,I,rb|?_]) (λz=>?_) (by rw[<-r1.length,<-L.length];show hz)
  .let Z:=L.Bu.mp z;show q a H (aA.Ğ _) (by rw[Z,dS];show e2 Z hx)
  .calc%[1,.C s.d,_,I.Ĝ (t':=s.toks) (o:=.Ã (xs++ys)) (λb ob q=>ag _ q) (ah _) ?_,rb|q _ _ (aA.è<|I.ê.ä<|ah _) au];show%[14,by rw[ay];show hz,_,r1.append L|IsTup.new _ _]
def DX:fillsNumberSlot (.È "tuple") "mul"=pure Ļ:=PySem.fillsNumberSlot_seq (id:="tuple.__mul__") (r:=ĳ (.Õ "tuple.__rmul__")) tT.Æ yn (by kernel_rfl) yn
def Mi:seqRepeat? (.È "tuple")=pure (ĳ<|.Õ "tuple.__mul__"):=by unfold seqRepeat?;rfl
def TF (a)(t:Tok)(l)(items)(n)(dd)(sl):ŵ (Builtin.«int.__rmul__» %[[.R a t,.C l]|[]]) (λ_ R s=>s.H.Á l=ĳ {cls:=.È "tuple",dict:=dd,data:=.ð items n,slots:=sl}/\R (.ok<|.ret Value.notImplemented) s):=
 .of_wp λprog w A R s h=>by
  let(q,h):=h
  wp_walk
  show%[0,_,rb|h]
def QZ {P:Type}(n)(l:Ĵ P):(List.Ë n l).Ì.n=n*l.n:=by
 induction n with| zero=>simp| succ n ih=>rw[gE,gd,ay,ih,oQ];lia
theorem Q0:∀(n:ĵ) (a q:Ņ Ķ),List.foldl (λx1 B=>x1++B) q (List.Ë n a)=(q.I++(List.Ë n a.I).Ì).Y
 | 0,a,q=>by simp
 | n+1,a,q=>by rw[gE,sn,Q0 n a (q++a)];simp[gE]
def Jw (n:ĵ)(a:Ņ Ķ):List.foldl (λx1 q=>x1++q) #[] (List.Ë n a)=((List.Ë n a.I).Ì).Y:=by rw[Q0];simp
def TJ (l)(q:Ņ Ķ)(n)(dd)(sl)(x)(u:Tok)(D:¬q.Ė=ķ)(h1:2<=x)(G:x<=100)(J:q.E<=100):ŵ (Builtin.«tuple.__mul__» %[[.C l,.R x u]|[]]) (λ_ R s=>s.H.Á l=ĳ {cls:=.È "tuple",dict:=dd,data:=.ð q n,slots:=sl}/\R (.ok<|.ret<|.C s.d) {s with heap:=s.H.Ò {cls:=.È "tuple",data:=.ð<|List.foldl (λx1 F=>x1++F) #[]<|List.Ë x.Ö q} }):=
 .of_wp λprog w A R s h=>by
  let(B,h):=h;let L:(ľ (x < -(2^63))||ľ (x>=2^63))=Ļ:=by lia
  let N:(q.Ė||x==1)=Ļ:=by simp[D];lia
  let M:(ľ (x<=0)||q.Ė)=Ļ:=by simp[D];show Int.le_of_lt h1
  wp_walk using lL B
  rw[ŀ (by rw[L];decide)]
  wp_walk using lL B
  rw[ŀ (by rw[N];decide)]
  rw[ŀ (by rw[M];decide)];let O:(q.E:ļ)*x<=10000:=Int.mul_le_mul (show (q.E:ļ)<=100 by lia) G ye ye
  rw[ŀ ye]
  rw[ŀ (by unfold Builtin.Tuple.tupleTooMany;simp[sizeLine];lia)];let hz:(List.foldl (λx1 F=>x1++F) #[]<|List.Ë x.Ö q).E<=Ń:=by rw[Jw,bP,QZ];have:x.Ö*q.E<=100*100:=iE (by simp_all) J;show aw this yi
  calc ab ?_;calc dE ?_ hz;show af %[0,_,rb|h]
def afI (K:W.Ê):R2:=λx y H Q=>∃a xs,∃n:Nat,x=.C a/\y=.R n/\aM K H a xs/\xs≠[]/\2<=n/\n<=100/\xs.n<=100/\∀p,H p=ĺ->Q (.C p) (upd H p<|.Ã (List.Ë n xs).Ì)
theorem Mj (r:Vals xs us):∀n,Vals (List.Ë n xs).Ì (List.Ë n us).Ì
 | 0=>.Ü
 | n+1=>by rw[gE,gE,gd,gd];show r.append<|Mj r n
def abH:fB X (binaryOp .Mult) (afI X.K):=by
 intro ao s C H x y v u Q I L J h;let(a,xs,n,rfl,rfl,ha,hx,Y,N,D,q):=h;cases L;let(tk,rfl):=J;let(its,r1,p1,_):=I.ğ ha;let((cls,G,data,sl),B,F,m,hd):=id p1;simp only at F hd;subst F hd;refine wpAny_binaryOp_repeat_ref (T:="tuple") (U:="int") yi %[0,_,B|rb] (λs'=>typeIs_int s' _ _) DX PySem.F.fills_int_mul PySem.F.slot_int_rmul Mi PySem.F.slot_int_index.Æ
 <|call_meets PySem.F.slot_int_rmul (typeIs_int s _ _) PySem.F.entry_int_rmul (PySem.F.args_int_rmul_2 _ _) (TF _ _ a its.Y m G sl) %[B,rb,%[0,_,B|rb]|?_]
 calc call_meets tT %[0,_,B|rb] PySem.F.entry_tuple_mul (PySem.F.args_tuple_mul_2 _ _) (TJ a its.Y m G sl (n:ļ) _ (λz=>hx<|r1.Bu.mp (by simpa using z)) ye ye (by rw[bP,<-r1.n];show D)) %[B|?_];calc%[1,.C s.d,_,I.Ĝ (t':=s.toks) (o:=.Ã (List.Ë n xs).Ì) (λb ob q=>ag _ q) (ah _) ?_,rb|q _<|I.ê.ä<|ah _];refine%[14,?_,(List.Ë n its).Ì,Mj r1 n|?_]
 .rw[QZ];have:n*xs.n<=100*100:=iE N D;show aw this yi
 .rw[Jw,show its.Y.I=its by simp];show IsTup.new _ _
end
def Zk (K:W.Ê)(a b:Ĺ):It:=%[λi H=>∃xs ys x y,aP K H a xs/\aP K H b ys/\xs[i]?=ĳ x/\ys[i]?=ĳ y,λi H t H'=>∃T x y,H T=ĺ/\t=.C T/\(∀xs,aP K H a xs->xs[i]?=ĳ x)/\(∀ys,aP K H b ys->ys[i]?=ĳ y)/\H'=upd H T (.Ã [x,y])|λi H=>∃xs ys,aP K H a xs/\aP K H b ys/\i<xs.n/\ys.n<=i]
def Wb {P:Ň}{w:ŋ}{K:W.Ê}{elts:Ĵ Ő}{x1:ĵ}{pos:Pos}{z ti to u v a b:Ĺ}(D:ZipApart z ti to u v a b):Turn P w K (.Ă elts x1 pos) (Zk K a b) [z,ti,to,u,v] z (λi h=>ţ h z ti to .ß/\Ś h ti (.C u) (.C v)/\(∃m n,Ś h to m n)/\h.ĥ u a i/\h.ĥ v b i) where
 mem:=by simp
 obj:=λi h st c B=>by
  let(h1,F,(m,n,N),(o4,M,_,d4),(o5,L,_,d5)):=st;simp only[a_,eR,or_false]at B;rcases B with e|e|e|e|e <;> subst e
  .show%[0,_,h1|λv y=>by cases y]
  .show%[0,_,F|λv y=>by cases y]
  .show%[0,_,N|λv y=>by cases y]
  .show%[0,o4,M|λv y=>by rw[d4]at y;cases y]
  .show%[0,o5,L|λv y=>by rw[d5]at y;cases y]
 keep:=λi h h' st k=>by let(h1,F,(m,n,N),M,L):=st;show%[k z yf _ h1,k ti yf _ F,%[5,m,n|k to yf _ N],M.at λo e=>k u yf o e|L.at λo e=>k v yf o e]
 item:=by
  intro X hP hw hK B i ao s T H E I hf st hg;subst hP hw hK;let(h1,F,(m,n,N),M,L):=st;let(xs,ys,x,y,J,G,hx,hy):=hg;let(fs,rf,pf,_):=I.ĕ J;let(Y,rg,pg,_):=I.ĕ G;let(p,ep,rp):=rf.get hx;let(q,eq,rq):=rg.get hy;let lt:∀c∈[z,ti,to,u,v],c<s.d:=λc B=>by
   simp only[a_,eR,or_false]at B;rcases B with e|e|e|e|e <;> subst e
   .show a6 h1
   .show a6 F
   .show a6 N
   .let(o,e,_):=M;show a6 e
   .let(o,e,_):=L;show a6 e
  calc wpAny_pyNext_zip_item D h1 F N M L (show s.H.Ĕ a fs.Y from pf.ö) (show s.H.Ĕ b Y.Y from pg.ö) (x:=p) (y:=q) (by simpa using ep) (by simpa using eq) λh' k1 k2 k3 k4 k5 _ k6=>?_;calc%[0,_,rb|wpAny_letOwnedTupleGo_zip k1 λZ e2 O=>?_];let up:∀c o,c∉[z,ti,to,u,v]->s.H.Á c=ĳ o->Z.Á c=ĳ o:=λc o B e=>by simp only[a_,eR,or_false,not_or]at B;show O.á _ _ B.1<|k6 c o B.1 B.2.2.1 B.2.2.2.1 B.2.2.2.2 e
  let(I3,fr):=aL.aaZ (tk:=s.toks) I hf lt rp rq (O.á _ _ (ii<|lt z yf) k5) up;show%[12,.C s.d,_,I3,rb,%[7,s.d,x,y,I.ê.ä<|ah _,rb,λzs hz=>by rw[I.xM hz J];show hx,λzs hz=>by rw[I.xM hz G];show hy|rb],
   %[e2,O.á _ _ D.TIz<|k6 _ _ D.TIz D.TITO D.TIi1 D.TIi2 F,%[5,_,_|O.á _ _ D.TOz k2],k3.at λo e=>O.á _ o D.i1z e|k4.at λo e=>O.á _ o D.i2z e]|fr]
 done:=by
  intro X hP hw hK B i ao s T H E I hf st hg;subst hP hw hK;let(h1,F,(m,n,N),M,L):=st;let(xs,ys,J,G,hx,hl):=hg;let(fs,rf,pf,_):=I.ĕ J;let(Y,rg,pg,_):=I.ĕ G;let bW:=rg.n;let hh:X.A.ħ.ò=ĺ:=by simp[I.ok.hd B]
  calc wpAny_pyNext_zip_end hh D h1 F N M L (show s.H.Ĕ a fs.Y from pf.ö) (show s.H.Ĕ b Y.Y from pg.ö) (.Ó (by simp;simp_all)) λh' k=>?_;calc%[rb|aL.Ca (fp:=[z,ti,to,u,v]) (t':=s.toks) I (λc o B e=>?_) hf];simp only[a_,eR,or_false,not_or]at B;show k c o B.1 B.2.2.1 B.2.2.2.1 B.2.2.2.2 e
 self:=λA i s Q E st h=>uj st.1 h
section
variable {X:Cx}{elts:Ĵ Ő}{x1:ĵ}{tp:Pos}
def afJ (K:W.Ê)(ta:TA):TI:=λT H R=>ta T H λvs H1=>∃a b,vs=[.C a,.C b]/\(∃xs,aP K H1 a xs)/\(∃ys,aP K H1 b ys)/\R (Zk K a b) H1
def abI {a b:Ő}{ta:TA}{p pos:Pos}(hg:Gl X "zip")(hm:X.mg "zip"=ĺ)(ha:QA X [a,b] ta)(hs:Ž (ŉ [a,b] X.É=[(Ļ,Ŕ a X.É),(Ļ,Ŕ b X.É)]) ž)(G:Ž (ŉ [b] X.É=[(Ļ,Ŕ b X.É)]) ž):QI X (.Ă elts x1 tp) (.ĩ (.å "zip" p) [a,b] [] pos) (afJ X.K ta):=⟨by
 intro ao s T H R I h;calc Ż<|nA I hg hm Jv<|g6 (bJ (ha.ã pos ao s T H _ I h) λus s1 zz=>?_) (by rw[hs,G]) (by rw[G];rfl);let(vs,H1,I1,r1,q1):=zz;let(a,b,e,(xs,M),(ys,J),q):=q1;subst e;cases r1 with
 | cons r rr=>
  cases rr with
  | cons r' rr=>
   cases rr;cases r;cases r';let(fs,rf,pf,_):=I1.ĕ M;let(gs,rg,pg,_):=I1.ĕ J;let O:a<s1.d:=by
    let(o,L,_):=(show s1.H.Ĕ a fs.Y from pf.ö)
    show a6 L
   let lb:b<s1.d:=by
    let(o,L,_):=(show s1.H.Ĕ b gs.Y from pg.ö)
    show a6 L
   calc call_zip_2 (show s1.H.Ĕ a fs.Y from pf.ö) (show s1.H.Ĕ b gs.Y from pg.ö) λh' Z k2 k3 k4 k5 _ kk=>uj Z ?_;let D:ZipApart (s1.d+4) (s1.d+2) (s1.d+3) s1.d (s1.d+1) a b:=by
    let B:∀N a b:ĵ,a<N->b<N->ZipApart (N+4) (N+2) (N+3) N (N+1) a b:=λN a b O lb=>by constructor <;> lia
    show B _ _ _ O lb
   calc%[13,s1.d+4,[s1.d+4,s1.d+2,s1.d+3,s1.d,s1.d+1],_,_,H1,rb,I1.ġ (t':=s1.toks) kk,Wb D,%[Z,k2,%[5,_,_|k3],k4|k5],λc Y=>?_|q];let F:s1.d<=c:=by
    simp only[a_,eR,or_false]at Y;let B:∀N c:ĵ,(c=N+4\/c=N+2\/c=N+3\/c=N\/c=N+1)->N<=c:=λN c h=>by lia
    show B _ _ Y
   show I1.m_ F<|I1.ê.ä F⟩
end
def aec {K KT:W.Ê}{a b D:Ĺ}{xs ys:Ĵ V}{f:St->St}{tt:TT}{te:TE}{I:St}{H:Hp}{R:Hp->Prop}(N:xs.n=ys.n+1)(F:ĵ->Ĵ V->Hp->Prop)(M:F 0 [] (upd H D<|.Ç []))(G:∀i B H,i<=ys.n->F i B H->aP K H a xs/\aP K H b ys)(hs:∀i x y B H T,xs[i]?=some x->ys[i]?=some y->F i B H->H T=none->qN ys.n i D (λv H Q=>∃a p q,v=.C a/\aM KT H a [p,q]/\Q [ĳ p,ĳ q]) f I tt te (.C T) (upd H T<|.Ã [x,y]) B (F<|i+1))(hd:∀B H,F ys.n B H->R H):rM (Zk K a b) D H R (zT (λv H Q=>∃a p q,v=.C a/\aM KT H a [p,q]/\Q [ĳ p,ĳ q]) f I tt te):=
 DP ys.n F M (λi B H h p=>by let(q1,q2):=G i B H (ax h) p;show%[%[25,xs,ys,xs[i],ys[i],q1,q2,by simp[show i<xs.n by lia]|by simp[h]]|λt H' y=>by let(T,x,y,J,rfl,hx,L,rfl):=y;show hs i x y B H T (hx xs q1) (L ys q2) p J]) λB H p=>%[%[4,xs,ys,(G _ B H (ah _) p).1,(G _ B H (ah _) p).2,ye|ah _]|hd B H p]
section
variable {prog:Ň}{w:ŋ}{A:ō}{E:AB}{s:Ľ}
variable {X:Cx}
def abJ {a b:Ĺ}{D ob:Obj}{na nb:ĵ}{x1 B:ĵ}{L G J M:Tok}{Q:AB}(ha:s.H.Á a=ĳ D)(ca:D.cls=.È "tuple")(da:D.ă=.ð [Value.R x1 L,Value.R B G].Y na)(N:s.H.Á b=ĳ ob)(cb:ob.cls=.È "tuple")(Z:ob.ă=.ð [Value.R x1 J,Value.R B M].Y nb)(hu:A.Þ<cLine)(q:Q (.Ć Ļ) s):Ł (ł prog w) A (compareOp .Lt (.C a)<|.C b) Q E s:=by
 let Y:s.Ā (.C a) "tuple":=%[0,D,ha|ca]
 let O:s.Ā (.C b) "tuple":=%[0,ob,N|cb]
 calc og (op:=.Lt) (T:="tuple") Y O qB (de qB Y F.entry_tuple_lt ?_<|xp _ _) hu;show Ł _ _ (Ş (.C b) (.È "tuple") >>= _) _ _ s;calc ab<|ip O isSubtype_tuple_tuple ?_;calc ab<|iX ha da<|ab<|iX N Z<|ab ?_;rw[show [Value.R (x1:ļ) L,Value.R (B:ļ) G].Y.I.zip [Value.R (x1:ļ) J,Value.R (B:ļ) M].Y.I=[(Value.R (x1:ļ) L,Value.R (x1:ļ) J),(Value.R (B:ļ) G,Value.R (B:ļ) M)] from rfl];(rw[gv];calc ab ?_;dsimp only;calc ab<|iS _ _ _ _ prog w _ _ ?_);(simp only[beq_self_eq_true,eP,a9,if_false];calc af ?_;dsimp only);(rw[gv];calc ab ?_;dsimp only;calc ab<|iS _ _ _ _ prog w _ _ ?_);(simp only[beq_self_eq_true,eP,a9,if_false];calc af ?_;dsimp only);calc af ?_;show af %[2,_,rb,by show Builtin.Ă.tupleCompareSizes CmpOp.Lt 2 2≠_;decide|q]
def agO:R2:=λx y H Q=>∃(a b:Addr) (x1 B D q:Nat),x=.C a/\y=.C b/\H a=ĳ (.Ã [.R x1,.R B])/\H b=ĳ (.Ã [.R D,.R q])/\B<1000/\q<1000/\
 Q (.bl<|ľ<|x1*1000+B<D*1000+q) H
def aed (hu:X.A.Þ<cLine):fB X (compareOp .Lt) agO:=by
 intro ao s C H x y v u Q I Y O h;let(a,b,x1,D,M,B,rfl,rfl,N,Z,l1,l2,q):=h;by_cases L:x1*1000+D=M*1000+B
 .let e1:x1=M:=ye;let e2:D=B:=by simp_all
  subst e1 e2;rw[al (mh _)]at q;cases Y;cases O;let(_,tv,V9,o,ho,hc,n,hd):=I.ê _ _ N;let(_,tv',Zf,o',F,G,n',J):=I.ê _ _ Z;cases V9 with
  | cons q1 rr=>
   cases rr with
   | cons q2 rr=>
    cases rr;cases Zf with
    | cons q3 rr'=>
     cases rr' with| cons q4 rr'=>cases rr';let(t1,rfl):=q1;let(t2,rfl):=q2;let(t3,rfl):=q3;let(t4,rfl):=q4;show abJ ho hc hd F G J hu %[1,.bl _,H,I,rb|q]
 .show ad6 hu ao s C H _ _ _ _ Q I Y O %[5,a,b|%[63,x1,D,M,B,[],[],rb,rb,N,Z,l1,l2,L|q]]
open Classical in
def afK (K:W.Ê)(q:œ):R2:=λx y H Q=>∃n d es,n<=60/\fX K H n d x/\fX K H n (.Ç es) y/\Q (.bl<|if q then !ľ (d∈es) else ľ (d∈es)) H
def Q5 (N:X.A.Þ+64<cLine):fB X (compareOp .In) (afK X.K Ļ):=by intro ao s C H x y v u Q I L J h;let(n,d,es,hn,hd,B,q):=h;let(as,M):=hd.reads I L;let(bs,D):=B.reads I J;let G:=hd.lay;calc SeqAt.in_list_reads D M (B.lay).1 G.1 (by have:=xC (PyData.depthAll<|eO es) (toP d).depth;lia) %[1,.bl _,H,I,rb|?_];rw[Hz];show q
end
def abK {X:Cx}{scope:Ŗ}{N:Ĵ Ŋ}(K:W.Ê)(Y:X.Ě=ķ)(D:N.Ý)(Z:N[0]?=ĳ x)(h1:N[1]?=ĳ y)(L:N[2]?=ĳ z)(M:N[3]?=ĳ z4)(hx:scope.Ú.Æ x=ĳ .ô)(J:scope.Ú.Æ y=ĳ .ô)(hz:scope.Ú.Æ z=ĳ .ô)(G:scope.Ú.Æ z4=ĳ .ô)(hK:Ž (X.K=K) ž):Fo (dW X scope cl C N s₀ H₀ fp) (.Ă [.å x px,.å y py,.å z pz,.å z4 p4] k pos) 4 (λv H Q=>∃a p q r B,v=.C a/\aM K H a [p,q,r,B]/\Q [ĳ p,ĳ q,ĳ r,ĳ B]):=by
 subst hK;intro ao s pre rest H v u Q hp I r q;let(a,p,q',r',B,rfl,hq,q):=q;obtain⟨F,p1,p2,p3,rfl⟩:∃F p1 p2 p3,pre=[F,p1,p2,p3]:=by refine uAz (p:=λpre=>∃F p1 p2 p3,pre=[F,p1,p2,p3]) ?_ _ hp;show λF p1 p2 p3=>%[5,F,p1|%[5,p2,p3|rb]]
 refine bJ ((EY (X:=dW X scope cl C N s₀ H₀ fp) Y<|jF (jT (i:=0) D Z (.Â<|lookup_relabel_local hx)<|.Ó<|lookup_relabel_local hx)<|jF (jT (i:=1) D h1 (.Â<|lookup_relabel_local J)<|.Ó<|lookup_relabel_local J)<|jF (jT (i:=2) D L (.Â<|lookup_relabel_local hz)<|.Ó<|lookup_relabel_local hz)<|jF (jT (i:=3) D M (.Â<|lookup_relabel_local G)<|.Ó<|lookup_relabel_local G) Bk) ao s _ H (.C a) u (λT' H'=>H'=H/\T'=ĳ p::ĳ q'::ĳ r'::ĳ B::rest) I r
  %[1,a,[p,q',r',B],rb,hq|%[16,rb,p,[q',r',B],rb|%[5,q',[r',B]|%[16,rb,r',[B],rb|%[4,B,[],rb,rb,rb|rb]]]]]) λ_ s' ⟨T',H',I',e1,O⟩=>?_
 subst e1 O;show%[2,[ĳ p,ĳ q',ĳ r',ĳ B],rb,I'|q]
def TQ {K:W.Ê}{xs:Ĵ V}{f:St->St}{KT:W.Ê}{R:Hp->Prop}(F:ĵ->Ĵ V->Hp->Prop)(N:F 0 [] (upd H D<|.Ç []))(M:∀i ys H,i<=xs.n->F i ys H->aM K H a xs)(hs:∀i x ys H,xs[i]?=some x->F i ys H->qN xs.n i D (λv H Q=>∃a p q r B,v=.C a/\aM KT H a [p,q,r,B]/\Q [ĳ p,ĳ q,ĳ r,ĳ B]) f I tt te x H ys (F<|i+1))(hd:∀ys H,F xs.n ys H->R H):∃W:ĵ->ĵ->Ĵ V->Hp->Prop,(∃m,W 0 m [] (upd H D<|.Ç []))/\
   ∀i m ys H,W i m ys H->((Qm K a).stop i H/\R H)\/((Qm K a).go i H/\∀x H',(Qm K a).E_ i H x H'->∃a p q r B,x=.C a/\aM KT H' a [p,q,r,B]/\(tt ([ĳ p,ĳ q,ĳ r,ĳ B]++f I) H' λb L=>
    if b=ķ then te ([ĳ p,ĳ q,ĳ r,ĳ B]++f I) L λy J=>J D=ĳ (.Ç ys)/\ys.n<Ń/\∃m',m'<m/\W (i+1) m' (ys++[y]) (upd J D<|.Ç<|ys++[y])
    else ∃m',m'<m/\W (i+1) m' ys L)):=by
 calc%[0,λi m ys H=>m=xs.n-i/\i<=xs.n/\F i ys H,%[2,xs.n,yf,b5 _|N]|?_];intro i m ys H z;let(rfl,hi,p):=z;let q:=M i ys H hi p;by_cases G:i<xs.n
 .calc .Ó %[%[3,xs,xs[i],q|by simp[G]]|λx H' y=>?_];let(e,y):=y;subst e;show hs i x ys H' (y xs q) p
 .let e:i=xs.n:=ye;subst e;show .Â %[%[0,xs,q|ah _]|hd ys H p]
def afL {KT:W.Ê}{n i:ĵ}{p q r B:V}{f:St->St}{x:V}{ys:Ĵ V}{P:Ĵ V->Hp->Prop}(hx:x=.C a)(G:aM KT H a [p,q,r,B])(h:te ([ĳ p,ĳ q,ĳ r,ĳ B]++f I) H λy F=>F D=ĳ (.Ç ys)/\ys.n<Ń/\dz n i (P (ys++[y])<|upd F D<|.Ç<|ys++[y])):qN n i D (λv H Q=>∃a p q r B,v=.C a/\aM KT H a [p,q,r,B]/\Q [ĳ p,ĳ q,ĳ r,ĳ B]) f I gb te x H ys P:=by calc%[54,a,p,q,r,B,hx,G|?_];show (if ķ=ķ then (te ([ĳ p,ĳ q,ĳ r,ĳ B]++f I) H λy F=>F D=ĳ (.Ç ys)/\ys.n<Ń/\dz n i (P (ys++[y])<|upd F D<|.Ç<|ys++[y])) else dz n i (P ys H));show h
def Q6 {name:Ŋ}{apos cpos:Pos}{T id:ŗ}(K:W.Ê)(G:ů T)(slot:Slot T name id)(D:typeOf (.Õ id)=pure (.È "method_descriptor"))(hm:wG X id r)(F:QE X o to)(B:Ž (attributeBase o name X.É (Ŕ o X.É)=Ŕ o X.É) ž)(q:Ž ((apos.endLine==cpos.line)=ķ) ž)(h:Ž (X.K=K) ž):QE X (.ĩ (.Ą o name apos) [] [] cpos) (YH K T r to):=by subst h;show pC G slot D hm F B q
section
variable {X:Cx}{o e f:Ő}{apos cpos:Pos}{td ty tx:TE}
def Zm (D:X.A.Þ+1<cLine)(q:QE X o td)(B:QE X e ty)(hf:QE X f tx)(m:M2 X o "get" apos e f cpos):QE X (.ĩ (.Ą o "get" apos) [e,f] [] cpos) (VH td ty tx):=⟨YW D q.ã B.ã hf.ã m⟩
end
def SetT (w:ŋ)(h:Ō)(a:Ĺ)(es:Ņ (ļ×Ķ))(ep:ĵ)(t:ő):Prop:=∃o,h.Á a=ĳ o/\o.ExactSet/\o.ă=.Ď es ep t/\t.fits es.E=ķ/\(w.ç.í "set-order"=ķ\/t.led=ķ)/\(t.plain=Ļ\/es.E=0)
def qw (e:ļ×Ķ):Ĵ ĵ:=match e.2 with| .À x _=>x.cps.toList| _=>[]
structure z_ (w:ŋ)(es:Ņ (ļ×Ķ))(ws:AA):Prop where
 sh:∀e∈es.I,∃(l:Ĵ ĵ) (u:Tok),e=(hashStr w<|S l,.À (S l) u)
 nd:(es.I.Q qw).Ý
 mem:∀l,l∈es.I.Q qw↔l∈ws
def SetT.mv {h h':Ō}(m:SetT w h a es ep t)(k:∀o,h.Á a=ĳ o->h'.Á a=ĳ o):SetT w h' a es ep t:=let %[o,p|q]:=m;%[0,o,k _ p|q]
def SetT.ty {s:Ľ}(m:SetT w s.H a es ep t):s.Ā (.C a) "set":=let %[o,p,q|_]:=m;%[0,o,p|q.1]
def SetT.lt (m:SetT w h a es ep t):a<h.X.E:=let %[o,p|_]:=m;a6 p
def z_.el (prog)(m:z_ w es ws):ElemsOf (PySem.strKind prog w) es.I:=λe q=>by let(l,u,rfl):=m.sh e q;show%[%[0,S l,strKind_is _ _ _ _|rb]|rb]
def Wc (t:ő)(n):(t.orStandIn n).led=t.led:=by unfold SetTable.orStandIn;split <;> rfl
def abL (t)(es)(h)(x):(layNew t es h x).2.1.led=t.led:=by
 unfold layNew;split;.show Wc _ _
 .rfl
def Wd (t)(es)(n):(relayAll t es n).2.1.led=t.led:=by
 unfold relayAll SetTable.relaid SetTable.laid;cases h:SetTable.layClean (SetTable.sizeAbove n-1) (es.Q (·.1)) with| none=>rfl| some o=>dsimp only[bind,Option.bind,pure];split <;> rfl
def Pn (t:ő)(es)(n)(hp:t.plain=Ļ):(relayAll t es n).2.1.plain=Ļ:=by
 unfold relayAll SetTable.relaid SetTable.laid;cases h:SetTable.layClean (SetTable.sizeAbove n-1) (es.Q (·.1)) with
 | none=>rfl
 | some o=>
  dsimp only[bind,Option.bind,pure];split;.show hp
  .rfl
def z_.perm {es q:Ņ (ļ×Ķ)}(m:z_ w es ws)(p:q.I.ú es.I):z_ w q ws:=%[λe B=>m.sh e<|p.õ.mp B,(p.Q qw).nodup_iff.Û m.nd|λl=>(p.Q qw).õ.Z<|m.mem l]
section
variable {prog:Ň}{w:ŋ}{A:ō}{E:AB}{s:Ľ}{a:Ĺ}{es:Ņ (ļ×Ķ)}{ep:ĵ}{t:ő}{ws:AA}
def sO {B:Ņ (ļ×Ķ)}{t':ő}(m:SetT w s.H a es ep t)(hf:t'.fits B.E=ķ)(L:t'.led=t.led)(hp:t'.plain=Ļ)(hz:B.E<scanBound)(q:∀h',Heap.Ĉ a s.H h'->SetT w h' a B (ep+1) t'->Q () {s with heap:=h' }):Ł (ł prog w) A (storeSet a B t') Q E s:=by let(o,F,D,hd,_,J,_):=m;calc wpAny_storeSet_of F hd (q _ (f_ s.H a<|Obj.putSet B t') ?_)<|fits_of_scanBound hz;let G:=f8 (Obj.putSet B t') F (by rw[putSet_of B t' hd];rfl);rw[putSet_of B t' hd]at G;show%[30,_,G,D,rb,hf,by rw[L];show J|.Â hp]
def Zn (m:SetT w s.H a es ep t)(el:z_ w es ws)(hz:es.E+1<scanBound)(q:∀b h' D J t',Heap.Ĉ a s.H h'->SetT w h' a D J t'->z_ w D (ws++[l])->D.E<=es.E+1->Q b {s with heap:=h' }):Ł (ł prog w) A (setAddHashed a (.À (S l) u)<|hashStr w<|S l) Q E s:=by
 let hel:=el.el prog;let(o,ho,hex,hd,hf,hb,hp):=id m;calc eK<|ab<|gf ho hd hf ?_;dsimp only;rw[byScan_of (knd:=PySem.strKind prog w) rb (ax hz) hel];calc ab ?_;calc ab<|gL ?_;calc ab<|wpAny_setScan_of (knd:=PySem.strKind prog w) (strKind_is _ _ _ _) ho hd hf hel ?_;let cJ:∀e∈es.I,(PySem.strKind prog w).is (S l) e.2=ľ (qw e=l):=λe O=>by
  let(l',u',rfl):=el.sh e O;show (Value.isStrOf (S l)<|.À (S l') u')=ľ (l'=l);by_cases e:l'=l;.subst e;simp[Value.isStrOf]
  .have:¬S l=S l':=λz=>e (uW z).Ù
   simp[Value.isStrOf,e,this]
   try show λz=>this z.Ù
 cases hr:List.findIdx? (λe=>(PySem.strKind prog w).is (S l) e.2) es.I with
 | some j=>
  let(hj,hpj,_):=List.findIdx?_eq_some_iff_getElem.mp hr;calc af<|af ?_;let e:s={s with heap:=s.H}:=by cases s;rfl
  calc q _ s.H es ep t (Heap.Ĉ.Ğ a s.H) m %[el.sh,el.nd|λl'=>?_]<|dq _;rw[el.mem l',a7,av];show%[.Â|λz=>z.î id λz=>z ▸ (el.mem l).mp (ar.Û %[0,_,aI hj|by have:=cJ _<|aI hj;rw[hpj]at this;simpa using this.symm])]
 | none=>
  let hnl:l∉es.I.Q qw:=λz=>by let(e,O,ek):=ar.mp z;let h1:=List.findIdx?_eq_none_iff.mp hr e O;rw[cJ e O,ek]at h1;simp at h1
  let hgw:∀(b:œ) {s₁:Ľ} {Q':ť->Ľ->Prop},Q' () s₁->Ł (ł prog w) A (match b with|true=>rule "set.scan.the-table-gave-way"|false=>pure ()) Q' E s₁:=λb s₁ Q' hq=>by cases b <;> first|show af hq|show gL hq
  let F:=layNew_perm t es (hashStr w<|S l)<|.À (S l) u;let G:=layNew_fits t es (hashStr w<|S l)<|.À (S l) u;let TV:=abL t es (hashStr w<|S l)<|.À (S l) u;generalize hL:layNew t es (hashStr w<|S l) (.À (S l) u)=L at F G TV ⊢;let(B,t1,N,gave):=L;dsimp only at F G TV ⊢;rw[ib]at F;let hsz1:B.E=es.E+1:=by rw[<-bo,F.length_eq,ay];rfl
  let el1:z_ w B (ws++[l]):=by
   let el0:z_ w (es.Ò (hashStr w<|S l,.À (S l) u)) (ws++[l]):=by
    refine%[λe O=>?_,?_|λl'=>?_]
    .rw[ib]at O;rcases a7.mp O with O|O;.show el.sh e O
     .rw[av]at O;show%[5,l,u|O]
    .rw[ib,bg];calc List.nodup_append.Û %[el.nd,yf|λx hx y hy=>?_];have:y=l:=av.mp hy;subst this;show λz=>hnl<|z ▸ hx
    .rw[ib,bg,a7,a7,el.mem l'];rfl
   show el0.perm (by rw[ib];show F)
  let fin:∀{R:ĸ œ->Ľ->Prop} (M:ő),M.fits B.E=ķ->M.led=t.led->M.plain=Ļ->(∀h' D J t',Heap.Ĉ a s.H h'->SetT w h' a D J t'->z_ w D (ws++[l])->D.E<=es.E+1->R (ĳ ķ) {s with heap:=h' })->
    Ł (ł prog w) A (do
     storeSet a B M
     if (!N&&M.tooFull)=ķ then do
       (match (relayAll M B<|SetTable.grown B.E).2.2 with|true=>rule "set.scan.the-table-gave-way"|false=>pure ())
       storeSet a (relayAll M B<|SetTable.grown B.E).1 (relayAll M B<|SetTable.grown B.E).2.1
       pure (ĳ ķ)
      else pure (ĳ ķ)) R E s:=by
   intro R M hf2 hl2 hp2 hR;calc ab<|sO m hf2 hl2 hp2 (by simp_all) λh1 Q7 m1=>?_;split
   .let Y:=relayAll_perm M B<|SetTable.grown B.E;let Z:=relayAll_fits M B<|SetTable.grown B.E;let hlr:=Wd M B<|SetTable.grown B.E;let Zo:=Pn M B (SetTable.grown B.E) hp2;generalize hRl:relayAll M B (SetTable.grown B.E)=Rl at Y Z hlr Zo ⊢;let(es2,t3,gave2):=Rl;let hsz:es2.E=B.E:=by rw[<-bo,Y.length_eq,bo]
    calc ab<|hgw _ ?_;calc ab<|sO (s:={s with heap:=h1}) m1 Z hlr Zo (by simp[*]) λh2 sb2 m2=>?_;show af<|hR h2 es2 _ t3 (Q7.Z sb2) m2 (el1.perm Y) (by simp[*])
   .show af<|hR h1 B _ M Q7 m1 el1<|mE hsz1
  calc ab<|hgw _ ?_;let hbv:hashByValue 8 (.À (S l) u)=pure Ļ:=by simp[hashByValue]
  cases hp1:t1.plain with| true=>simp only[↓reduceIte];calc ab ?_;calc af ?_;show fin {t1 with plain:=Ļ} (SetTable.fits_plain_off G) TV rb λh' D J t' sb m' e' z=>by dsimp only;show af<|q _ h' D J t' sb m' e' z| false=>simp only[a9,↓reduceIte];calc ab<|af ?_;show fin t1 G TV hp1 λh' D J t' sb m' e' z=>by dsimp only;show af<|q _ h' D J t' sb m' e' z
end
def iB (w:ŋ)(a:Ĺ)(ws:AA)(k:ĵ):Ō->Prop:=λh=>∃es ep t,SetT w h a es ep t/\z_ w es ws/\es.E<=k
def iB.mv {h h':Ō}(m:iB w a ws n h)(k:∀o,h.Á a=ĳ o->h'.Á a=ĳ o):iB w a ws n h':=let %[es,ep,t,q|r]:=m;%[26,es,ep,t,q.mv k|r]
section
variable {prog:Ň}{w:ŋ}{A:ō}{I:Ĺ}{fp wr:Ĵ Ĺ}{n:ĵ}{P:ĵ->Ķ->Prop}{St:ĵ->Ō->Prop}{R:Ź->Ľ->Prop}
def Wf (W:Ÿ prog w A.ħ I fp wr n P St)(S0)(L:S0∉fp)(val:ĵ->Ĵ ĵ)(G:∀i v,P i v->∃t,v=.À (S<|val i) t)(q:n+1<scanBound):∀(k i:ĵ) (s:Ľ),n-i=k->i<=n->St i s.H->iB w S0 ((List.æ i).Q val) i s.H->
   (∀h' tk,(∀b o,b∉S0::wr->s.H.Á b=ĳ o->h'.Á b=ĳ o)->iB w S0 ((List.æ n).Q val) n h'->R (.ok<|.ret .ß) {s with heap:=h',toks:=tk})->
   codeAny (ł prog w) A (.Õ "set.update.loop" %[[.C S0,.C I]|[]]) R s:=by
 let D:S0∉wr:=λh=>L<|W.sub _ h;let sub:∀b,b∉S0::wr->b∉wr:=λb q h=>q<|aE _ h;intro k
 induction k with
 | zero=>intro i s hk hi B Z Y;let cJ:i=n:=ye;subst cJ;calc ij qk ?_;calc ab<|W.done s _ _ B λh' tk hm=>?_;show af<|Y h' tk (λb o q e=>hm b o (sub b q) e)<|Z.mv λo e=>hm S0 o D e
 | succ k ih=>
  intro i s hk hi B Z Y;let J:i<n:=Nat.lt_of_sub_eq_succ hk;calc ij qk ?_;calc ab<|W.item i s _ _ J B λv h1 tk hP F hm=>?_;let(t,rfl):=G i v hP;let(es,ep,tb,m1,e1,z1):=Z.mv (h':=h1) λo e=>hm S0 o D e;calc ab<|eK ?_;calc eK ?_;calc ab<|(PySem.strKind prog w).pyHash (k:=S (val i)) (strKind_is _ _ _ _) ?_;calc Zn (s:={s with heap:=h1,toks:=tk+1}) m1 e1 ye λb h2 M N t2 sb m2 e2 z2=>?_;refine af %[plainId_quiet i9 _|ih (i+1) _ (gg ye) J (W.frame _ h1 _ F λb q o e=>?_) %[31,M,N,t2,m2,by rw[fw,bg];show e2|ye] λh3 O Wg m3=>?_]
  .rw[sb.2 b (λh:b=S0=>L (by rw[<-h];show q))];show e
  .calc Y h3 O (λb o q e=>Wg b o q ?_) m3;rw[sb.2 b (λh:b=S0=>q (by rw[h];show aS))];show hm b o (sub b q) e
end
section
variable {prog:Ň}{w:ŋ}{A:ō}{E:AB}{s:Ľ}
variable {X:Cx}
def yV (a)(h:Q₁ (.C s.d) {s with heap:=s.H.Ò {cls:=.È "set",dict:=ĺ,data:=.Ď #[] 0<|.ä 0 0<|!w.ç.í "set-order"} }):codeAny (ł prog w) A (.call (.Õ "set.__new__") %[[.È "set",a]|[]]) (wants Q₁ E) s:=by
 calc vF ?_;calc ab<|oB (F.newCall_set_1 a)<|af %[plainId_quiet F.plain_set_new _|ij F.entry_set_new ?_];unfold Builtin.«set.__new__» Builtin.Frozenset.newClass;let q:=sub_set_self;dsimp only
 wp_walk
 calc oT<|af ?_;dsimp only;calc ab<|wpAny_alloc<|af ?_;show af h
def TX {h:Ō}(e:h.Á a=ĳ {cls:=.È "set",dict:=ĺ,data:=.Ď #[] 0<|.ä 0 0<|!w.ç.í "set-order"}):iB w a [] 0 h:=%[31,#[],0,_,⟨30,_,e,%[rb,rb|rb],rb,rb,by cases q:w.ç.í "set-order" <;> simp[SetTable.fresh,q],.Ó rb⟩,%[λe B=>by simp at B,yf|λl=>by simp]|ah _]
def Wh (Z:A.ò=ĺ)(hu:∀(A':ō) (E':AB) (Q':ť->Ľ->Prop) (h1:Ō),A'.ò=ĺ->h1.X.E=s.d+1->iB w s.d [] 0 h1->(∀b o,s.H.Á b=ĳ o->h1.Á b=ĳ o)->
   (∀h' tk,(∀b o,s.H.Á b=ĳ o->h'.Á b=ĳ o)->iB w s.d ws n h'->Q' () {s with heap:=h',toks:=tk})->
   Ł (ł prog w) A' (Builtin.Frozenset.updateFrom "set.__init__" s.d src) Q' E' {s with heap:=h1})
  (h:∀h' tk,(∀b o,s.H.Á b=ĳ o->h'.Á b=ĳ o)->iB w s.d ws n h'->Q (.C s.d) {s with heap:=h',toks:=tk}) :
  Ł (ł prog w) A (call (.È "set") [src]) Q E s:=by
 let D:=gx.made;let J:=gx.sub;calc vn<|vF ?_;calc af %[sL _ yn|ij xt ?_];rw[w8 (weight_type_call_type "set" [src] []) rfl];let hct:=F.typeCall_set_1 src
 repeat (any_goals (first|assumption|wp_step))
 calc kG (yV src (E:=E) (Q₁:=λobj M=>obj=.C s.d/\M={s with heap:=s.H.Ò {cls:=.È "set",dict:=ĺ,data:=.Ď #[] 0<|.ä 0 0<|!w.ç.í "set-order"} }) %[rb|rb]) λr M B=>?_;cases r with
 | error e=>show B
 | ok fl=>
  cases fl with
  | ret obj=>
   (let(rfl,rfl):=B;let N:(s.H.Ò {cls:=.È "set",dict:=ĺ,data:=.Ď #[] 0<|.ä 0 0<|!w.ç.í "set-order"}).Á s.d=ĳ {cls:=.È "set",dict:=ĺ,data:=.Ď #[] 0<|.ä 0 0<|!w.ç.í "set-order"}:=aT _ rfl);let O:Shared.Ā {s with heap:=s.H.Ò {cls:=.È "set",dict:=ĺ,data:=.Ď #[] 0<|.ä 0 0<|!w.ç.í "set-order"} } (.C s.d) "set":=%[0,_,N|rb]
   let hli:=gx.init.Æ;let Y:=gx.init.bind<|.C s.d
   repeat (any_goals (first|assumption|wp_step))
   refine kG (r_ (R:=wants (λr G=>r=.ß/\∃h' tk,G={s with heap:=h',toks:=tk}/\(∀b o,s.H.Á b=ĳ o->h'.Á b=ĳ o)/\iB w s.d ws n h') E) gx.init.plain F.entry_set_init<|check_set_init_1 O ?_) λr₂ G q=>?_
   .unfold Builtin.«set.__init__» noKeywords;generalize hU:Builtin.Frozenset.updateFrom=U
    wp_walk
    subst hU;calc hu _ _ _ _ (by simp[Z]) (d6 ..) (TX N) (λb o e=>ag _ e) λh' tk k m=>?_;calc af ?_;show%[17,rb,h',tk,rb,k|m]
   .cases r₂ with
    | error e=>show q
    | ok fl₂=>
     cases fl₂ with
     | ret r=>
      let(rfl,h',tk,rfl,k,m):=q
      repeat (any_goals (first|assumption|wp_step))
      show h _ _ k m
     | _=>show q.î
  | _=>show B.î
def Wi (hh:A.ò=ĺ)(Z:s.H.Ĕ l items)(hS:iB w S0 [] 0 s.H)(hne:S0≠l)(O:S0<s.d)(D:∀i v,items[i]?=ĳ v->∃t:Tok,v=Value.À (S<|val i) t)(Y:items.E+1<scanBound)(q:∀h' tk,(∀b o,b≠S0->s.H.Á b=ĳ o->h'.Á b=ĳ o)->iB w S0 ((List.æ items.E).Q val) items.E h'->Q () {s with heap:=h',toks:=tk}):Ł (ł prog w) A (Builtin.Frozenset.updateFrom "set.__init__" S0<|.C l) Q E s:=by
 let(ol,N,G,nl,B):=id Z;let(ocls,odict,odata,L):=ol;simp only at G B;subst G;let hsls:=F.sub_list_set;let hslf:=F.sub_list_frozenset;let hnd:(Value.È "list" == Value.È "dict")=Ļ:=by decide
 unfold Builtin.Frozenset.updateFrom;generalize hPI:pyIter=PI
 wp_walk
 subst hPI;calc ox Z ?_;calc ab<|wE ?_;let J:l≠s.d:=bn (a6 N);refine Wf (Walks.ĕ (by simp[hh]) _ l J items) S0 (by simp only[a_,eR,or_false,not_or];show%[bn O|hne]) val D Y (items.E-0) 0 _ rb (b5 _)
  %[%[2,_,aT _ rb,rb|rb]|Z.Ò _] (hS.mv λo e=>ag _ e) λh' tk k m=>?_
 calc af ?_;calc q h' tk (λb o Y e=>k b o ?_<|ag _ e) m;simp only[a_,eR,or_false,not_or];show%[Y|bn<|a6 e]
def iB.ext (m:iB w a ws n h):dg P w H h a (.ext<|iB w a ws n):=by calc%[m,?_|λh1 B p k=>p.mv k];let(es,ep,t,(o,q,_),_):=m;show%[o|q]
def Wj (ws:AA):(List.æ ws.n).Q (λi=>ws.Í i [])=ws:=by
 apply ic;intro i;rw[ba];by_cases h:i<ws.n;.rw[gN h,ae h];simp[List.getD,h]
 .rw[c9 (by simpa using h),c9 (by simpa using h)];rfl
def Wk (w:ŋ)(K:W.Ê):Ĵ V->Hp->VK->Prop:=λxs H Q=>∃(a:Addr) (ws:AA),xs=[.C a]/\aP K H a (Ts ws)/\ws.n<=1000/\
 ∀p,H p=ĺ->Q (.C p) (upd H p<|.ext<|iB w p ws ws.n)
def TY (Z:X.Ě=ķ):d7 X (.È "set") (Wk X.w X.K):=by
 (intro ao s T H xs us Q I r h);let(p,ws,rfl,hq,hz,q):=h;let(u,rfl,D):=vals1 r;cases D;let(its,M,pl,O):=I.ĕ hq;let J:=M.n;rw[aa]at J;let G:p<s.d:=by let(o,ho,_):=pl.ö;show a6 ho
 let B:∀(i:ĵ) (v:Ķ),its.Y[i]?=ĳ v->∃t:Tok,v=Value.À (S<|ws.Í i []) t:=λi v hv=>by
  let hv:its[i]?=ĳ v:=by simpa using hv
  let hi:i<ws.n:=by have:=(ap.mp hv).1;simp_all
  let(u,N,D):=M.get (i:=i) (x:=.À (S ws[i])) (by simp[hi]);rw[hv]at N;cases N;let(t,e):=D;show%[t|by rw[e];simp[List.getD,hi]]
 let hsz:its.Y.E=ws.n:=by simp[J]
 refine cj<|Wh (ws:=ws) (n:=ws.length) (I.ok.hd Z) (λA' E' Q' h1 F s1 Y L q1=>?_) λh' tk k m ht=>?_
 .refine Wi (s:={s with heap:=h1}) F (pl.ö.at λo e=>L _ o e) Y (ii G) (by simp_all) B (by rw[hsz];show ws.n+1<4096;lia) λh' tk k m=>?_
  rw[hsz,Wj]at m;show q1 h' tk (λb o e=>k b o (bn<|a6 e)<|L b o e) m
 .show%[1,.C s.d,_,I.Ĝ (o:=.ext _) (t':=tk) k (ah _) m.ext,rb|q _ I.ä]
end
theorem xX {I:Type}:∀(l:Ĵ I) (i:ĵ) (h:i<l.n),(l[i]::l.eraseIdx i).ú l
 | a::l,0,h=>.Ğ _
 | a::l,i+1,h=>(List.ú.swap a _ _).Z ((xX l i (by simpa using h)).Ð a)
def vf {I:Type}(q:ĵ->ĵ)(xs:Ņ I):(pickOrder q xs).I.ú xs.I:=by
 let B:∀(f k:ĵ) (l:Ĵ I) (o:Ņ I),f=l.n->(pickOrder.go q f k l o).I.ú (o.I++l):=by
  intro f
  induction f with
  | zero=>intro k l o e;cases l with|nil=>simp[pickOrder.go]|cons a r=>simp at e
  | succ f ih=>intro k l o e;let hi:q k%l.n<l.n:=mm _ ye;unfold pickOrder.go;rw[ae hi];calc(ih _ _ _ (by rw[List.length_eraseIdx,Ŀ hi];lia)).Z ?_;rw[ib,bt];show mB _ (by simpa using xX _ _ hi)
 have:=B xs.E 0 xs.I #[] yf;simpa [pickOrder] using this
section
variable {prog:Ň}{w:ŋ}{A:ō}{E:AB}{s:Ľ}
def Kh (hn:n≠0)(h:∀i d,i<n->Q i {s with drawn:=d}):Ł (ł prog w) A (choose src n) Q E s:=λ_ _ _=>%[hn|h _ _<|mm _<|Nat.pos_of_ne_zero hn]
theorem Dd {I:Type}:∀(n:ĵ) (xs:Ĵ I) {s:Ľ} {Q:Ĵ I->Ľ->Prop},n=xs.n->(∀ys d,ys.ú xs->Q ys {s with drawn:=d})->Ł (ł prog w) A (drawOrder n xs) Q E s
 | 0,xs,s,Q,e,h=>by have:xs=[]:=nB.mp e.Ù;subst this;unfold drawOrder;show af<|h [] s.drawn .Ü
 | n+1,[],s,Q,e,h=>by simp at e
 | n+1,x::xs,s,Q,e,h=>by unfold drawOrder;calc ab<|Kh yf λi d hi=>?_;rw[ae hi];dsimp only;calc ab<|Dd n _ (by rw[List.length_eraseIdx,Ŀ hi];simp_all) λys d' p=>af ?_;calc h _ d' ?_;show((p.Ð _).Z<|xX _ _ hi)
end
end L2
namespace PySem.F
def cA:Slot "set_iterator" "__next__" "set_iterator.__next__":=
 .of (owner:="set_iterator") (n:="__next__") (by kernel_rfl) yn yn yn
  (by first|show .Â yn|show .Ó yn) (by kernel_rfl)
def nG:Slot "set_iterator" "__iter__" "set_iterator.__iter__":=
 .of (owner:="set_iterator") (n:="__iter__") (by kernel_rfl) yn yn yn
  (by first|show .Â yn|show .Ó yn) (by kernel_rfl)
def gD:entryFor table "set_iterator.__next__"=ĳ Builtin.«set_iterator.__next__»:=entryFor_of_tree ym
def FJ:entryFor table "set.__iter__"=ĳ Builtin.«frozenset.__iter__»:=entryFor_alias (id':="frozenset.__iter__") ym rb yn ym
def rG:Manifest.owners.Æ (String.ofList ['r','o','t','a','r','e','t','i','_','t','e','s'].ü)=ĳ Manifest.sig_set_iterator:=by kernel_rfl
def gj (a):argsOk "set_iterator.__next__" %[[a]|[]]:=by unfold argsOk;kernel_rfl
def uh:entryFor table "set_iterator.__iter__"=ĳ Builtin.«dict_keyiterator.__iter__»:=entryFor_alias (id':="dict_keyiterator.__iter__") ym rb yn ym
def um (a):argsOk "set_iterator.__iter__" %[[a]|[]]:=by unfold argsOk;kernel_rfl
end PySem.F
namespace L2
open PySem PySem.Spec PyProof.Rows PySem.W
def dO (h:Ō)(it:Ĺ)(first:Ķ)(i:ĵ)(a:Ĺ)(n ep:ĵ):Prop:=∃o,h.Á it=ĳ o/\o.cls=.È "set_iterator"/\o.ă=.ì #[first,.R i 0,.C a,.R n 0,.R ep 0]
def dO.ty {s:Ľ}(x:dO s.H it f i a n ep):s.Ā (.C it) "set_iterator":=let %[o,p,q|_]:=x;%[0,o,p|q]
def dO.mv {h h':Ō}(x:dO h it f i a n ep)(k:∀o,h.Á it=ĳ o->h'.Á it=ĳ o):dO h' it f i a n ep:=let %[o,p|q]:=x;%[0,o,k _ p|q]
section
variable {prog:Ň}{w:ŋ}{A:ō}{E:AB}{s:Ľ}{a it:Ĺ}{es:Ņ (ļ×Ķ)}{ep i:ĵ}{t:ő}{first:Ķ}
def yW {slot k:ĵ}(x:dO s.H it (.R slot u) i a es.E ep)(m:SetT w s.H a es ep t)(hn:∀(A':ō) (E':AB) (Q':ĸ (Ķ×ĵ)->Ľ->Prop),Q' (ĳ (v,k)) s->Ł (ł prog w) A' (setNext a slot i ep) Q' E' s)(q:∀h',dO h' it (.R k 0) (i+1) a es.E ep->Heap.Ĉ it s.H h'->Q (ĳ v) {s with heap:=h' }):Ł (ł prog w) A (pyNext<|.C it) Q E s:=by let T:=x.ty;let(y,D,M,B):=id x;let(o,N,L,hd,hf,_,_):=m;(calc ab<|ml<|ee (name:=Str.ċ "__next__") T F.cA<|de F.cA T F.gD ?_<|F.gj _;unfold Builtin.«set_iterator.__next__»;calc ab<|af ?_;calc ab<|rV D B ?_);dsimp only;calc ab<|p_ N hd hf ?_;rw[ŀ yf];calc ab ?_;calc hn _ _ _ ?_;calc ab<|kq D B yf ?_;let G:=f8 (Obj.mapFields (·.ï 0<|ś (k:ļ))) D<|my<|eW B _;calc ab<|kq G (eW B _) yf ?_;calc af %[0,_,rb|af ?_];calc q _ %[2,_,(f8 (Obj.mapFields (·.ï 1<|ś<|(i:ļ)+1)) G<|my<|eW (eW B _) _),(rj ..).Z<|(rj ..).Z M|?_]<|(f_ ..).Z<|f_ ..;rw[eW (eW B _)];simp[rawInt]
def Aa {slot:ĵ}(J:A.ò=ĺ)(x:dO s.H it (.R slot u) i a es.E ep)(m:SetT w s.H a es ep t)(hn:∀(A':ō) (E':AB) (Q':ĸ (Ķ×ĵ)->Ľ->Prop),Q' ĺ s->Ł (ł prog w) A' (setNext a slot i ep) Q' E' s)(q:∀h',Heap.ExtBut it s.H h'->Q ĺ {s with heap:=h' }):Ł (ł prog w) A (pyNext<|.C it) Q E s:=by let T:=x.ty;let(y,D,M,B):=id x;let(o,L,G,hd,hf,_,_):=m;(calc ab<|ml<|ee (name:=Str.ċ "__next__") T F.cA<|de F.cA T F.gD ?_<|F.gj _;unfold Builtin.«set_iterator.__next__»;calc ab<|af ?_;calc ab<|rV D B ?_);dsimp only;calc ab<|p_ L hd hf ?_;rw[ŀ yf];calc ab ?_;calc hn _ _ _ ?_;calc ab<|kq D B yf ?_;calc ab ?_;(calc ab<|dE ?_ yv;calc ab (m:=firstArgMember _ _)<|oB (a:=Value.none) (by first|rfl|(simp only[firstArgMember];rfl))<|dE ?_ yv;simp only[raiseNew];calc ab<|xf ?_);rw[show A.ħ.ò=ĺ from J];(calc ab<|af<|wpAny_throw ?_;calc ab (m:=Ş _ _)<|ip (T:="StopIteration") (b:=true) %[0,_,aT _ rb|rb] isSubtype_stop ?_);show af<|q _<|((f_ ..).á.Ò _).Ò _
def HF {O j:ĵ}{hv:ļ}(x:dO s.H it (.C tp) i a es.E ep)(m:SetT w s.H a es ep t)(h1:s.H.Á tp=ĳ ot)(M:ot.ă=.ð ps O)(hp:ps[i]?=ĳ (.R j u))(J:es[j]?=ĳ (hv,v))(q:∀h',dO h' it (.C tp) (i+1) a es.E ep->Heap.Ĉ it s.H h'->Q (ĳ v) {s with heap:=h' }):Ł (ł prog w) A (pyNext<|.C it) Q E s:=by let T:=x.ty;let(y,D,N,B):=id x;let(o,G,L,hd,hf,_,_):=m;(calc ab<|ml<|ee (name:=Str.ċ "__next__") T F.cA<|de F.cA T F.gD ?_<|F.gj _;unfold Builtin.«set_iterator.__next__»;calc ab<|af ?_;calc ab<|rV D B ?_);dsimp only;calc ab<|p_ G hd hf ?_;rw[ŀ yf];calc ab<|iF h1 M ?_;simp only[b3,hp];calc ab ?_;calc ab<|gf G hd hf ?_;dsimp only;rw[ŀ yf];simp only[J];calc af ?_;calc ab<|kq D B yf ?_;calc af %[0,_,rb|af ?_];calc q _ %[2,_,(f8 (Obj.mapFields (·.ï 1<|ś<|(i:ļ)+1)) D<|my<|eW B _),(rj ..).Z N|?_]<|f_ ..;rw[eW B];simp[rawInt]
def Kl (L:A.ò=ĺ)(x:dO s.H it (.C tp) i a es.E ep)(m:SetT w s.H a es ep t)(h1:s.H.Á tp=ĳ ot)(J:ot.ă=.ð ps pe)(hp:ps[i]?=ĺ)(q:∀h',Heap.ExtBut it s.H h'->Q ĺ {s with heap:=h' }):Ł (ł prog w) A (pyNext<|.C it) Q E s:=by let T:=x.ty;let(y,D,O,B):=id x;let(o,M,G,hd,hf,_,_):=m;(calc ab<|ml<|ee (name:=Str.ċ "__next__") T F.cA<|de F.cA T F.gD ?_<|F.gj _;unfold Builtin.«set_iterator.__next__»;calc ab<|af ?_;calc ab<|rV D B ?_);dsimp only;calc ab<|p_ M hd hf ?_;rw[ŀ yf];calc ab<|iF h1 J ?_;simp only[b3,hp];calc ab<|kq D B yf ?_;calc ab<|kq (f8 (Obj.mapFields (·.ï 0<|ś 0)) D<|my<|eW B _) (eW B _) yf ?_;calc ab ?_;simp only[PySem.newExc,newTuple];(calc ab<|dE ?_ yv;calc ab (m:=firstArgMember _ _)<|oB (a:=Value.none) (by first|rfl|(simp only[firstArgMember];rfl))<|dE ?_ yv;simp only[raiseNew];calc ab<|xf ?_);rw[show A.ħ.ò=ĺ from L];(calc ab<|af<|wpAny_throw ?_;calc ab (m:=Ş _ _)<|ip (T:="StopIteration") (b:=true) %[0,_,aT _ rb|rb] isSubtype_stop ?_);show af<|q _<|(((f_ ..).Z<|f_ ..).á.Ò _).Ò _
def Zq (m:SetT w s.H a es ep t)(hz:es.E<=4000)(q1:(w.ç.í "set-order"=ķ\/(w.ç.í "set-order"=Ļ/\es.E<=1))->Q (.C s.d) {s with heap:=s.H.Ò {cls:=.È "set_iterator",data:=.ì #[.R 0 0,.R 0 0,.C a,.R es.E 0,.R ep 0]} })(q2:∀(ps:Ĵ ĵ) (d:Drawn),ps.ú (List.æ es.E)->Q (.C<|s.d+1) {s with heap:=(s.H.Ò {cls:=.È "tuple",data:=.ð (ps.Q λi:Nat=>Value.R i 0).Y}).Ò {cls:=.È "set_iterator",data:=.ì #[.C s.d,.R 0 0,.C a,.R es.E 0,.R ep 0]},drawn:=d}):Ł (ł prog w) A (pyIter<|.C a) Q E s:=by
 let T:=m.ty;let(o,q,B,hd,hf,D,hp):=m;calc xm T F.slot_set_iter<|de F.slot_set_iter T F.FJ ?_<|F.args_set_iter_1 _;calc ab<|ab<|af ?_;calc af ?_;calc ab<|ab<|p_ q hd hf<|af ?_;calc ab<|ab<|gf q hd hf ?_;calc ab<|ab<|oT<|af ?_;calc af ?_;split
 .rename_i h;calc ab<|Dd _ _ yf λps d pm=>?_;calc ab<|wpAny_newTuple ?_ (by rw[aa,pm.length_eq,ej];show aw hz yi);calc ab<|wpAny_setEpoch_of (a:=a) (o:=o) (es:=es) (ep:=ep) (t:=t) (ag _ q) hd hf ?_;calc ab<|dE<|af %[38,_,rb,"set_iterator",_,%[0,_,aT _ rb|rb],F.cA.Æ|?_];have:=q2 ps d pm;simpa [rawInt,d6] using this
 .rename_i h;let h:¬(!w.ç.í "set-order" && (!t.plain&&ľ (es.E > 1)))=ķ:=h;calc ab<|af ?_;calc ab<|wpAny_setEpoch_of q hd hf ?_;calc ab<|dE<|af %[38,_,rb,"set_iterator",_,%[0,_,aT _ rb|rb],F.cA.Æ|?_];have:=q1 (by
   cases e:w.ç.í "set-order" with
   | true=>show .Â rfl
   | false=>
    calc .Ó %[rb|?_];rcases hp with hp|hp;.simp[e,hp]at h;show h
    .lia)
  simpa [rawInt] using this
def Zr (D:s.Ā (.C a) "set")(h:Q Ļ s):Ł (ł prog w) A (Builtin.List.listLengthHint<|.C a) Q E s:=by
 calc ab<|qA D PySem.F.slot_set_len.Æ ?_;generalize B:("set.__len__":ŗ)=id0
 wp_delta
 subst B;calc ab<|ip (T:="set") (b:=true) D (by kernel_rfl) ?_;calc wpAny_ite_split (λq=>ń q yi) λ_=>?_;calc wpAny_ite_split (λ_=>?_) λq=>ń yn q;calc ab<|vw D ?_;show af h
def DY (x:dO s.H it first i a n ep)(q:Q (.C it) s):Ł (ł prog w) A (pyIter<|.C it) Q E s:=by calc xm x.ty F.nG<|de F.nG x.ty F.uh ?_<|F.um _;show af %[38,_,rb,"set_iterator",_,x.ty,F.cA.Æ|q]
def T4 {tp:Ĺ}{ps:Ĵ ĵ}(N:A.ò=ĺ)(L:a≠it)(J:tp≠it)(hp:∀j∈ps,j<es.E)(O:ps.n=es.E):Ÿ prog w A it [it,tp,a] [it] es.E (λi v=>∃j e,ps[i]?=ĳ j/\es[j]?=ĳ e/\v=e.2)
   (λi h=>dO h it (.C tp) i a es.E ep/\SetT w h a es ep t/\∃q,h.Á tp=ĳ q/\q.ă=.ð (ps.Q λi:ĵ=>Value.R i 0).Y 0) where
 sub:=λb F=>by simp at F;simp[F]
 frame:=λ_ _ _ st hk=>%[st.1.mv λo e=>hk it yf o e,st.2.1.mv λo e=>hk a yf o e|let %[q,h1|D]:=st.2.2;%[0,q,hk tp yf _ h1|D]]
 item:=λi s Q E hi st G=>by
  let(x,m,q,h1,D):=st;let B:i<ps.n:=by simp_all
  let M:=hp _<|aI B;calc HF x m h1 D (j:=ps[i]) (u:=0) (by simp[B]) (hv:=es[ps[i]].1) (v:=es[ps[i]].2) (by simp[M]) λh' x' k=>?_;show G _ h' s.Ï %[1,ps[i],es[ps[i]],by simp[B],by simp[M]|rb] %[20,x',m.mv λo e=>k.á a o L e,q,k.á tp q J h1|D] λb o F e=>k.á b o (λy=>F (by simp[y])) e
 done:=λs Q E st G=>by let(x,m,q,h1,D):=st;show Kl N x m h1 D (by simp[O]) λh' k=>G h' s.Ï λb o F e=>k b o (λy=>F (by simp[y])) e
 self:=λi s Q E st G=>DY st.1 G
def Jx (m:SetT w s.H a es ep t)(B:w.ç.í "set-order"=ķ)(h:Q (((pickOrder (w.ç.setOrder a ep) es)[i]?).Q λe=>(e.2,slot)) s):Ł (ł prog w) A (setNext a slot i ep) Q E s:=by let(o,q,D,hd,hf,_,_):=m;calc ab<|gf q hd hf ?_;calc ab<|ab<|oT<|af ?_;rw[Ŀ (by show B)];rw[ŀ yf];calc ab ?_;calc ab<|gf q hd hf ?_;calc ab<|ab<|oT<|af ?_;rw[Ŀ (by show B)];calc ab<|oT<|af ?_;show af h
def FN (m:SetT w s.H a es ep t)(B:w.ç.í "set-order"=Ļ)(hz:es.E<=1)(h:Q (match es[SetTable.Ę t.à slot]?,t.à[SetTable.Ę t.à slot]? with|some (_,x),some j=>ĳ (x,j+1)|_,_=>none) s):Ł (ł prog w) A (setNext a slot i ep) Q E s:=by
 let(o,D,F,hd,hf,q,_):=m;let q:t.led=ķ:=by rcases q with z|z;rw[B]at z;cases z;show z
 calc ab<|gf D hd hf ?_;calc ab<|ab<|oT<|af ?_;rw[ŀ (by show ¬w.ç.í "set-order"=ķ;rw[B];simp)];split
 .rename_i z;let z:(!t.plain&&ľ (es.E > 1))=ķ:=z;lia
 .calc ab ?_;show Ł _ _ (if (!t.led && !es.Ė)=ķ then unsupported "set:maker-not-led" else pure ()) _ _ _;rw[ŀ (by rw[q];simp)];show af<|af h
def Wm (J:A.ò=ĺ)(G:a≠it)(B:w.ç.í "set-order"=ķ):Ÿ prog w A it [it,a] [it] es.E (λi v=>∃e,(pickOrder (w.ç.setOrder a ep) es)[i]?=ĳ e/\v=e.2)
   (λi h=>dO h it (.R (0:ĵ) 0) i a es.E ep/\SetT w h a es ep t) where
 sub:=λb B=>by simp at B;simp[B]
 frame:=λ_ _ _ st hk=>%[st.1.mv λo e=>hk it yf o e|st.2.mv λo e=>hk a yf o e]
 item:=λi s Q E hi st D=>by
  let hsz:(pickOrder (w.ç.setOrder a ep) es).E=es.E:=by have:=(vf (w.ç.setOrder a ep) es).length_eq;simpa using this
  let F:i<(pickOrder (w.ç.setOrder a ep) es).E:=by simp_all
  calc yW (slot:=0) (k:=0) (v:=(pickOrder (w.ç.setOrder a ep) es)[i].2) st.1 st.2 (λA' E' Q' q=>Jx st.2 B (by rw[b8 F];show q)) λh' x' k=>?_;show D _ h' s.Ï %[0,_,by rw[b8 F]|rb] %[x'|st.2.mv λo e=>k.á a o G e] λb o B e=>k.á b o (λy=>B (by simp[y])) e
 done:=λs Q E st D=>by
  let hsz:(pickOrder (w.ç.setOrder a ep) es).E=es.E:=by have:=(vf (w.ç.setOrder a ep) es).length_eq;simpa using this
  refine Aa J st.1 st.2 (λA' E' Q' q=>Jx st.2 B (by rw[nN (mE hsz)];show q)) λh' k=>D h' s.Ï λb o B e=>k b o (λy=>B (by simp[y])) e
 self:=λi s Q E st D=>DY st.1 D
def T5 {p:Ņ ĵ}(h:p.E=1):SetTable.Ę p 0=0:=by unfold SetTable.below;rw[h];simp[SetTable.below.go]
def Wn {p:Ņ ĵ}(h:p.E=1):SetTable.Ę p (p.Í 0 0+1)=1:=by
 let⟨l⟩:=p
 match l,h with| [x],_=>simp[SetTable.below,SetTable.below.go]
def T6 (L:A.ò=ĺ)(J:a≠it)(B:w.ç.í "set-order"=Ļ)(hz:es.E<=1):Ÿ prog w A it [it,a] [it] es.E (λi v=>∃e,es[i]?=ĳ e/\v=e.2) (λi h=>∃slot:Nat,dO h it (.R slot 0) i a es.E ep/\SetT w h a es ep t/\t.à.E=es.E/\slot=(if i=0 then 0 else t.à.Í 0 0+1)) where
 sub:=λb B=>by simp at B;simp[B]
 frame:=λ_ _ _ st hk=>let %[slot,x,m|r]:=st;%[2,slot,x.mv λo e=>hk it yf o e,m.mv λo e=>hk a yf o e|r]
 item:=λi s Q E hi st F=>by
  let(slot,x,m,hp,hs):=st;let G:i=0:=ye;subst G;subst hs;let h1:es.E=1:=ye;let D:t.à.E=1:=ye;refine yW (slot:=0) (k:=t.à.Í 0 0+1) (v:=es[0].2) x m (λA' E' Q' q=>FN m B hz ?_) λh' x' k=>?_
  .rw[T5 D,b8 hi,b8 (by lia:0<t.à.E)];let e:t.à.Í 0 0=t.à[0]:=by simp[Array.getD,D]
   rw[e]at q;show q
  .show F _ h' s.Ï %[0,es[0],by simp[h1]|rb] %[11,_,x',m.mv λo e=>k.á a o J e,hp|rb] λb o B e=>k.á b o (λy=>B (by simp[y])) e
 done:=λs Q E st F=>by
  let(slot,x,m,hp,hs):=st;calc Aa L x m (λA' E' Q' q=>FN m B hz ?_) λh' k=>F h' s.Ï λb o B e=>k b o (λy=>B (by simp[y])) e;rcases(show es.E=0\/es.E=1 by lia) with h0|h1
  .rw[nN ye];show q
  .rw[ŀ ye]at hs;subst hs;rw[Wn ye,nN hz];show q
 self:=λi s Q E st F=>by let(slot,x,_):=st;show DY x F
end
def D_ {l:Ĵ Ķ}(h:ItemsOf P acc n)(F:l.n=n)(D:∀i v,P i v->l[i]?=ĳ v):acc.I=l:=by
 apply ic;intro j;by_cases B:j<n
 .let q:j<acc.E:=by rw[h.1];show B
  let e:acc[j]?=ĳ acc[j]:=by simp[q]
  rw[D j _ (h.2 j _ e),cq,e]
 .rw[c9 (by rw[bo,h.1];show kH B),c9 (by simp_all)]
section
variable {prog:Ň}{w:ŋ}{A:ō}{E:AB}{s:Ľ}{a:Ĺ}{es:Ņ (ļ×Ķ)}{ep i:ĵ}{t:ő}
variable {X:Cx}
def Ea {R:Ź->Ľ->Prop}{rs:œ}{n:ĵ}{P:ĵ->Ķ->Prop}{St:ĵ->Ō->Prop}(W:Ÿ prog w A.ħ I fp [I] n P St)(L:S0∉fp)(res:Ķ)(c₀:ĵ)(hS:s.H.Á S0=ĳ {cls:=.È "list",data:=.ð #[] c₀})(st:St 0 s.H)(hn:n<=Ń)(hT:s.Ā (.C a) "set")(hR:∀h' tk q c',(∀b o,b≠S0->b≠I->s.H.Á b=ĳ o->h'.Á b=ĳ o)->h'.Á S0=ĳ {cls:=.È "list",dict:=ĺ,data:=.ð q c',slots:=#[]}->ItemsOf P q n->R (.ok<|.ret res) {s with heap:=h',toks:=tk}):Ł (ł prog w) A.ħ (do
   let room <- holding [Value.C I] (Builtin.List.listLengthHint<|.C a)
   if room||rs then rule "list.extend.makes-room";Builtin.List.listTouch (.C S0)
   again (.Õ "list.extend.loop" %[[.C S0,.C I,res]|[]]))
   (λfin s'=>match fin with|.done f=>R (.ok f) s'|.again c'=>c'.quiet=ķ/\codeAny (ł prog w) A c' R s') (λe s'=>R (.error e) s') s:=by
 let J:∀(h:Ō) (N tk:ĵ),St 0 h->(∀b o,b≠S0->s.H.Á b=ĳ o->h.Á b=ĳ o)->
   h.Á S0=ĳ {cls:=.È "list",data:=.ð #[] N}->codeAny (ł prog w) A (.Õ "list.extend.loop" %[[.C S0,.C I,res]|[]]) R {s with heap:=h,toks:=tk}:=by
  intro h N tk O hk hS₁;calc codeAny_extend_loopS W.toS hn S0 L res n 0 _ #[] N rb (b5 _) O hS₁ (ItemsOf.Ü _) λs' q c' hm Y G=>?_;rw[Moved.eq_with hm];calc hR s'.H s'.Ï q c' (λb o D hbI e=>hm.H b o (λB=>?_)<|hk b o D e) Y G;rcases a_.mp B with e'|B
  .show D e'
  .show hbI<|av.mp B
 calc ab<|eK<|Zr hT ?_;calc wpAny_ite_split (λ_=>?_) λ_=>af %[plainId_quiet xz _|J _ c₀ _ st (λb o _ e=>e) hS];calc ab<|gL ?_;calc ab ?_;calc ab<|wpAny_updateSeq hS rb ?_;let M:=f8 (Obj.Ĳ (·.Ò Value.ß)) hS rfl;calc wpAny_updateSeq (hz:=by seq_fits) M rb ?_;refine af %[plainId_quiet xz _|J _ _ _ ?_ (λb o D e=>?_) (f8 (Obj.Ĳ (·.pop)) M rfl)]
 .refine W.frame 0 _ _ st λb D o e=>?_
  let F:b≠S0:=λh=>L<|h ▸ D;show(md _ _<|lS F).Z<|(md _ _<|lS F).Z e
 .show(md _ _<|lS D).Z<|(md _ _<|lS D).Z e
def T7 (hh:A.ò=ĺ)(m:SetT w s.H a es ep t)(hz:es.E<=4000)(S0)(M:S0≠a)(res)(c₀)(Y:s.H.Á S0=ĳ {cls:=.È "list",data:=.ð #[] c₀})(hR:∀h' tk d q c',(∀b o,b≠S0->s.H.Á b=ĳ o->h'.Á b=ĳ o)->h'.Á S0=ĳ {cls:=.È "list",dict:=ĺ,data:=.ð q c',slots:=#[]}->q.I.ú (es.I.Q (·.2))->R (.ok<|.ret res) {s with heap:=h',toks:=tk,drawn:=d}):Ł (ł prog w) A.ħ (Builtin.List.listExtendWith (.C S0) (.C a) res)
   (λfin s'=>match fin with|.done f=>R (.ok f) s'|.again c'=>c'.quiet=ķ/\codeAny (ł prog w) A c' R s') (λe s'=>R (.error e) s') s:=by
 let Z:es.E<=Ń:=aw hz yi;let J:=m.lt;let F:=a6 Y;calc ab<|vw (T:="set") m.ty ?_;let h1:Builtin.List.listSameRef (.C S0) (.C a)=Ļ:=by simp[Builtin.List.listSameRef,M]
 let n1:(Value.È "set" == Value.È "list")=Ļ:=by decide
 let n2:(Value.È "set" == Value.È "tuple")=Ļ:=by decide
 simp only[h1,n1,n2,si,a9,if_false];refine ab<|Zq m hz (λc=>?_) λps d pm=>?_
 .let m':SetT w (s.H.Ò {cls:=.È "set_iterator",data:=.ì #[.R 0 0,.R 0 0,.C a,.R es.E 0,.R ep 0]}) a es ep t:=m.mv λo e=>ag _ e
  let hx:dO (s.H.Ò {cls:=.È "set_iterator",data:=.ì #[.R 0 0,.R 0 0,.C a,.R es.E 0,.R ep 0]}) s.d (.R (0:ĵ) 0) 0 a es.E ep:=%[2,_,aT _ rb,rb|rb]
  let G:S0∉[s.d,a]:=by simp only[a_,eR,or_false,not_or];show%[bn F|M]
  rcases c with c|⟨c,c1⟩
  .refine Ea (a:=a) (Wm (t:=t) hh (bn J) c) G res c₀ (ag _ Y) %[hx|m'] Z (SetT.ty (s:={s with heap:=_}) m') λh' tk q c' k D B=>?_
   calc hR h' tk s.drawn q c' (λb o O e=>k b o O (bn<|a6 e)<|ag _ e) D ?_;rw[D_ (l:=(pickOrder (w.ç.setOrder a ep) es).I.Q (·.2)) B (by simpa using ((vf (w.ç.setOrder a ep) es).length_eq)) (λi v hv=>by let(e,N,rfl):=hv;simp[N])];show(vf _ _).Q _
  .refine Ea (a:=a) (T6 (t:=t) hh (bn J) c c1) G res c₀ (ag _ Y) %[11,0,hx,m',?_|rb] Z (SetT.ty (s:={s with heap:=_}) m') λh' tk q c' k D B=>?_
   .let(o,_,_,_,hf,_):=m;simp only[SetTable.fits,df,beq_iff_eq]at hf;show hf.1
   .calc hR h' tk s.drawn q c' (λb o O e=>k b o O (bn<|a6 e)<|ag _ e) D ?_;rw[D_ (l:=es.I.Q (·.2)) B yf (λi v hv=>by let(e,N,rfl):=hv;simp[N])]
 .generalize L:s.H.Ò {cls:=.È "tuple",data:=.ð (ps.Q λi:ĵ=>Value.R i 0).Y}=h1;let k1:∀b o,s.H.Á b=ĳ o->h1.Á b=ĳ o:=λb o e=>by rw[<-L];show ag _ e
  let z1:h1.X.E=s.d+1:=by rw[<-L];show d6 ..
  let g1:h1.Á s.d=ĳ {cls:=.È "tuple",data:=.ð (ps.Q λi:ĵ=>Value.R i 0).Y}:=by rw[<-L];show aT _ rfl
  let m':SetT w (h1.Ò {cls:=.È "set_iterator",data:=.ì #[.C s.d,.R 0 0,.C a,.R es.E 0,.R ep 0]}) a es ep t:=m.mv λo e=>ag _<|k1 _ _ e;let hx:dO (h1.Ò {cls:=.È "set_iterator",data:=.ì #[.C s.d,.R 0 0,.C a,.R es.E 0,.R ep 0]}) (s.d+1) (.C s.d) 0 a es.E ep:=%[2,_,by rw[<-z1];show aT _ rb,rb|rb]
  let hl:ps.n=es.E:=by rw[pm.length_eq,ej]
  let G:S0∉[s.d+1,s.d,a]:=by simp only[a_,eR,or_false,not_or];show%[bn<|hV F,bn F|M]
  calc Ea (a:=a) (s:={s with heap:=h1.Ò {cls:=.È "set_iterator",data:=.ì #[.C s.d,.R 0 0,.C a,.R es.E 0,.R ep 0]},drawn:=d}) (T4 (t:=t) (tp:=s.heap.objs.size) (ps:=ps) hh (bn<|hV J) (bn<|eQ _) (λj hj=>bS.mp<|pm.õ.mp hj) hl) G res c₀ (ag _<|k1 _ _ Y) %[20,hx,m',_,ag _ g1|rb] Z (SetT.ty (s:={s with heap:=_,drawn:=d}) m') λh' tk q c' k D B=>?_;calc hR h' tk d q c' (λb o O e=>k b o O (bn<|hV<|a6 e)<|ag _<|k1 _ _ e) D ?_;rw[D_ (l:=ps.Q λj=>(es.Í j (0,.ß)).2) B (by simp[hl]) (λi v hv=>by let(j,e,hj,N,rfl):=hv;rw[ba,hj];simp[g9,N])]
  calc(pm.Q _).Z<|x8 ?_;apply ic;intro j;rw[ba,ba];by_cases h:j<es.E;.rw[gN h];simp[h,g9]
  .rw[c9 (by simpa using h),c9 (by simpa using h)];rfl
def Df (O:A.ò=ĺ)(m:SetT w s.H a es ep t)(hz:es.E<=4000)(h:∀(h':Ō) (tk:ĵ) (d:Drawn) (G:Ĵ Ķ),(∀b o,s.H.Á b=ĳ o->h'.Á b=ĳ o)->G.ú (es.I.Q (·.2))->R G {s with heap:=h',toks:=tk,drawn:=d}):Ł (ł prog w) A (collect<|.C a) R E s:=by
 calc ab<|wE<|ij entry_proto_collect' ?_;calc ab<|dE ?_;calc af %[plainId_quiet PySem.F.plain_list_iadd _|ij entry_list_iadd' ?_];let M:=T7 (prog:=prog) (A:=A) (s:={s with heap:=s.H.Ò {cls:=.È "list",data:=.ð ([]:Ĵ Ķ).Y} })
  (R:=λ(q:Ź) (s':Ľ)=>∃(h':Heap) (tk:Nat) (d:Drawn) (B:Ņ Ķ) (c':Nat),q=.ok (.ret<|.C s.d)/\s'={s with heap:=h',toks:=tk,drawn:=d}/\
   (∀b o,s.H.Á b=ĳ o->h'.Á b=ĳ o)/\h'.Á s.d=ĳ {cls:=.È "list",dict:=ĺ,data:=.ð B c',slots:=#[]}/\B.I.ú (es.I.Q (·.2)))
  O (m.mv λo e=>ag _ e) hz s.d (ii m.lt) (.C s.d) 0 (aT _ rfl)
  λh' tk d B c' hk F D=>%[32,h',tk,d,B,c',rb,rb,λb o e=>hk b o (bn<|a6 e)<|ag _ e,F|D]
 refine gz M (λL s' x=>?_) λe s' x=>?_
 .cases L with
  | done f=>let(h',tk,d,B,c',e,rfl,hk,F,D):=x;cases e;calc ab<|wpAny_load F ?_;show af<|h h' tk d B.I hk D
  | again c₁=>calc%[x.1|kG x.2 λq Y y=>?_];let(h',tk,d,B,c',rfl,rfl,hk,F,D):=y;calc ab<|wpAny_load F ?_;show af<|h h' tk d B.I hk D
 .let(_,_,_,_,_,e,_):=x;cases e
def aL.aa0 {ao:AC}{C:St}{H:Hp}{s:Ľ}(I:aL X ao C H s)(d:Drawn):aL X ao C H {s with drawn:=d}:=%[I.ok,I.os,I.bare,I.ø,I.loc,I.ñ,I.Ô,I.mO,I.pin,I.ê,I.Ċ,I.gh|I.tk]
def Ml (w:ŋ):Ĵ V->Hp->VK->Prop:=λxs H Q=>∃(p:Addr) (ws:AA) (n:Nat),xs=[.C p]/\H p=ĳ (.ext<|iB w p ws n)/\n<=1000/\(∀us:Ĵ (Ĵ ĵ),us.Ý->(∀l∈us,l∈ws)->us.n<64)/\
 ∀(p':Ĺ) (q:AA),H p'=ĺ->q.Ý->(∀l,l∈q↔l∈ws)->q.Ä (λa b=>ľ (b<a)=Ļ)->Q (.C p') (upd H p'<|.Ç<|Ts q)
theorem Mp:∀(q:Ĵ Ķ),(∀v∈q,∃(l:Ĵ ĵ) (u:Tok),v=.À (S l) u)->ŭ q ((q.Q λv=>qw (0,v)).Q S)
 | [],_=>.Ü
 | v::r,h=>by let(l,u,rfl):=h v aS;show .Ð _ u<|Mp r λv hv=>h v<|aE _ hv
def HJ (hc:X.Ě=ķ):d7 X (.Õ "sorted") (Ml X.w):=by
 intro ao s C H xs us Q I r h;let(p,ws,n,rfl,hd,hn,L,q):=h;let(u,rfl,ru):=vals1 r;cases ru;let((es,ep,t,m,el,hz),_,_):=(show dg X.Ñ X.w H s.H p (.ext<|iB X.w p ws n) from I.ê _ _ hd)
 calc cj<|Fv<|Df (A:=X.A.in1) (I.ok.hd hc) m ye λh' tk d D kk pm=>?_;let hS:∀v∈D,∃(l:Ĵ ĵ) (u:Tok),v=.À (S l) u:=λv hv=>by let(e,G,rfl):=ar.mp (pm.õ.mp hv);let(l,u,rfl):=el.sh e G;show%[5,l,u|rb]
 let Z:(D.Q λv=>qw (0,v)).ú (es.I.Q qw):=by have:=pm.Q λv=>qw (0,v);rw[cp]at this;show this
 let Y:(es.I.Q qw).n<64:=L _ el.nd λl Y=>(el.mem l).mp Y;calc%[2,_,Mp D hS,by rw[pm.length_eq];simpa using Y|λh2 F B e k2 G M Dg so ht=>?_];let I1:aL X ao C H {s with heap:=h',toks:=tk,drawn:=d}:=(I.ġ (t':=tk) kk).aa0 d;let N:B=(B.Q λy=>y.ē.I).Q S:=by rw[cp];calc(me _).Ù.Z<|du λy _=>?_;show(YZ y).Ù
 let O:(B.Q λy=>y.ē.I).ú (es.I.Q qw):=by have:=Dg.Q λy:Ŋ=>y.ē.I;rw[cp]at this;let e:((λy:Ŋ=>y.ē.I) ∘ S)=id:=rfl;rw[e,me]at this;show this.Z Z
 let hv:Vals (Ts<|B.Q λy=>y.ē.I) F:=by have:=pF M;rw[N]at this;simpa [Ts,tN] using this
 let J:(Ts<|B.Q λy=>y.ē.I).n<=Ń:=by rw[aa,O.length_eq];show ax<|aF ye
 refine%[1,.C h'.X.E,_,I1.Ĝ (o:=.Ç _) (t':=tk) k2 (ah _) %[16,J,F,e,hv|G],rb|q _ _ I1.ä (O.nodup_iff.Û el.nd) (λl=>O.õ.Z<|el.mem l)<|zW B so]
end
end L2
namespace L2
open PySem PySem.Spec PyProof.Rows PySem.SeqAt PySem.MeetsSeq PySem.MeetsSeq3 PySem.W
open AutoSeq1 (wpAny_loadPart')
open PySem.StrLaws Builtin Builtin.Str in
theorem HN (s)(c hi limit):∀(k a:ĵ) (st:Ņ ĵ×ĵ),st.snd<=a->st.fst.E+k<=limit->
  (ų (List.range' a k) st<|occBody s (S [c]) hi limit).run.fst.E=st.fst.E+((List.range' a k).ą λi=>ľ (i+1<=hi)&&subAt s (S [c]) i).n
 | 0,a,st,h1,h2=>rfl
 | k+1,a,st,h1,h2=>by
  rw[List.range'_succ,gv];let D:(S [c]).n=1:=rfl;unfold occBody;split
  .rename_i q;let G:((st.fst.Ò a,a+(S [c]).n).snd)<=a+1:=by show a+(S [c]).n<=a+1;rw[D];show ah _
   have:=HN s c hi limit k (a+1) (st.fst.Ò a,a+(S [c]).n) G (by show (st.fst.Ò a).E+k<=limit;rw[Array.size_push];lia);calc this.Z ?_;let B:(ľ (a+1<=hi)&&subAt s (S [c]) a)=ķ:=by let F:=q.1.2;rw[D]at F;rw[q.2];simp;show F
   rw[xE,Ŀ B,bX];show (st.fst.Ò a).E+_=_;rw[Array.size_push];lia
  .rename_i q;have:=HN s c hi limit k (a+1) (st.fst,st.snd) (kr h1) (by show st.fst.E+k<=limit;show ax h2);calc this.Z ?_;let B:¬(ľ (a+1<=hi)&&subAt s (S [c]) a)=ķ:=λz=>q (by
    simp only[df,dP]at z;show%[%[%[ye|h1]|by rw[D];show z.1]|z.2])
   rw[xE,ŀ B]
open Builtin.Str in
def subAt_one (l:Ĵ ĵ)(c i)(hi:i<l.n):subAt (S l) (S [c]) i=ľ (l[i]=c):=by
 unfold subAt;let e:(S l).ē.ë i (i+(S [c]).n)=#[l[i]]:=by
  show l.Y.ë i (i+1)=#[l[i]];apply Array.ext;.simp;lia
  .intro j h1 q;have:j=0:=by simp at q;show q
   subst this;simp
 rw[e];show (#[l[i]] == #[c])=_;by_cases h:l[i]=c;.subst h;simp
 .rw[al h];simpa using h
open Builtin.Str in
def Wo (l)(c):(occurrences (S l) (S [c]) 0 (S l).n<|(S l).n+1).n=l.count c:=by
 let hn:(S l).n=l.n:=by show l.Y.E=l.n;simp
 rw[PySem.StrLaws.occ_eq,bo,hn];rw[HN (S l) c l.n (l.n+1) (l.n+1-0) 0 (#[],0) (ah _) yf];rw[<-List.range_eq_range',show l.n+1-0=l.n+1 from rb,fw,fT];let D:([l.n].ą λi=>ľ (i+1<=l.n)&&subAt (S l) (S [c]) i)=[]:=by simp;lia
 rw[D];let q:∀k,k<=l.n->((List.æ k).ą λi=>ľ (i+1<=l.n)&&subAt (S l) (S [c]) i).n=(l.Å k).count c:=by
  intro k
  induction k with
  | zero=>intro _;simp
  | succ k ih=>
   intro hk;rw[fw,fT,ay,ih (ax hk),bu,ae hk,List.count_append];let B:(ľ (k+1<=l.n)&&subAt (S l) (S [c]) k)=ľ (l[k]=c):=by rw[subAt_one l c k ye];simp;lia
   rw[xE,B];by_cases h:l[k]=c;.simp[h]
   .simp[h]
 have:=q l.n<|ah _;simpa using this
section
variable {X:Cx}
def abM:V->Ĵ V->Hp->VK->Prop:=λx vs H Q=>∃(l:Ĵ ĵ) (c:Nat),x=.À (S l)/\vs=[.À (S [c])]/\Q (.R (l.count c:ĵ)) H
def Wq:wG X "str.count" abM:=by intro ao s T H x vs v us Q I D G h;let(l,c,rfl,rfl,q):=h;let(t,rfl):=D;let(u,rfl,B):=G.one;let(t',rfl):=B;calc call_gives F.slot_str_count (typeIs_str s _ t) F.entry_str_count (F.args_str_count_2 _ _) (gives_str_count (S l) (S [c]) t t') ?_;rw[<-Wo]at q;show%[1,.R (Builtin.Str.occurrences (S l) (S [c]) 0 (S l).n<|(S l).n+1).n,H,I.tok _,%[s.Ï|rb]|q]
end
def Dh {X:Cx}(w)(q:X.Ě=ķ)(h:Ž (X.w=w) ž):d7 X (.È "set") (Wk w X.K):=by subst h;show TY q
def vg {X:Cx}(w)(q:X.Ě=ķ)(h:Ž (X.w=w) ž):d7 X (.Õ "sorted") (Ml w):=by subst h;show HJ q
end L2
namespace L2
open PySem PySem.Spec PyProof.Rows PySem.W
section
variable {X:Cx}
def abN:R2:=λx y H Q=>∃c l,x=.À (S [c])/\y=.À (S l)/\Q (.bl<|!ľ (c∈l)) H
def Wr:fB X (compareOp .NotIn) abN:=by
 intro ao s T H x y v u Q I B D h;let(c,l,rfl,rfl,q):=h;show Lr ao s T H _ _ v u Q I B D %[1,S [c],S l,rb,rb|by
  rw[show (S [c])=(⟨#[c]⟩:Ŋ) from rb,(xl (S l) c)];show q]
end
end L2
namespace L2
open PySem PySem.Spec PyProof.Rows
def jP (prog:Ň)(w:ŋ)(A:ō)(s:Ľ)(I:PyProof.â.KeyKind)(kn:Ť):Prop:=∀(E:AB) (x y:Ķ) (a b:I.α) (Q:œ->Ľ->Prop),I.Ģ x=ĳ a->I.Ģ y=ĳ b->Q (I.blt a b) s->Ł (ł prog w) A (keyLt' kn x y) Q E s
section
variable {prog:Ň}{w:ŋ}{A:ō}{E:AB}{s:Ľ}{K:PyProof.â.KeyKind}{kn:Ť}
variable {W:Type}{le:W->W->Prop}
def bF {W:Type}{c:Prop}{d:Ŭ c}{a b:ŧ ņ Sem W}{Q:W->ņ->Prop}{st:ņ}(q:c)(h:wpS (ł prog w) A E s a Q st):wpS (ł prog w) A E s (@ite _ c d a b) Q st:=by rw[Ŀ q];show h
def bA {W:Type}{c:Prop}{d:Ŭ c}{a b:ŧ ņ Sem W}{Q:W->ņ->Prop}{st:ņ}(q:¬c)(h:wpS (ł prog w) A E s b Q st):wpS (ł prog w) A E s (@ite _ c d a b) Q st:=by rw[ŀ q];show h
def Ac {st:ņ}{x y:ň}{a b:K.α}{Q:ĸ œ->ņ->Prop}(O:jP prog w A s K kn)(hk:kindOf st=kn)(ha:K.Ģ x.1=ĳ a)(q:K.Ģ y.1=ĳ b)(h:Q (ĳ<|K.blt a b) st):wpS (ł prog w) A E s (lt' x y) Q st:=by rw[lt'_eq];calc be<|tm ?_;rw[hk];calc be<|wpS_lift<|ml<|O _ x.1 y.1 a b _ ha q %[rb|?_];show bz h
def cX {st:ņ}{arr:Ņ ň}{i:ĵ}(hi:i<arr.E){Q:ň->ņ->Prop}(h:Q arr[i] st):wpS (ł prog w) A E s (elem' arr i) Q st:=by rw[elem'_eq,b8 hi];show bz h
def jW (K:PyProof.â.KeyKind)(left:œ)(q:K.α)(arr:Ņ ň)(i:ĵ):œ:=if left=ķ then K.blt (KK K arr i) q else !K.blt q (KK K arr i)
def uo (q:ŕ K arr)(hi:i<arr.E):K.Ģ arr[i].1=ĳ (KK K arr i):=by let(a,ha):=q arr[i] yf;unfold KK;rw[b8 hi];simp[ha]
def wJ {left:œ}{B:ň}{F:K.α}{arr:Ņ ň}{i:ĵ}{st:ņ}{Q:ĸ œ->ņ->Prop}(O:jP prog w A s K kn)(hk:kindOf st=kn)(q:K.Ģ B.1=ĳ F)(D:ŕ K arr)(hi:i<arr.E)(h:Q (ĳ<|jW K left F arr i) st):wpS (ł prog w) A E s (do
   let p <- elem' arr i
   if left=ķ then lt' p B
   else do
    let r <- lt' B p
    pure (r.Q λb=>!b)) Q st:=by
 calc be<|cX hi ?_;cases left with| true=>show Ac O hk (uo D hi) q h| false=>show be<|Ac O hk q (uo D hi)<|bz h
def mV {left:œ}{key:ň}{Z:K.α}{arr:Ņ ň}{lo n B:ĵ}{st:ņ}{Q:ĸ ĵ->ņ->Prop}(hO:jP prog w A s K kn)(hk:kindOf st=kn)(L:K.Ģ key.1=ĳ Z)(O:ŕ K arr)(hn:B<n)(hsz:lo+n<=arr.E)(mono:∀i j,i<=j->j<n->jW K left Z arr (lo+j)=ķ->jW K left Z arr (lo+i)=ķ)(h:∀k,k<=n->(∀i,i<k->jW K left Z arr (lo+i)=ķ)->(∀i,k<=i->i<n->jW K left Z arr (lo+i)=Ļ)->Q (ĳ k) st):wpS (ł prog w) A E s ((sortPriv% PySem.Builtin.gallop) left key arr lo n B) Q st:=by
 show wpS _ _ _ _ (_ >>= _) _ _;dsimp only;generalize hbp:(λi=>jW K left Z arr<|lo+i)=bp;let Y:∀i,jW K left Z arr (lo+i)=bp i:=λi=>by rw[<-hbp]
 let aa1:∀i j,i<=j->j<n->bp j=Ļ\/bp i=ķ:=λi j h1 G=>by
  cases e:bp j with| false=>show .Â rfl| true=>show .Ó (by rw[<-Y];show mono i j h1 G (by rw[Y];show e))
 let h':∀k,k<=n->(∀i,i<k->bp i=ķ)->(∀i,k<=i->i<n->bp i=Ļ)->Q (ĳ k) st:=λk h1 G D=>h k h1 (λi hi=>by rw[Y];show G i hi) λi hi hj=>by rw[Y];show D i hi hj
 let up:∀i j,i<=j->j<n->bp j=ķ->bp i=ķ:=λi j h1 G D=>by
  rcases aa1 i j h1 G with z|z;.rw[z]at D;cases D
  .show z
 let dn:∀i j,i<=j->j<n->bp i=Ļ->bp j=Ļ:=λi j h1 G D=>by
  rcases aa1 i j h1 G with z|z;.show z
  .rw[z]at D;cases D
 calc be<|wJ hO hk L O (i:=lo+B) ye ?_;rw[Y];dsimp only;let fin:∀l0 h0,l0<=h0->h0<=n->(∀i,i<l0->bp i=ķ)->(∀i,h0<=i->i<n->bp i=Ļ)->∀(f:ĵ->(ĸ (ĸ ĵ)×ĵ×ĵ)->ŧ ņ Sem (ű<|ĸ (ĸ ĵ)×ĵ×ĵ)) (F:(ĸ (ĸ ĵ)×ĵ×ĵ)->ŧ ņ Sem (ĸ ĵ)),
   (∀x l u (Q':ű (ĸ (ĸ ĵ)×ĵ×ĵ)->ņ->Prop),u<=n->(u<=l->Q' (.done (ĺ,l,u)) st)->(l<u->Q' (.yield<|if bp (l+(u-l)/2)=ķ then (ĺ,l+(u-l)/2+1,u) else (ĺ,l,l+(u-l)/2)) st)->wpS (ł prog w) A E s (f x (ĺ,l,u)) Q' st)->
   (∀l u,Q (ĳ u) st->wpS (ł prog w) A E s (F (ĺ,l,u)) Q st)->
   wpS (ł prog w) A E s (ų [0:n] ((ĺ:ĸ (ĸ ĵ)),l0,h0) f >>= F) Q st:=by
  intro l0 h0 hle hh t1 t2 f F hf hF;refine be (lv (gy (I:=λ(x:ĵ) (c:ĸ (ĸ ĵ)×ĵ×ĵ) (st':ņ)=>∃l u,c=(ĺ,l,u)/\st'=st/\l<=u/\u<=n/\(∀i,i<l->bp i=ķ)/\(∀i,u<=i->i<n->bp i=Ļ)/\u-l<=n-x)
   (Q:=λ(c:ĸ (ĸ ĵ)×ĵ×ĵ) (st':ņ)=>∃l u,c=(ĺ,l,u)/\st'=st/\u<=l/\u<=n/\(∀i,i<l->bp i=ķ)/\(∀i,u<=i->i<n->bp i=Ļ)) ?_ ?_ %[28,l0,h0,rb,rb,hle,hh,t1,t2|jI ye]) ?_)
  .intro x c st' _ hx z;let(l,u,rfl,rfl,G,D,M,J,h6):=z;calc hf x l u _ D (λz=>%[27,l,u,rb,rb,z,D,M|J]) λz=>?_;cases e:bp (l+(u-l)/2) with| true=>rw[Ŀ rfl];show%[28,_,_,rb,rb,by grind,D,λi hi=>up i _ (eD hi) (by grind) e,J|fe<|b6 ye ye]| false=>rw[ŀ yf];show%[28,_,_,rb,rb,ye,by grind,M,λi hi hj=>dn _ i hi hj e|fe<|b6 ye ye]
  .intro c st' z;let(l,u,N,h1,G,D,M,J,h6):=z;show%[27,l,u,N,h1,ye,D,M|J]
  .intro c st' z;let(l,u,rfl,rfl,G,D,M,J):=z;show hF l u<|h' _ D (λi hi=>M i<|bq hi G) J
 cases e0:bp B with
 | true=>
  refine be (lv (gy (I:=λ(x:ĵ) (c:ĸ (ĸ ĵ)×ĵ×ĵ) (st':ņ)=>st'=st/\c.1=ĺ/\c.2.1<n-B/\c.2.1<c.2.2/\x+1<=c.2.2/\bp (B+c.2.1)=ķ)
   (Q:=λ(c:ĸ (ĸ ĵ)×ĵ×ĵ) (st':ņ)=>st'=st/\c.1=ĺ/\c.2.1<n-B/\c.2.1<c.2.2/\bp (B+c.2.1)=ķ/\(c.2.2>=n-B\/bp (B+c.2.2)=Ļ)) ?_ ?_ %[rb,rb,by show Nat.sub_pos_of_lt hn,by dsimp only;lia,by dsimp only;lia|e0]) ?_)
  .intro x c st' _ hx z;let(rfl,h1,G,D,M,J):=z;by_cases z:c.2.2>=n-B
   .rw[Ŀ z];show bz %[rb,rb,G,D,J|.Â z]
   .rw[ŀ z];calc be<|wJ hO hk L O (i:=lo+(B+c.2.2)) ye ?_;rw[Y];dsimp only;cases e:bp (B+c.2.2) with| true=>rw[ŀ yf];show bz %[rb,rb,by show uk z,by dsimp only;lia,by dsimp only;lia|e]| false=>rw[Ŀ yf];show bz %[rb,rb,G,D,J|.Ó e]
  .intro c st' z;let(N,h1,G,D,M,J):=z;show%[N,h1,G,D,J|.Â<|jI ye]
  .intro c st' z;let(rfl,h1,G,D,M,J):=z;rw[h1];refine fin (B+c.2.1+1) (B+min c.2.2 (n-B)) (Nat.add_le_add_left (Nat.le_min.2 %[D|G]) _) (aw (Nat.add_le_add_left (Nat.min_le_right _ _) _)<|Nat.le_of_eq<|ga<|ax hn) (λi hi=>up i (B+c.2.1) (eD hi) ye M) (λi hi hj=>?_) _ _ ?_ ?_
   .rcases J with z|z;.rw[Nat.min_eq_right z,ga (ax hn)]at hi;show ń hj (Nat.not_lt.2 hi)
    .show dn (B+c.2.2) i ye hj z
   .intro x l u Q' hun q1 q2;dsimp only;by_cases z:l>=u
    .rw[Ŀ z];show bz<|q1 z
    .rw[ŀ z];calc be<|wJ hO hk L O (i:=lo+(l+(u-l)/2)) (by grind) ?_;rw[Y];dsimp only;let q2:=q2<|uk z;cases e:bp (l+(u-l)/2) with| true=>rw[e,Ŀ rfl]at q2;show bz q2| false=>rw[e,ŀ yf]at q2;show bz q2
   .show λl u q=>bz q
 | false=>
  refine be (lv (gy (I:=λ(x:ĵ) (c:ĸ (ĸ ĵ)×ĵ×ĵ) (st':ņ)=>st'=st/\c.1=ĺ/\c.2.1<=B/\c.2.1<c.2.2/\x+1<=c.2.2/\bp (B-c.2.1)=Ļ)
   (Q:=λ(c:ĸ (ĸ ĵ)×ĵ×ĵ) (st':ņ)=>st'=st/\c.1=ĺ/\c.2.1<=B/\c.2.1<c.2.2/\bp (B-c.2.1)=Ļ/\(c.2.2>=B+1\/bp (B-c.2.2)=ķ)) ?_ ?_ %[rb,rb,by lia,by dsimp only;lia,by dsimp only;lia|e0]) ?_)
  .intro x c st' _ hx z;let(rfl,h1,G,D,M,J):=z;by_cases z:c.2.2>=B+1
   .rw[Ŀ z];show bz %[rb,rb,G,D,J|.Â z]
   .rw[ŀ z];calc be<|wJ hO hk L O (i:=lo+(B-c.2.2)) (by grind) ?_;rw[Y];dsimp only;cases e:bp (B-c.2.2) with| true=>rw[Ŀ rfl];show bz %[rb,rb,G,D,J|.Ó e]| false=>rw[ŀ yf];show bz %[rb,rb,by show kH z,by dsimp only;lia,by dsimp only;lia|e]
  .intro c st' z;let(N,h1,G,D,M,J):=z;show%[N,h1,G,D,J|.Â ye]
  .intro c st' z;let(rfl,h1,G,D,M,J):=z;rw[h1];refine fin (B+1-min c.2.2 (B+1)) (B-c.2.1) (aw (Nat.sub_le_sub_left (Nat.le_min.2 %[D|Nat.succ_le_succ G]) _)<|Nat.le_of_eq<|Nat.add_sub_add_right _ _ _) (aw (nS _ _)<|ax hn) (λi hi=>?_) (λi hi hj=>dn (B-c.2.1) i hi hj M) _ _ ?_ ?_
   .rcases J with z|z;.rw[Nat.min_eq_right z,Nat.sub_self]at hi;cases hi
    .show up i (B-c.2.2) (fg ye) (fR (nS _ _) hn) z
   .intro x l u Q' hun q1 q2;dsimp only;by_cases z:l>=u
    .rw[Ŀ z];show bz<|q1 z
    .rw[ŀ z];calc be<|wJ hO hk L O (i:=lo+(l+(u-l)/2)) ye ?_;rw[Y];dsimp only;let q2:=q2 ye;cases e:bp (l+(u-l)/2) with| true=>rw[e,Ŀ rfl]at q2;show bz q2| false=>rw[e,ŀ yf]at q2;show bz q2
   .show λl u q=>bz q
structure Mg (le:W->W->Prop)(a b out:Ĵ W)(i j:ĵ):Prop where
 ia:i<=a.n
 jb:j<=b.n
 perm:out.ú (a.Å i++b.Å j)
 up:out.Ä le
 Mq:∀x∈out,∀y∈a.Î i,le x y
 Mr:∀x∈out,∀y∈b.Î j,le x y
def xY (le:W->W->Prop)(a b r:Ĵ W):Prop:=r.ú (a++b)/\r.Ä le
def Q8 {out:Ĵ W}(h:out.Ä le)(l:∀y∈out,le y x):(out++[x]).Ä le:=by rw[ik];calc%[h,List.pairwise_singleton _ _|λy q z hz=>?_];rw[av.mp hz];show l y q
def jX {a:Ĵ W}(h:i<a.n):a.Î i=a[i]::a.Î (i+1):=(iq h)
def Q9 {a:Ĵ W}(h:i<a.n):a.Å (i+1)=a.Å i++[a[i]]:=by rw[bu,ae h];rfl
def Q_ {a:Ĵ W}(h:a.Ä le)(hi:i<a.n):∀y∈a.Î (i+1),le a[i] y:=λy B=>by let q:(a.Î i).Ä le:=h.sublist<|lx i a;rw[jX hi]at q;show(gp.mp q).1 y B
def Mg.vh (m:Mg le a b out i j)(ha:a.Ä le)(hi:i<a.n)(h:∀y∈b.Î j,le a[i] y):Mg le a b (out++[a[i]]) (i+1) j:=by
 refine%[hi,m.jb,?_,Q8 m.up λy q=>m.Mq y q _ (by rw[jX hi];show aS),λx hx y q=>?_|λx hx y q=>?_]
 .rw[Q9 hi];calc(m.perm.append_right _).Z ?_;rw[bt,bt];show mB _ uS
 .rcases a7.mp hx with z|z;.show m.Mq x z y (by rw[jX hi];show aE _ q)
  .rw[av.mp z];show Q_ ha hi y q
 .rcases a7.mp hx with z|z;.show m.Mr x z y q
  .rw[av.mp z];show h y q
def Mg.xZ (m:Mg le a b out i j)(D:b.Ä le)(B:j<b.n)(h:∀y∈a.Î i,le b[j] y):Mg le a b (out++[b[j]]) i (j+1):=by
 refine%[m.ia,B,?_,Q8 m.up λy q=>m.Mr y q _ (by rw[jX B];show aS),λx hx y q=>?_|λx hx y q=>?_]
 .rw[Q9 B,<-bt];show m.perm.append_right _
 .rcases a7.mp hx with z|z;.show m.Mq x z y q
  .rw[av.mp z];show h y q
 .rcases a7.mp hx with z|z;.show m.Mr x z y (by rw[jX B];show aE _ q)
  .rw[av.mp z];show Q_ D B y q
theorem Mg.Ad {a b:Ĵ W}(ha:a.Ä le):∀(k:ĵ) {out:Ĵ W} {i:ĵ},Mg le a b out i j->i+k<=a.n->(∀t (B:t<a.n),i<=t->t<i+k->∀y∈b.Î j,le a[t] y)->Mg le a b (out++(a.Î i).Å k) (i+k) j
 | 0,out,i,m,_,_=>by simpa using m
 | k+1,out,i,m,hk,h=>by let hi:i<a.n:=ye;let q:=Mg.Ad ha k (m.vh ha hi<|h i hi (ah _) ye) ye λt B h1 D=>h t B (ax h1) ye;rw[jX hi,wo];rw[bt,show i+1+k=i+(k+1) by lia]at q;show q
theorem Mg.Ae {a b:Ĵ W}(B:b.Ä le):∀(k:ĵ) {out:Ĵ W} {j:ĵ},Mg le a b out i j->j+k<=b.n->(∀t (F:t<b.n),j<=t->t<j+k->∀y∈a.Î i,le b[t] y)->Mg le a b (out++(b.Î j).Å k) i (j+k)
 | 0,out,j,m,_,_=>by simpa using m
 | k+1,out,j,m,hk,h=>by let q:j<b.n:=ye;let D:=Mg.Ae B k (m.xZ B q<|h j q (ah _) ye) ye λt F h1 G=>h t F ye ye;rw[jX q,wo];rw[bt,show j+1+k=j+(k+1) by lia]at D;show D
def Mg.done (m:Mg le a b out i j)(ha:a.Ä le)(q:b.Ä le)(h:i=a.n\/j=b.n):xY le a b (out++a.Î i++b.Î j):=by
 refine%[?_|?_]
 .rw[bt];calc (m.perm.append_right _).Z ?_;let e:a++b=(a.Å i++a.Î i)++(b.Å j++b.Î j):=by rw[dm,dm]
  rw[e,bt,bt];calc mB _ ?_;rw[<-bt,<-bt];show List.ú.append_right _ uS
 .rw[bt,ik];refine%[m.up,?_|λx hx y B=>?_]
  .rcases h with z|z;.rw[z,xF,List.nil_append];show q.sublist<|lx _ _
   .rw[z,xF,dS];show ha.sublist<|lx _ _
  .rcases a7.mp B with z|z;.show m.Mq x hx y z
   .show m.Mr x hx y z
def Mg.aa2 (m:Mg le a b out i j)(ha:a.Ä le)(q:b.Ä le)(h:∀x∈b.Î j,∀y∈a.Î i,le x y):xY le a b (out++b.Î j++a.Î i):=by
 refine%[?_|?_]
 .rw[bt];calc (m.perm.append_right _).Z ?_;let e:a++b=(a.Å i++a.Î i)++(b.Å j++b.Î j):=by rw[dm,dm]
  rw[e,bt,bt];calc mB _ ?_;rw[<-bt];show uS
 .rw[bt,ik];refine%[m.up,?_|λx hx y B=>?_]
  .rw[ik];show%[q.sublist<|lx _ _,ha.sublist<|lx _ _|h]
  .rcases a7.mp B with z|z;.show m.Mr x hx y z
   .show m.Mq x hx y z
def Mg.zero:Mg le a b [] 0 0:=%[b5 _,b5 _,yf,.Ü,λx h=>by simp at h|λx h=>by simp at h]
def kf (K:PyProof.â.KeyKind)(p:ň):K.α:=(K.Ģ p.1).Í K.dflt
def kL (K:PyProof.â.KeyKind)(p q:ň):Prop:=K.ģ (kf K p) (kf K q)
def yc {arr:Ņ ň}(h:i<arr.E):KK K arr i=kf K arr[i]:=by unfold KK kf;rw[b8 h]
def nH (q:ŕ K arr)(h:i<arr.E):K.Ģ arr[i].1=ĳ (kf K arr[i]):=by rw[uo q h,yc h]
structure j_ (st st':ņ):Prop where
 kind:kindOf st'=kindOf st
 arr:arrOf st'=arrOf st
 pend:pendingOf st'=pendingOf st
 fail:failedOf st'=failedOf st
def j_.refl (st):j_ st st:=%[rb,rb,rb|rb]
def nR {a:Ņ ň}(h:a.I.Ä (kL K))(q:i<=j)(B:j<a.E):K.ģ (kf K a[i]) (kf K a[j]):=by
 rcases Nat.eq_or_lt_of_le q with z|z;.subst z;show kD _
 .have:=(gm.mp h) i j (by simpa using (by show mM z B:i<a.E)) (by simpa using B) z;show(by simpa using this:kL K a[i] a[j])
def wK {a:Ņ ň}(h:y∈a.I.Î i):∃t,∃(q:t<a.E),i<=t/\a[t]=y:=by
 let(t,q,e):=cE.mp h;let B:t<a.E-i:=by simpa using q
 show%[i+t,by grind,ye|by rw[<-e];simp]
def nT {g:ĵ}{st0 st:ņ}{Q:ť->ņ->Prop}(q:j_ st0 st)(h:∀st',j_ st0 st'->Q () st'):wpS (ł prog w) A E s ((sortPriv% PySem.Builtin.setMinGallop) g) Q st:=by show vS<|h _ %[q.þ,q.arr,q.pend|q.fail]
def wL {H W:Type}{J:H->ŧ ņ Sem W}{C:H->Prop}{m:ŧ ņ Sem W}{R:W->ņ->Prop}{st:ņ}(h1:∀o,C o->wpS (ł prog w) A E s (J o) R st)(q:(∀o,C o->wpS (ł prog w) A E s (J o) R st)->wpS (ł prog w) A E s m R st):wpS (ł prog w) A E s m R st:=q h1
def Cd {arr:Ņ ň}(hx:x<arr.E):jW K Ļ kk arr x=ķ↔K.ģ (kf K arr[x]) kk:=by unfold jW;rw[yc hx];unfold KeyOrd.kle;simp
def Ms {arr:Ņ ň}(hx:x<arr.E):jW K Ļ kk arr x=Ļ↔K.klt kk (kf K arr[x]):=by unfold jW;rw[yc hx];unfold KeyOrd.klt;simp
def Ce {arr:Ņ ň}(hx:x<arr.E):jW K ķ kk arr x=ķ↔K.klt (kf K arr[x]) kk:=by unfold jW;rw[yc hx];rfl
def Mt {arr:Ņ ň}(hx:x<arr.E):jW K ķ kk arr x=Ļ↔K.ģ kk (kf K arr[x]):=by unfold jW;rw[yc hx];rfl
def Ws {arr:Ņ ň}(B:arr.I.Ä (kL K)){lo n:ĵ}(hn:lo+n<=arr.E):∀i j,i<=j->j<n->jW K Ļ kk arr (lo+j)=ķ->jW K Ļ kk arr (lo+i)=ķ:=λi j q D h=>by rw[Cd ye]at h ⊢;show dA (nR B (pV q _) ye) h
def Wt {arr:Ņ ň}(B:arr.I.Ä (kL K)){lo n:ĵ}(hn:lo+n<=arr.E):∀i j,i<=j->j<n->jW K ķ kk arr (lo+j)=ķ->jW K ķ kk arr (lo+i)=ķ:=λi j q D h=>by rw[Ce ye]at h ⊢;show KeyOrd.klt_of_kle_of_klt (nR B ye ye) h
def Pq {a b:Ņ ň}{st:ņ}{Q:Ņ ň->ņ->Prop}(hO:jP prog w A s K kn)(hk:kindOf st=kn)(hka:ŕ K a)(hkb:ŕ K b)(ha:a.I.Ä (kL K))(hb:b.I.Ä (kL K))(a0:0<a.E)(b0:0<b.E)(hlo:K.ģ (kf K b[0]) (kf K a[0]))(hhi:∀j (F:j<b.E),K.klt (kf K b[j]) (kf K a[a.E-1]))(h:∀r st',xY (kL K) a.I b.I r.I->j_ st st'->Q r st'):wpS (ł prog w) A E s ((sortPriv% PySem.Builtin.mergeLo) a b) Q st:=by
 let lA:∀{i},(a.ë i).I=a.I.Î i:=by intro i;simp;show cw yf
 let lB:∀{i},(b.ë i).I=b.I.Î i:=by intro i;simp;show cw yf
 let gA:∀i (hi:i<a.E),a.I[i]'(by simpa using hi)=a[i]:=λi hi=>by simp
 let gB:∀i (hi:i<b.E),b.I[i]'(by simpa using hi)=b[i]:=λi hi=>by simp
 let K1:∀{i j},i+1=a.E->∀x∈b.I.Î j,∀y∈a.I.Î i,kL K x y:=λ{i j} hi x hx y hy=>by
  let(t,D,_,rfl):=wK hx;let(u,B,h1,rfl):=wK hy;obtain rfl:u=a.E-1:=by first|lia|((try dsimp only);lia)
  show eI<|hhi t D
 let mpA:∀{out:Ņ ň} {i j:ĵ},Mg (kL K) a.I b.I out.I i j->(hi:i<a.E)->(∀u (B:u<b.E),j<=u->K.ģ (kf K a[i]) (kf K b[u]))->Mg (kL K) a.I b.I (out.Ò a[i]).I (i+1) j:=λ{out i j} m hi q=>by
  have:=m.vh ha (by simpa using hi) λy hy=>by let(u,B,h1,rfl):=wK hy;show q u B h1
  simpa using this
 let mpB:∀{out:Ņ ň} {i j:ĵ},Mg (kL K) a.I b.I out.I i j->(F:j<b.E)->(∀u (B:u<a.E),i<=u->K.ģ (kf K b[j]) (kf K a[u]))->Mg (kL K) a.I b.I (out.Ò b[j]).I i (j+1):=λ{out i j} m F q=>by
  have:=m.xZ hb (by simpa using F) λy hy=>by let(u,B,h1,rfl):=wK hy;show q u B h1
  simpa using this
 let mbA:∀{out:Ņ ň} {i j k:ĵ},Mg (kL K) a.I b.I out.I i j->i+k<=a.E->(∀t (D:t<a.E),i<=t->t<i+k->∀u (B:u<b.E),j<=u->K.ģ (kf K a[t]) (kf K b[u]))->Mg (kL K) a.I b.I (out++a.ë i (i+k)).I (i+k) j:=λ{out i j k} m hk q=>by
  have:=Mg.Ad ha k m (by simpa using hk) λt D h1 h2 y hy=>by
   let(u,B,h3,rfl):=wK hy;let O:t<a.E:=by simpa using D
   show q t O h1 h2 u B h3
  rw[gT];let e:(a.ë i<|i+k).I=(a.I.Î i).Å k:=yf;rw[e];show this
 let mbB:∀{out:Ņ ň} {i j k:ĵ},Mg (kL K) a.I b.I out.I i j->j+k<=b.E->(∀t (D:t<b.E),j<=t->t<j+k->∀u (B:u<a.E),i<=u->K.ģ (kf K b[t]) (kf K a[u]))->Mg (kL K) a.I b.I (out++b.ë j (j+k)).I i (j+k):=λ{out i j k} m hk q=>by
  have:=Mg.Ae hb k m (by simpa using hk) λt D h1 h2 y hy=>by
   let(u,B,h3,rfl):=wK hy;let O:t<b.E:=by simpa using D
   show q t O h1 h2 u B h3
  rw[gT];let e:(b.ë j<|j+k).I=(b.I.Î j).Å k:=yf;rw[e];show this
 let yd:∀{out:Ņ ň} {i j:ĵ} {st':ņ},j_ st st'->Mg (kL K) a.I b.I out.I i j->(i=a.E\/j=b.E)->Q (out++a.ë i++b.ë j) st':=λ{out i j st'} e m z=>by calc h _ _ ?_ e;rw[gT,gT,lA,lB];show m.done ha hb (by show z)
 let G:∀{out:Ņ ň} {i j:ĵ} {st':ņ},j_ st st'->Mg (kL K) a.I b.I out.I i j->i+1=a.E->Q (out++b.ë j++a.ë i) st':=λ{out i j st'} e m z=>by calc h _ _ ?_ e;rw[gT,gT,lA,lB];show m.aa2 ha hb<|K1 z
 refine be<|wpS_lift<|gL %[rb|?_]
 calc be<|cX b0 ?_;let m0:Mg (kL K) a.I b.I (#[b[0]]:Ņ ň).I 0 1:=by have:=mpB (out:=#[]) (i:=0) (j:=0) Mg.zero b0 λu B _=>dA hlo<|nR ha (b5 _) B;simpa using this
 by_cases z1:1=b.E
 .calc bF (by simpa using z1) ?_;show bz<|yd (j_.Ğ _) m0<|.Ó z1
 calc bA (by simpa using z1) ?_;by_cases z2:0+1=a.E
 .calc bF (by simpa using z2) ?_;show bz<|G (j_.Ğ _) m0 z2
 calc bA (by simpa using z2) ?_;refine be<|tm ?_
 refine be (lv (gy (I:=λ(x:ĵ) (c:ĸ (Ņ ň)×Ņ ň×ĵ×ĵ×ĵ) (st':ņ)=>∃out i j g,c=(ĺ,out,i,j,g)/\j_ st st'/\Mg (kL K) a.I b.I out.I i j/\i+1<a.E/\j<b.E/\x+1<=i+j)
  (Q:=λ(c:ĸ (Ņ ň)×Ņ ň×ĵ×ĵ×ĵ) (st':ņ)=>∃r q,c=(ĳ r,q)/\Q r st') ?_ ?_ %[18,_,_,_,_,rb,j_.Ğ _,m0,yo,yo|yo]) ?_)
 .intro x c st1 _ hx z;let(out,i,j,g,rfl,e1,m1,hi,F,hc):=z
  (try conv=>arg 5;dsimp -zeta only)
  refine be (lv (gy (I:=λ(y:ĵ) (c:ĸ (Ņ ň)×Ņ ň×ĵ×ĵ×ĵ×ĵ) (st':ņ)=>∃out i' j' p q,c=(ĺ,out,i',j',p,q)/\j_ st st'/\Mg (kL K) a.I b.I out.I i' j'/\i'+1<a.E/\j'<b.E/\i+j+y<=i'+j')
   (Q:=λ(c:ĸ (Ņ ň)×Ņ ň×ĵ×ĵ×ĵ×ĵ) (st':ņ)=>(∃r q,c=(ĳ r,q)/\Q r st')\/∃out i' j' p q,c=(ĺ,out,i',j',p,q)/\j_ st st'/\Mg (kL K) a.I b.I out.I i' j'/\i'+1<a.E/\j'<b.E/\i+j+1<=i'+j') ?_ ?_ %[13,_,_,_,_,_,rb,e1,m1,hi,F|yo]) ?_)
  .intro y c st2 _ hy z;let(out,i,j,p,q,rfl,e2,m2,hi,F,hc):=z
   (try conv=>arg 5;dsimp -zeta only)
   calc be<|cX F<|be<|cX (show i<a.E from ax hi) ?_;refine be<|Ac hO (by rw[e2.kind];show hk) (nH hkb F) (nH hka yo) ?_
   (try conv=>arg 5;dsimp -zeta only)
   cases e:K.blt (kf K b[j]) (kf K a[i]) with
   | true=>
    calc bF rb ?_;refine be<|cX F ?_
    (try conv=>arg 5;dsimp -zeta only)
    let M:=mpB m2 F λu B h1=>dA (eI e)<|nR ha h1 B;by_cases z:j+1=b.E
    .calc bF (by simpa using z) ?_;show bz<|.Â %[3,_,_,rb|yd e2 M<|.Ó z]
    .calc bA (by simpa using z) ?_;by_cases z':q+1>=g
     .calc bF z' ?_;show bz<|.Ó %[13,_,_,_,_,_,rb,e2,M,hi,yo|yo]
     .calc bA z' ?_;show bz %[13,_,_,_,_,_,rb,e2,M,hi,yo|yo]
   | false=>
    calc bA yf ?_;refine be<|cX (show i<a.E by first|lia|((try dsimp only);lia)) ?_
    (try conv=>arg 5;dsimp -zeta only)
    let M:=mpA m2 (show i<a.E by first|lia|((try dsimp only);lia)) λu B h1=>dA (show K.ģ _ _ from e)<|nR hb h1 B;by_cases z:i+1+1=a.E
    .calc bF (by simpa using z) ?_;show bz<|.Â %[3,_,_,rb|G e2 M z]
    .calc bA (by simpa using z) ?_;by_cases z':p+1>=g
     .calc bF z' ?_;show bz<|.Ó %[13,_,_,_,_,_,rb,e2,M,yo,F|yo]
     .calc bA z' ?_;show bz %[13,_,_,_,_,_,rb,e2,M,yo,F|yo]
  .intro c st2 z;let(out,i',j',p,q,rfl,e2,m2,hi',hj',hc'):=z;exfalso;lia
  .rintro c st2 (⟨r,q,rfl,hq⟩|⟨out,i',j',p,q,rfl,e2,m2,hi',hj',hc'⟩)
   .try conv=>arg 5;dsimp -zeta only
    show bz %[3,_,_,rb|hq]
   .try conv=>arg 5;dsimp -zeta only
    refine be<|wpS_lift<|gL %[rb|?_]
    (try conv=>arg 5;dsimp -zeta only)
    refine be (lv (gy (I:=λ(y:ĵ) (c:ĸ (Ņ ň)×Ņ ň×ĵ×ĵ×ĵ×ĵ×ĵ) (st':ņ)=>∃out Z N g p q,c=(ĺ,out,Z,N,g,p,q)/\j_ st st'/\Mg (kL K) a.I b.I out.I Z N/\Z+1<a.E/\N<b.E/\i'+j'+y<=Z+N)
     (Q:=λ(c:ĸ (Ņ ň)×Ņ ň×ĵ×ĵ×ĵ×ĵ×ĵ) (st':ņ)=>(∃r q,c=(ĳ r,q)/\Q r st')\/∃out Z N g p q,c=(ĺ,out,Z,N,g,p,q)/\j_ st st'/\Mg (kL K) a.I b.I out.I Z N/\Z+1<a.E/\N<b.E/\i'+j'<=Z+N) ?_ ?_ %[34,_,_,_,_,_,_,rb,e2,m2,hi',hj'|yo]) ?_)
    .intro y c st3 _ hy z;let(out,i,j,g,p,q,rfl,e3,M,hi,F,hc):=z
     (try conv=>arg 5;dsimp -zeta only)
     extract_lets -underBinder +onlyGivenNames l1 l2 l3 l4 l5 l6 l7 l8 l9 l10 l11 jp1
     let q4:l4=i:=rfl;let q4b:l3.fst=i:=rfl;let q6:l6=j:=rfl;let q6b:l5.fst=j:=rfl;let q8:l8=g:=rfl;let q8b:l7.fst=g:=rfl;refine wL (J:=λg':ĵ=>jp1 () g') (C:=λ_=>True) (λg' _=>?_) λhJ=>?_
     rotate_left
     .by_cases z:g > 1
      .calc bF z ?_;show hJ (g-1) trivial
      .calc bA z ?_;show hJ g trivial
     (try conv=>arg 5;dsimp -zeta only)
     calc be<|nT e3 λeY e4=>?_;calc be<|cX F ?_;calc be<|mV hO (by rw[e4.kind];show hk) (nH hkb F) hka (Nat.sub_pos_of_lt ye) (by grind) (Ws ha<|Nat.le_of_eq<|ga<|Nat.le_of_lt<|Nat.lt_of_succ_lt hi) λk hk1 hk2 hk3=>?_;let kA:∀t (D:t<a.E),i<=t->t<i+k->K.ģ (kf K a[t]) (kf K b[j]):=λt D h1 h2=>by have:=hk2 (t-i) (by grind);rw[show i+(t-i)=t from ga h1,Cd D]at this;show this
     let kB:∀t (D:t<a.E),i+k<=t->K.klt (kf K b[j]) (kf K a[t]):=λt D h1=>by have:=hk3 (t-i) (Nat.le_sub_of_add_le' h1) (Nat.sub_lt_sub_right (Nat.le_of_add_right_le h1) D);rw[show i+(t-i)=t from ga (Nat.le_of_add_right_le h1),Ms D]at this;show this
     let L:i+k<a.E:=by
      rcases fv (i+k) a.E with z|z;.show z
      .let h1:=kA (a.E-1) (by grind) (fg ye) (by grind);show ń (hhi j F)<|u7 h1
     (try conv=>arg 5;dsimp -zeta only)
     extract_lets -underBinder +onlyGivenNames ac jp2
     refine wL (J:=λo:Ņ ň×ĵ=>jp2 () o.1 o.2) (C:=λo=>Mg (kL K) a.I b.I o.1.I o.2 j/\o.2=i+k/\o.2+1<a.E) (λo ho=>?_) λhJ=>?_
     .let(o1,o2):=o;let(mo,eo,rT):=ho;let eo:o2=i+k:=eo;subst eo;let mo:Mg (kL K) a.I b.I o1.I (i+k) j:=mo;let rT:i+k+1<a.E:=rT
      (try conv=>arg 5;dsimp -zeta only)
      refine be<|cX F ?_
      (try conv=>arg 5;dsimp -zeta only)
      let m5:=mpB mo F λu B h1=>eI<|kB u B h1;by_cases z:j+1=b.E
      .calc bF (by simpa using z) ?_;show bz<|.Â %[3,_,_,rb|yd e4 m5<|.Ó z]
      calc bA (by simpa using z) ?_;calc be<|cX L ?_;calc be<|mV hO (by rw[e4.kind];show hk) (nH hka L) hkb (fg ye) (by grind) (Wt hb<|Nat.le_of_eq<|ga F) λY h1 h2 h3=>?_;let lb:∀t (D:t<b.E),j+1<=t->t<j+1+Y->K.klt (kf K b[t]) (kf K a[i+k]):=λt D q1 q2=>by have:=h2 (t-(j+1)) (by grind);rw[show j+1+(t-(j+1))=t from ga q1,Ce D]at this;show this
      let la:∀t (D:t<b.E),j+1+Y<=t->K.ģ (kf K a[i+k]) (kf K b[t]):=λt D q1=>by have:=h3 (t-(j+1)) (Nat.le_sub_of_add_le' q1) (Nat.sub_lt_sub_right (Nat.le_of_add_right_le q1) D);rw[show j+1+(t-(j+1))=t from ga (Nat.le_of_add_right_le q1),Mt D]at this;show this
      (try conv=>arg 5;dsimp -zeta only)
      extract_lets -underBinder +onlyGivenNames bc jp3
      refine wL (J:=λo:Ņ ň×ĵ=>jp3 () o.1 o.2) (C:=λo=>Mg (kL K) a.I b.I o.1.I (i+k) o.2/\o.2=j+1+Y/\o.2<b.E) (λo ho=>?_) λhJ=>?_
      .let(o1,o2):=o;let(mo,eo,rT):=ho;let eo:o2=j+1+Y:=eo;subst eo;let mo:Mg (kL K) a.I b.I o1.I (i+k) (j+1+Y):=mo;let rT:j+1+Y<b.E:=rT
       (try conv=>arg 5;dsimp -zeta only)
       refine be<|cX L ?_
       (try conv=>arg 5;dsimp -zeta only)
       let m6:=mpA mo L λu B h1=>la u B h1;by_cases z:i+k+1+1=a.E
       .calc bF (by simpa using z) ?_;show bz<|.Â %[3,_,_,rb|G e4 m6 z]
       calc bA (by simpa using z) ?_;by_cases z':(ľ (k<7)&&ľ (Y<7))=ķ
       .calc bF z' ?_;show bz<|.Ó %[34,_,_,_,_,_,_,rb,e4,m6,yo,rT|yo]
       .calc bA z' ?_;show bz %[34,_,_,_,_,_,_,rb,e4,m6,yo,rT|yo]
      .by_cases z3:Y > 0
       .refine bF z3 ?_
        (try conv=>arg 5;dsimp -zeta only)
        let m6:=mbB (k:=Y) m5 yo λt D q1 q2 u B q3=>eI<|sN (lb t D q1 q2)<|nR ha q3 B;by_cases z4:j+1+Y=b.E
        .calc bF (by simpa using z4) ?_;show bz<|.Â %[3,_,_,rb|yd e4 m6<|.Ó z4]
        .calc bA (by simpa using z4) ?_;show hJ (_,_) %[m6,rb|by dsimp only;lia]
       .calc bA z3 ?_;obtain rfl:Y=0:=Nat.eq_zero_of_not_pos z3;show hJ (_,_) %[m5,rb|by dsimp only;lia]
     .by_cases z3:k > 0
      .refine bF z3 ?_
       (try conv=>arg 5;dsimp -zeta only)
       let m6:=mbA (k:=k) M (ax L) λt D q1 q2 u B q3=>dA (kA t D q1 q2)<|nR hb q3 B;by_cases z4:i+k+1=a.E
       .calc bF (by simpa using z4) ?_;show bz<|.Â %[3,_,_,rb|G e4 m6 z4]
       .calc bA (by simpa using z4) ?_;calc bA (by simp;show bn L) ?_;show hJ (_,_) %[m6,rb|by dsimp only;lia]
      .calc bA z3 ?_;obtain rfl:k=0:=by first|lia|((try dsimp only);lia)
       show hJ (_,_) %[M,rb|by dsimp only;lia]
    .intro c st3 z;let(out,Z,N,g,p,q,rfl,e3,M,hi2,hj2,hc2):=z;exfalso;lia
    .rintro c st3 (⟨r,q,rfl,hq⟩|⟨out,Z,N,g,p,q,rfl,e3,M,hi2,hj2,hc2⟩)
     .try conv=>arg 5;dsimp -zeta only
      show bz %[3,_,_,rb|hq]
     .try conv=>arg 5;dsimp -zeta only
      calc be<|nT e3 λeY e4=>?_;show bz %[18,_,_,_,_,rb,e4,M,hi2,hj2|yo]
 .intro c st1 z;let(out,i,j,g,rfl,e1,m1,hi,F,hc):=z;exfalso;lia
 .intro c st1 z;let(r,q,rfl,hq):=z;show bz hq
structure gM (K:PyProof.â.KeyKind)(a b out:Ņ ň)(n m:ĵ):Prop where
 na:n<=a.E
 mb:m<=b.E
 mg:Mg (λx y=>kL K y x) b.I.ü a.I.ü out.I (b.E-m) (a.E-n)
def wM {a:Ņ ň}(h:a.I.Ä (kL K)):a.I.ü.Ä (λx y=>kL K y x):=by rw[List.pairwise_reverse];show h
def uq {a:Ņ ň}(h:n<=a.E):a.I.ü.Î (a.E-n)=(a.I.Å n).ü:=by rw[List.drop_reverse];congr 2;show jn h
def FP {a:Ņ ň}(hn:n<=a.E)(h:y∈a.I.ü.Î (a.E-n)):∃u,∃(D:u<a.E),u<n/\a[u]=y:=by
 rw[uq hn,xI]at h;let(t,B,e):=cE.mp h;let q:t<n:=by have:=B;simp_all
 show%[t,bq q hn,q|by rw[<-e];simp]
def Wu {a:Ņ ň}(q:0<n)(hn:n<=a.E):∃h:a.E-n<a.I.ü.n,a.I.ü[a.E-n]=a[n-1]:=by calc%[by simp;show b6 yw ye|?_];rw[List.getElem_reverse];simp only[Array.getElem_toList,bo];congr 1;lia
def gM.vh (g:gM K a b out n m)(ha:a.I.Ä (kL K))(F:0<n)(G:n-1<a.E)(h:∀u (q:u<b.E),u<m->K.ģ (kf K b[u]) (kf K a[n-1])):gM K a b (out.Ò a[n-1]) (n-1) m:=by
 let(h1,B):=Wu F g.na;have:=g.mg.xZ (wM ha) h1 λy D=>by let(u,q,J,rfl):=FP g.mb D;rw[B];show h u q J
 rw[B]at this;let hn:=g.na;calc%[ax G,g.mb|?_];rw[show a.E-(n-1)=a.E-n+1 from gg ye];simpa using this
def gM.xZ (g:gM K a b out n m)(D:b.I.Ä (kL K))(G:0<m)(L:m-1<b.E)(h:∀u (q:u<a.E),u<n->K.ģ (kf K a[u]) (kf K b[m-1])):gM K a b (out.Ò b[m-1]) n (m-1):=by
 let(h1,B):=Wu G g.mb;have:=g.mg.vh (wM D) h1 λy F=>by let(u,q,J,rfl):=FP g.na F;rw[B];show h u q J
 rw[B]at this;let hm:=g.mb;calc%[g.na,ye|?_];rw[show b.E-(m-1)=b.E-m+1 by lia];simpa using this
theorem gM.Ad {a b:Ņ ň}(ha:a.I.Ä (kL K)):∀(k:ĵ) {out:Ņ ň} {n:ĵ},gM K a b out n m->k<=n->(∀t (q:t<a.E),n-k<=t->t<n->∀u (G:u<b.E),u<m->K.ģ (kf K b[u]) (kf K a[t]))->gM K a b (out++(a.ë (n-k) n).ü) (n-k) m
 | 0,out,n,g,_,_=>by
  let e:(a.ë (n-0) n).ü=#[]:=by simp;show on _ _
  rw[e];simpa using g
 | k+1,out,n,g,hk,h=>by
  let hn:=g.na;let D:=gM.Ad ha k (g.vh ha ye (b6 ye ye)<|h (n-1) ye (Nat.sub_le_sub_left ye _)<|xA ye ye) (xw hk) λt q h1 B=>h t q ye ye;let e:out++(a.ë (n-(k+1)) n).ü=out.Ò a[n-1]++(a.ë (n-1-k)<|n-1).ü:=by
   apply nI.mp;rw[gT,gT,ib,bt];congr 1;rw[sd,sd,show n-1-k=n-(k+1) from Nat.sub_right_comm n 1 k];let F:=Array.extract_succ_right (as:=a) (i:=n-(k+1)) (j:=n-1) (by lia) (by lia);rw[Nat.sub_add_cancel (by lia)]at F
   rw[F,ib,wt];rfl
  rw[e,show n-(k+1)=n-1-k from (Nat.sub_right_comm n 1 k).Ù];show D
theorem gM.Ae {a b:Ņ ň}(q:b.I.Ä (kL K)):∀(k:ĵ) {out:Ņ ň} {m:ĵ},gM K a b out n m->k<=m->(∀t (B:t<b.E),m-k<=t->t<m->∀u (J:u<a.E),u<n->K.ģ (kf K a[u]) (kf K b[t]))->gM K a b (out++(b.ë (m-k) m).ü) n (m-k)
 | 0,out,m,g,_,_=>by
  let e:(b.ë (m-0) m).ü=#[]:=by simp;lia
  rw[e];simpa using g
 | k+1,out,m,g,hk,h=>by
  let hm:=g.mb;let F:=gM.Ae q k (g.xZ q ye ye<|h (m-1) ye ye ye) ye λt B h1 D=>h t B ye ye;let e:out++(b.ë (m-(k+1)) m).ü=out.Ò b[m-1]++(b.ë (m-1-k)<|m-1).ü:=by
   apply nI.mp;rw[gT,gT,ib,bt];congr 1;rw[sd,sd,show m-1-k=m-(k+1) from Nat.sub_right_comm m 1 k];let G:=Array.extract_succ_right (as:=b) (i:=m-(k+1)) (j:=m-1) (by lia) (by lia);rw[Nat.sub_add_cancel (by lia)]at G
   rw[G,ib,wt];rfl
  rw[e,show m-(k+1)=m-1-k from (Nat.sub_right_comm m 1 k).Ù];show F
def Ra {a b r:Ņ ň}(h:xY (λx y=>kL K y x) b.I.ü a.I.ü r.I.ü):xY (kL K) a.I b.I r.I:=by calc%[?_|List.pairwise_reverse.mp h.2];calc(List.reverse_perm r.I).Ù.Z<|h.1.Z ?_;rw[<-wt];show List.reverse_perm _
def gM.done (g:gM K a b out n m)(ha:a.I.Ä (kL K))(q:b.I.Ä (kL K))(h:n=0\/m=0):xY (kL K) a.I b.I (a.ë 0 n++b.ë 0 m++out.ü).I:=by calc Ra ?_;have:=g.mg.done (wM q) (wM ha) (by simp;lia);rw[uq g.na,uq g.mb]at this;simpa using this
def gM.aee (g:gM K a b out n m)(ha:a.I.Ä (kL K))(D:b.I.Ä (kL K))(h:∀u (q:u<b.E),u<m->∀t (B:t<a.E),t<n->K.ģ (kf K b[u]) (kf K a[t])):xY (kL K) a.I b.I (b.ë 0 m++a.ë 0 n++out.ü).I:=by
 calc Ra ?_;have:=g.mg.aa2 (wM D) (wM ha) λx hx y F=>by let(t,B,G,rfl):=FP g.na hx;let(u,q,h1,rfl):=FP g.mb F;show h u q h1 t B G
 rw[uq g.na,uq g.mb]at this;simpa using this
def gM.zero:gM K a b #[] a.E b.E:=%[ah _,ah _|by rw[o0,o0];show Mg.zero]
def Pr {a b:Ņ ň}{st:ņ}{Q:Ņ ň->ņ->Prop}(hO:jP prog w A s K kn)(hk:kindOf st=kn)(hka:ŕ K a)(hkb:ŕ K b)(ha:a.I.Ä (kL K))(hb:b.I.Ä (kL K))(a0:0<a.E)(b0:0<b.E)(hlo:K.klt (kf K b[0]) (kf K a[0]))(hhi:∀j (hj:j<b.E),K.ģ (kf K b[j]) (kf K a[a.E-1]))(h:∀r st',xY (kL K) a.I b.I r.I->j_ st st'->Q r st'):wpS (ł prog w) A E s ((sortPriv% PySem.Builtin.mergeHi) a b) Q st:=by
 let hlow:∀t (B:t<a.E),K.klt (kf K b[0]) (kf K a[t]):=λt B=>sN hlo<|nR ha (b5 _) B;let yd:∀{out:Ņ ň} {n m:ĵ} {st':ņ},j_ st st'->gM K a b out n m->(n=0\/m=0)->Q (a.ë 0 n++b.ë 0 m++out.ü) st':=λ{out n m st'} e g z=>h _ _ (g.done ha hb z) e;let G:∀{out:Ņ ň} {n m:ĵ} {st':ņ},j_ st st'->gM K a b out n m->m=1->Q (b.ë 0 m++a.ë 0 n++out.ü) st':=λ{out n m st'} e g z=>h _ _ (g.aee ha hb λu Z h1 t B h2=>by
  obtain rfl:u=0:=by first|lia|((try dsimp only);lia)
  show eI<|hlow t B) e
 refine be<|wpS_lift<|gL %[rb|?_]
 (try conv=>arg 5;dsimp -zeta only)
 calc be<|cX (show a.E-1<a.E by first|lia|((try dsimp only);lia)) ?_;let m0:gM K a b (#[a[a.E-1]]:Ņ ň) (a.E-1) b.E:=by have:=gM.vh (gM.zero (K:=K) (a:=a) (b:=b)) ha a0 yo λu Z _=>hhi u Z;simpa using this
 (try conv=>arg 5;dsimp -zeta only)
 by_cases z1:a.E-1=0
 .calc bF (by simpa using z1) ?_;show bz<|yd (j_.Ğ _) m0<|.Â z1
 calc bA (by simpa using z1) ?_;by_cases z2:b.E=1
 .calc bF (by simpa using z2) ?_;show bz<|G (j_.Ğ _) m0 z2
 calc bA (by simpa using z2) ?_;refine be<|tm ?_
 (try conv=>arg 5;dsimp -zeta only)
 refine be (lv (gy (I:=λ(x:ĵ) (c:ĸ (Ņ ň)×ĵ×ĵ×Ņ ň×ĵ) (st':ņ)=>∃n m out g,c=(ĺ,n,m,out,g)/\j_ st st'/\gM K a b out n m/\1<=n/\2<=m/\n+m+x+1<=a.E+b.E)
  (Q:=λ(c:ĸ (Ņ ň)×ĵ×ĵ×Ņ ň×ĵ) (st':ņ)=>∃r q,c=(ĳ r,q)/\Q r st') ?_ ?_ %[18,_,_,_,_,rb,j_.Ğ _,m0,yo,yo|yo]) ?_)
 .intro x c st1 _ hx z;let(n,m,out,g,rfl,e1,m1,hn,hm,hc):=z
  (try conv=>arg 5;dsimp -zeta only)
  refine be (lv (gy (I:=λ(y:ĵ) (c:ĸ (Ņ ň)×ĵ×ĵ×Ņ ň×ĵ×ĵ) (st':ņ)=>∃n' m' out p q,c=(ĺ,n',m',out,p,q)/\j_ st st'/\gM K a b out n' m'/\1<=n'/\2<=m'/\n'+m'+y<=n+m)
   (Q:=λ(c:ĸ (Ņ ň)×ĵ×ĵ×Ņ ň×ĵ×ĵ) (st':ņ)=>(∃r q,c=(ĳ r,q)/\Q r st')\/∃n' m' out p q,c=(ĺ,n',m',out,p,q)/\j_ st st'/\gM K a b out n' m'/\1<=n'/\2<=m'/\n'+m'+1<=n+m) ?_ ?_ %[13,_,_,_,_,_,rb,e1,m1,hn,hm|yo]) ?_)
  .intro y c st2 _ hy z;let(n,m,out,p,q,rfl,e2,D,hn,hm,hc):=z;let hna:=D.na;let hmb:=D.mb;let ln:n-1<a.E:=b6 ye ye;let O:m-1<b.E:=b6 ye ye
   (try conv=>arg 5;dsimp -zeta only)
   calc be<|cX O<|be<|cX ln ?_;refine be<|Ac hO (by rw[e2.kind];show hk) (nH hkb O) (nH hka ln) ?_
   (try conv=>arg 5;dsimp -zeta only)
   cases e:K.blt (kf K b[m-1]) (kf K a[n-1]) with
   | true=>
    refine bF rb ?_
    (try conv=>arg 5;dsimp -zeta only)
    refine be<|cX ln ?_
    (try conv=>arg 5;dsimp -zeta only)
    let F:=D.vh ha hn ln λu Z h1=>dA (nR hb (show u<=m-1 from fe h1) O)<|eI e;by_cases z:n-1=0
    .calc bF (by simpa using z) ?_;show bz<|.Â %[3,_,_,rb|yd e2 F<|.Â z]
    .calc bA (by simpa using z) ?_;by_cases z':p+1>=g
     .calc bF z' ?_;show bz<|.Ó %[13,_,_,_,_,_,rb,e2,F,yo,hm|yo]
     .calc bA z' ?_;show bz %[13,_,_,_,_,_,rb,e2,F,yo,hm|yo]
   | false=>
    refine bA yf ?_
    (try conv=>arg 5;dsimp -zeta only)
    refine be<|cX O ?_
    (try conv=>arg 5;dsimp -zeta only)
    let F:=D.xZ hb (ax hm) O λu Z h1=>dA (nR ha (show u<=n-1 from fe h1) ln)<|show K.ģ _ _ from e;by_cases z:m-1=1
    .calc bF (by simpa using z) ?_;show bz<|.Â %[3,_,_,rb|G e2 F z]
    .calc bA (by simpa using z) ?_;by_cases z':q+1>=g
     .calc bF z' ?_;show bz<|.Ó %[13,_,_,_,_,_,rb,e2,F,hn,yo|yo]
     .calc bA z' ?_;show bz %[13,_,_,_,_,_,rb,e2,F,hn,yo|yo]
  .intro c st2 z;let(n',m',out,p,q,rfl,e2,D,hn',hm',hc'):=z;exfalso;lia
  .rintro c st2 (⟨r,q,rfl,hq⟩|⟨n',m',out,p,q,rfl,e2,D,hn',hm',hc'⟩)
   .try conv=>arg 5;dsimp -zeta only
    show bz %[3,_,_,rb|hq]
   .try conv=>arg 5;dsimp -zeta only
    refine be<|wpS_lift<|gL %[rb|?_]
    (try conv=>arg 5;dsimp -zeta only)
    refine be (lv (gy (I:=λ(y:ĵ) (c:ĸ (Ņ ň)×ĵ×ĵ×Ņ ň×ĵ×ĵ×ĵ) (st':ņ)=>∃N D out g p q,c=(ĺ,N,D,out,g,p,q)/\j_ st st'/\gM K a b out N D/\1<=N/\2<=D/\N+D+y<=n'+m')
     (Q:=λ(c:ĸ (Ņ ň)×ĵ×ĵ×Ņ ň×ĵ×ĵ×ĵ) (st':ņ)=>(∃r q,c=(ĳ r,q)/\Q r st')\/∃N D out g p q,c=(ĺ,N,D,out,g,p,q)/\j_ st st'/\gM K a b out N D/\1<=N/\2<=D/\N+D<=n'+m') ?_ ?_ %[34,_,_,_,_,_,_,rb,e2,D,hn',hm'|yo]) ?_)
    .intro y c st3 _ hy z;let(n,m,out,g,p,q,rfl,e3,F,hn,hm,hc):=z;let hna:=F.na;let hmb:=F.mb;let ln:n-1<a.E:=by first|lia|((try dsimp only);lia)
     let O:m-1<b.E:=by first|lia|((try dsimp only);lia)
     (try conv=>arg 5;dsimp -zeta only)
     extract_lets -underBinder +onlyGivenNames l1 l2 l3 l4 l5 l6 l7 l8 l9 l10 l11 jp1
     let q4:l2=n:=rfl;let q4b:l1.fst=n:=rfl;let q6:l4=m:=rfl;let q6b:l3.fst=m:=rfl;let q8:l8=g:=rfl;let q8b:l7.fst=g:=rfl;refine wL (J:=λg':ĵ=>jp1 () g') (C:=λ_=>True) (λg' _=>?_) λhJ=>?_
     rotate_left
     .by_cases z:g > 1
      .calc bF z ?_;show hJ (g-1) trivial
      .calc bA z ?_;show hJ g trivial
     (try conv=>arg 5;dsimp -zeta only)
     calc be<|nT e3 λeY e4=>?_;calc be<|cX O ?_;calc be<|mV hO (by rw[e4.kind];show hk) (nH hkb O) hka (xA ye ye) (by simp[*]) (Ws ha yo) λk hk1 hk2 hk3=>?_;let kA:∀t (B:t<a.E),t<k->K.ģ (kf K a[t]) (kf K b[m-1]):=λt B h1=>by have:=hk2 t h1;rw[ki,Cd B]at this;show this
     let kB:∀t (B:t<a.E),k<=t->t<n->K.klt (kf K b[m-1]) (kf K a[t]):=λt B h1 h2=>by have:=hk3 t h1 h2;rw[ki,Ms B]at this;show this
     (try conv=>arg 5;dsimp -zeta only)
     extract_lets -underBinder +onlyGivenNames kx ac jp2
     refine wL (J:=λo:ĵ×Ņ ň=>jp2 () o.1 o.2) (C:=λo=>gM K a b o.2 o.1 m/\o.1=k/\1<=o.1) (λo ho=>?_) λhJ=>?_
     .let(M,o2):=o;let(mo,eo,rT):=ho;let eo:M=k:=eo;subst eo;let mo:gM K a b o2 M m:=mo;let rT:1<=M:=rT;let lk:M-1<a.E:=b6 yw ye
      (try conv=>arg 5;dsimp -zeta only)
      (try conv=>arg 5;dsimp -zeta only)
      refine be<|cX O ?_
      (try conv=>arg 5;dsimp -zeta only)
      let m5:=mo.xZ hb yo O λu Z h1=>kA u Z h1;by_cases z:m-1=1
      .calc bF (by simpa using z) ?_;show bz<|.Â %[3,_,_,rb|G e4 m5 z]
      calc bA (by simpa using z) ?_;calc be<|cX lk ?_;calc be<|mV hO (by rw[e4.kind];show hk) (nH hka lk) hkb (by grind) yo (Wt hb yo) λL h1 h2 h3=>?_;let lb:∀t (B:t<b.E),t<L->K.klt (kf K b[t]) (kf K a[M-1]):=λt B q1=>by have:=h2 t q1;rw[ki,Ce B]at this;show this
      let la:∀t (B:t<b.E),L<=t->t<m-1->K.ģ (kf K a[M-1]) (kf K b[t]):=λt B q1 q2=>by have:=h3 t q1 q2;rw[ki,Mt B]at this;show this
      let Rb:0<L:=by
       rcases oj L with z|z
       .let h4:=la 0 b0 (mE z)<|xw hm;show ń (hlow (M-1) lk)<|u7 h4
       .show z
      (try conv=>arg 5;dsimp -zeta only)
      extract_lets -underBinder +onlyGivenNames ky bc jp3
      refine wL (J:=λo:ĵ×Ņ ň=>jp3 () o.1 o.2) (C:=λo=>gM K a b o.2 M o.1/\o.1=L/\2<=o.1) (λo ho=>?_) λhJ=>?_
      .let(p1,p2):=o;let(mo,eo,hp3):=ho;let eo:p1=L:=eo;subst eo;let mo:gM K a b p2 M p1:=mo;let hp3:2<=p1:=hp3
       (try conv=>arg 5;dsimp -zeta only)
       (try conv=>arg 5;dsimp -zeta only)
       refine be<|cX lk ?_
       (try conv=>arg 5;dsimp -zeta only)
       let Y:=mo.vh ha rT lk λu Z h1=>eI<|lb u Z h1;by_cases z:M-1=0
       .calc bF (by simpa using z) ?_;show bz<|.Â %[3,_,_,rb|yd e4 Y<|.Â z]
       calc bA (by simpa using z) ?_;by_cases z':(ľ (n-M<7)&&ľ (m-1-p1<7))=ķ
       .calc bF z' ?_;show bz<|.Ó %[34,_,_,_,_,_,_,rb,e4,Y,yo,hp3|by grind]
       .calc bA z' ?_;show bz %[34,_,_,_,_,_,_,rb,e4,Y,yo,hp3|by grind]
      .by_cases z3:m-1-L > 0
       .refine bF z3 ?_
        (try conv=>arg 5;dsimp -zeta only)
        let Y:=gM.Ae hb (m-1-L) m5 (nS _ _) λt B q1 q2 u Z q3=>dA (nR ha (show u<=M-1 from fe q3) lk)<|la t B (jn h1▸q1) q2;rw[show m-1-(m-1-L)=L from jn h1]at Y;by_cases z4:L=1
        .calc bF (by simpa using z4) ?_;show bz<|.Â %[3,_,_,rb|G e4 Y z4]
        .calc bA (by simpa using z4) ?_;calc bA (by simp;show ii Rb) ?_;show hJ (_,_) %[Y,rb|by dsimp only;lia]
       .calc bA z3 ?_;obtain rfl:L=m-1:=Nat.le_antisymm h1<|Nat.le_of_sub_eq_zero<|Nat.eq_zero_of_not_pos z3
        show hJ (_,_) %[m5,rb|by dsimp only;lia]
     .by_cases z3:n-k > 0
      .refine bF z3 ?_
       (try conv=>arg 5;dsimp -zeta only)
       let Y:=gM.Ad ha (n-k) F (nS _ _) λt B q1 q2 u Z q3=>dA (nR hb (show u<=m-1 from fe q3) O)<|eI<|kB t B (jn hk1▸q1) q2;rw[show n-(n-k)=k from jn hk1]at Y;by_cases z4:k=0
       .calc bF (by simpa using z4) ?_;show bz<|.Â %[3,_,_,rb|yd e4 Y<|.Â z4]
       .calc bA (by simpa using z4) ?_;show hJ (_,_) %[Y,rb|by dsimp only;lia]
      .calc bA z3 ?_;obtain rfl:k=n:=Nat.le_antisymm hk1<|Nat.le_of_sub_eq_zero<|Nat.eq_zero_of_not_pos z3
       show hJ (_,_) %[F,rb|by dsimp only;lia]
    .intro c st3 z;let(N,m2',out,g,p,q,rfl,e3,F,hn2,hm2,hc2):=z;exfalso;lia
    .rintro c st3 (⟨r,q,rfl,hq⟩|⟨N,m2',out,g,p,q,rfl,e3,F,hn2,hm2,hc2⟩)
     .try conv=>arg 5;dsimp -zeta only
      show bz %[3,_,_,rb|hq]
     .try conv=>arg 5;dsimp -zeta only
      calc be<|nT e3 λeY e4=>?_;show bz %[18,_,_,_,_,rb,e4,F,hn2,hm2|yo]
 .intro c st1 z;let(n,m,out,g,rfl,e1,m1,hn,hm,hc):=z;exfalso;lia
 .intro c st1 z;let(r,q,rfl,hq):=z;show bz hq
def abO {T:Type}{M:Model}{x:T}{Q:PUnit->T->Prop}{st:T}(h:Q ⟨⟩ x):wpS M A E s (set x:ŧ T Sem PUnit) Q st:=by unfold wpS;show af %[rb|h]
theorem Mu:∀(m:Ĵ ň) (n:ĵ) (o:ĵ) (P X S:Ĵ ň) (arr:Ņ ň),arr.I=P++(X++S)->X.n=m.n->P.n=o+n->((m.zipIdx n).foldl (λa (x:ň×ĵ)=>a.ï (o+x.2) x.1) arr).I=P++(m++S)
 | [],n,o,P,X,S,arr,e,h,_=>by obtain rfl:X=[]:=nB.mp h;simpa using e
 | y::m,n,o,P,X,S,arr,e,h,hp=>by
  obtain⟨x,X',rfl⟩:∃x X',X=x::X':=by
   cases X with| nil=>simp at h| cons x X'=>show%[5,x,X'|rb]
  rw[xL,sn];let q:(arr.ï (o+n) y).I=(P++[y])++(X'++S):=by rw[xh,e,<-hp,List.set_append_right _ _ (ah _),o0];simp
  have:=Mu m (n+1) o (P++[y]) X' S (arr.ï (o+n) y) q (by simpa using h) (by simp;lia);simpa using this
def seg_at {arr:Ņ ň}{P X S:Ĵ ň}(e:arr.I=P++(X++S)){t:ĵ}(q:t<X.n):∃h:P.n+t<arr.E,arr[P.n+t]=X[t]:=by
 let B:arr.E=P.n+(X.n+S.n):=by rw[<-bo,e];simp
 calc%[ye|?_];let h1:arr.I[P.n+t]?=ĳ X[t]:=by rw[e,dC ye,lh,fc q,ae q]
 rw[cq,b8 ye]at h1;show bd h1
def FQ {X:Ĵ ň}(h:X.Ä (kL K))(q:i<=j)(B:j<X.n):K.ģ (kf K X[i]) (kf K X[j]):=by
 rcases Nat.eq_or_lt_of_le q with z|z;.subst z;show kD _
 .show(gm.mp h) i j (mM z B) B z
def Pu {i sa na p1 sb nb p2:ĵ}{st:ņ}{Pl X Y Sl:Ĵ ň}{Q:œ->ņ->Prop}(hO:jP prog w A s K kn)(hk:kindOf st=kn)(hf:failedOf st=ĺ)(J:ŕ K (arrOf st))(h1:(pendingOf st)[i]?=ĳ (sa,na,p1))(h2:(pendingOf st)[i+1]?=ĳ (sb,nb,p2))(e:(arrOf st).I=Pl++(X++(Y++Sl)))(lP:Pl.n=sa)(lX:X.n=na)(lY:Y.n=nb)(hsb:sb=sa+na)(x0:0<na)(y0:0<nb)(uX:X.Ä (kL K))(uY:Y.Ä (kL K))(h:∀st' Z,kindOf st'=kindOf st->failedOf st'=ĺ->pendingOf st'=((pendingOf st).ï i (sa,na+nb,p1)).eraseIdxIfInBounds (i+1)->(arrOf st').I=Pl++(Z++Sl)->Z.ú (X++Y)->Z.Ä (kL K)->Q ķ st'):wpS (ł prog w) A E s ((sortPriv% PySem.Builtin.mergeAt) i) Q st:=by
 subst hsb lP lX lY;let e':(arrOf st).I=(Pl++X)++(Y++Sl):=by rw[e];simp
 let gX:∀{t},(F:t<X.n)->∃h:Pl.n+t<(arrOf st).E,(arrOf st)[Pl.n+t]=X[t]:=λF=>seg_at e F;let gY:∀{t},(F:t<Y.n)->∃h:Pl.n+X.n+t<(arrOf st).E,(arrOf st)[Pl.n+X.n+t]=Y[t]:=λF=>by have:=seg_at e' F;rw[ay]at this;show this
 let hsz:(arrOf st).E=Pl.n+(X.n+(Y.n+Sl.n)):=by rw[<-bo,e];simp
 let(O,ey0):=gY y0;rw[vT]at O;calc be<|tm ?_;rw[h1,h2]
 (try conv=>arg 5;dsimp -zeta only)
 calc be<|abO ?_;calc be<|cX O ?_;refine be<|mV hO hk (nH J O) J x0 (show Pl.n+X.n<=(arrOf st).E from ax O) ?_ λk hk1 hk2 hk3=>?_
 .intro p q hpq hq hb;let(L,M):=gX hq;let(g3,g4):=gX (show p<X.n by lia);rw[Cd L,M]at hb;rw[Cd g3,g4];show dA (FQ uX hpq hq) hb
 rw[(show (arrOf st)[Pl.n+X.n]=Y[0] from ey0)]at hk2 hk3;let kA:∀x∈X.Å k,K.ģ (kf K x) (kf K Y[0]):=λx hx=>by
  let(t,F,rfl):=cE.mp hx;let D:t<k:=by simp at F;simp_all
  let(L,M):=gX (show t<X.n from bq D hk1);have:=hk2 t D;rw[Cd L,M]at this;simpa using this
 let kB:∀x∈X.Î k,K.klt (kf K Y[0]) (kf K x):=λx hx=>by
  let(t,F,rfl):=cE.mp hx;let D:k+t<X.n:=by simp at F;lia
  let(L,M):=gX D;have:=hk3 (k+t) ye D;rw[Ms L,M]at this;simpa using this
 let yl:∀y∈Y,K.ģ (kf K Y[0]) (kf K y):=λy N=>by let(t,F,rfl):=cE.mp N;show FQ uY (b5 _) F
 (try conv=>arg 5;dsimp -zeta only)
 by_cases z1:X.n-k=0
 .calc bF (by simpa using z1) ?_;calc bz<|h _ (X++Y) rb hf rb (by rw[bt];show e) (wP _) ?_;rw[ik];calc%[uX,uY|λx hx y N=>?_];have:X.Å k=X:=cw ye;show dA (kA x (by rw[this];show hx))<|yl y N
 calc bA (by simpa using z1) ?_;let hkx:k<X.n:=ye;let hx1:X.n-1<X.n:=xA x0 Nat.one_pos;let el:Pl.n+k+(X.n-k)-1=Pl.n+(X.n-1):=gg ye;let(hl0,hl1):=gX hx1;let hel:Pl.n+k+(X.n-k)-1<(arrOf st).E:=by grind
 let ex:(arrOf st)[Pl.n+k+(X.n-k)-1]=X[X.n-1]:=by rw[<-hl1];congr 1
 let afM:∀x∈X,K.ģ (kf K x) (kf K X[X.n-1]):=λx hx=>by let(t,F,rfl):=cE.mp hx;show FQ uX (fe F) hx1
 let agQ:X[X.n-1]∈X.Î k:=by calc cE.Û %[X.n-1-k,by simp;show fg ye|?_];rw[List.getElem_drop];congr 1;grind
 calc be<|cX hel ?_;refine be<|mV hO hk (nH J hel) J (show Y.n-1<Y.n from xA y0 Nat.one_pos) (show Pl.n+X.n+Y.n<=(arrOf st).E by lia) ?_ λB hy1 hy2 Rc=>?_
 .intro p q hpq hq hb;let(L,M):=gY hq;let(g3,g4):=gY (show p<Y.n by lia);rw[Ce L,M]at hb;rw[Ce g3,g4];show KeyOrd.klt_of_kle_of_klt (FQ uY hpq hq) hb
 rw[ex]at hy2 Rc;let yA:∀y∈Y.Å B,K.klt (kf K y) (kf K X[X.n-1]):=λy N=>by
  let(t,F,rfl):=cE.mp N;let D:t<B:=by simp at F;lia
  let(L,M):=gY (show t<Y.n by lia);have:=hy2 t D;rw[Ce L,M]at this;simpa using this
 let yB:∀y∈Y.Î B,K.ģ (kf K X[X.n-1]) (kf K y):=λy N=>by
  let(t,F,rfl):=cE.mp N;let D:B+t<Y.n:=by simp at F;lia
  let(L,M):=gY D;have:=Rc (B+t) ye D;rw[Mt L,M]at this;simpa using this
 (try conv=>arg 5;dsimp -zeta only)
 let Rb:0<B:=by
  rcases oj B with z|z
  .subst z;let h3:=yB Y[0] yf;show ń (kB _ agQ)<|u7 h3
  .show z
 refine bA (by simp;lia) ?_
 (try conv=>arg 5;dsimp -zeta only)
 let la:((arrOf st).ë (Pl.n+k)<|Pl.n+X.n).I=X.Î k:=by rw[v0,sr,e,List.drop_length_add_append,List.drop_append_of_le_length hk1];show List.take_left' (by simp;lia)
 let lb:((arrOf st).ë (Pl.n+X.n)<|Pl.n+X.n+B).I=Y.Å B:=by rw[v0,sr,e',show Pl.n+X.n=(Pl++X).n by simp,List.drop_left,lh,List.take_append_of_le_length hy1]
 generalize hga:(arrOf st).ë (Pl.n+k) (Pl.n+X.n)=a at la;generalize hgb:(arrOf st).ë (Pl.n+X.n) (Pl.n+X.n+B)=b at lb
 extract_lets -underBinder +onlyGivenNames xx yy jp
 let hJ:∀r st',xY (kL K) a.I b.I r.I->kindOf st'=kindOf st->arrOf st'=arrOf st->failedOf st'=ĺ->pendingOf st'=((pendingOf st).ï i (Pl.n,X.n+Y.n,p1)).eraseIdxIfInBounds (i+1)->wpS (ł prog w) A E s (jp r) Q st':=by
  intro r st' fr e1 e2 e3 e4;rw[la,lb]at fr
  (try conv=>arg 5;dsimp -zeta only)
  calc be<|vS<|be<|tm ?_;let hZ:∀z∈r.I,z∈X.Î k\/z∈Y.Å B:=λz hz=>a7.mp<|fr.1.õ.mp hz;let er:=Mu r.I 0 (Pl.n+k) (Pl++X.Å k) (X.Î k++Y.Å B) (Y.Î B++Sl) (arrOf st) (by
   rw[e];rw[bt,bt,<-bt (Y.Å B),dm,<-bt (X.Å k),dm]) fr.1.length_eq.Ù (by simp;lia)
  refine cast (Œ (λq=>wpS (ł prog w) A E s (pure q) Q _)<|show ķ=_ from ?_)<|bz<|h _ (X.Å k++(r.I++Y.Î B)) e1 e3 e4 ?_ ?_ ?_
  .show ķ=(failedOf st').isNone;rw[e3];rfl
  .show (List.foldl _ (arrOf st') r.I.zipIdx).I=_;rw[e2];calc Eq.Z ?_<|er.Z yf;rfl
  .let p1:(r.I++Y.Î B).ú ((X.Î k++Y.Å B)++Y.Î B):=fr.1.append_right _;let p2:=mB (X.Å k) p1;let e5:X.Å k++((X.Î k++Y.Å B)++Y.Î B)=X++Y:=by rw[bt,dm,<-bt,dm]
   rw[<-e5];show p2
  .rw[ik];refine%[uX.sublist<|tJ _ _,?_|λx hx z hz=>?_]
   .rw[ik];calc%[fr.2,uY.sublist<|lx _ _|λz hz y N=>?_];rcases hZ z hz with q|q;.show dA (afM z<|kR q)<|yB y N
    .show dA (eI<|yA z q)<|yB y N
   .let hxy:K.ģ (kf K x) (kf K Y[0]):=kA x hx;rcases a7.mp hz with q|q
    .rcases hZ z q with q|q;.show dA hxy<|eI<|kB z q
     .show dA hxy<|yl z<|eL q
    .show dA hxy<|yl z<|kR q
 let hka:ŕ K a:=λp hp=>by rw[la]at hp;show J p (by rw[e];simp[kR hp])
 let hkb:ŕ K b:=λp hp=>by rw[lb]at hp;show J p (by rw[e];simp[eL hp])
 let sa:a.E=X.n-k:=by rw[<-bo,la];simp
 let sb:b.E=B:=by rw[<-bo,lb];simp;lia
 let gb0:∀j (G:j<b.E),b[j]∈Y.Å B:=λj G=>by rw[<-lb];simp
 let gl:∀(G:a.E-1<a.E),a[a.E-1]=X[X.n-1]:=λG=>by
  let h4:a.I[a.E-1]?=ĳ X[X.n-1]:=by rw[la,f6,sa,show k+(X.n-k-1)=X.n-1 by grind,ae hx1]
  rw[cq,b8 G]at h4;show bd h4
 let agR:∀(G:0<b.E),b[0]=Y[0]:=λG=>by
  let h4:b.I[0]?=ĳ Y[0]:=by rw[lb,oP Rb,ae y0]
  rw[cq,b8 G]at h4;show bd h4
 let ga0:∀(G:0<a.E),a[0]∈X.Î k:=λG=>by rw[<-la];simp
 let ua:a.I.Ä (kL K):=by rw[la];show uX.sublist<|lx _ _
 let ub:b.I.Ä (kL K):=by rw[lb];show uY.sublist<|tJ _ _
 let a0:0<a.E:=ye;let b0:0<b.E:=ye;let hlo:K.klt (kf K b[0]) (kf K a[0]):=by rw[agR b0];show kB _<|ga0 a0
 let hhi:∀j (G:j<b.E),K.klt (kf K b[j]) (kf K a[a.E-1]):=λj G=>by rw[gl ye];show yA _<|gb0 j G
 by_cases z5:X.n-k<=B
 .calc bF z5 ?_;show be<|Pq hO hk hka hkb ua ub a0 b0 (eI hlo) hhi λr st' fr q=>hJ r st' fr q.þ q.arr (q.fail.Z hf) q.pend
 .calc bA z5 ?_;show be<|Pr hO hk hka hkb ua ub a0 b0 hlo (λj G=>eI<|hhi j G) λr st' fr q=>hJ r st' fr q.þ q.arr (q.fail.Z hf) q.pend
structure SG (st0 st:ņ)(lo hi:ĵ):Prop where
 kind:kindOf st=kindOf st0
 fail:failedOf st=failedOf st0
 pend:pendingOf st=pendingOf st0
 perm:(arrOf st).ú (arrOf st0)
 out:∀t:ĵ,t<lo\/hi<=t->(arrOf st)[t]?=(arrOf st0)[t]?
def SG.refl {st:ņ}{lo hi:ĵ}:SG st st lo hi:=%[rb,rb,rb,Array.ú.Ğ _|λ_ _=>rfl]
def SG.size {st0 st:ņ}{lo hi:ĵ}(g:SG st0 st lo hi):(arrOf st).E=(arrOf st0).E:=g.perm.size_eq
def SG.keys {st0 st:ņ}{lo hi:ĵ}(g:SG st0 st lo hi)(h:ŕ K (arrOf st0)):ŕ K (arrOf st):=λp hp=>h p ((xi.mp g.perm).õ.mp hp)
def SG.arr {st0 st:ņ}{lo hi:ĵ}(g:SG st0 st lo hi){xs:Ņ ň}(hp:xs.ú (arrOf st))(B:∀t:ĵ,t<lo\/hi<=t->xs[t]?=(arrOf st)[t]?):SG st0 (setArr st xs) lo hi:=%[g.þ,g.fail,g.pend,hp.Z g.perm|λt q=>(B t q).Z<|g.ã t q]
def lQ (K:PyProof.â.KeyKind)(xs:Ņ ň)(lo n:ĵ):Prop:=∀i j,i<=j->j<n->K.ģ (KK K xs<|lo+i) (KK K xs<|lo+j)
def tG {st:ņ}{i j:ĵ}{Q:ĸ œ->ņ->Prop}(O:jP prog w A s K kn)(hk:kindOf st=kn)(q:ŕ K (arrOf st))(hi:i<(arrOf st).E)(B:j<(arrOf st).E)(h:Q (ĳ<|K.blt (KK K (arrOf st) i)<|KK K (arrOf st) j) st):wpS (ł prog w) A E s ((sortPriv% PySem.Builtin.ltAt) i j) Q st:=
 by
 show wpS _ _ _ _ (ltAt' i j) Q st;calc be<|tm ?_;show be<|cX hi<|be<|cX B<|Ac O hk (uo q hi) (uo q B) h
def T8 {lo n ok:ĵ}{st:ņ}{Q:œ->ņ->Prop}(hO:jP prog w A s K kn)(hk:kindOf st=kn)(Z:ŕ K (arrOf st))(hn:lo+n<=(arrOf st).E)(hok:ok<=n)(hs:lQ K (arrOf st) lo ok)(h:∀st',SG st st' lo (lo+n)->lQ K (arrOf st') lo n->Q ķ st'):wpS (ł prog w) A E s ((sortPriv% PySem.Builtin.binarySort) lo n ok) Q st:=by
 refine be (lv (gy (I:=λ(k:ĵ) (c:ĸ œ×ť) (st':ņ)=>c=(ĺ,())/\SG st st' lo (lo+n)/\lQ K (arrOf st') lo (min k n))
  (Q:=λ(c:ĸ œ×ť) (st':ņ)=>c=(ĺ,())/\SG st st' lo (lo+n)/\lQ K (arrOf st') lo n) ?_ ?_ %[rb,SG.Ğ|?_]) ?_)
 .intro k c q hk1 N z;let(rfl,G,F):=z;rw[sq (ax N)]at F;let z1:=G.E
  (try conv=>arg 5;dsimp -zeta only)
  refine be (lv (gy (I:=λ(x:ĵ) (c:ĸ œ×ĵ×ĵ) (st':ņ)=>∃l r,c=(ĺ,l,r)/\st'=q/\l<=r/\r<=k/\r-l<=k-x/\(∀i,i<l->K.ģ (KK K (arrOf q)<|lo+i) (KK K (arrOf q)<|lo+k))/\(∀i,r<=i->i<k->K.klt (KK K (arrOf q)<|lo+k) (KK K (arrOf q)<|lo+i)))
   (Q:=λ(c:ĸ œ×ĵ×ĵ) (st':ņ)=>∃l r,c=(ĺ,l,r)/\st'=q/\l<=k/\(∀i,i<l->K.ģ (KK K (arrOf q)<|lo+i) (KK K (arrOf q)<|lo+k))/\(∀i,l<=i->i<k->K.klt (KK K (arrOf q)<|lo+k) (KK K (arrOf q)<|lo+i))) ?_ ?_ %[28,0,k,rb,rb,Nat.zero_le _,ah _,ah _,λi hi=>by cases hi|λi h1 M=>by lia]) ?_)
  .intro x c B _ hx z;let(l,r,rfl,rfl,h1,M,h3,J,L):=z
   (try conv=>arg 5;dsimp -zeta only)
   by_cases z:l>=r
   .calc bF z ?_;show bz %[12,l,r,rb,rb,aw h1 M,J|λi q1 q2=>L i (aw z q1) q2]
   refine bA z ?_
   (try conv=>arg 5;dsimp -zeta only)
   refine be<|tG hO (G.þ.Z hk) (G.keys Z) ye ye ?_
   (try conv=>arg 5;dsimp -zeta only)
   cases e:K.blt (KK K (arrOf B)<|lo+k) (KK K (arrOf B)<|lo+(l+r)/2) with| true=>calc bF rb ?_;show bz %[28,l,(l+r)/2,rb,rb,ye,ye,fe<|b6 ye ye,J|λi q1 q2=>sN e<|F _ _ q1 q2]| false=>calc bA yf ?_;show bz %[28,(l+r)/2+1,r,rb,rb,mS ye,M,fe<|b6 ye ye,λi q1=>dA (F i ((l+r)/2) (eD q1)<|mS ye)<|show K.ģ _ _ from e|L]
  .intro c B z;let(l,r,rfl,rfl,h1,M,h3,J,L):=z;show%[12,l,r,rb,rb,aw h1 M,J|λi q1 q2=>L i (by simp_all;lia) q2]
  .intro c B z;let(l,r,rfl,rfl,h1,J,L):=z
   (try conv=>arg 5;dsimp -zeta only)
   let Y:lo+k<(arrOf B).E:=ye;calc be ?_;show wpS _ _ _ _ (moveDown' (lo+k)<|lo+l) _ _;rw[moveDown'_eq];calc vS<|bz %[rb,G.arr (bubble_perm _ _ _) λt ht=>?_|?_];.rw[getElem?_bubble Y _ (nS _ _),ŀ (by rw[jn ye];lia),ŀ (by rw[jn ye];lia)]
   .rw[sq N];intro i j D hj;let kb:∀t,t<=k->KK K (bubble (arrOf B) (lo+k)<|lo+k-(lo+l)) (lo+t)=if t=l then KK K (arrOf B) (lo+k) else if l<t then KK K (arrOf B) (lo+(t-1)) else KK K (arrOf B) (lo+t):=λt ht=>by
     rw[KK_bubble Y (nS _ _)];by_cases q1:t=l;.rw[Ŀ (by rw[jn ye];lia),Ŀ q1]
     .rw[ŀ (by rw[jn ye];lia),ŀ q1];by_cases q2:l<t;.rw[Ŀ (by rw[jn ye];lia),Ŀ q2,show lo+t-1=lo+(t-1) from gg ye]
      .rw[ŀ (by rw[jn ye];lia),ŀ q2]
    rw[kb i ye,kb j (eD hj)];by_cases i1:i=l
    .rw[Ŀ i1];by_cases O:j=l;.rw[Ŀ O];show kD _
     .rw[ŀ O,Ŀ ye];show eI<|L (j-1) (fe ye)<|b6 ye ye
    .rw[ŀ i1];by_cases i2:l<i
     .rw[Ŀ i2,ŀ ye,Ŀ (bq i2 D)];show F _ _ (se D _)<|b6 ye ye
     .rw[ŀ i2];by_cases O:j=l;.rw[Ŀ O];show J i ye
      .rw[ŀ O];by_cases j2:l<j;.rw[Ŀ j2];show F _ _ (fg ye)<|b6 ye ye
       .rw[ŀ j2];show F _ _ D ye
 .intro c q z;let(rfl,G,F):=z;refine%[rb,G|?_]
  rwa [show min (max (max ok 1) n) n=n by lia]at F
 .intro i j D hj;by_cases z:ok=0
  .obtain rfl:i=j:=by lia
   show kD _
  .show hs i j D ye
 .intro c q z;let(rfl,G,F):=z;show bz<|h _ G F
def Cg {i j:ĵ}{st:ņ}{Q:ť->ņ->Prop}(h:Q () (setArr st<|mirror (arrOf st) i j<|(j-i)/2)):wpS (ł prog w) A E s ((sortPriv% PySem.Builtin.reverseSlice) i j) Q st:=by show wpS _ _ _ _ (reverseSlice' i j) _ _;show vS h
def SG.rev {st0 st:ņ}{lo hi i j:ĵ}(g:SG st0 st lo hi)(h1:lo<=i)(B:j<=hi)(q:j<=(arrOf st).E):SG st0 (setArr st<|mirror (arrOf st) i j<|(j-i)/2) lo hi:=g.arr (mirror_perm _ _ _ _) λt D=>by rw[getElem?_mirror_all q,ŀ ye]
def Zt {lo m:ĵ}(h1:1<=m)(h:lQ K xs lo m)(q:K.ģ (KK K xs<|lo+(m-1)) (KK K xs<|lo+m)):lQ K xs lo (m+1):=λi j B D=>by
 rcases fv j m with z|z;.show h i j B z
 .obtain rfl:j=m:=by lia
  rcases fv i j with y|y;.show dA (h i (j-1) (fe y)<|xA (fR (b5 _) y) Nat.one_pos) q
  .obtain rfl:i=j:=by lia
   show kD _
def Mv {lo n D:ĵ}{st:ņ}{f:ĵ->(ĸ (ĸ ĵ)×ĵ)->ŧ ņ Sem (ű<|ĸ (ĸ ĵ)×ĵ)}(J:1<=D)(M:D<=n)(L:lQ K (arrOf st) lo D)(hf:∀x m (Q':ű (ĸ (ĸ ĵ)×ĵ)->ņ->Prop),1<=m->m<n->(K.blt (KK K (arrOf st)<|lo+m) (KK K (arrOf st)<|lo+m-1)=ķ->Q' (.done (ĺ,m)) st)->(K.blt (KK K (arrOf st)<|lo+m) (KK K (arrOf st)<|lo+m-1)=false->Q' (.yield (none,m+1)) st)->wpS (model prog w) A E s (f x (none,m)) Q' st):wpS (model prog w) A E s (forIn [D:n] ((none:Option (Option Nat)),D) f) (λc st'=>st'=st/\∃m,c=(ĺ,m)/\1<=m/\m<=n/\lQ K (arrOf st) lo m/\(m=n\/K.klt (KK K (arrOf st)<|lo+m) (KK K (arrOf st)<|lo+m-1))) st:=by
 refine gy (I:=λ(x:ĵ) (c:ĸ (ĸ ĵ)×ĵ) (st':ņ)=>st'=st/\c=(ĺ,x)/\1<=x/\lQ K (arrOf st) lo x) ?_ ?_ %[rb,rb,J|L]
 .intro x c F h1 G z;let(rfl,rfl,q,B):=z;refine hf x x _ q G (λe=>%[44,rb,x,rb,q,ax G,B|.Ó e]) λe=>%[rb,rb,ye|Zt q B ?_]
  rw[show lo+(x-1)=lo+x-1 by lia];show e
 .intro c F z;let(rfl,rfl,q,B):=z;rw[Nat.max_eq_right M]at q B ⊢;show%[44,rb,n,rb,q,ah _,B|.Â rb]
def yg (K:PyProof.â.KeyKind)(xs:Ņ ň)(lo n:ĵ):Prop:=∀i j,i<=j->j<n->K.ģ (KK K xs<|lo+j) (KK K xs<|lo+i)
def Ci {lo m:ĵ}(h1:1<=m)(h:yg K xs lo m)(q:K.ģ (KK K xs<|lo+m) (KK K xs<|lo+m-1)):yg K xs lo (m+1):=λi j B D=>by
 rcases fv j m with z|z;.show h i j B z
 .obtain rfl:j=m:=by lia
  rcases fv i j with y|y
  .have:=h i (j-1) ye ye;rw[show lo+(j-1)=lo+j-1 by lia]at this;show dA q this
  .obtain rfl:i=j:=by lia
   show kD _
def Wv {lo n:ĵ}{st:ņ}{Q:ĸ ĵ->ņ->Prop}(hO:jP prog w A s K kn)(hk:kindOf st=kn)(L:ŕ K (arrOf st))(hn:lo+n<=(arrOf st).E)(n1:1<=n)(h:∀st' m,SG st st' lo (lo+n)->1<=m->m<=n->lQ K (arrOf st') lo m->Q (ĳ m) st'):wpS (ł prog w) A E s ((sortPriv% PySem.Builtin.countRun) lo n) Q st:=by
 let one:∀xs,lQ K xs lo 1:=λxs i j h1 O=>by
  obtain rfl:i=j:=by lia
  show kD _
 (try conv=>arg 5;dsimp -zeta only)
 refine be<|lv (Mv (K:=K) (ah 1) n1 (one _) ?_) ?_
 .intro x m Q' h1 O q1 q2
  (try conv=>arg 5;dsimp -zeta only)
  refine be<|tG hO hk L ye (jS ye) ?_
  (try conv=>arg 5;dsimp -zeta only)
  cases e:K.blt (KK K (arrOf st)<|lo+m) (KK K (arrOf st)<|lo+m-1) with| true=>calc bF rb ?_;show bz<|q1 e| false=>calc bA yf ?_;show bz<|q2 e
 intro c B z;let(rfl,m,rfl,h1,O,u1,h3):=z
 (try conv=>arg 5;dsimp -zeta only)
 by_cases z:m=n
 .calc bF (by simpa using z) ?_;show bz<|h _ _ SG.Ğ h1 O u1
 calc bA (by simpa using z) ?_;let Jy:K.klt (KK K (arrOf B)<|lo+m) (KK K (arrOf B)<|lo+m-1):=h3.resolve_left z
 extract_lets -underBinder +onlyGivenNames jp
 let hJ:∀M,SG B M lo (lo+n)->yg K (arrOf M) lo (m+1)->wpS (ł prog w) A E s (jp ()) Q M:=by
  intro M g2 d2
  (try conv=>arg 5;dsimp -zeta only)
  refine be<|wpS_lift<|gL %[rb|?_]
  (try conv=>arg 5;dsimp -zeta only)
  refine be (lv (gy (I:=λ(x:ĵ) (c:ĸ (ĸ ĵ)×ĵ×ĵ) (st':ņ)=>∃q,c=(ĺ,x,q)/\SG B st' lo (lo+n)/\yg K (arrOf st') lo x/\q<x/\m+1<=x/\∀t,x-1-q<=t->t<x->KK K (arrOf st') (lo+t)=KK K (arrOf st') (lo+x-1))
   (Q:=λ(c:ĸ (ĸ ĵ)×ĵ×ĵ) (st':ņ)=>∃x q,c=(ĺ,x,q)/\SG B st' lo (lo+n)/\yg K (arrOf st') lo x/\q<x/\m+1<=x/\x<=n/\∀t,x-1-q<=t->t<x->KK K (arrOf st') (lo+t)=KK K (arrOf st') (lo+x-1)) ?_ ?_ %[30,0,rb,g2,d2,ye,ah _|λt q1 q2=>by rw[show lo+t=lo+(m+1)-1 by lia]]) ?_)
  .intro x c D hx1 hx2 z;let(q,rfl,F,N,hq,G,eq):=z;let z3:=F.E
   (try conv=>arg 5;dsimp -zeta only)
   refine be<|tG hO (F.þ.Z hk) (F.keys L) ye (jS ye) ?_
   (try conv=>arg 5;dsimp -zeta only)
   cases e:K.blt (KK K (arrOf D)<|lo+x) (KK K (arrOf D)<|lo+x-1) with
   | true=>
    refine bF rb ?_
    let done:∀Y,SG B Y lo (lo+n)->(∀t,KK K (arrOf Y) t=KK K (arrOf D) t)->∃q,((ĺ:ĸ (ĸ ĵ)),x+1,0)=(ĺ,x+1,q)/\SG B Y lo (lo+n)/\yg K (arrOf Y) lo (x+1)/\q<x+1/\m+1<=x+1/\∀t,x+1-1-q<=t->t<x+1->KK K (arrOf Y) (lo+t)=KK K (arrOf Y) (lo+(x+1)-1):=λY g4 J=>by calc%[30,0,rb,g4,?_,ye,kr G|λt q1 q2=>by rw[show lo+t=lo+(x+1)-1 by lia]];calc Ci ye (λi j q1 q2=>by rw[J,J];show N i j q1 q2) ?_;rw[J,J];show eI e
    by_cases z4:q > 0
    .calc bF z4 ?_;calc be<|Cg ?_;calc bz<|done _ (F.rev (fg ye) ye ye) λt=>?_;show KK_mirror_equal ye (λu q1 q2=>by have:=eq (u-lo) (by lia) ye;rw[show lo+(u-lo)=u by lia]at this;show this) t
    .calc bA z4 ?_;show bz<|done _ F λt=>rfl
   | false=>
    calc bA yf ?_;refine be<|tG hO (F.þ.Z hk) (F.keys L) (jS ye) ye ?_
    (try conv=>arg 5;dsimp -zeta only)
    cases e2:K.blt (KK K (arrOf D)<|lo+x-1) (KK K (arrOf D)<|lo+x) with
    | true=>calc bF rb ?_;show bz %[28,x,q,rb,F,N,hq,G,ye|eq]
    | false=>
     calc bA yf ?_;let ek:KK K (arrOf D) (lo+x-1)=KK K (arrOf D) (lo+x):=K.total _ _ e2 e;calc bz %[30,q+1,rb,F,Ci ye N (by rw[ek];show kD _),ui hq,ye|λt q1 q2=>?_];rw[show lo+(x+1)-1=lo+x from rfl];rcases fv t x with y|y;.rw[eq t ye y,ek]
     .rw[show t=x by lia]
  .intro c D z;let(q,rfl,F,N,hq,G,eq):=z;rw[Nat.max_eq_right ye]at N hq G eq ⊢;show%[28,n,q,rb,F,N,hq,G,ah _|eq]
  .intro c D z;let(x,q,rfl,F,N,hq,G,Z,eq):=z;let z3:=F.E
   (try conv=>arg 5;dsimp -zeta only)
   extract_lets -underBinder +onlyGivenNames lr ls n1 nq
   let q2:nq=q:=rfl
   dsimp -zeta only[lr]
   extract_lets -underBinder +onlyGivenNames jp2
   let hJ2:∀Y,SG B Y lo (lo+n)->yg K (arrOf Y) lo x->wpS (ł prog w) A E s (jp2 ()) Q Y:=by
    intro Y g4 d4;let z4:=g4.E
    (try conv=>arg 5;dsimp -zeta only)
    calc be<|Cg ?_;let g5:=g4.rev (i:=lo) (j:=lo+x) (ah _) (pV Z _) ye;let u5:lQ K (arrOf<|setArr Y<|mirror (arrOf Y) lo (lo+x)<|(lo+x-lo)/2) lo x:=λi j q1 q2=>by rw[KK_mirror ye,KK_mirror ye,Ŀ ye,Ŀ (by simp_all),show lo+(lo+x)-1-(lo+i)=lo+(x-1-i) from gg ye,show lo+(lo+x)-1-(lo+j)=lo+(x-1-j) from gg ye];show d4 _ _ (Nat.sub_le_sub_left q1 _)<|jS ye
    generalize setArr Y (mirror (arrOf Y) lo (lo+x)<|(lo+x-lo)/2)=Lh at g5 u5;let z5:=g5.E;refine be<|lv (Mv (K:=K) ye Z u5 ?_) ?_
    .intro y p Q' h1 O q1 q2
     (try conv=>arg 5;dsimp -zeta only)
     refine be<|tG hO (g5.þ.Z hk) (g5.keys L) ye (jS ye) ?_
     (try conv=>arg 5;dsimp -zeta only)
     cases e:K.blt (KK K (arrOf Lh)<|lo+p) (KK K (arrOf Lh)<|lo+p-1) with| true=>calc bF rb ?_;show bz<|q1 e| false=>calc bA yf ?_;show bz<|q2 e
    .intro c st6 z;let(rfl,p,rfl,h1,O,u6,_):=z;show bz<|h _ _ g5 h1 O u6
   by_cases z4:q > 0
   .calc bF z4 ?_;calc be<|Cg ?_;calc hJ2 _ (F.rev (by lia) (pV Z _) ye) λi j q1 q2=>?_;let J:∀t,KK K (mirror (arrOf D) (lo+x-(q+1)) (lo+x)<|(lo+x-(lo+x-(q+1)))/2) t=KK K (arrOf D) t:=KK_mirror_equal ye λu q1 q2=>by
     have:=eq (u-lo) ye ye;rw[show lo+(u-lo)=u by lia]at this;show this
    rw[J,J];show N i j q1 q2
   .calc bA z4 ?_;show hJ2 _ F N
 by_cases z2:m > 1
 .calc bF z2 ?_;refine be<|tG hO hk L ye (jS ye) ?_
  (try conv=>arg 5;dsimp -zeta only)
  cases e:K.blt (KK K (arrOf B) lo) (KK K (arrOf B)<|lo+m-1) with
  | true=>calc bF rb ?_;show bz<|h _ _ SG.Ğ h1 O u1
  | false=>
   calc bA yf ?_;calc be<|Cg ?_;let eqA:∀t,t<m->KK K (arrOf B) (lo+t)=KK K (arrOf B) (lo+m-1):=λt ht=>by let a1:=u1 t (m-1) (fe ht) ye;rw[show lo+(m-1)=lo+m-1 by lia]at a1;show KeyOrd.kle_antisymm a1<|dA (show K.ģ _ _ from e) (u1 0 t ye ht)
   let J:∀t,KK K (mirror (arrOf B) lo (lo+m)<|(lo+m-lo)/2) t=KK K (arrOf B) t:=KK_mirror_equal ye λu q1 q2=>by have:=eqA (u-lo)<|b6 yw yw;rw[show lo+(u-lo)=u from ga q1]at this;show this
   calc hJ _ (SG.Ğ.rev (ah _) (pV O _) ye) ?_;refine Ci h1 (λi j q1 q2=>?_) ?_
   .rw[J,J,eqA i (fR q1 q2),eqA j q2];show kD _
   .rw[J,J];show eI Jy
 .calc bA z2 ?_;obtain rfl:m=1:=by lia
  calc hJ _ SG.Ğ<|Ci h1 (λi j q1 q2=>?_)<|eI Jy;obtain rfl:i=j:=by lia
  show kD _
def gk:ĵ->Ĵ (Ĵ ň)->Ĵ (ĵ×ĵ×ĵ)->Prop
 | _,[],[]=>True
 | o,r::rs,p::ps=>p.1=o/\p.2.1=r.n/\gk (o+r.n) rs ps
 | _,_,_=>False
theorem gk.len:∀{rs:Ĵ (Ĵ ň)} {ps:Ĵ (ĵ×ĵ×ĵ)} {o:ĵ},gk o rs ps->ps.n=rs.n
 | [],[],_,_=>rfl
 | r::rs,p::ps,o,h=>by rw[bX,bX,gk.Ċ h.2.2]
theorem gk.app:∀{F G:Ĵ (Ĵ ň)} {f g:Ĵ (ĵ×ĵ×ĵ)} {o:ĵ},gk o F f->gk (o+F.Ì.n) G g->gk o (F++G) (f++g)
 | [],G,[],g,o,_,h=>by simpa using h
 | r::F,G,p::f,g,o,h1,h2=>%[h1.1,h1.2.1|gk.app h1.2.2 (by rw[gd,ay]at h2;rw[qo];show h2)]
theorem gk.split:∀{F G:Ĵ (Ĵ ň)} {ps:Ĵ (ĵ×ĵ×ĵ)} {o:ĵ},gk o (F++G) ps->∃f g,ps=f++g/\f.n=F.n/\gk o F f/\gk (o+F.Ì.n) G g
 | [],G,ps,o,h=>%[4,[],ps,rb,rb,trivial|by simpa using h]
 | r::F,G,p::ps,o,h=>by let(f,g,e,l,h1,q):=gk.split (F:=F) (G:=G) h.2.2;calc%[4,p::f,g,by rw[e];rfl,by simp[l],%[h.1,h.2.1|h1]|?_];rw[gd,ay];rw[qo]at q;show q
structure gn (K:PyProof.â.KeyKind)(kn:Ť)(a0:Ĵ ň)(st:ņ)(rs:Ĵ (Ĵ ň))(rest:Ĵ ň):Prop where
 kind:kindOf st=kn
 fail:failedOf st=ĺ
 keys:ŕ K (arrOf st)
 perm:(arrOf st).I.ú a0
 arr:(arrOf st).I=rs.Ì++rest
 pend:gk 0 rs (pendingOf st).I
 up:∀r∈rs,r.Ä (kL K)
 ne:∀r∈rs,r≠[]
def keys_perm {a b:Ņ ň}(p:a.I.ú b.I)(h:ŕ K b):ŕ K a:=λx hx=>h x (p.õ.mp hx)
def yX {a0:Ĵ ň}{i:ĵ}{st:ņ}{F G:Ĵ (Ĵ ň)}{X Y rest:Ĵ ň}{Q:œ->ņ->Prop}(hO:jP prog w A s K kn)(R:gn K kn a0 st (F++X::Y::G) rest)(hi:F.n=i)(h:∀st' Z,gn K kn a0 st' (F++Z::G) rest->Q ķ st'):wpS (ł prog w) A E s ((sortPriv% PySem.Builtin.mergeAt) i) Q st:=by
 subst hi;let(f,g,ep,lf,h1,h2):=R.pend.split;obtain⟨p,q,g',rfl⟩:∃p q g',g=p::q::g':=by
  match g,h2 with| p::q::g',_=>show%[9,p,q,g'|rb]
 let(O,pb,pc):=p;let(qa,J,qc):=q;let(e1,D,e3,L,M):=h2;let D:pb=X.n:=D;let L:J=Y.n:=L;let nX:0<X.n:=qf.Û<|R.ne X yf;let nY:0<Y.n:=qf.Û<|R.ne Y yf;let N:(pendingOf st)[F.n]?=ĳ (O,pb,pc):=by rw[<-cq,ep,<-lf];simp
 let at2:(pendingOf st)[F.n+1]?=ĳ (qa,J,qc):=by rw[<-cq,ep,<-lf,dC ye];simp
 calc Pu (Pl:=F.flatten) (X:=X) (Y:=Y) (Sl:=G.Ì++rest) hO R.þ R.fail R.keys N at2 (by rw[R.arr];simp) ye D.Ù L.Ù (by simp_all) (by simp_all) ye (R.up X yf) (R.up Y yf) λst' Z k1 k2 k3 k4 B k6=>?_;let pm:(arrOf st').I.ú (arrOf st).I:=by rw[k4,R.arr];simp only[wv,gd,bt];calc mB _ ?_;rw[<-bt X];show B.append_right _
 refine h st' Z %[k1.Z R.þ,k2,keys_perm pm R.keys,pm.Z R.perm,by rw[k4];simp,?_,λr hr=>?_|λr hr=>?_]
 .let e5:(pendingOf st').I=f++(O,pb+J,pc)::g':=by
   rw[k3,Array.toList_eraseIdxIfInBounds,xh,ep,<-lf];rw[List.set_append_right _ _ (ah _),List.eraseIdx_append_of_length_le ye];simp
  rw[e5];refine gk.app h1 %[e1,?_|?_]
  .show pb+J=Z.n;rw[B.length_eq,D,L,ay]
  .rw[B.length_eq,ay,<-qo];show M
 .rcases a7.mp hr with z|z;.show R.up r (by simp[z])
  .rcases a_.mp z with z|z;.rw[z];show k6
   .show R.up r (by simp[z])
 .rcases a7.mp hr with z|z;.show R.ne r (by simp[z])
  .rcases a_.mp z with z|z
   .rw[z];intro y;simp_all
   .show R.ne r (by simp[z])
def Zu {W:Type}{l:Ĵ W}(h:2<=l.n):∃F x y,l=F++[x,y]:=by
 calc%[9,l.Å<|l.n-2,l[l.n-2],l[l.n-1]|?_];let q:l.Î (l.n-2)=[l[l.n-2],l[l.n-1]]:=by rw[jX (show l.n-2<l.n by lia),jX (show l.n-2+1<l.n by simp_all +arith),List.drop_eq_nil_of_le (by simp_all +arith)];congr 2;congr 1;lia
 rw[<-q,dm]
def oM {rs:Ĵ (Ĵ ň)}(h:∀r∈rs,r≠[]):rs.n<=rs.Ì.n:=by
 induction rs with| nil=>simp| cons r rs ih=>have h1:=qf.Û<|h r aS;let q:=ih λx hx=>h x<|aE _ hx;rw[bX,gd,ay];lia
def Rf {H W:Type}{J:H->ŧ ņ Sem W}{C:H->ņ->Prop}{m:ŧ ņ Sem W}{R:W->ņ->Prop}{st:ņ}(h1:∀o st',C o st'->wpS (ł prog w) A E s (J o) R st')(q:(∀o st',C o st'->wpS (ł prog w) A E s (J o) R st')->wpS (ł prog w) A E s m R st):wpS (ł prog w) A E s m R st:=q h1
theorem gk.congr:∀{rs:Ĵ (Ĵ ň)} {ps B:Ĵ (ĵ×ĵ×ĵ)} {o:ĵ},gk o rs ps->B.Q (λp=>(p.1,p.2.1))=ps.Q (λp=>(p.1,p.2.1))->gk o rs B
 | [],[],[],_,_,_=>trivial
 | [],[],_::_,_,_,e=>by simp at e
 | r::rs,p::ps,[],_,_,e=>by simp at e
 | r::rs,p::ps,q::B,o,h,e=>by rw[b7,b7]at e;injection e with e1 e2;injection e1 with e3 e4;show%[e3.Z h.1,e4.Z h.2.1|gk.congr h.2.2 e2]
def gn.len {a0:Ĵ ň}{st:ņ}{rs:Ĵ (Ĵ ň)}{rest:Ĵ ň}(R:gn K kn a0 st rs rest):rs.Ì.n+rest.n=a0.n:=by rw[<-R.perm.length_eq,R.arr,ay]
def gn.size {a0:Ĵ ň}{st:ņ}{rs:Ĵ (Ĵ ň)}{rest:Ĵ ň}(R:gn K kn a0 st rs rest):(arrOf st).E=a0.n:=by rw[<-R.perm.length_eq,bo]
def gn.seg {a0:Ĵ ň}{st st':ņ}{rs:Ĵ (Ĵ ň)}{rest:Ĵ ň}{n hi:ĵ}(R:gn K kn a0 st rs rest)(g:SG st st' rs.Ì.n hi)(u:lQ K (arrOf st') rs.Ì.n n)(hn:n<=rest.n):∃B J,B.n=n/\B.Ä (kL K)/\gn K kn a0 st' rs (B++J):=by
 let z:=R.E;let z':=g.E;let M:=R.Ċ;let L:(arrOf st').I.Å rs.Ì.n=rs.Ì:=by
  apply ic;intro t;rcases fv t rs.Ì.n with y|y;.rw[oP y,cq,g.ã t (.Â y),<-cq,R.arr,fc y]
  .rw[c9 (by rw[a8];lia),c9 y]
 let pm:(arrOf st').I.ú (arrOf st).I:=xi.mp g.perm;calc%[1,((arrOf st').I.Î rs.Ì.n).Å n,((arrOf st').I.Î rs.Ì.n).Î n,?_,?_|%[g.þ.Z R.þ,g.fail.Z R.fail,keys_perm pm R.keys,pm.Z R.perm,?_,by rw[g.pend];show R.pend,R.up|R.ne]];.rw[a8,cn,bo];lia
 .rw[gm];intro i j hi G F;let D:j<n:=by simp at G;lia
  let q:rs.Ì.n+j<(arrOf st').E:=by lia
  have:=u i j (ax F) D;rw[yc (show rs.Ì.n+i<(arrOf st').E by lia),yc q]at this;show K.ģ _ _;simpa using this
 .rw[dm]
  conv=>lhs;rw[<-dm rs.Ì.n (arrOf st').I]
  rw[L]
def abP {c:Prop} [Ŭ c] (h1:a+1<n)(q:b+1<n):(if c then a else b)+1<n:=by split <;> assumption
def HS {a0:Ĵ ň}{i:ĵ}{st:ņ}{rs:Ĵ (Ĵ ň)}{rest:Ĵ ň}{Q:œ->ņ->Prop}(O:jP prog w A s K kn)(R:gn K kn a0 st rs rest)(hi:i+1<rs.n)(h:∀st' q,gn K kn a0 st' q rest->q.n+1=rs.n->Q ķ st'):wpS (ł prog w) A E s ((sortPriv% PySem.Builtin.mergeAt) i) Q st:=by
 let e:rs=rs.Å i++rs[i]::rs[i+1]::rs.Î (i+2):=by rw[<-jX hi,<-jX (show i<rs.n by lia),dm]
 let R':=R;rw[e]at R';calc yX O R' (by rw[a8];lia) λB Z D=>h B _ D ?_;rw[ay,a8,bX,cn];lia
def Zv {st:ņ}{Q:ť->ņ->Prop}(hO:jP prog w A s K kn)(hk:kindOf st=kn)(hf:failedOf st=ĺ)(hp:pendingOf st=#[])(hks:ŕ K (arrOf st))(h:∀st',failedOf st'=ĺ->(arrOf st').I.ú (arrOf st).I->(arrOf st').I.Ä (kL K)->Q () st'):wpS (ł prog w) A E s (sortPriv% PySem.Builtin.sortRuns) Q st:=by
 obtain⟨N,hN⟩:∃N,(arrOf st).E=N:=%[_|rb]
 let hl:(arrOf st).I.n=N:=by rw[bo,hN]
 let R0:gn K kn (arrOf st).I st [] (arrOf st).I:=%[hk,hf,hks,wP _,yf,by rw[hp];trivial,λr h=>by simp at h|λr h=>by simp at h]
 generalize (arrOf st).I=a0 at hl R0 h;refine be<|tm ?_
 (try conv=>arg 5;dsimp -zeta only)
 rw[hN];refine be (lv (gy (I:=λ(x:ĵ) (c:ĸ ť×ĵ) (st':ņ)=>∃rs rest,c=(ĺ,rs.Ì.n)/\gn K kn a0 st' rs rest/\(x<=rs.Ì.n\/rest=[]))
  (Q:=λ(c:ĸ ť×ĵ) (st':ņ)=>∃rs l,c=(ĺ,l)/\gn K kn a0 st' rs []) ?_ ?_ %[1,[],a0,rb,R0|.Â yf]) ?_)
 .intro x c st1 _ hx z;let(rs,rest,rfl,R,hpr):=z;let ln:=R.Ċ
  (try conv=>arg 5;dsimp -zeta only)
  by_cases z:rs.Ì.n>=N
  .calc bF z ?_;obtain rfl:rest=[]:=nB.mp ye;show bz %[3,rs,_,rb|R]
  calc bA z ?_;let zZ:x<=rs.Ì.n:=by
   rcases hpr with y|y;.show y
   .rw[y,om]at ln;lia
  let zs:=R.E;refine be<|Wv hO R.þ R.keys (show rs.Ì.n+(N-rs.Ì.n)<=(arrOf st1).E by grind) (fg ye) λM m g2 m1 m2 u2=>?_
  (try conv=>arg 5;dsimp -zeta only)
  extract_lets -underBinder +onlyGivenNames nn jp
  refine Rf (J:=λn:ĵ=>jp () n) (C:=λn O=>SG st1 O rs.Ì.n (rs.Ì.n+(N-rs.Ì.n))/\lQ K (arrOf O) rs.Ì.n n/\1<=n/\n<=N-rs.Ì.n) (λn O hc=>?_) λhJ=>?_
  .let(g3,u3,n1,n2):=hc;let(sg,Cj,ls,us,R3):=R.seg g3 u3 ye
   (try conv=>arg 5;dsimp -zeta only)
   refine be<|tm ?_
   (try conv=>arg 5;dsimp -zeta only)
   extract_lets -underBinder +onlyGivenNames jp2
   refine Rf (J:=λ_:ť=>jp2 ()) (C:=λ_ L=>∃B,gn K kn a0 L B (sg++Cj)/\B.Ì.n=rs.Ì.n) (λ_ L hc=>?_) λhJ=>?_
   .let(B,D,l4):=hc
    (try conv=>arg 5;dsimp -zeta only)
    refine be<|vS<|bz %[1,B++[sg],Cj,?_,%[D.þ,D.fail,D.keys,D.perm,?_,?_,λr hr=>?_|λr hr=>?_]|.Â ?_]
    .simp[ls,l4]
    .rw[D.arr];simp
    .rw[ib];show gk.app D.pend %[by rw[l4];simp,ls.Ù|trivial]
    .rcases a7.mp hr with y|y;.show D.up r y
     .rw[av.mp y];show us
    .rcases a7.mp hr with y|y;.show D.ne r y
     .rw[av.mp y];intro q;rw[q]at ls;simp at ls;lia
    .rw[wv,ay,gd,List.flatten_nil,dS,l4,ls];grind
   .cases hb:(pendingOf O).back? with
    | none=>
     (try conv=>arg 5;dsimp -zeta only)
     show hJ () O %[0,rs,R3|rb]
    | some v=>
     let(v1,v2,v3):=v
     (try conv=>arg 5;dsimp -zeta only)
     refine be (lv (gy (I:=λ(y:ĵ) (c:ĸ ť×ť) (st':ņ)=>c=(ĺ,())/\∃B,gn K kn a0 st' B (sg++Cj)/\B.Ì.n=rs.Ì.n)
      (Q:=λ(c:ĸ ť×ť) (st':ņ)=>c=(ĺ,())/\∃B,gn K kn a0 st' B (sg++Cj)/\B.Ì.n=rs.Ì.n) ?_ ?_ %[14,rb,rs,R3|rb]) ?_)
     .intro y c L _ hy z;let(rfl,B,D,l4):=z;refine be<|tm ?_
      dsimp only
      let lp:(pendingOf L).E=B.n:=by show D.pend.Ċ
      by_cases z4:(pendingOf L).E > 1
      .rw[Ŀ z4];let(F,X,Y,rfl):=Zu (show 2<=B.n by lia);let lF:(pendingOf L).E=F.n+2:=by rw[lp];simp
       rw[b8 (show (pendingOf L).E-2<(pendingOf L).E by simp_all)];generalize (pendingOf L)[(pendingOf L).E-2]=v;let(v4,v5,v6):=v
       (try conv=>arg 5;dsimp -zeta only)
       by_cases z5:v6<=(sortPriv% PySem.Builtin.power) N (2*v1+v2) (2*v1+v2+v2+n) N
       .calc bF z5 ?_;show bz %[14,rb,_,D|l4]
       .calc bA z5 ?_;calc be<|yX hO (F:=F) (G:=[]) D (show F.n=(pendingOf L).E-2 by simp_all) λLh Z R5=>?_;calc bA yf ?_;let l5:=R5.Ċ;let l6:=D.Ċ;show bz %[14,rb,_,R5|ye]
      .rw[ŀ z4]
       (try conv=>arg 5;dsimp -zeta only)
       show bz %[14,rb,_,D|l4]
     .rintro c L hc;show hc
     .intro c L z;let(rfl,B,D,l4):=z
      (try conv=>arg 5;dsimp -zeta only)
      calc be<|vS ?_;calc hJ () _ %[0,B,%[D.þ,D.fail,D.keys,D.perm,D.arr,?_,D.up|D.ne]|l4];calc D.pend.congr ?_;apply ic;intro t;rw[ba,ba,cq,cq];rw[Array.getElem?_modify];split
      .cases(pendingOf L)[t]? <;> rfl
      .rfl
  .by_cases z2:m<(sortPriv% PySem.Builtin.minRun) N N 0
   .calc bF z2 ?_;refine be<|wpS_lift<|gL %[rb|?_]
    (try conv=>arg 5;dsimp -zeta only)
    let z2':=g2.E;calc be<|T8 hO (g2.þ.Z R.þ) (g2.keys R.keys) (by grind) (by grind) u2 λO g3 u3=>?_;refine bA yf ?_
    (try conv=>arg 5;dsimp -zeta only)
    refine hJ _ O %[%[g3.þ.Z g2.þ,g3.fail.Z g2.fail,g3.pend.Z g2.pend,g3.perm.Z g2.perm|λt ht=>(g3.ã t (by grind)).Z<|g2.ã t ht],u3,by calc aw (by assumption) ?_;lia|on _ _]
   .calc bA z2 ?_;show hJ m M %[g2,u2,m1|m2]
 .intro c st1 z;let(rs,rest,rfl,R,hpr):=z;let ln:=R.Ċ;obtain rfl:rest=[]:=by
   rcases hpr with y|y;.show nB.mp ye
   .show y
  show%[3,rs,_,rb|R]
 .intro c st1 z;let(rs,l,rfl,R):=z
  (try conv=>arg 5;dsimp -zeta only)
  let ln:=R.Ċ;let lr:=oM R.ne;refine be (lv (gy (I:=λ(x:ĵ) (c:ĸ ť×ť) (st':ņ)=>c=(ĺ,())/\∃B,gn K kn a0 st' B []/\(B.n+x<=N\/B.n<=1))
   (Q:=λ(c:ĸ ť×ť) (st':ņ)=>c=(ĺ,())/\∃B,gn K kn a0 st' B []/\B.n<=1) ?_ ?_ %[14,rb,rs,R|.Â (by simp_all)]) ?_)
  .intro x c M _ hx z;let(rfl,B,R2,h2):=z
   (try conv=>arg 5;dsimp -zeta only)
   refine be<|tm ?_
   (try conv=>arg 5;dsimp -zeta only)
   let lp:(pendingOf M).E=B.n:=by show R2.pend.Ċ
   by_cases z:(pendingOf M).E<=1
   .calc bF z ?_;show bz %[14,rb,B,R2|ye]
   refine bA z ?_
   (try conv=>arg 5;dsimp -zeta only)
   let lp':(pendingOf M).E-2+1<B.n:=by simp_all +arith
   calc be<|HS hO R2 ?_ λO rs3 R3 l3=>?_;.show abP (show (pendingOf M).E-2-1+1<B.n by lia) lp'
   .calc bA yf ?_;show bz %[14,rb,_,R3|ye]
  .intro c M z;let(rfl,B,R2,h2):=z;show%[14,rb,B,R2|ye]
  .intro c M z;let(rfl,B,R2,h2):=z;calc bz<|h _ R2.fail R2.perm ?_;rw[R2.arr,dS]
   match B,h2,R2.up with| [],_,_=>show List.Ä.Ü| [r],_,u=>simpa using u r yf
end
end L2
namespace L2
open PySem PySem.Spec PyProof.Rows PySem.W
mutual
inductive qx (K:W.Ê) (H:Hp):ĵ->Ŧ->V->Prop
 | non {n}:qx K H n .ß .ć
 | bl {n} (b:œ):qx K H n (.Ć b) (.bl b)
 | int {n} (i:ļ):qx K H n (.R i) (.R i)
 | str {n} (l:Ĵ ĵ) (h:∀c∈l,c<128):qx K H n (.À<|S l) (.À<|S l)
 | tup {n a ds xs} (h:aM K H a xs) (hs:pI K H n ds xs):qx K H (n+1) (.ğ ds) (.C a)
inductive pI (K:W.Ê) (H:Hp):ĵ->Ĵ Ŧ->Ĵ V->Prop
 | nil {n}:pI K H n [] []
 | cons {n d ds x xs} (h:qx K H n d x) (hs:pI K H n ds xs):pI K H n (d::ds) (x::xs)
end
def qx.lay {K:W.Ê}{n:ĵ}{d:Ŧ}{x:V}(h:qx K H n d x):d.canLay0=ķ/\d.depth<=n/\PyData.eqv d d=ķ:=by
 refine qx.rec (motive_1:=λn d _ _=>d.canLay0=ķ/\d.depth<=n/\PyData.eqv d d=ķ) (motive_2:=λn d _ _=>PyData.canLayAll0 d=ķ/\PyData.depthAll d<=n/\PyData.eqvAll d d=ķ) ?_ (λ_=>?_) (λ_=>?_) (λl h=>?_) (λ_ _ i=>?_) ?_ (λ_ _ a b=>?_) h
 .simp[PyData.canLay0,PyData.depth,PyData.eqv]
 .simp[PyData.canLay0,PyData.depth,PyData.eqv]
 .simp[PyData.canLay0,PyData.depth,PyData.eqv]
 .simp only[PyData.canLay0,PyData.depth,PyData.eqv];show%[QK h,b5 _|yf]
 .simp only[PyData.canLay0,PyData.depth,PyData.eqv];show%[i.1,ja i.2.1|i.2.2]
 .simp[PyData.canLayAll0,PyData.depthAll,PyData.eqvAll]
 simp only[PyData.canLayAll0,PyData.depthAll,PyData.eqvAll,df];show%[%[a.1|b.1],Nat.max_le.Û %[a.2.1|b.2.1],a.2.2|b.2.2]
def qx.fG {K:W.Ê}(st:∀a xs,aM K H a xs->aM K H' a xs){n:ĵ}{d:Ŧ}{x:V}(h:qx K H n d x):qx K H' n d x:=qx.rec (motive_1:=λn d x _=>qx K H' n d x) (motive_2:=λn d x _=>pI K H' n d x) .ć .bl .R .À (λh _ i=>.Ã (st _ _ h) i) .Ü (λ_ _=>.Ð) h
section
variable {X:Cx}
variable {prog:Ň}{w:ŋ}
def qx.reads {ao:AC}{T:St}{H:Hp}{s:Ľ}(I:aL X ao T H s){n:ĵ}{d:Ŧ}{x:V}{u:Ķ}(h:qx X.K H n d x)(r:bL x u):∃as,Ŵ s.H u d as:=by
 refine qx.rec (motive_1:=λ_ d x _=>∀u,bL x u->∃as,Ŵ s.H u d as) (motive_2:=λ_ d x _=>∀u,Vals x u->∃as,ũ s.H u d as) (λu r=>?_) (λb u r=>?_) (λi u r=>?_) (λl h u r=>?_) (λh _ i u r=>?_) (λu r=>?_) (λ_ _ i j u r=>?_) h u r
 .cases r;show%[[]|.ß]
 .cases r;show%[[]|.Ć b]
 .let(t,rfl):=r;show%[[]|.R i t]
 .let(t,rfl):=r;show%[[]|.À _ t]
 .cases r;let(its,F,pl,_):=I.ğ h;let(as,D):=i _ F;let(o,B,q,n,hd):=pl;show%[as|.ğ B q hd (by simpa using D)]
 .cases r;show%[[]|.Ü]
 cases r with| cons q t=>let(as,a):=i _ q;let(bs,b):=j _ t;show%[as++bs|.Ð a b]
inductive wN (prog:Ň) (w:ŋ) (hp:Ō) (u:ĵ):Ĵ Ķ->Ĵ ļ->ĵ->Prop
 | nil:wN prog w hp u [] [] 0
 | cons {v:Ķ} {x:ļ} {d:ĵ} {vs:Ĵ Ķ} {xs:Ĵ ļ} {ds:ĵ} (hv:∀(A:ō) (E:AB) (s:Ľ) (Q:ļ->Ľ->Prop),A.Þ<=u->s.H=hp->Q x {s with toks:=s.Ï+d}->Ł (ł prog w) A (pyHash v) Q E s)
   (t:wN prog w hp u vs xs ds):wN prog w hp u (v::vs) (x::xs) (d+ds)
def Zw {A:ō}{s:Ľ}(Z:A.Þ<cLine)(N:s.H.Á a=ĳ o)(O:o.cls=.È "tuple")(hd:o.ă=.ð its n)(Y:wN prog w s.H (A.Þ+1) its.I hs dr)(q:Q (reduceHash<|Builtin.Ă.tupleHashOf hs) {s with toks:=s.Ï+(dr+1)}):Ł (ł prog w) A (pyHash<|.C a) Q E s:=by
 let G:s.Ā (.C a) "tuple":=%[0,o,N|O]
 first|unfold pyHashByItsType|skip
 first|refine ab<|wpAny_cRoomFor_or (Or.Ó Z) ?_|skip
 calc ab<|qA G rn.Æ ?_;calc ab<|qA G rn.Æ ?_;calc ab<|wpAny_callSpecialIfBoundUnlessNone?_slot G rn<|de rn G F.entry_tuple_hash ?_<|F.args_tuple_hash_1 _;show Ł _ _ (Builtin.Ă.tupleItemsOf (Value.C a) >>= _) _ _ s;calc ab<|iX N hd<|ab ?_;rw[<-sP];refine o6 _ (λrest (b:Ņ ļ) s1=>∃(left:Ĵ ļ) (B J:Nat),hs=b.I++left/\wN prog w s.H (A.Þ+1) rest left J/\B+J=dr/\s1={s with toks:=s.Ï+B}) _ ?_ ?_ _ _ %[8,hs,0,dr,rb,Y,ki _|rb]
 .intro x rest b s1 z;let(left,B,J,D,M,L,rfl):=z;cases M with| @cons v h d vs xs ds hv t=>calc ab<|hv _ _ _ _ (ah _) rb ?_;show af %[8,xs,B+d,ds,by rw[D];simp,t,ye|by simp[qo]]
 .intro b s1 z;let(left,B,J,D,M,L,rfl):=z;cases M;let D:hs=b.I:=by simpa using D
  subst D L;calc wpAny_ret_mkInt ?_;show Ł _ _ (pyHashByItsType.reduced<|Builtin.Ă.tupleHashOf b.I) Q E _;unfold pyHashByItsType.reduced;unfold reduceHash at q;split
  .rename_i z;rw[Ŀ z]at q;show af (by simpa [qo] using q)
  .rename_i z;rw[ŀ z]at q;show ab<|gL<|af (by simpa [qo] using q)
inductive uw (prog:Ň) (w:ŋ) (hp:Ō) (u:ĵ):Ĵ Ķ->Ĵ Ķ->œ->Prop
 | nil:uw prog w hp u [] [] ķ
 | left {y:Ķ} {ys:Ĵ Ķ}:uw prog w hp u [] (y::ys) Ļ
 | right {x:Ķ} {xs:Ĵ Ķ}:uw prog w hp u (x::xs) [] Ļ
 | cons {x y:Ķ} {xs ys:Ĵ Ķ} {b c:œ} (hv:∀(A:ō) (E:AB) (s:Ľ) (Q:œ->Ľ->Prop),A.Þ<=u->s.H=hp->Q b s->Ł (ł prog w) A (eqBool x y) Q E s)
   (t:b=ķ->uw prog w hp u xs ys c) (f:b=Ļ->c=Ļ):uw prog w hp u (x::xs) (y::ys) c
def abQ {A:ō}{s:Ľ}(ha:s.H.Á a=ĳ oa)(J:oa.ă=.ð xs na)(M:s.H.Á b=ĳ ob)(L:ob.cls=.È "tuple")(D:ob.ă=.ð ys nb)(O:uw prog w s.H A.Þ xs.I ys.I c)(q:R (.done<|.ret<|.Ć c) s):Ł (ł prog w) A (Builtin.«tuple.__eq__» %[[.C a,.C b]|[]]) R E s:=by
 let F:s.Ā (.C b) "tuple":=%[0,ob,M|L]
 show Ł _ _ (Ş (Value.C b) (.È "tuple") >>= _) _ _ s;calc ab<|ip F w_ ?_;calc ab<|iX ha J<|ab<|iX M D<|ab ?_;refine o6 _ (λrest r s1=>r.1=ĺ/\s1=s/\∃us vs,rest=List.zip us vs/\uw prog w s.H A.Þ us vs c/\(us.n==vs.n)=(xs.E==ys.E)) _ ?_ ?_ _ _ %[19,rb,rb,_,_,rb,O|yf]
 .rintro⟨u,v⟩ rest r s1 ⟨B,rfl,us,vs,hz,hi,G⟩;cases hi with
  | nil=>simp at hz
  | left=>simp at hz
  | right=>simp at hz
  | @cons x y xs1 ys1 b1 _ hv ht hf=>
   simp only[List.zip_cons_cons,x6,Prod.mk.injEq]at hz;let((rfl,rfl),rfl):=hz;calc ab<|hv _ _ _ _ (ah _) rb ?_;cases b1 with| true=>simp only[eP,a9,if_false];show af %[19,rb,rb,xs1,ys1,rb,ht rb|by simpa using G]| false=>simp only[kU,if_true];rw[hf rfl]at q;show ab<|af<|af<|af q
 .rintro⟨r1,Y⟩ s1 ⟨B,rfl,us,vs,hz,hi,G⟩;subst B;let N:(xs.E==ys.E)=c:=by
   rw[<-G];cases hi with| nil=>rfl| left=>simp| right=>simp| cons=>simp at hz
  calc af ?_;show R (.done<|.ret<|.Ć<|xs.E==ys.E) s1;rw[N];show q
def aeg {A:ō}{s:Ľ}(Y:A.Þ<cLine)(ha:s.H.Á a=ĳ oa)(M:oa.cls=.È "tuple")(G:oa.ă=.ð xs na)(O:s.H.Á b=ĳ ob)(D:ob.cls=.È "tuple")(J:ob.ă=.ð ys nb)(Z:uw prog w s.H (A.Þ+1) xs.I ys.I c)(N:a=b->c=ķ)(q:Q c s):Ł (ł prog w) A (eqBool (.C a)<|.C b) Q E s:=by
 let B:s.Ā (.C a) "tuple":=%[0,oa,ha|M]
 let L:s.Ā (.C b) "tuple":=%[0,ob,O|D]
 unfold eqBool
 try with_reducible refine eK ?_
 by_cases z:(Value.C a==Value.C b)=ķ
 .rw[Ŀ z];let e:a=b:=by have:=eq_of_beq z;injection this
  rw[N e]at q;show ab<|gL<|af q
 .rw[ŀ z];show ab<|og (op:=.Eq) B L F.slot_tuple_eq (de F.slot_tuple_eq B F.entry_tuple_eq (abQ ha G O D J Z ⟨2,_,rb,(λe=>nomatch e),fq q⟩)<|F.args_tuple_eq_2 _ _) Y
def Ww {s:Ľ}(J:s.H.Á a=ĳ o)(L:o.cls=.È "tuple")(hd:o.ă=.ð its n)(M:∀v∈its.I,∀(Q':œ->Ľ->Prop) (E':AB),Q' ķ s->Ł (ł prog w) A (eqIsQuiet d v) Q' E' s)(q:Q ķ s):Ł (ł prog w) A (eqIsQuiet (d+1)<|.C a) Q E s:=by
 let G:s.Ā (.C a) "tuple":=%[0,o,J|L]
 unfold eqIsQuiet;calc ab<|qA G F.slot_tuple_eq.Æ ?_;calc ab<|ip G w_ ?_;calc ab<|iF J hd<|ab ?_;rw[<-sP];refine o6 _ (λrest r s1=>r.1=ĺ/\s1=s/\∀v∈rest,v∈its.I) _ ?_ ?_ _ _ %[rb,rb|λv hv=>hv]
 .intro v rest r s1 z;let(D,rfl,B):=z;calc ab<|M v (B v aS) _ _ ?_;show af %[rb,rb|λx hx=>B x<|aE _ hx]
 .rintro⟨r1,N⟩ s1 ⟨D,rfl,_⟩;subst D;show af q
end
structure fM (prog:Ň)(w:ŋ)(κ:Type) [Ŏ κ] where
 is:Ō->κ->Ķ->Prop
 hash:κ->ļ
 draws:κ->ĵ
 deep:ĵ
 inj:∀{h:Ō} {v:Ķ} {x y:κ},is h x v->is h y v->x=y
 keeps:∀{h h':Ō} {k:κ} {v:Ķ} {d:Ĺ} {o:Obj} {es ep},is h k v->h.Á d=ĳ o->o.ă=.dict es ep->Heap.Ĉ d h h'->is h' k v
 pyHash:∀{A:ō} {E:AB} {s:Ľ} {k:κ} {v:Ķ} {Q:ļ->Ľ->Prop},A.Þ+deep<cLine+1->is s.H k v->Q (hash k) {s with toks:=s.Ï+draws k}->Ł (ł prog w) A (PySem.pyHash v) Q E s
 eqBool:∀{A:ō} {E:AB} {s:Ľ} {x y:κ} {u v:Ķ} {Q:œ->Ľ->Prop},A.Þ+deep<cLine+1->is s.H x u->is s.H y v->Q (ľ<|x=y) s->Ł (ł prog w) A (PySem.eqBool u v) Q E s
 quiet:∀{A:ō} {E:AB} {s:Ľ} {k:κ} {v:Ķ} {Q:œ->Ľ->Prop} (n:ĵ),deep<=n->is s.H k v->Q ķ s->Ł (ł prog w) A (eqIsQuiet n v) Q E s
def qO {prog:Ň}{w:ŋ}{I:Type} [Ŏ I] (knd:KeyKind prog w I):fM prog w I where
 is:=λ_ k v=>knd.is k v=ķ
 hash:=knd.ÿ
 draws:=λ_=>1
 deep:=0
 inj:=λh1 B=>knd.inj _ _ _ h1 B
 keeps:=λh _ _ _=>h
 pyHash:=λ_ h q=>knd.pyHash h q
 eqBool:=λ_ h1 B q=>knd.eqBool h1 B q
 quiet:=λn _ h q=>by rw[PySem.eqIsQuiet_byValue n (knd.byValue _ _ h)];show af q
section
variable {prog:Ň}{w:ŋ}{I I1 I2:Type}[Ŏ I][Ŏ I1][Ŏ I2]
def Wx {h h':Ō}(h1:h.Á a=ĳ o1)(D:o1.ă=.ð its n)(B:h.Á d=ĳ o)(hd:o.ă=.dict es ep)(hs:Heap.Ĉ d h h'):h'.Á a=ĳ o1:=by
 let q:a≠d:=by rintro rfl;rw[h1]at B;cases B;rw[D]at hd;cases hd
 show(hs.2 a q).Z h1
def jY (vk:fM prog w I)(h:Ō):Ĵ I->Ĵ Ķ->Prop
 | [],[]=>True
 | k::ks,v::vs=>vk.is h k v/\jY vk h ks vs
 | _,_=>False
theorem jY.inj {vk:fM prog w I}{h:Ō}:∀{x y:Ĵ I} {vs:Ĵ Ķ},jY vk h x vs->jY vk h y vs->x=y
 | [],[],[],_,_=>rfl
 | [],[],_::_,a,_=>a.elim
 | [],_::_,[],_,b=>b.elim
 | [],_::_,_::_,a,_=>a.elim
 | _::_,[],[],a,_=>a.elim
 | _::_,[],_::_,_,b=>b.elim
 | _::_,_::_,[],a,_=>a.elim
 | _::_,_::_,_::_,a,b=>by rw[vk.inj a.1 b.1,jY.inj a.2 b.2]
theorem jY.keeps {vk:fM prog w I}{h h':Ō}{d:Ĺ}{o:Obj}{es:Ņ ŝ}{ep:ĵ}(q:h.Á d=ĳ o)(hd:o.ă=.dict es ep)(hs:Heap.Ĉ d h h'):∀{x:Ĵ I} {vs:Ĵ Ķ},jY vk h x vs->jY vk h' x vs
 | [],[],_=>trivial
 | _::_,_::_,a=>%[vk.Đ a.1 q hd hs|jY.Đ q hd hs a.2]
theorem jY.hashes {vk:fM prog w I}(q:u+vk.deep<cLine+1):∀{x:Ĵ I} {vs:Ĵ Ķ},jY vk h x vs->wN prog w h u vs (x.Q vk.ÿ) (x.Q vk.draws).sum
 | [],[],_=>.Ü
 | _::_,_::_,a=>by rw[b7,b7,List.sum_cons];show .Ð (λA' E' s' Q' ha hs q'=>vk.pyHash ye (by rw[hs];show a.1) q')<|jY.hashes q a.2
theorem jY.eqs {vk:fM prog w I}(B:u+vk.deep<cLine+1){x y:Ĵ I}{us vs:Ĵ Ķ}(a:jY vk h x us)(b:jY vk h y vs):uw prog w h u us vs (ľ<|x=y):=by
 induction x generalizing y us vs with
 |nil=>
  cases us<;>cases y<;>cases vs<;>try contradiction
  .show .Ü
  .simpa using uw.left
 |cons p x i=>
  cases us<;>cases y<;>cases vs<;>try contradiction
  .simpa using uw.right
  rename_i q y _ _;refine .Ð (b:=ľ (p=q)) (λA' E' s' Q' ha hs q'=>vk.eqBool ye (by rw[hs];show a.1) (by rw[hs];show b.1) q') (λe=>?_) λe=>?_
  .have:=i a.2 b.2;let e:=fI e
   rwa [show ľ (p::x=q::y)=ľ (x=y) from by simp[e]]
  .let e:=qE e;simp[e]
theorem jY.mem {vk:fM prog w I}{h:Ō}:∀{x:Ĵ I} {vs:Ĵ Ķ} {v:Ķ},jY vk h x vs->v∈vs->∃k,vk.is h k v
 | [],[],_,_,hv=>by simp at hv
 | [],_::_,_,a,_=>a.elim
 | _::_,[],_,a,_=>a.elim
 | _::_,_::_,v,a,hv=>by
  rcases a_.mp hv with e|e;.show%[_|by rw[e];show a.1]
  .show jY.mem a.2 e
def tupK (vk:fM prog w I):fM prog w (Ĵ I) where
 is:=λh ks v=>∃(a:Addr) (o:Obj) (n:Nat) (its:Ņ Ķ),v=.C a/\h.Á a=ĳ o/\o.cls=.È "tuple"/\o.ă=.ð its n/\jY vk h ks its.I
 hash:=λks=>reduceHash<|Builtin.Ă.tupleHashOf<|ks.Q vk.ÿ
 draws:=λks=>(ks.Q vk.draws).sum+1
 deep:=vk.deep+1
 inj:=by rintro h v x y ⟨a,o,n,its,rfl,h1,_,F,G⟩ ⟨a',o',n',its',e,B,_,D,J⟩;cases e;rw[h1]at B;cases B;rw[F]at D;injection D with e1 _;subst e1;show G.inj J
 keeps:=by intro h h' k v d o es ep z Y hd hs;let(a,M,n,its,rfl,h1,L,F,G):=z;show%[6,a,M,n,its,rb,Wx h1 F Y hd hs,L,F|G.Đ Y hd hs]
 pyHash:=by intro A E s k v Q hu z q;let(a,M,n,its,rfl,h1,L,F,G):=z;show Zw ye h1 L F (G.hashes ye) q
 eqBool:=by rintro A E s x y u v Q hu ⟨a,M,n,its,rfl,h1,L,F,G⟩ ⟨a',Z,n',its',rfl,B,N,D,J⟩ q;calc aeg (c:=ľ (x=y)) ye h1 L F B N D (G.eqs ye J) ?_ q;rintro rfl;rw[h1]at B;cases B;rw[F]at D;injection D with e1 _;subst e1;show am<|G.inj J
 quiet:=by
  intro A E s k v Q n hn z q;let(a,M,n1,its,rfl,h1,L,F,G):=z;obtain⟨m,rfl⟩:∃m,n=m+1:=%[n-1|ye]
  calc Ww h1 L F (λv hv Q' E' q'=>?_) q;let(k',O):=G.mem hv;show vk.quiet m (eD hn) O q'
def aa3 (vk:fM prog w I)(hd:vk.deep<=8):HeapKind prog w I where
 is:=λh k a=>vk.is h k<|.C a
 hash:=vk.ÿ
 draws:=vk.draws
 room:=λA=>A.Þ+vk.deep<cLine+1
 inj:=λh1 D=>vk.inj h1 D
 keeps:=λh F hd hs=>vk.Đ h F hd hs
 pyHash:=λB h q=>vk.pyHash B h q
 eqBool:=λB h1 D q=>vk.eqBool B h1 D q
 quiet:=λh q=>vk.quiet 8 hd h q
end
structure Kd (P:Ň)(w:ŋ)(κ:Type) [Ŏ κ] where
 vk:fM P w κ
 small:vk.deep<=8
 lies:Hp->Ĺ->κ->Prop
 ok:∀{H:Hp} {h:Ō} {b:Ĺ} {k:κ},gK P w H h->lies H b k->vk.is h k (.C b)
section
variable {I:Type}[Ŏ I]
def Mx:Ĵ (I×Ĺ×V)->Ĵ (I×Ĺ×Ķ)->Prop:=Ř λp q=>p.1=q.1/\p.2.1=q.2.1/\bL p.2.2 q.2.2
def T9 (hf:I->ļ)(a:Ĺ)(ys:Ĵ (I×Ĺ×V)):Ō->Prop:=λh=>ys.n<=Ń/\(a==sysModules)=Ļ/\(ys.Q (·.1)).Ý/\∃xs:Ĵ (I×Ĺ×Ķ),Mx ys xs/\
 ∃o es ep,h.Á a=ĳ o/\o.ExactDict/\o.ă=.dict es ep/\es.I=xs.Q (λx=>(%[hf x.1,.C x.2.1|x.2.2]:ŝ))
def MD (hf:I->ļ)(a:Ĺ)(ys:Ĵ (I×Ĺ×V)):HO:=.ext (T9 hf a ys)
def Eb (ys:Ĵ (I×Ĺ×V))(k:I):ĸ V:=(ys.find? λy=>ľ<|y.1=k).Q (·.2.2)
def Mx.keys {ys:Ĵ (I×Ĺ×V)}{xs:Ĵ (I×Ĺ×Ķ)}(h:Mx ys xs):ys.Q (·.1)=xs.Q (·.1):=by
 induction h with|nil=>rfl|cons h _ i=>rw[b7,b7,h.1,i]
def Mx.length {ys:Ĵ (I×Ĺ×V)}{xs:Ĵ (I×Ĺ×Ķ)}(h:Mx ys xs):ys.n=xs.n:=mf h
def Mx.val {ys:Ĵ (I×Ĺ×V)}{xs:Ĵ (I×Ĺ×Ķ)}(k:I)(h:Mx ys xs):jQ (Eb ys k) ((atKey xs k).Q (·.2)):=by
 induction h with
 |nil=>simp[Eb,atKey,jQ]
 |@cons p q _ _ h t B=>
  unfold Eb atKey at B ⊢;by_cases e:q.1=k
  .let e':p.1=k:=h.1.Z e;simp only[mI,e,e',decide_true,lI];show h.2.2
  .let e':¬p.1=k:=λz=>e<|h.1.Ù.Z z
   simpa only[mI,e,e',decide_false] using B
theorem Mx.snoc {p:I×Ĺ×V}{q:I×Ĺ×Ķ}(h:p.1=q.1/\p.2.1=q.2.1/\bL p.2.2 q.2.2):∀{ys:Ĵ (I×Ĺ×V)} {xs:Ĵ (I×Ĺ×Ķ)},Mx ys xs->Mx (ys++[p]) (xs++[q])
 | _,_,.Ü=>.Ð h .Ü
 | _,_,.Ð a t=>.Ð a (Mx.snoc h t)
def Mx.mem {ys:Ĵ (I×Ĺ×V)}{xs:Ĵ (I×Ĺ×Ķ)}{q:I×Ĺ×Ķ}(h:Mx ys xs)(m:q∈xs):∃p∈ys,p.1=q.1/\p.2.1=q.2.1:=by
 induction h with
 |nil=>cases m
 |cons h t i=>
  rcases a_.mp m with rfl|m;.show%[2,_,aS,h.1|h.2.1]
  .let(p,hp,e):=i m;show%[0,p,aE _ hp|e]
variable {P:Ň}{w:ŋ}{H:Hp}{h:Ō}{a:Ĺ}{hf:I->ļ}{ys:Ĵ (I×Ĺ×V)}
def aa4 (ok:gK P w H h)(e:H a=ĳ (MD hf a ys)):T9 hf a ys h:=(show dg P w H h a (.ext _) from ok a _ e).1
def Wy (m:T9 hf a ys h):dg P w H h a (MD hf a ys):=by let(z,y,n,xs,r,o,es,ep,h1,q,D,B):=m;show%[%[50,z,y,n,xs,r,o,es,ep,h1,q,D|B],%[o|h1]|λG F zq k=>by let(z,y,n,xs,r,o,es,ep,h1,q,D,B):=zq;exact %[50,z,y,n,xs,r,o,es,ep,k _ h1,q,D|B]]
def abR (q:Kd P w I)(ok:gK P w H h)(e:H a=ĳ (MD q.vk.ÿ a ys))(hk:∀y∈ys,q.lies H y.2.1 y.1):ys.n<=Ń/\(a==sysModules)=Ļ/\(ys.Q (·.1)).Ý/\∃xs,Mx ys xs/\h.DictOfH (aa3 q.vk q.small) a xs:=by let(z,y,n,xs,r,o,es,ep,h1,B,F,D):=aa4 ok e;calc%[50,z,y,n,xs,r,o,es,ep,h1,B,F|%[D,λx hx=>?_|by rw[<-r.keys];show n]];let(p,hp,J,G):=r.mem hx;have:=q.ok ok<|hk p hp;rw[J,G]at this;show this
end
section
variable {X:Cx}{C:Type}[Ŏ C]
def Wz {C:Type} [Ŏ C] (hf:C->ļ):TE:=λ_ H Q=>∀p,H p=ĺ->Q (.C p) (upd H p<|MD hf p [])
def Zx (hf:C->ļ):QE X (.Dict [] [] pos) (Wz hf):=⟨λao s T H Q I h=>
 wpAny_Dict_empty %[1,.C s.d,_,I.Ĝ (a:=s.heap.objs.size) (o:=MD hf s.d []) (t':=s.toks) (λ_ _ q=>ag _ q) (ah _)
 <|Wy %[50,b5 _,beq_eq_false_iff_ne.Û<|lS<|bn I.big,oC,[],.Ü,_,#[],0,aT _ rb,%[rb,rb|rb],rb|rb],rb|h _<|I.ê.ä<|ah _]⟩
end
def S5:ĵ->ĵ
 | 0=>0
 | d+1=>5*S5 d+1
theorem FT:∀d,5^d=4*S5 d+1
 | 0=>rfl
 | d+1=>by rw[kK,FT d,S5];lia
theorem Mw (a):∀b,S5 (a+b)=5^a*S5 b+S5 a
 | 0=>by rw[S5,Nat.mul_zero,ki];rfl
 | b+1=>by
  show 5*S5 (a+b)+1=5^a*(5*S5 b+1)+S5 a;let h:=FT a;rw[Mw a b,x9,x9,x_,h];let e:5*((4*S5 a+1)*S5 b)=(4*S5 a+1)*(5*S5 b):=by rw[<-kP,ge 5 (4*S5 a+1),kP]
  lia
def aeh (e):S5 (e+e)=S5 e*(4*S5 e+2):=by
 rw[Mw,FT];have:(4*S5 e+1)*S5 e+S5 e=S5 e*(4*S5 e+1)+S5 e:=by rw[ge]
 rw[this,<-Nat.mul_succ]
theorem WD:∀d,S5 d%2=d%2
 | 0=>rfl
 | d+1=>by have:=WD d;show (5*S5 d+1)%2=(d+1)%2;lia
def Zy (h:2^(k+1) ∣ x*(4*y+2)):2^k ∣ x*(2*y+1):=by
 let(c,q):=h;calc%[c|?_];let e:x*(4*y+2)=2*(x*(2*y+1)):=by rw[show 4*y+2=2*(2*y+1) by lia,<-kP,ge x 2,kP]
 rw[e,kK,ge (2^k) 2,kP]at q;show Nat.eq_of_mul_eq_mul_left yi q
theorem HW:∀{k x y:ĵ},2^k ∣ x*(2*y+1)->2^k ∣ x
 | 0,x,_,_=>by rw[xN];show Nat.one_dvd x
 | k+1,x,y,h=>by
  let q:2 ∣ x*(2*y+1):=Nat.dvd_trans %[2^k|by rw[kK,ge]] h;let hx:x%2=0:=by have:=Nat.mod_eq_zero_of_dvd q;rw[Nat.mul_mod]at this;let B:(2*y+1)%2=1:=yf;rw[B,x_,Nat.mod_mod]at this;show this
  obtain⟨z,rfl⟩:∃z,x=2*z:=%[x/2|ye]
  rw[kK,ge (2^k) 2,kP]at h;have:=Nat.dvd_of_mul_dvd_mul_left yi h;rw[kK,ge (2^k) 2];show Nat.mul_dvd_mul_left 2<|HW this
theorem WK:∀{k d:ĵ},2^k ∣ S5 d->2^k ∣ d
 | 0,d,_=>by rw[xN];show Nat.one_dvd d
 | k+1,d,h=>by
  let q:2 ∣ S5 d:=Nat.dvd_trans %[2^k|by rw[kK,ge]] h;let hd:d%2=0:=by rw[<-WD d];show Nat.mod_eq_zero_of_dvd q
  obtain⟨e,rfl⟩:∃e,d=e+e:=%[d/2|ye]
  rw[aeh]at h;have:=WK<|HW<|Zy h;rw[kK,ge (2^k) 2,show e+e=2*e by lia];show Nat.mul_dvd_mul_left 2 this
def rW (m:ĵ):ĵ->ĵ->ĵ
 | 0,x=>x
 | n+1,x=>rW m n ((x*5+1)%m)
theorem Rg (m):∀n x,rW m n x%m=(5^n*x+S5 n)%m
 | 0,x=>by rw[rW,xN,Nat.one_mul];rfl
 | n+1,x=>by
  rw[rW,Rg m n];let q:5^(n+1)*x+S5 (n+1)=5^n*(x*5+1)+S5 n:=by rw[Mw n 1,x9,x_,kK,ge x 5,kP];show _+(5^n*1+S5 n)=_;lia
  rw[q,Nat.add_mod,Nat.mul_mod,Nat.mod_mod,<-Nat.mul_mod,<-Nat.add_mod]
theorem Mz (hm:0<m):∀n x,x<m->rW m n x<m
 | 0,_,h=>h
 | n+1,_,_=>Mz hm n _ (mm _ hm)
theorem Rh (m):∀a b x,rW m (a+b) x=rW m b (rW m a x)
 | 0,b,x=>by rw[ki];rfl
 | a+1,b,x=>by rw[Nat.succ_add];show Rh m a b _
def Zz (hx:x<2^k)(h:rW (2^k) d x=x):2^k ∣ d:=by
 let hm:=Rg (2^k) d x;rw[h,FT]at hm;let e:(4*S5 d+1)*x+S5 d=x+S5 d*(2*(2*x)+1):=by lia
 rw[e]at hm;let hd:2^k ∣ S5 d*(2*(2*x)+1):=by have:=Nat.sub_mod_eq_zero_of_mod_eq hm.Ù;rw[lh]at this;show Nat.dvd_of_mod_eq_zero this
 show WK<|HW hd
def abS (hx:x<2^k)(ha:a<2^k)(B:b<2^k)(h:rW (2^k) a x=rW (2^k) b x):a=b:=by
 let q:∀a b,a<=b->b<2^k->rW (2^k) a x=rW (2^k) b x->a=b:=by intro a b D B h;let(d,rfl):=Nat.exists_eq_add_of_le D;rw[Rh]at h;have:=Zz (Mz (Nat.two_pow_pos k) a x hx) h.Ù;let hd:d=0:=Nat.eq_zero_of_dvd_of_lt this<|fR (fz _ _) B;lia
 rcases Nat.le_total a b with z|z;.show q a b z B h
 .show(q b a z ha h.Ù).Ù
def aei {l:Ĵ ĵ}(nd:l.Ý)(B:l.n=M)(hs:∀x∈l,x<M)(q:y<M):y∈l:=by
 apply fA;intro hn;have:=(gu.Û %[hn|nd]).Ĩ (l₂:=List.æ M) λx hx=>by
  rcases a_.mp hx with e|e;.rw[e];show bS.Û q
  .show bS.Û<|hs x e
 rw[bX,ej]at this;lia
def abT (hx:x<2^k)(q:y<2^k):∃n,n<2^k/\rW (2^k) n x=y:=by
 have:=aei (c_.Û<|ul.imp_of_mem λ{a b} ha hb hne z=>hne<|abS hx (bS.mp ha) (bS.mp hb) z) (by rw[aa,ej]) (λz hz=>by let(n,_,rfl):=ar.mp hz;show Mz (Nat.two_pow_pos k) n x hx) q
 let(n,hn,e):=ar.mp this;show%[0,n,bS.mp hn|e]
def jw (mask:ĵ):ĵ->ĵ×ĵ->ĵ×ĵ
 | 0,p=>p
 | n+1,p=>jw mask n (SetTable.leap mask p.1 p.2)
theorem Jz (mask):∀a b p,jw mask (a+b) p=jw mask b (jw mask a p)
 | 0,b,p=>by rw[ki];rfl
 | a+1,b,p=>by rw[Nat.succ_add];show Jz mask a b _
theorem FW (mask):∀n p,(jw mask n p).2=p.2/32^n
 | 0,p=>by rw[jw,xN,Nat.div_one]
 | n+1,p=>by rw[jw,FW mask n];show p.2/32/32^n=p.2/32^(n+1);rw[Nat.div_div_eq_div_mul,kK,ge 32]
theorem MJ:∀n p,p.1<=mask->(jw mask n p).1<=mask
 | 0,_,h=>h
 | n+1,p,_=>MJ n _ (eD<|mm _<|mN mask)
theorem FZ (mask):∀n i,jw mask n (i,0)=(rW (mask+1) n i,0)
 | 0,i=>rfl
 | n+1,i=>by
  have:SetTable.leap mask i 0=((i*5+1)%(mask+1),0):=by unfold SetTable.leap;simp
  rw[jw,this,FZ mask n];rfl
def JB (hm:mask+1=2^k)(hi:i<=mask)(hp:p<2^64)(B:y<=mask):∃n,n<=mask+13/\(jw mask n (i,p)).1=y:=by
 let q:(jw mask 13 (i,p)).2=0:=by rw[FW];show Nat.div_eq_of_lt<|bq hp yi
 let D:=MJ (mask:=mask) 13 (i,p) hi;let(n,hn,e):=abT (k:=k) (x:=(jw mask 13 (i,p)).1) (y:=y) ye ye;calc%[0,13+n,ye|?_];rw[Jz,show jw mask 13 (i,p)=((jw mask 13 (i,p)).1,0) from ue rb q,FZ,hm];show e
def stp (t:ő):ĵ->SetTable.Probe->SetTable.Probe
 | 0,p=>p
 | s+1,p=>stp t s (t.advance p)
theorem wO (t):∀a b p,stp t (a+b) p=stp t b (stp t a p)
 | 0,b,p=>by rw[ki];rfl
 | a+1,b,p=>by rw[Nat.succ_add];show wO t a b _
def m8 (t:ő)(q:ĵ×ĵ)(d:ĸ ĵ):SetTable.Probe:={j:=q.1,more:=SetTable.runEnd t.é q.1-q.1,i:=q.1,perturb:=q.2,dummy:=d}
def aej (mask i):SetTable.runEnd mask i-i<=9:=by unfold SetTable.runEnd;split <;> simp
theorem HX (t):∀(m:ĵ) (p:SetTable.Probe),p.more=m->stp t (m+1) p=m8 t (SetTable.leap t.é p.i p.perturb) p.dummy
 | 0,p,h=>by show t.advance p=_;unfold SetTable.advance m8;rw[ŀ ye]
 | m+1,p,h=>by
  show stp t (m+1) (t.advance p)=_;let e:t.advance p={p with j:=p.j+1,more:=p.more-1}:=by unfold SetTable.advance;rw[Ŀ ye]
  rw[e];show HX t m _ (by show p.more-1=m;show gg ye)
theorem JC (t)(d):∀(n:ĵ) (q:ĵ×ĵ),∃s,s<=10*n/\stp t s (m8 t q d)=m8 t (jw t.é n q) d
 | 0,q=>%[0,0,ah _|rb]
 | n+1,q=>by let h1:=HX t _ (m8 t q d) rfl;let(s,hs,e):=JC t d n (SetTable.leap t.é q.1 q.2);let B:(m8 t q d).more<=9:=aej t.é q.1;calc%[0,(m8 t q d).more+1+s,ye|?_];rw[wO,h1];show e
def WL (t:ő)(h):t.ā h=m8 t (SetTable.bits h%(t.é+1),SetTable.bits h) ĺ:=rfl
def Ri (h):SetTable.bits h<2^64:=by
 unfold SetTable.bits;let B:=fS h (show (0:ļ)<2^64 by decide);let D:=Int.toNat_of_nonneg (iP h (show (2^64:ļ)≠0 by decide));let q:(((2:ĵ)^64:ĵ):ļ)=(2^64:ļ):=by decide
 simp_all
def abU {t:ő}(hm:t.é+1=2^k)(h)(q:y<=t.é):∃s,s<=10*(t.é+13)/\(stp t s<|t.ā h).j=y:=by let(n,hn,e):=JB (i:=SetTable.bits h%(t.é+1)) (p:=SetTable.bits h) hm (eD<|mm _<|mN _) (Ri h) q;let(s,hs,es):=JC t ĺ n (SetTable.bits h%(t.é+1),SetTable.bits h);calc%[0,s,ye|?_];rw[WL,es];show e
def JD (t:ő)(p:SetTable.Probe):(t.advance p).dummy=p.dummy:=by unfold SetTable.advance;split <;> rfl
theorem Rj (t : ő)(hs : ĵ -> ļ)(h)(hd : ∀j, t.slot j ≠ .dummy) : ∀(q : ĵ) (p : SetTable.Probe), p.dummy = ĺ -> (∃s, s<q /\ t.slot (stp t s p).j = .empty) ->
    ∃s, s<q /\ (∀s', s'<s -> ∃i, t.slot (stp t s' p).j = .live i /\ hs i ≠ h) /\
      ((t.slot (stp t s p).j = .empty /\ SetTable.probe.go t hs h q p = ĳ (.empty (stp t s p).j ĺ)) \/
       ∃i, t.slot (stp t s p).j = .live i /\ hs i = h /\ SetTable.probe.go t hs h q p = ĳ (.candidate (stp t s p).j i<|stp t (s+1) p))
  | 0, _, _, ⟨_, h, _⟩ => ń h (m4 _)
  | q+1, p, hp, ⟨s, hs1, hs2⟩ => by
    cases e : t.slot p.j with
    | empty => show%[2,0, mN _, λs' z => ń z<|m4 _| .Â %[e| by unfold SetTable.probe.go; rw[e, hp]; rfl]]
    | dummy => show ń e<|hd _
    | live i =>
      by_cases hh : hs i = h
      · refine%[2,0, mN _, λs' z => ń z<|m4 _| .Ó %[2,i, e, hh| ?_]]
        unfold SetTable.probe.go;rw[e];simp only[hh, beq_self_eq_true, if_true];rfl
      · have hne : s ≠ 0 := by
          rintro rfl;have : t.slot p.j = .empty := hs2;rw[e]at this; cases this
        obtain⟨s1, rfl⟩ : ∃s1, s = s1+1 := %[s-1| by lia]
        obtain⟨r, F, D, B⟩ := Rj t hs h hd q (t.advance p) (by rw[JD]; show hp) %[0,s1, eD hs1| hs2];have eg : SetTable.probe.go t hs h (q+1) p = SetTable.probe.go t hs h q (t.advance p) := by
          conv => lhs; unfold SetTable.probe.go
          rw[e];simp[hh]
        refine%[2,r+1, ui F, λs' z => ?_| ?_]
        · cases s' with| zero => show%[0,i, e| hh]| succ s' => show D s' ye
        · rw[eg]
          show B
def yZ (xs:Ĵ ĵ):Prop:=xs.Ä (λa b=>a<b)
def yZ.at_ {xs:Ĵ ĵ}(h:yZ xs){i j a b:ĵ}(q:i<j)(ha:xs[i]?=ĳ a)(B:xs[j]?=ĳ b):a<b:=by let(h1,G):=ap.mp ha;let(D,F):=ap.mp B;have:=gm.mp h i j h1 D q;rw[G,F]at this;show this
structure Blw (xs:Ĵ ĵ)(j k:ĵ):Prop where
 le:k<=xs.n
 lo:∀(i a:ĵ),i<k->xs[i]?=ĳ a->a<j
 hi:∀(i a:ĵ),k<=i->xs[i]?=ĳ a->j<=a
theorem Ec {xs:Ņ ĵ}{j:ĵ}(hs:yZ xs.I):∀(q lo hi:ĵ),lo<=hi->hi<=xs.E->hi-lo<=q->(∀(i a:ĵ),i<lo->xs.I[i]?=ĳ a->a<j)->(∀(i a:ĵ),hi<=i->xs.I[i]?=ĳ a->j<=a)->Blw xs.I j (SetTable.Ę.go xs j q lo hi)
 | 0,lo,hi,h1,h2,h3,h4,h5=>by
  have:lo=hi:=by rw[cy]at *;lia
  subst this;unfold SetTable.below.go;show%[by simpa using h2,h4|h5]
 | q+1,lo,hi,h1,h2,h3,h4,h5=>by
  unfold SetTable.below.go;by_cases z:lo<hi
  .rw[Ŀ z];let hm:(lo+hi)/2<xs.E:=mS ye;let D:xs.I[(lo+hi)/2]?=ĳ (xs.Í ((lo+hi)/2) j):=by
    rw[cq,b8 hm,g9,b8 hm];rfl
   by_cases c:xs.Í ((lo+hi)/2) j<j
   .simp only[c,if_true];calc Ec hs q _ _ (mS ye) h2 (by simp_all;lia) (λi a B ha=>?_) h5;rcases fv i ((lo+hi)/2) with y|y;.have:=hs.č y ha D;show mM this c
    .have:i=(lo+hi)/2:=by lia
     rw[this,D]at ha;cases ha;show c
   .simp only[c,if_false];calc Ec hs q _ _ ye (ax hm) (by simp_all;lia) h4 λi a B ha=>?_;rcases fv ((lo+hi)/2) i with y|y;.have:=hs.č y D ha;lia
    .have:i=(lo+hi)/2:=vE y B;rw[this,D]at ha;cases ha;show kH c
  .rw[ŀ z];have:lo=hi:=by lia
   subst this;show%[by simpa using h2,h4|h5]
def Ed {xs:Ņ ĵ}(hs:yZ xs.I)(j):Blw xs.I j (SetTable.Ę xs j):=
 Ec hs xs.E 0 xs.E (b5 _) (ah _) ye (λi a h=>ń h<|m4 _) (λi a h ha=>by have:=(ap.mp ha).1;rw[bo]at this;lia)
def kh {t:ő}(hs:yZ t.à.I):t.slot j=.live i↔t.à.I[i]?=ĳ j:=by
 let B:=Ed hs j;constructor
 .intro h;unfold SetTable.slot at h;dsimp only at h;split at h
  .rename_i e;cases h;rw[cq];show eq_of_beq e
  .split at h <;> cases h
 .intro h;let hi:SetTable.Ę t.à j=i:=by
   rcases tP (SetTable.Ę t.à j) i with z|z|z
   .let(q,_):=ap.mp h;obtain⟨a,ha⟩:∃a,t.à.I[SetTable.Ę t.à j]?=ĳ a:=%[_|ae<|mM z q]
    let h1:=B.hi _ a (ah _) ha;let D:=hs.č z ha h;lia
   .show z
   .have:=B.lo i j z h;lia
  unfold SetTable.slot;dsimp only;rw[hi,<-cq,h];simp
def yh {t:ő}(hs:yZ t.à.I)(hd:t.dummies=#[]):t.slot j=.empty↔j∉t.à.I:=by
 constructor
 .intro h hm;let(i,hi):=lc hm;rw[(kh hs).Û hi]at h;cases h
 .intro h;cases e:t.slot j with
  | empty=>rfl
  | live i=>show ń (a5<|(kh hs).mp e) h
  | dummy=>
   exfalso;unfold SetTable.slot at e;dsimp only at e;split at e;.cases e
   .split at e
    .rename_i z;unfold SetTable.has at z;rw[hd]at z;simp at z
    .cases e
def T_ {t:ő}(hs:yZ t.à.I)(hd:t.dummies=#[])(j):t.slot j≠.dummy:=by
 intro e;by_cases h:j∈t.à.I
 .let(i,hi):=lc h;rw[(kh hs).Û hi]at e;cases e
 .rw[(yh hs hd).Û h]at e;cases e
def ZC {t t':ő}(h:t.é=t'.é)(p:SetTable.Probe):t.advance p=t'.advance p:=by unfold SetTable.advance;rw[h]
theorem MN {t t':ő}(h:t.é=t'.é):∀s p,stp t s p=stp t' s p
 | 0,_=>rfl
 | s+1,p=>by rw[stp,stp,ZC h,MN h s]
def Ua {t t':ő}(h:t.é=t'.é)(x):t.ā x=t'.ā x:=by unfold SetTable.probeStart;rw[h]
def fW (t:ő)(h:ļ)(s:ĵ):ĵ:=(stp t s<|t.ā h).j
def Ga {t t':ő}(e:t.é=t'.é)(h)(s):fW t h s=fW t' h s:=by unfold fW;rw[Ua e,MN e]
def Way (t:ő)(pl:Ĵ ĵ)(h:ļ)(j:ĵ):Prop:=∃s,fW t h s=j/\∀s',s'<s->fW t h s'∈pl
structure jZ (t:ő)(hs:Ĵ ļ):Prop where
 za:yZ t.à.I
 len:t.à.I.n=hs.n
 MP:t.dummies=#[]
 two:∃k,3<=k/\k<=13/\t.é+1=2^k
 le:∀j∈t.à.I,j<=t.é
 few:hs.n<=t.é
 way:∀(i j:ĵ) (h:ļ),hs[i]?=ĳ h->t.à.I[i]?=ĳ j->Way t t.à.I h j
def lD {I:Type}(xs:Ņ I)(p)(x:I):(SetTable.Į xs p x).I=xs.I.Å p++x::xs.I.Î p:=by unfold SetTable.insertAt;simp[v0,sr];show cw yf
def mF {I:Type}{l:Ĵ I}{p:ĵ}{x:I}(hp:p<=l.n){i:ĵ}{y:I}(h:(l.Å p++x::l.Î p)[i]?=ĳ y):(i<p/\l[i]?=ĳ y)\/(i=p/\y=x)\/(p<i/\l[i-1]?=ĳ y):=by
 let q:(l.Å p).n=p:=by rw[a8];lia
 rcases tP i p with z|z|z
 .rw[fc (by simp[*]),kM,Ŀ z]at h;show .Â %[z|h]
 .rw[dC (by simp[*]),q,z,o0]at h;show .Ó<|.Â %[z|by simpa using h.symm]
 .rw[dC ye,q,show i-p=(i-p-1)+1 by lia,tw,f6,show p+(i-p-1)=i-1 by lia]at h;show .Ó<|.Ó %[z|h]
def abV (hs:yZ xs)(B:Blw xs j p)(hn:j∉xs):yZ (xs.Å p++j::xs.Î p):=by
 unfold yZ;rw[ik,gp];refine%[hs.sublist<|tJ p xs,%[λa ha=>?_|hs.sublist<|lx p xs]|λa ha b q=>?_]
 .let(i,hi):=lc ha;rw[f6]at hi;let h1:=B.hi _ a ye hi;let D:a≠j:=λz=>hn (by rw[<-z];show a5 hi);lia
 .let(i,hi):=lc ha;rw[kM]at hi;split at hi
  .rename_i z;let h1:=B.lo i a z hi;rcases a_.mp q with e|e;.simp_all
   .let(m,hm):=lc e;rw[f6]at hm;have:=B.hi _ b ye hm;show bq h1 this
  .cases hi
def Way.mono {t t':ő}(w:Way t pl h j)(e:t.é=t'.é)(hs:∀x∈pl,x∈pl'):Way t' pl' h j:=by let(s,h1,q):=w;show%[0,s,by rw[<-Ga e];show h1|λs' z=>by rw[<-Ga e];show hs _<|q s' z]
def WM (t:ő)(j):(t.put j).1.à=SetTable.Į t.à (SetTable.Ę t.à j) j:=rfl
def jZ.put (I:jZ t hs)(G:j<=t.é)(hn:j∉t.à.I)(w:Way t t.à.I h j)(hf:hs.n+1<=t.é):jZ (t.put j).1 (hs.Å (SetTable.Ę t.à j)++h::hs.Î (SetTable.Ę t.à j)):=by
 let B:=Ed I.za j;let D:(t.put j).1.à.I=t.à.I.Å (SetTable.Ę t.à j)++j::t.à.I.Î (SetTable.Ę t.à j):=by rw[WM,lD]
 let mem:∀x∈t.à.I,x∈(t.put j).1.à.I:=λx hx=>by
  rw[D];rw[<-dm (SetTable.Ę t.à j) t.à.I]at hx;rcases a7.mp hx with z|z;.show kQ _ z
  .show cS _<|aE _ z
 let q:=B.le;let J:=I.Ċ;refine%[by rw[D];show abV I.za B hn,?_,?_,I.two,λx hx=>?_,?_|λi y g h1 F=>?_]
 .simp only[ay,a8,bX,cn];simp_all
 .show (if SetTable.has t.dummies j=ķ then _ else t.dummies)=#[];rw[I.MP];simp[SetTable.has]
 .rw[D]at hx;rcases a7.mp hx with z|z;.show I.le x<|eL z
  .rcases a_.mp z with z|z;.rw[z];show G
   .show I.le x<|kR z
 .show _<=t.é;simp_all +arith
 .rw[D]at F;rcases mF (by simp_all) h1 with⟨a,b⟩|⟨a,b⟩|⟨a,b⟩
  .rcases mF q F with⟨c,d⟩|⟨c,d⟩|⟨c,d⟩;.show(I.way i y g b d).Ø rb mem
   .lia
   .lia
  .rcases mF q F with⟨c,d⟩|⟨c,d⟩|⟨c,d⟩;.lia
   .rw[b,d];show w.Ø rb mem
   .lia
  .rcases mF q F with⟨c,d⟩|⟨c,d⟩|⟨c,d⟩;.lia
   .lia
   .show(I.way (i-1) y g b d).Ø rb mem
section
variable {P:Ň}{w:ŋ}{T:Type}[Ŏ T]
def kY (vk:fM P w T):Prop:=∀{A:ō} {E:AB} {s:Ľ} {k:T} {v:Ķ} {Q:œ->Ľ->Prop} (n:ĵ),vk.deep<=n->vk.is s.H k v->Q Ļ s->Ł (ł P w) A (ofAClassStatement n v) Q E s
structure Gb (vk:fM P w T)(h:Ō)(es:Ņ (ļ×Ķ))(ks:Ĵ T):Prop where
 len:ks.n=es.I.n
 at_:∀(i:ĵ) e k,es.I[i]?=ĳ e->ks[i]?=ĳ k->vk.is h k e.2/\e.1=vk.ÿ k/\∃b,e.2=.C b
 nd:ks.Ý
def jZ.fits {es:Ņ (ļ×Ķ)}(I:jZ t (es.I.Q (·.1))):t.fits es.E=ķ:=by let h1:=I.Ċ;let q:=I.few;unfold SetTable.fits SetTable.fill;rw[I.MP];simp_all
def jZ.odd (I:jZ t hs):t.gaveWay=Ļ:=by
 let(k,q,_,e):=I.two;obtain⟨m,rfl⟩:∃m,k=m+1:=%[k-1|ye]
 rw[kK]at e;unfold SetTable.gaveWay;have:t.é%2=1:=by lia
 rw[this];rfl
def jZ.hole (I:jZ t hs)(h):∃s,s<=10*(t.é+13)/\fW t h s∉t.à.I:=by
 let h1:=I.Ċ;let F:=I.few;have:∃y,y<=t.é/\y∉t.à.I:=by apply fA;intro hn;have:=(ul (n:=t.é+1)).Ĩ (l₂:=t.place.toList) λy B=>(λy B=>fA λz=>hn %[0,y,B|z]) y (by have:=bS.mp B;show eD this);rw[ej]at this;lia
 let(y,B,hn):=this;let(k,_,_,e):=I.two;let(s,hs,D):=abU e h B;show%[0,s,hs|by unfold fW;rw[D];show hn]
def WR (t)(h)(s):fW t h s<=t.é:=by
 let B:∀s p,p.i<=t.é->p.j+p.more<=t.é->(stp t s p).j<=t.é:=by
  intro s
  induction s with
  | zero=>intro p _ h;show p.j<=t.é;lia
  | succ s ih=>
   intro p h1 D;show (stp t s<|t.advance p).j<=t.é;unfold SetTable.advance;split;.show ih _ h1 (by lia)
   .let q:(SetTable.leap t.é p.i p.perturb).1<=t.é:=eD<|mm _<|mN _;calc ih _ q ?_;show (SetTable.leap t.é p.i p.perturb).1+(SetTable.runEnd t.é (SetTable.leap t.é p.i p.perturb).1-(SetTable.leap t.é p.i p.perturb).1)<=t.é;unfold SetTable.runEnd;split <;> simp_all
 let q:SetTable.bits h%(t.é+1)<=t.é:=eD<|mm _<|mN _;calc B s (t.ā h) q ?_;show SetTable.bits h%(t.é+1)+(SetTable.runEnd t.é (SetTable.bits h%(t.é+1))-SetTable.bits h%(t.é+1))<=t.é;unfold SetTable.runEnd;split <;> simp_all
variable {vk:fM P w T}{A:ō}{E:AB}{s:Ľ}
def abW (F:vk.deep<=8)(J:kY vk){x:Ķ}{k:T}(hx:vk.is s.H k x){q:Ĵ Ķ}(G:∀y∈q,∃k',vk.is s.H k' y){Q:œ->Ľ->Prop}(h:Q Ļ s):Ł (ł P w) A (searchCouldBeSeen x q) Q E s:=by
 calc ab ?_;refine o6 _ (λrest r s'=>s'=s/\r=(ĺ,())/\∀y∈rest,∃k',vk.is s.H k' y) _ ?_ ?_ _ _ %[rb,rb|G]
 .intro y rest r s' z;let(rfl,rfl,L):=z;let(k',D):=L y aS;let B:∀z∈rest,∃k',vk.is s'.H k' z:=λz hz=>L z<|aE _ hz;dsimp only
  split
  all_goals
   split;.show af %[rb,rb|B]
   .calc ab<|vk.quiet 8 F hx ?_;calc ab<|vk.quiet 8 F D ?_;calc ab<|J 8 F hx ?_;calc ab<|J 8 F D ?_;show af %[rb,rb|B]
 .intro r s' z;let(rfl,rfl,_):=z;show af h
theorem Di (jx:vk.deep<=8)(nc:kY vk)(hu:A.Þ+vk.deep<cLine+1)(ho:s.H.Á a=ĳ o)(hd:o.ă=.Ď es ep t)(I:jZ t (es.I.Q (·.1)))(K:Gb vk s.H es ks)(hx:vk.is s.H k x)(h1:k∈ks->Q (.there ĺ) s)(h2:k∉ks->∀j,j<=t.é->j∉t.à.I->Way t t.à.I (vk.ÿ k) j->Q (.Ô j Ļ) s)(he:fW t (vk.ÿ k) e0∉t.à.I)(hel:e0<=10*(t.é+13)):∀(D r:ĵ) (F:ĸ SetTable.Probe),e0-r<D->F.Í (t.ā<|vk.ÿ k)=stp t r (t.ā<|vk.ÿ k)->(∀r',r'<r->fW t (vk.ÿ k) r'∈t.à.I/\∀i:ĵ,t.à.I[i]?=ĳ (fW t (vk.ÿ k) r')->ks[i]?≠ĳ k)->
   Ł (ł P w) A (setSearchFrom a x (vk.ÿ k) ķ D F) Q E s
 | 0,_,_,h,_,_=>ń h (m4 _)
 | D+1,r,F,hf,Gd,hpre=>by
  let hre:r<=e0:=by
   rcases fv e0 r with z|z;.show ń (hpre e0 z).1 he
   .show z
  rw[setSearchFrom];calc ab<|gf ho hd I.fits ?_;dsimp only;rw[I.odd];simp only[a9,if_false];rw[Gd];let hdm:(stp t r<|t.ā<|vk.ÿ k).dummy=ĺ:=by
   have:∀n p,(stp t n p).dummy=p.dummy:=by
    intro n
    induction n with| zero=>intro p;rfl| succ n ih=>intro p;rw[stp,ih,JD]
   rw[this];rfl
  let hw:∀n,(stp t n<|stp t r<|t.ā<|vk.ÿ k).j=fW t (vk.ÿ k) (r+n):=λn=>by unfold fW;rw[wO]
  let(n,hn,hall,hend):=Rj t (λi=>(es[i]?.Q (·.1)).Í 0) (vk.ÿ k) (T_ I.za I.MP) (10*SetTable.turns t.é) _ hdm %[0,e0-r,by unfold SetTable.turns;show jS ye|by rw[hw,show r+(e0-r)=e0 from ga hre];show(yh I.za I.MP).Û he];let zX:∀m,m<n->∃i:Nat,t.à.I[i]?=ĳ (fW t (vk.ÿ k)<|r+m)/\(es[i]?.Q λe:Int×Value=>e.1).Í 0≠vk.ÿ k:=λm hm=>by let(i,N,e2):=hall m hm;rw[hw]at N;show%[0,i,(kh I.za).mp N|e2]
  let iZ:t.à.I.n=ks.n:=by rw[I.len,aa,K.len]
  let Z:∀m,m<r+n->∀i:ĵ,t.à.I[i]?=ĳ (fW t (vk.ÿ k) m)->ks[i]?≠ĳ k:=λm hm i hi hk=>by
   rcases fv m r with z|z;.show(hpre m z).2 i hi hk
   .let(i',N,e2):=zX (m-r) (b6 ye ye);rw[show r+(m-r)=m from ga z]at N;let hii:i=i':=by
     let a1:=(kh I.za).Û hi;rw[(kh I.za).Û N]at a1;cases a1;rfl
    subst hii;obtain⟨e,hes⟩:∃e,es.I[i]?=ĳ e:=%[_|ae (by rw[<-K.len,<-iZ];show(ap.mp hi).1)]
    have:=(K.č i e k hes hk).2.1;rw[<-cq,hes]at e2;show e2 this
  let cJ:∀m,m<r+n->fW t (vk.ÿ k) m∈t.à.I:=λm hm=>by
   rcases fv m r with z|z;.show(hpre m z).1
   .let(i',N,_):=zX (m-r) ye;rw[show r+(m-r)=m by lia]at N;show a5 N
  rw[hw]at hend;rcases hend with⟨J,L⟩|⟨i,J,hhash,L⟩
  .let M:=(yh I.za I.MP).mp J;split
   .rename_i met G;let q:SetTable.probe.go t (λi=>(es[i]?.Q (·.1)).Í 0) (vk.ÿ k) (10*SetTable.turns t.é) (stp t r<|t.ā<|vk.ÿ k)=ĳ met:=G;rw[L]at q;cases q;dsimp only;calc af<|h2 (λhk=>?_) _ (WR t _ _) M %[0,r+n,rb|cJ];let(i0,hi0):=lc hk;let Y:=(ap.mp hi0).1;obtain⟨j0,hj0⟩:∃j,t.à.I[i0]?=ĳ j:=%[_|ae (by simp[*])]
    obtain⟨e,hes⟩:∃e,es.I[i0]?=ĳ e:=%[_|ae (by rw[<-K.len];show Y)]
    let hh:=(K.č i0 e k hes hi0).2.1;let(s0,w1,w2):=I.way i0 j0 (vk.ÿ k) (by rw[ba,hes,<-hh];rfl) hj0;rcases tP s0 (r+n) with z|z|z;.show Z s0 z i0 (by rw[w1];show hj0) hi0
    .rw[z]at w1;show M (by rw[w1];show a5 hj0)
    .show M<|w2 _ z
   .rename_i G;let q:SetTable.probe.go t (λi=>(es[i]?.Q (·.1)).Í 0) (vk.ÿ k) (10*SetTable.turns t.é) (stp t r<|t.ā<|vk.ÿ k)=ĺ:=by
     cases hq:SetTable.probe.go t (λi=>(es[i]?.Q (·.1)).Í 0) (vk.ÿ k) (10*SetTable.turns t.é) (stp t r<|t.ā<|vk.ÿ k) with| none=>rfl| some m=>show ń hq<|G m
    rw[L]at q;cases q
  .let O:=(kh I.za).mp J;let Y:=(ap.mp O).1;obtain⟨e,hes⟩:∃e,es.I[i]?=ĳ e:=%[_|ae (by rw[<-K.len,<-iZ];show Y)]
   obtain⟨k',hk'⟩:∃k',ks[i]?=ĳ k':=%[_|ae (by rw[<-iZ];show Y)]
   let(hy,hh,b,hb):=K.č i e k' hes hk';let Ub:es[i]?=ĳ e:=by rw[<-cq];show hes
   split
   .rename_i met G;let q:SetTable.probe.go t (λi=>(es[i]?.Q (·.1)).Í 0) (vk.ÿ k) (10*SetTable.turns t.é) (stp t r<|t.ā<|vk.ÿ k)=ĳ met:=G;rw[L]at q;cases q;dsimp only;let hsm:t.sameMemory t.moves t.é=ĳ ķ:=by unfold SetTable.sameMemory;simp
    let hr0:r≠e0:=by
     rintro rfl;rcases oj n with z|z
     .rw[z,vT]at O;show he<|a5 O
     .let(i',N,_):=zX 0 z;show he<|a5 N
    let tail:∀B:¬k'=k,Ł (ł P w) A (setSearchFrom a x (vk.ÿ k) ķ D<|ĳ<|stp t (n+1)<|stp t r<|t.ā<|vk.ÿ k) Q E s:=λB=>
     Di jx nc hu ho hd I K hx h1 h2 he hel D (r+n+1) _ (by grind) (by rw[xS,<-wO,qo]) λr' hr'=>by
      rcases fv r' (r+n) with z|z;.show%[cJ r' z|Z r' z]
      .have:r'=r+n:=by lia
       subst this;calc%[a5 O|λi2 hi2=>?_];let hii:i=i2:=by let a1:=(kh I.za).Û hi2;rw[J]at a1;cases a1;rfl
       rw[<-hii,hk'];show λz=>B<|bd z
    let hst:∀y∈List.Q (λx=>x.snd) (Array.ą (λx=>x.fst==vk.ÿ k) es).I,∃k',vk.is s.H k' y:=λy hy=>by
     let(e',he',rfl):=ar.mp hy;let hm:e'∈es.I:=by have:=vj.mp he';rw[Array.mem_filter]at this;show vj.Û this.1
     let(i3,hi3):=lc hm;obtain⟨k3,hk3⟩:∃k3,ks[i3]?=ĳ k3:=%[_|ae (by rw[K.len];show(ap.mp hi3).1)]
     show%[k3|(K.č i3 e' k3 hi3 hk3).1]
    let(eh,ev):=e;let hb:ev=.C b:=hb;subst hb;cases hl:t.led
    .simp only[kU,if_true];calc ab<|abW jx nc hx hst ?_;simp only[a9,if_false];rw[Ub];dsimp only;calc ab<|eK<|vk.eqBool hu hy hx ?_;calc ab<|gf ho hd I.fits ?_;dsimp only;by_cases B:k'=k
     .rw[am B];show af<|h1<|B ▸ a5 hk'
     .rw[al B];simp only[ko,a9,if_false];rw[hsm];simp only[if_true];rw[J];dsimp only;rw[Ub];dsimp only;calc ab<|wpAny_isSame_ref_self ?_;show ab<|af<|tail B
    .simp only[eP,a9,if_false];rw[Ub];dsimp only;calc ab<|eK<|vk.eqBool hu hy hx ?_;calc ab<|gf ho hd I.fits ?_;dsimp only;by_cases B:k'=k
     .rw[am B];show af<|h1<|B ▸ a5 hk'
     .rw[al B];simp only[ko,a9,if_false];rw[hsm];simp only[if_true];rw[J];dsimp only;rw[Ub];dsimp only;calc ab<|wpAny_isSame_ref_self ?_;show ab<|af<|tail B
   .rename_i G;let q:SetTable.probe.go t (λi=>(es[i]?.Q (·.1)).Í 0) (vk.ÿ k) (10*SetTable.turns t.é) (stp t r<|t.ā<|vk.ÿ k)=ĺ:=by
     cases hq:SetTable.probe.go t (λi=>(es[i]?.Q (·.1)).Í 0) (vk.ÿ k) (10*SetTable.turns t.é) (stp t r<|t.ā<|vk.ÿ k) with| none=>rfl| some m=>show ń hq<|G m
    rw[L]at q;cases q
end
def tM (mask:ĵ):ő:={mask:=mask,place:=#[],dummies:=#[],finger:=0,led:=Ļ,moves:=0,plain:=Ļ}
def Taken (ow:Ņ (ĸ ĵ))(j:ĵ):Prop:=(ow.Í j<|ĳ 0).isNone=Ļ
def aek (t:ő)(d):∀(q:ĵ×ĵ) (m:ĵ),m<=SetTable.runEnd t.é q.1-q.1->(stp t m<|m8 t q d).j=q.1+m:=by
 intro q m hm;let B:∀(m:ĵ) (p:SetTable.Probe),m<=p.more->(stp t m p).j=p.j+m:=by
  intro m
  induction m with
  | zero=>intro p _;rfl
  | succ m ih=>
   intro p h;show (stp t m<|t.advance p).j=_;let e:t.advance p={p with j:=p.j+1,more:=p.more-1}:=by unfold SetTable.advance;rw[Ŀ ye]
   rw[e,ih _ (by show xw h)];show p.j+1+m=p.j+(m+1)
   lia
 show B m (m8 t q d) hm
theorem JF (mask)(ow):∀(B:ĵ) (q:ĵ×ĵ),(∃n,n<B/\¬Taken ow (jw mask n q).1)->
  ∃s,SetTable.layClean.Ô mask ow B q.1 q.2=ĳ (stp (tM mask) s<|m8 (tM mask) q ĺ).j/\¬Taken ow (stp (tM mask) s<|m8 (tM mask) q ĺ).j/\∀s',s'<s->Taken ow (stp (tM mask) s'<|m8 (tM mask) q ĺ).j
 | 0,_,⟨_,h,_⟩=>ń h (m4 _)
 | B+1,q,⟨n,hn,hfree⟩=>by
  let N:=aek (tM mask) ĺ q;cases e:(List.æ<|SetTable.runEnd mask q.1+1-q.1).find? λk=>(ow.Í (q.1+k)<|ĳ 0).isNone with
  | some k=>
   let h1:=List.find?_some e;let Y:=bS.mp<|List.mem_of_find?_eq_some e;let hk:k<=SetTable.runEnd mask q.1-q.1:=fg ye;refine%[2,k,?_,?_|λs' G=>?_]
   .unfold SetTable.layClean.free;rw[e,N k hk]
   .rw[N k hk];unfold Taken;rw[h1];decide
   .rw[N s' (aw (ax G) hk)];let(as,bs,el,D):=(List.find?_eq_some_iff_append.mp e).2;let hm:s'∈as:=by
     have:(List.æ<|SetTable.runEnd mask q.1+1-q.1)[s']?=ĳ s':=gN<|mM G Y;let L:(List.æ<|SetTable.runEnd mask q.1+1-q.1)[as.n]?=ĳ k:=by rw[el,dC (ah _),o0];rfl
     let Z:as.n<SetTable.runEnd mask q.1+1-q.1:=by have:=(ap.mp L).1;rwa [ej]at this
     rw[gN Z]at L;let hak:as.n=k:=bd L;rw[el,fc (by simp_all)]at this;show a5 this
    have:=D s' hm;unfold Taken;simpa using this
  | none=>
   let D:=List.find?_eq_none.mp e;let htk:∀m,m<=SetTable.runEnd mask q.1-q.1->q.1<=SetTable.runEnd mask q.1->Taken ow (q.1+m):=λm hm J=>by have:=D m<|bS.Û<|v_ ye;unfold Taken;show kz.Û this
   let J:q.1<=SetTable.runEnd mask q.1:=by unfold SetTable.runEnd;split <;> lia
   let hn0:n≠0:=by rintro rfl;show hfree<|htk 0 (b5 _) J
   obtain⟨O,rfl⟩:∃O,n=O+1:=%[n-1|ye]
   let(s,h1,Y,h3):=JF mask ow B (SetTable.leap mask q.1 q.2) %[0,O,eD hn|hfree];let M:=HX (tM mask) _ (m8 (tM mask) q ĺ) rfl;let F:∀m,stp (tM mask) ((m8 (tM mask) q ĺ).more+1+m) (m8 (tM mask) q ĺ)=stp (tM mask) m (m8 (tM mask) (SetTable.leap mask q.1 q.2) ĺ):=λm=>by rw[wO,M];rfl
   refine%[2,(m8 (tM mask) q ĺ).more+1+s,?_,?_|λs' G=>?_]
   .rw[F,<-h1]
    conv=>lhs;unfold SetTable.layClean.free
    rw[e]
   .rw[F];show Y
   .rcases fv s' ((m8 (tM mask) q ĺ).more+1) with z|z
    .let hm:s'<=SetTable.runEnd mask q.1-q.1:=eD z;rw[N s' hm];show htk s' hm J
    .obtain⟨m,rfl⟩:∃m,s'=(m8 (tM mask) q ĺ).more+1+m:=%[s'-((m8 (tM mask) q ĺ).more+1)|by simp_all]
     rw[F];show h3 m (by simp_all)
structure Own (mask:ĵ)(hs:Ĵ ļ)(ow:Ņ (ĸ ĵ))(pos:ĵ->ĵ):Prop where
 size:ow.E=mask+1
 le:∀i,i<hs.n->pos i<=mask
 at_:∀i,i<hs.n->ow[pos i]?=ĳ (ĳ i)
 only:∀j i:ĵ,ow[j]?=ĳ (ĳ i)->i<hs.n/\j=pos i
 way:∀(i:ĵ) h,hs[i]?=ĳ h->∃s,fW (tM mask) h s=pos i/\∀s',s'<s->∃i',i'<hs.n/\fW (tM mask) h s'=pos i'
def Af {ow:Ņ (ĸ ĵ)}(q:j<ow.E):Taken ow j↔∃i,ow[j]?=ĳ (ĳ i):=by
 unfold Taken;rw[g9,b8 q];cases ow[j] with| none=>simp| some i=>simp
def Own.step (O:Own mask hs ow pos)(hm:mask+1=2^k)(hf:hs.n<=mask)(h):∃j,SetTable.layClean.Ô mask ow (SetTable.turns mask) (SetTable.bits h%(mask+1)) (SetTable.bits h)=ĳ j/\Own mask (hs++[h]) (ow.ï j<|some hs.n) λi=>if i=hs.n then j else pos i:=by
 let hinj:∀a b,a<hs.n->b<hs.n->pos a=pos b->a=b:=λa b ha hb e=>by let h1:=O.č a ha;rw[e,O.č b hb]at h1;show(bd<|bd h1).Ù
 obtain⟨y,J,hny⟩:∃y,y<=mask/\∀i,i<hs.n->pos i≠y:=by apply fA;intro hn;have:=(ul (n:=mask+1)).Ĩ (l₂:=(List.æ hs.n).Q pos) λy J=>(λy J=>fA λz=>hn %[0,y,J|λi hi e=>z<|ar.Û %[0,i,bS.Û hi|e]]) y (by have:=bS.mp J;show eD this);rw[ej,aa,ej]at this;lia
 let(n,hn,en):=JB hm (show SetTable.bits h%(mask+1)<=mask from eD<|mm _<|mN _) (Ri h) J;let hsz:=O.E;let(s,e1,Y,e3):=JF mask ow (SetTable.turns mask) (SetTable.bits h%(mask+1),SetTable.bits h) %[0,n,by unfold SetTable.turns;lia|λz=>by rw[en,Af ye]at z;let(i,hi):=z;let(h1,M):=O.only y i hi;show hny i h1 M.Ù]
 let fY:∀m,(stp (tM mask) m<|m8 (tM mask) (SetTable.bits h%(mask+1),SetTable.bits h) none).j=fW (tM mask) h m:=λm=>rfl;rw[fY]at e1 Y;calc%[0,_,e1|?_];let hjl:fW (tM mask) h s<=mask:=by apply fA;intro z;apply Y;unfold Taken;rw[g9,nN ye];rfl
 let G:∀i,i<hs.n->pos i≠fW (tM mask) h s:=λi hi e=>Y<|(Af ye).Û %[i|by rw[<-e];show O.č i hi];generalize hj:fW (tM mask) h s=j at *
 let B:∀m:ĵ,(ow.ï j<|some hs.n)[m]?=if j=m then some (some hs.n) else ow[m]?:=λm=>by
  rw[Array.getElem?_setIfInBounds];split
  .simp;lia
  .rfl
 refine%[by rw[Array.size_setIfInBounds];show hsz,λi hi=>?_,λi hi=>?_,λm i q=>?_|λi g F=>?_]
 .split;.show hjl
  .show O.le i (by rw[ay]at hi;simp at hi;lia)
 .rw[ay]at hi;simp at hi;rw[B];by_cases z:i=hs.n;.rw[Ŀ z,Ŀ rb,z]
  .rw[ŀ z,ŀ λy=>G i ye y.Ù];show O.č i ye
 .rw[B]at q;rw[ay];split at q
  .rename_i z;have:hs.n=i:=by simpa using q
   subst this;show%[eQ _|by rw[Ŀ rb,z]]
  .let(h1,M):=O.only m i q;show%[hV h1|by rw[ŀ (bn h1)];show M]
 .rcases fv i hs.n with z|z
  .rw[fc z]at F;let(s2,w1,w2):=O.way i g F;calc%[0,s2,by rw[ŀ ye];show w1|λs' D=>?_];let(i',a1,a2):=w2 s' D;show%[0,i',by simp;show hV a1|by rw[ŀ ye];show a2]
  .let N:i=hs.n:=by
    have:=(ap.mp F).1;simp at this;lia
   subst N;rw[dC (ah _)]at F;let F:h=g:=by simpa using F
   subst F;calc%[0,s,by rw[Ŀ rfl];show hj|λs' D=>?_];let hl':fW (tM mask) h s'<ow.E:=by
    have:fW (tM mask) h s'<=mask:=WR (tM mask) h s'
    (simp[Nat.sub_sub];lia)
   let(i',hi'):=(Af hl').mp (e3 s' D);let(a1,a2):=O.only _ i' hi';show%[0,i',by simp;lia|by rw[ŀ ye];show a2]
def Uc (mask:ĵ)(q:ĸ (Ņ (ĸ ĵ)×ĵ))(h:ļ):ĸ (Ņ (ĸ ĵ)×ĵ):=do
 let (owner,k) <- q
 let j <- SetTable.layClean.Ô mask owner (SetTable.turns mask) (SetTable.bits h%(mask+1)) (SetTable.bits h)
 pure (owner.ï j<|ĳ k,k+1)
theorem M4 (hm:mask+1=2^k):∀(hs pre:Ĵ ļ) (ow:Ņ (ĸ ĵ)) (pos:ĵ->ĵ),Own mask pre ow pos->pre.n+hs.n<=mask->
  ∃q pos',hs.foldl (Uc mask) (ĳ (ow,pre.n))=ĳ (q,(pre++hs).n)/\Own mask (pre++hs) q pos'
 | [],pre,ow,pos,O,_=>%[3,ow,pos,yf|by rw[dS];show O]
 | h::hs,pre,ow,pos,O,hl=>by
  rw[bX]at hl;let(j,e,O'):=O.step hm ye h;let es:Uc mask (ĳ (ow,pre.n)) h=ĳ (ow.ï j<|ĳ pre.n,(pre++[h]).n):=by unfold Uc;simp[e]
  let(q,pos',D,B):=M4 hm hs (pre++[h]) _ _ O' (by rw[ay];simp;lia);calc%[3,q,pos',?_|?_];.rw[sn,es,D];simp
  .rw[bt]at B;show B
def abX (mask):Own mask [] (Array.Ë (mask+1) ĺ) λ_=>0:=by calc%[yf,λi h=>by simp at h,λi h=>by simp at h,λj i h=>?_|λi h e=>by simp at e];rw[Array.getElem?_replicate]at h;split at h <;> simp at h
def Px (hm:mask+1=2^k)(hs:Ņ ļ)(q:hs.E<=mask):∃ow pos,SetTable.layClean mask hs=ĳ ow/\Own mask hs.I ow pos:=by
 let(ow,pos,e,O):=M4 hm hs.I [] _ _ (abX mask) (by simpa using q);calc%[3,ow,pos,?_|by simpa using O];have:SetTable.layClean mask hs=(hs.I.foldl (Uc mask)<|ĳ (Array.Ë (mask+1) ĺ,0)).Q (·.1):=by rw[Array.foldl_toList];rfl
 rw[this,show (0:ĵ)=([]:Ĵ ļ).n from rb,e];rfl
def lR (mask:ĵ)(ow:Ņ (ĸ ĵ)):Ĵ (ĵ×ĵ):=(List.æ<|mask+1).û λj=>(ow.Í j ĺ).Q (j,·)
def oN (O:Own mask hs ow pos):(j,i)∈lR mask ow↔i<hs.n/\j=pos i:=by
 unfold lR;rw[n0];constructor
 .intro z;let(j',q,e):=z;let B:j'<ow.E:=by rw[O.size];show bS.mp q
  rw[g9,b8 B]at e;cases hx:ow[j'] with
  | none=>rw[hx]at e;cases e
  | some x=>rw[hx]at e;let e:(j',x)=(j,i):=bd e;cases e;show O.only j i (by rw[b8 B,hx])
 .rintro⟨hi,rfl⟩;calc%[0,pos i,bS.Û<|Nat.lt_succ_of_le<|O.le i hi|?_];rw[g9,O.č i hi];rfl
def M5 (mask)(ow):yZ ((lR mask ow).Q (·.1)):=by
 let B:∀l:Ĵ ĵ,l.Ä (λa b=>a<b)->((l.û λj=>(ow.Í j ĺ).Q (j,·)).Q (·.1)).Sublist l:=by
  intro l _
  induction l with
  | nil=>show .slnil
  | cons j l q=>
   rename_i D;let q:=q (gp.mp D).2;rw[nE];cases ow.Í j ĺ with| none=>show q.Ð _| some x=>show q.cons_cons _
 show List.pairwise_lt_range.sublist<|B _ List.pairwise_lt_range
def WT (O:Own mask hs ow pos):((lR mask ow).Q (·.2)).ú (List.æ hs.n):=by
 let M:((lR mask ow).Q (·.2)).Ý:=by calc c_.Û<|(c_.mp ((M5 mask ow).imp λh=>bn h)).imp_of_mem λ{a b} ha hb hne e=>hne ?_;let(_,h1):=(oN O (j:=a.1) (i:=a.2)).mp ha;let(_,B):=(oN O (j:=b.1) (i:=b.2)).mp hb;rw[h1,B,e]
 calc(List.perm_ext_iff_of_nodup M ul).Û λi=>?_;rw[ar,bS];constructor
 .rintro⟨⟨j,i'⟩,hm,rfl⟩;show((oN O).mp hm).1
 .intro hi;show%[0,(pos i,i),(oN O).Û %[hi|rb]|rb]
def abY (hm:mask+1=2^k)(h3:3<=k)(Y:k<=13)(hs:Ņ ļ)(Z:hs.E<=mask)(finger moves)(led plain):∃t B,SetTable.Ĝ mask finger moves led plain hs=ĳ (t,B)/\t.é=mask/\t.led=led/\t.plain=plain/\B.I.ú (List.æ hs.E)/\jZ t (B.I.Q λi=>hs.I.Í i 0):=by
 let(ow,pos,e,O):=Px hm hs Z;let q:=WT O;refine%[27,{mask:=mask,place:=((lR mask ow).Q (·.1)).Y,dummies:=#[],finger:=finger,led:=led,moves:=moves,plain:=plain},((lR mask ow).Q (·.2)).Y,?_,rb,rb,rb,by simpa using q|?_]
 .unfold SetTable.laid;rw[e];rfl
 .let bW:(lR mask ow).n=hs.E:=by have:=q.length_eq;rwa [aa,ej]at this
  refine%[by simpa using M5 mask ow,yf,rb,%[2,k,h3,Y|hm],λj M=>?_,by simpa [bW] using Z|λi j h F D=>?_]
  .let M:j∈(lR mask ow).Q (·.1):=by simpa using M
   let((j',i),L,rfl):=ar.mp M;let(G,N):=(oN O).mp L;rw[N];show O.le i G
  .let D:((lR mask ow).Q (·.1))[i]?=ĳ j:=by simpa using D
   let F:(((lR mask ow).Q (·.2)).Q λi=>hs.I.Í i 0)[i]?=ĳ h:=by simpa using F
   rw[ba]at D;rw[ba,ba]at F;cases hx:(lR mask ow)[i]? with
   | none=>rw[hx]at D;cases D
   | some x=>
    rw[hx]at F D;let(G,N):=(oN O (j:=x.1) (i:=x.2)).mp (a5 hx);let(s,w1,w2):=O.way x.2 h (by rw[<-(show hs.I.Í x.2 0=h from bd F),ai,ae G];rfl);refine Way.Ø (t:=tM mask) (pl:=(lR mask ow).Q (·.1)) %[0,s,w1.Z<|N.Ù.Z (bd D)|λs' J=>?_] rb λx hx=>by simpa using hx
    let(i',b1,b2):=w2 s' J;rw[b2];show ar.Û %[0,_,(oN O).Û %[b1|rb]|rb]
section
variable {P:Ň}{w:ŋ}{T:Type}[Ŏ T]
def wQ (vk:fM P w T):Prop:=∀{h h':Ō} {k:T} {v:Ķ} {d:Ĺ} {o:Obj},vk.is h k v->h.Á d=ĳ o->(∀its n,o.ă≠.ð its n)->Heap.Ĉ d h h'->vk.is h' k v
def M7 (vk:fM P w T):Prop:=∀{A:ō} {E:AB} {s:Ľ} {k:T} {v:Ķ} {Q:œ->Ľ->Prop},vk.is s.H k v->Q Ļ s->Ł (ł P w) A (hashByValue 8 v) Q E s
variable {vk:fM P w T}{A:ō}{E:AB}{s:Ľ}
def jZ.abZ (I:jZ t hs):t.é<=8191:=by let(k,_,h,e):=I.two;have:2^k<=2^13:=sf yi h;lia
def WW (J:vk.deep<=8)(G:kY vk)(F:A.Þ+vk.deep<cLine+1)(B:s.H.Á a=ĳ o)(hd:o.ă=.Ď es ep t)(I:jZ t (es.I.Q (·.1)))(K:Gb vk s.H es ks)(hx:vk.is s.H k x)(h1:k∈ks->Q (.there ĺ) s)(L:k∉ks->∀j,j<=t.é->j∉t.à.I->Way t t.à.I (vk.ÿ k) j->Q (.Ô j Ļ) s):Ł (ł P w) A (setSearch a x (vk.ÿ k) ķ) Q E s:=by let(M,q,D):=I.hole (vk.ÿ k);have:=I.abZ;show Di J G F B hd I K hx h1 L D q 100000 0 ĺ ye rb λr' h=>ń h<|m4 _
def Gb.put (K:Gb vk h es ks)(kp:∀k v,vk.is h k v->vk.is h' k v)(hx:vk.is h k (.C b))(hn:k∉ks)(hp:p<=es.I.n):Gb vk h' (SetTable.Į es p (vk.ÿ k,.C b)) (ks.Å p++k::ks.Î p):=by
 let N:=K.Ċ;refine%[?_,λi e k' h1 J=>?_|?_]
 .rw[lD];simp_all
 .rw[lD]at h1;rcases mF hp h1 with⟨M,D⟩|⟨M,D⟩|⟨M,D⟩
  .rcases mF (by simp_all) J with⟨B,q⟩|⟨B,q⟩|⟨B,q⟩
   .let(G,F,L):=K.č i e k' D q;show%[kp _ _ G,F|L]
   .lia
   .lia
  .rcases mF ye J with⟨B,q⟩|⟨B,q⟩|⟨B,q⟩;.lia
   .subst D q;show%[kp _ _ hx|%[10,rb,b|rb]]
   .lia
  .rcases mF ye J with⟨B,q⟩|⟨B,q⟩|⟨B,q⟩;.lia
   .lia
   .let(G,F,L):=K.č (i-1) e k' D q;show%[kp _ _ G,F|L]
 .have:(ks.Å p++k::ks.Î p).ú (k::ks):=by
   calc List.perm_middle.Z<|.Ð _ ?_;rw[dm]
  show this.nodup_iff.Û<|gu.Û %[hn|K.nd]
def ZD (es:Ņ (ļ×Ķ))(p:ĵ)(h:ļ)(x:Ķ):(SetTable.Į es p (h,x)).I.Q (·.1)=(es.I.Q (·.1)).Å p++h::(es.I.Q (·.1)).Î p:=by rw[lD,bg,b7,List.map_take,List.map_drop]
def jZ.flag {t t':ő}(I:jZ t hs)(h1:t'.é=t.é)(q:t'.à=t.à)(D:t'.dummies=t.dummies):jZ t' hs:=by calc%[by rw[q];show I.za,by rw[q];show I.Ċ,by rw[D];show I.MP,by rw[h1];show I.two,by rw[h1,q];show I.le,by rw[h1];show I.few|λi j h F B=>?_];rw[q]at B ⊢;show(I.way i j h F B).Ø h1.Ù λx hx=>hx
def Six (m:ĵ):Prop:=m=7\/m=31\/m=127\/m=511\/m=2047\/m=8191
def ab0 (h:Six m):∃k,3<=k/\k<=13/\m+1=2^k:=by
 rcases h with rfl|rfl|rfl|rfl|rfl|rfl;.show%[2,3,yi,yi|rb]
 .show%[2,5,yi,yi|rb]
 .show%[2,7,yi,yi|rb]
 .show%[2,9,yi,yi|rb]
 .show%[2,11,yi,yi|rb]
 .show%[2,13,yi,yi|rb]
def ZF (h:Six m)(h1:5*n<3*m)(q:3*m<=5*(n+1))(hn:n+1<=4000):Six (SetTable.sizeAbove (SetTable.grown<|n+1)-1)/\n+1<=SetTable.sizeAbove (SetTable.grown<|n+1)-1/\5*(n+1)<3*(SetTable.sizeAbove (SetTable.grown<|n+1)-1)/\SetTable.sizeAbove (SetTable.grown<|n+1)<=Ń:=by
 rcases h with rfl|rfl|rfl|rfl|rfl|rfl
 .obtain rfl:n=4:=by lia
  show%[.Ó<|.Â yi,yi,yi|yi]
 .obtain rfl:n=18:=by lia
  show%[.Ó<|.Ó<|.Â yi,yi,yi|yi]
 .obtain rfl:n=76:=by lia
  show%[.Ó<|.Ó<|.Ó<|.Â yi,yi,yi|yi]
 .obtain rfl:n=306:=by lia
  show%[.Ó<|.Ó<|.Ó<|.Ó<|.Â yi,yi,yi|yi]
 .obtain rfl:n=1228:=by lia
  show%[.Ó<|.Ó<|.Ó<|.Ó<|.Ó yi,yi,yi|yi]
 .lia
theorem Ag {C:Type}(xs:Ĵ C):∀(l:Ĵ ĵ),(∀i∈l,i<xs.n)->∀m:ĵ,(l.û λi=>xs[i]?)[m]?=(l[m]?).bind λi=>xs[i]?
 | [],_,m=>by simp
 | i::l,h,m=>by
  let hi:=h i aS;rw[nE,ae hi];cases m with| zero=>simp[hi]| succ m=>simpa using Ag xs l (λj q=>h j<|aE _ q) m
def ZG {C:Type}(xs:Ĵ C):(List.æ xs.n).û (λi=>xs[i]?)=xs:=by
 apply ic;intro m;rw[Ag xs _ λi hi=>bS.mp hi];by_cases h:m<xs.n;.rw[gN h];rfl
 .rw[c9 (by simpa using h),c9 (kH h)];rfl
theorem Ge {C:Type}(xs:Ĵ C):∀(l:Ĵ ĵ),(∀i∈l,i<xs.n)->(l.û λi=>xs[i]?).n=l.n
 | [],_=>rfl
 | i::l,h=>by rw[nE,ae (h i aS),bX,bX,Ge xs l λj q=>h j (aE _ q)]
def Gb.perm (K:Gb vk h es ks)(kp:∀k v,vk.is h k v->vk.is h' k v){q:Ņ ĵ}(hp:q.I.ú (List.æ es.E)):∃F,F.ú ks/\Gb vk h' (q.û (es[·]?)) F/\(q.û (es[·]?)).E=es.E/\(q.û (es[·]?)).I.Q (·.1)=q.I.Q λi=>(es.I.Q (·.1)).Í i 0:=by
 let O:=K.Ċ;let B:∀i∈q.I,i<es.I.n:=λi hi=>by show bS.mp<|hp.õ.mp hi
 let D:∀i∈q.I,i<ks.n:=λi hi=>by rw[O];show B i hi
 let J:(q.û (es[·]?)).I=q.I.û λi=>es.I[i]?:=by rw[Array.toList_filterMap];congr 1;funext i;rw[cq]
 let N:(q.I.û λi=>ks[i]?).ú ks:=by have:=hp.û λi=>ks[i]?;rw[<-bo,<-O,ZG]at this;show this
 let M:q.I.n=es.E:=by rw[hp.length_eq,ej]
 calc%[11,q.I.û λi=>ks[i]?,N,%[?_,λi e k G L=>?_|N.nodup_iff.Û K.nd],?_|?_];.rw[J,Ge _ _ B,Ge _ _ D]
 .rw[J,Ag _ _ B]at G;rw[Ag _ _ D]at L;cases hi:q.I[i]? with
  | none=>rw[hi]at G;cases G
  | some m=>rw[hi]at G L;let(Z,Y,y3):=K.č m e k G L;show%[kp _ _ Z,Y|y3]
 .rw[<-bo,J,Ge _ _ B,M]
 .rw[J];apply ic;intro i;rw[ba,Ag _ _ B,ba];cases hi:q.I[i]? with| none=>rfl| some m=>have hm:=B m<|a5 hi;show ((es.I[m]?).Q (·.1))=ĳ ((es.I.Q (·.1)).Í m 0);rw[ai,ba,ae hm];rfl
end
section
variable {P:Ň}{w:ŋ}{T:Type}[Ŏ T]{vk:fM P w T}{A:ō}{E:AB}{s:Ľ}
def rN (vk:fM P w T)(h:Ō)(a:Ĺ)(ks:Ĵ T):Prop:=∃es ep t,SetT w h a es ep t/\jZ t (es.I.Q (·.1))/\Gb vk h es ks/\Six t.é/\5*es.E<3*t.é
def ZJ (I:jZ t hs):t.tooFull=ľ (3*t.é<=5*hs.n):=by let h1:=I.Ċ;rw[bo]at h1;unfold SetTable.tooFull SetTable.fill;rw[I.MP,h1];simp[ge]
def ZK (jx:vk.deep<=8)(nc:kY vk)(kps:wQ vk)(hbv:M7 vk)(hu:A.Þ+vk.deep<cLine+1)(m:rN vk s.H a ks)(hx:vk.is s.H k (.C b))(hz:ks.n+1<=4000)(q1:k∈ks->Q Ļ s)(q2:k∉ks->∀h' J,Heap.Ĉ a s.H h'->rN vk h' a J->J.ú (k::ks)->Q ķ {s with heap:=h' }):Ł (ł P w) A (setAddHashed a (.C b)<|vk.ÿ k) Q E s:=by
 let(es,ep,t,(o,Z,hex,hd,hf,hb,hpl),I,K,S6,H5):=m;let hsz:es.I.n=es.E:=bo;let kl:=K.Ċ;let hds:∀its n,o.ă≠.ð its n:=λits n z=>by rw[hd]at z;cases z
 calc eK<|ab<|gf Z hd hf ?_;dsimp only;let hbs:byScan (.C b) es=Ļ:=by rfl
 rw[hbs];calc ab<|WW jx nc hu Z hd I K hx (λhk=>af<|q1 hk) λhk j hj hn hw=>?_;calc ab<|gf Z hd hf ?_;dsimp only;let bW:=I.Ċ;let hp:SetTable.Ę t.à j<=es.I.n:=by have:=(Ed I.za j).le;simp_all
 let mle:7<=t.é:=by rcases S6 with e|e|e|e|e|e <;> simp_all
 let N:(SetTable.Į es (SetTable.Ę t.à j) (vk.ÿ k,Value.C b)).E=es.E+1:=by rw[<-bo,lD];simp only[ay,a8,bX,cn];grind
 let G:∀q:ő,q.é=t.é->q.à=(t.put j).1.à->q.dummies=(t.put j).1.dummies->q.led=t.led->q.plain=Ļ->
   Ł (ł P w) A (storeSet a (SetTable.Į es (SetTable.Ę t.à j) (vk.ÿ k,Value.C b)) q >>= λ_=>if (!Ļ&&q.tooFull)=ķ then (setRelay a (SetTable.grown<|es.E+1) >>= λ_=>pure ķ) else pure ķ) Q E s:=by
  intro q c1 c2 c3 c4 c5;let I2:jZ q ((SetTable.Į es (SetTable.Ę t.à j) (vk.ÿ k,Value.C b)).I.Q (·.1)):=by rw[ZD];show (I.put hj hn hw (by rw[aa,hsz];lia)).flag c1 c2 c3
  calc ab<|sO (w:=w) %[30,o,Z,hex,hd,hf,hb|hpl] I2.fits c4 c5 (by rw[N];show es.E+1<4096;lia) λh1 Q7 m1=>?_;let K2:=K.put (λk v z=>kps z Z hds Q7) hx hk hp;let pm:(ks.Å (SetTable.Ę t.à j)++k::ks.Î (SetTable.Ę t.à j)).ú (k::ks):=by calc List.perm_middle.Z<|.Ð _ ?_;rw[dm]
  let aa5:=ZJ I2;rw[aa,bo,N,c1]at aa5;rw[aa5];by_cases D:3*t.é<=5*(es.E+1)
  .rw[am D];let(g1,g2,g3,g4):=ZF S6 H5 D ye;let(o1,O,agS,L,hf1,hb1,agT):=m1;let(kk,k3,k13,ek):=ab0 g1;let Y:((SetTable.Į es (SetTable.Ę t.à j) (vk.ÿ k,Value.C b)).Q (·.1)).E=es.E+1:=by rw[Array.size_map,N]
   let(t3,F,el,f1,f2,f3,fp,I3):=abY ek k3 k13 ((SetTable.Į es (SetTable.Ę t.à j) (vk.ÿ k,Value.C b)).Q (·.1)) (by rw[Y];show g2) q.finger (q.movedTo<|SetTable.sizeAbove (SetTable.grown<|es.E+1)-1) q.led q.plain;calc ab ?_;calc ab<|gf (s:={s with heap:=h1}) O L hf1 ?_;dsimp only;rw[ŀ (Nat.not_lt.Û g4),(show q.relaid ((SetTable.Į es (SetTable.Ę t.à j) (vk.ÿ k,Value.C b)).Q (·.1)) (SetTable.grown<|es.E+1)=ĳ (t3,F) from el)];rw[Y,<-N]at fp;let(_,_,_,M,hh3):=K2.perm (λk v z=>z) fp;rw[uu,<-hh3]at I3;calc ab ?_;show Ł _ _ (if ((F.û λi=>(SetTable.Į es (SetTable.Ę t.à j) (vk.ÿ k,Value.C b))[i]?).E != (SetTable.Į es (SetTable.Ę t.à j) (vk.ÿ k,Value.C b)).E)=ķ then _ else _) _ _ _;rw[M];simp only[bne_self_eq_false,a9,if_false];calc af ?_;calc sO (w:=w) (s:={s with heap:=h1}) %[30,o1,O,agS,L,hf1,hb1|agT] I3.fits f2 (f3.Z c5) (by rw[M,N];show es.E+1<4096;lia) λh2 sb2 m2=>?_;let agU:∀its n,o1.ă≠.ð its n:=λits n z=>by rw[L]at z;cases z
   let(J,pk,K3,_,_):=K2.perm (h':=h2) (λk v z=>kps z O agU sb2) fp;show af<|q2 hk h2 J (Q7.Z sb2) %[7,_,_,t3,m2,I3,K3,by rw[f1];show g1|by rw[M,N,f1];show g3]<|pk.Z pm
  .rw[al D];show af<|q2 hk h1 _ Q7 %[7,_,_,q,m1,I2,K2,by rw[c1];show S6|by rw[N,c1];show uk D] pm
 cases hpt:(t.put j).1.plain with
 | true=>simp only[if_true];calc ab<|hbv hx ?_;show G _ rb rb rb rb rfl
 | false=>
  first| show G _ rb rb rb rb hpt| show ab<|af<|G _ rb rb rb rb hpt
end
section
variable {P:Ň}{w:ŋ}{I I1 I2:Type}[Ŏ I][Ŏ I1][Ŏ I2]
def ab1 {s:Ľ}(F:s.H.Á a=ĳ o)(J:o.cls=.È "tuple")(hd:o.ă=.ð its n)(L:∀v∈its.I,∀(Q':œ->Ľ->Prop) (E':AB),Q' Ļ s->Ł (ł P w) A (ofAClassStatement d v) Q' E' s)(q:Q Ļ s):Ł (ł P w) A (ofAClassStatement (d+1)<|.C a) Q E s:=by
 let G:s.Ā (.C a) "tuple":=%[0,o,F|J]
 unfold ofAClassStatement;calc ab<|vw G ?_;calc ab<|af ?_;calc ab<|iF F hd<|ab ?_;rw[<-sP];refine o6 _ (λrest r s1=>r.1=ĺ/\s1=s/\∀v∈rest,v∈its.I) _ ?_ ?_ _ _ %[rb,rb|λv hv=>hv]
 .intro v rest r s1 z;let(D,rfl,B):=z;calc ab<|L v (B v aS) _ _ ?_;show af %[rb,rb|λx hx=>B x<|aE _ hx]
 .rintro⟨r1,M⟩ s1 ⟨D,rfl,_⟩;subst D;show af q
def ab2:kY (qO<|cV P w):=by
 intro A E s k v Q n _ h q;rcases dG (show jN k v=ķ from h) with⟨i,t,rfl,rfl⟩|⟨x,t,rfl,rfl⟩
 .cases n <;> show af q
 .cases n <;> show af q
def WX {vk:fM P w I}(J:kY vk):kY (tupK vk):=by
 intro A E s k v Q n hn z q;let(a,M,L,its,rfl,h1,G,D,F):=z;let hn:vk.deep+1<=n:=hn;obtain⟨m,rfl⟩:∃m,n=m+1:=%[n-1|ye]
 calc ab1 h1 G D (λv hv Q' E' q'=>?_) q;let(k',B):=F.mem hv;show J m (eD hn) B q'
def WY {h h':Ō}(h1:h.Á a=ĳ o1)(D:o1.ă=.ð its n)(B:h.Á d=ĳ o)(hd:∀its n,o.ă≠.ð its n)(hs:Heap.Ĉ d h h'):h'.Á a=ĳ o1:=by
 let q:a≠d:=by rintro rfl;rw[h1]at B;cases B;show hd _ _ D
 show(hs.2 a q).Z h1
def ab3:wQ (qO<|cV P w):=λh _ _ _=>h
theorem M_ {vk:fM P w I}(B:wQ vk){h h':Ō}{d:Ĺ}{o:Obj}(q:h.Á d=ĳ o)(hd:∀its n,o.ă≠.ð its n)(hs:Heap.Ĉ d h h'):∀{x:Ĵ I} {vs:Ĵ Ķ},jY vk h x vs->jY vk h' x vs
 | [],[],_=>trivial
 | [],_::_,a=>a.elim
 | _::_,[],a=>a.elim
 | _::_,_::_,a=>%[B a.1 q hd hs|M_ B q hd hs a.2]
def W0 {vk:fM P w I}(D:wQ vk):wQ (tupK vk):=by intro h h' k v d o z B hd hs;let(a,G,n,its,rfl,h1,J,q,F):=z;show%[6,a,G,n,its,rb,WY h1 q B hd hs,J,q|M_ D B hd hs F]
def Ud (vk:fM P w I)(p:I->Prop):fM P w I where
 is:=λh k v=>vk.is h k v/\p k
 hash:=vk.ÿ
 draws:=vk.draws
 deep:=vk.deep
 inj:=λh1 D=>vk.inj h1.1 D.1
 keeps:=λh F hd hs=>%[vk.Đ h.1 F hd hs|h.2]
 pyHash:=λB h q=>vk.pyHash B h.1 q
 eqBool:=λB h1 D q=>vk.eqBool B h1.1 D.1 q
 quiet:=λn hn h q=>vk.quiet n hn h.1 q
def ael {vk:fM P w I}{p:I->Prop}(B:kY vk):kY (Ud vk p):=λn hn h q=>B n hn h.1 q
def aem {vk:fM P w I}{p:I->Prop}(B:wQ vk):wQ (Ud vk p):=λh q hd hs=>%[B h.1 q hd hs|h.2]
end
abbrev ux:=Ĵ (Ĵ Key)
def afN (k:ux):Prop:=k≠[]/\∀t∈k,∃(i j:Int) (x:Str),t=[Sum.Â i,Sum.Â j,Sum.Ó x]
def Ah (P:Ň)(w:ŋ):fM P w ux:=Ud (tupK<|tupK<|qO<|cV P w) afN
section
variable {P:Ň}{w:ŋ}
def aen:kY (Ah P w):=ael (WX<|WX ab2)
def aeo:wQ (Ah P w):=aem (W0<|W0 ab3)
def Rk {s:Ľ}(F:s.H.Á a=ĳ o)(J:o.cls=.È "tuple")(hd:o.ă=.ð its n)(L:its.I=pre++v::post)(B:∀x∈pre,∀(Q':œ->Ľ->Prop) (E':AB),Q' ķ s->Ł (ł P w) A (hashByValue d x) Q' E' s)(hv:∀(Q':œ->Ľ->Prop) (E':AB),Q' Ļ s->Ł (ł P w) A (hashByValue d v) Q' E' s)(q:Q Ļ s):Ł (ł P w) A (hashByValue (d+1)<|.C a) Q E s:=by
 let G:s.Ā (.C a) "tuple":=%[0,o,F|J]
 calc ab<|qA G rn.Æ ?_;calc ab<|iF F hd<|ab ?_;show Ł _ _ (ų its _ _) _ _ s;rw[<-sP,L];refine o6 _ (λrest r s1=>r.1=ĺ/\s1=s/\∃p2,rest=p2++v::post/\∀x∈p2,x∈pre) _ ?_ ?_ _ _ %[20,rb,rb,pre,rb|λx hx=>hx]
 .intro x rest r s1 z;let(M,rfl,p2,e,D):=z;cases p2 with
  | nil=>have e:x::rest=v::post:=e;cases e;calc ab<|hv _ _ ?_;show af<|af q
  | cons y p2=>have e:x::rest=y::(p2++v::post):=e;cases e;calc ab<|B _ (D _ aS) _ _ ?_;show af %[20,rb,rb,p2,rb|λz hz=>D z<|aE _ hz]
 .intro r s1 z;let(_,rfl,p2,e,_):=z;cases p2 <;> cases e
def ab4:M7 (Ah P w):=by
 rintro A E s k v Q ⟨⟨a,o,n,its,rfl,h1,hc,h2,N⟩,Z,L⟩ q;cases k with
 | nil=>show ń rb Z
 | cons t k=>
  let(i,j,x,rfl):=L t aS;cases hi:its.toList with
  | nil=>rw[hi]at N;show N.î
  | cons v vs=>
   rw[hi]at N;let((a2,o2,n2,B,rfl,g1,gc,g2,D),_):=N;obtain⟨G,J,F,O,y1,y2,y3⟩:∃G J F,B.I=[G,J,F]/\jN (Sum.Â i) G=ķ/\jN (Sum.Â j) J=ķ/\jN (Sum.Ó x) F=ķ:=by
    cases O:B.toList with
    | nil=>rw[O]at D;show D.î
    | cons G r1=>
     rw[O]at D;cases r1 with
     | nil=>show D.2.î
     | cons J r2=>
      cases r2 with
      | nil=>show D.2.2.î
      | cons F r3=>
       cases r3 with| nil=>show%[8,G,J,F,rb,D.1,D.2.1|D.2.2.1]| cons u4 r4=>show D.2.2.2.î
   let M:∀(z:ļ) (u:Ķ),jN (Sum.Â z) u=ķ->∃t,u=.R z t:=λz u h=>by
    rcases dG h with⟨i',t,e,rfl⟩|⟨x',t,e,rfl⟩;.cases e;show%[t|rb]
    .cases e
   let Y:∀(z:Ŋ) (u:Ķ),jN (Sum.Ó z) u=ķ->∃t,u=.À z t:=λz u h=>by
    rcases dG h with⟨i',t,e,rfl⟩|⟨x',t,e,rfl⟩;.cases e
    .cases e;show%[t|rb]
   let(t1,rfl):=M i G y1;let(t2,rfl):=M j J y2;let(t3,rfl):=Y x F y3;calc Rk (d:=7) h1 hc h2 (pre:=[]) (v:=.C a2) (post:=vs) hi (λz hz=>by simp at hz) (λQ' E' q'=>?_) q;calc Rk (d:=6) g1 gc g2 (pre:=[.R i t1,.R j t2]) (v:=.À x t3) (post:=[]) O (λz hz Q2 E2 q2=>?_) (λQ2 E2 q2=>af q2) q';let hz:z=.R i t1\/z=.R j t2:=by simpa using hz
   rcases hz with rfl|rfl;.show af q2
   .show af q2
end
def gU (h h':Ō):Prop:=∀b o its n,h.Á b=ĳ o->o.ă=.ð its n->h'.Á b=ĳ o
section
variable {P:Ň}{w:ŋ}{T:Type}[Ŏ T]
def wR (vk:fM P w T):Prop:=∀{h h':Ō} {k:T} {v:Ķ},vk.is h k v->gU h h'->vk.is h' k v
def ab5:wR (qO<|cV P w):=λh _=>h
theorem Nb {vk:fM P w T}(q:wR vk){h h':Ō}(hs:gU h h'):∀{x:Ĵ T} {vs:Ĵ Ķ},jY vk h x vs->jY vk h' x vs
 | [],[],_=>trivial
 | [],_::_,a=>a.elim
 | _::_,[],a=>a.elim
 | _::_,_::_,a=>%[q a.1 hs|Nb q hs a.2]
def W2 {vk:fM P w T}(D:wR vk):wR (tupK vk):=by intro h h' k v z hs;let(a,B,n,its,rfl,h1,G,q,F):=z;show%[6,a,B,n,its,rb,hs _ _ _ _ h1 q,G,q|Nb D hs F]
def aer {vk:fM P w T}{p:T->Prop}(q:wR vk):wR (Ud vk p):=λh hs=>%[q h.1 hs|h.2]
def aes:wR (Ah P w):=aer (W2<|W2 ab5)
def rN.mv {vk:fM P w T}(M:wR vk){h h':Ō}{ks:Ĵ T}(m:rN vk h a ks)(k:∀o,h.Á a=ĳ o->h'.Á a=ĳ o)(hs:gU h h'):rN vk h' a ks:=by let(es,ep,t,G,I,K,J,F):=m;show%[7,es,ep,t,G.mv k,I,%[K.Ċ,λi e k h1 D=>by let(B,q,L):=K.č i e k h1 D;show%[M B hs,q|L]|K.nd],J|F]
def Ue (vk:fM P w T){h:Ō}(e:h.Á a=ĳ {cls:=.È "set",dict:=ĺ,data:=.Ď #[] 0<|.ä 0 0<|!w.ç.í "set-order"}):rN vk h a []:=by refine%[7,#[],0,_,⟨30,_,e,%[rb,rb|rb],rb,rb,by cases q:w.ç.í "set-order" <;> simp[SetTable.fresh,q],.Ó rb⟩,%[List.Ä.Ü,rb,rb,%[2,3,yi,yi|rb],λj B=>by simp[SetTable.fresh]at B,b5 _|λi j h D=>by simp at D],%[rb,λi e k h1=>by simp at h1|oC],.Â rb|(by decide:5*0<3*7)]
end
section
variable {prog:Ň}{w:ŋ}{T:Type}[Ŏ T]{vk:fM prog w T}{A:ō}{I:Ĺ}{fp wr:Ĵ Ĺ}{n:ĵ}{P:ĵ->Ķ->Prop}{St:ĵ->Ō->Prop}{R:Ź->Ľ->Prop}
def W3 (jx:vk.deep<=8)(nc:kY vk)(kt:wR vk)(kps:wQ vk)(hbv:M7 vk)(hu:A.ħ.Þ+vk.deep<cLine+1)(W:Ÿ prog w A.ħ I fp wr n P St)(S0)(hSf:S0∉fp)(val:ĵ->T)(h0)(Y:∀i v,P i v->∃b,v=.C b/\vk.is h0 (val i) v)(Z:∀(i:ĵ) (h:Ō) b o its m,St i h->b∈wr->h.Á b=ĳ o->o.ă≠.ð its m)(q:n<=3999):∀(k i:ĵ) (s:Ľ),n-i=k->i<=n->St i s.H->gU h0 s.H->(∃ks,ks.n<=i/\(∀x,x∈ks↔x∈(List.æ i).Q val)/\rN vk s.H S0 ks)->
   (∀h' tk ks,(∀b o,b∉S0::wr->s.H.Á b=ĳ o->h'.Á b=ĳ o)->ks.n<=n->(∀x,x∈ks↔x∈(List.æ n).Q val)->rN vk h' S0 ks->R (.ok<|.ret .ß) {s with heap:=h',toks:=tk})->
   codeAny (ł prog w) A (.Õ "set.update.loop" %[[.C S0,.C I]|[]]) R s:=by
 let O:S0∉wr:=λh=>hSf<|W.sub _ h;let sub:∀b,b∉S0::wr->b∉wr:=λb q h=>q<|aE _ h;intro k
 induction k with
 | zero=>
  intro i s hk hi F hrs hS hR;let cJ:i=n:=by grind
  subst cJ;calc ij qk ?_;calc ab<|W.done s _ _ F λh' tk hm=>?_;let(ks,l1,l2,l3):=hS;let hst2:gU s.H h':=λb o its m B D=>by
   by_cases z:b∈wr;.show ń D<|Z _ s.H b o its m F z B
   .show hm b o z B
  show af<|hR h' tk ks (λb o q e=>hm b o (sub b q) e) l1 l2<|l3.mv kt (λo e=>hm S0 o O e) hst2
 | succ k ih=>
  intro i s hk hi F hrs hS hR;let J:i<n:=Nat.lt_of_sub_eq_succ hk;calc ij qk ?_;calc ab<|W.item i s _ _ J F λv h1 tk hP G hm=>?_;let(b0,rfl,hv0):=Y i v hP;let(ks,l1,l2,l3):=hS;let st1:gU s.H h1:=λb o its m B D=>by
   by_cases z:b∈wr;.show ń D<|Z _ s.H b o its m F z B
   .show hm b o z B
  let N:gU h0 h1:=λb o its m B D=>st1 b o its m (hrs b o its m B D) D;let m1:=l3.mv kt (λo e=>hm S0 o O e) st1;let hv1:=kt hv0 N;calc ab<|eK ?_;calc eK ?_;calc ab<|vk.pyHash (s:={s with heap:=h1,toks:=tk}) hu hv1 ?_;refine ZK (s:={s with heap:=h1,toks:=tk+vk.draws (val i)}) jx nc kps hbv hu m1 hv1 ye (λcJ=>?_) λhni h2 ks2 sb m2 pm=>?_
  .refine af %[plainId_quiet i9 _|ih (i+1) _ (gg ye) J G N %[2,ks,kr l1,λx=>?_|m1] λh3 L M Wg l4 l5 m3=>?_]
   .rw[fw,bg,a7,<-l2];show%[.Â|λz=>z.î id λy=>by rw[show x=val i by simpa using y];show cJ]
   .show hR h3 L M (λb o q e=>Wg b o q<|hm b o (sub b q) e) l4 l5 m3
  .let st2:gU h1 h2:=λb o its m B D=>by
    by_cases z:b=S0
    .let(_,_,_,(o2,y1,_,y2,_),_):=m1;rw[z,y1]at B;cases B;rw[y2]at D;cases D
    .rw[sb.2 b z];show B
   refine af %[plainId_quiet i9 _|ih (i+1) _ ye J (W.frame _ h1 _ G λb q o e=>?_) (λb o its m B D=>st2 b o its m (N b o its m B D) D) %[2,ks2,by rw[pm.length_eq];show ja l1,λx=>?_|m2] λh3 L M Wg l4 l5 m3=>?_]
   .rw[sb.2 b (λh:b=S0=>hSf (by rw[<-h];show q))];show e
   .rw[pm.mem_iff,a_,l2,fw,bg,a7,b7,n9,av];show Or.comm
   .calc hR h3 L M (λb o q e=>Wg b o q ?_) l4 l5 m3;rw[sb.2 b (λh:b=S0=>q (by rw[h];show aS))];show hm b o (sub b q) e
end
section
variable {prog:Ň}{w:ŋ}{I:Type}[Ŏ I]{vk:fM prog w I}{A:ō}{E:AB}{s:Ľ}
def W4 (jx:vk.deep<=8)(nc:kY vk)(kt:wR vk)(M:wQ vk)(hbv:M7 vk)(hu:A.Þ+8+vk.deep<cLine)(hh:A.ò=ĺ)(hl:s.H.Ĕ l items)(hS:rN vk s.H S0 [])(hne:S0≠l)(Z:S0<s.d)(D:∀i v,items[i]?=ĳ v->∃b,v=Value.C b/\vk.is s.H (val i) v)(hb:items.E<=3999)(q:∀h' tk ks,(∀b o,b≠S0->s.H.Á b=ĳ o->h'.Á b=ĳ o)->ks.n<=items.E->(∀x,x∈ks↔x∈(List.æ items.E).Q val)->rN vk h' S0 ks->Q () {s with heap:=h',toks:=tk}):Ł (ł prog w) A (Builtin.Frozenset.updateFrom "set.__init__" S0<|.C l) Q E s:=by
 let(ol,Y,G,nl,B):=id hl;let(ocls,odict,odata,L):=ol;simp only at G B;subst G;let hsls:=F.sub_list_set;let hslf:=F.sub_list_frozenset;let hnd:(Value.È "list" == Value.È "dict")=Ļ:=by decide
 unfold Builtin.Frozenset.updateFrom;generalize hPI:pyIter=PI
 wp_walk
 subst hPI;calc ox hl ?_;calc ab<|wE ?_;let J:l≠s.d:=bn (a6 Y);let Gd:∀ob:Obj,gU s.H (s.H.Ò ob):=λob b o its m e _=>ag _ e;refine W3 jx nc kt M hbv ?_ (Walks.ĕ (by simp[hh]) _ l J items) S0 (by simp only[a_,eR,or_false,not_or];show%[bn Z|hne]) val s.H D ?_ hb (items.E-0) 0 _ rb (b5 _)
  %[%[2,_,aT _ rb,rb|rb]|hl.Ò _] (Gd _) %[2,[],b5 _,λx=>by simp|hS.mv kt (λo e=>ag _ e)<|Gd _] λh' tk ks k l1 l2 m=>?_
 .lia
 .rintro i h b o its m ⟨⟨o2,y1,_,y2⟩,_⟩ N e z;rw[av.mp N,y1]at e;cases e;rw[y2]at z;cases z
 .calc af ?_;calc q h' tk ks (λb o hb e=>k b o ?_<|ag _ e) l1 l2 m;simp only[a_,eR,or_false,not_or];show%[hb|bn<|a6 e]
end
section
variable {prog:Ň}{w:ŋ}{A:ō}{E:AB}{s:Ľ}
def W5 {Φ:Ō->Prop}{Q:AB}(Z:A.ò=ĺ)(hu:∀(A':ō) (E':AB) (Q':ť->Ľ->Prop) (h1:Ō),A'.ò=ĺ->A'.Þ<=A.Þ+6->h1.X.E=s.d+1->h1.Á s.d=ĳ {cls:=.È "set",dict:=ĺ,data:=.Ď #[] 0<|.ä 0 0<|!w.ç.í "set-order"}->(∀b o,s.H.Á b=ĳ o->h1.Á b=ĳ o)->
   (∀h' tk,(∀b o,s.H.Á b=ĳ o->h'.Á b=ĳ o)->Φ h'->Q' () {s with heap:=h',toks:=tk})->
   Ł (ł prog w) A' (Builtin.Frozenset.updateFrom "set.__init__" s.d src) Q' E' {s with heap:=h1})
  (h:∀h' tk,(∀b o,s.H.Á b=ĳ o->h'.Á b=ĳ o)->Φ h'->Q (.C s.d) {s with heap:=h',toks:=tk}) :
  Ł (ł prog w) A (call (.È "set") [src]) Q E s:=by
 let D:=gx.made;let J:=gx.sub;calc vn<|vF ?_;calc af %[sL _ yn|ij xt ?_];rw[w8 (weight_type_call_type "set" [src] []) rfl];let hct:=F.typeCall_set_1 src
 repeat (any_goals (first|assumption|wp_step))
 calc kG (yV src (E:=E) (Q₁:=λobj M=>obj=.C s.d/\M={s with heap:=s.H.Ò {cls:=.È "set",dict:=ĺ,data:=.Ď #[] 0<|.ä 0 0<|!w.ç.í "set-order"} }) %[rb|rb]) λr M B=>?_;cases r with
 | error e=>show B
 | ok fl=>
  cases fl with
  | ret obj=>
   (let(rfl,rfl):=B;let N:(s.H.Ò {cls:=.È "set",dict:=ĺ,data:=.Ď #[] 0<|.ä 0 0<|!w.ç.í "set-order"}).Á s.d=ĳ {cls:=.È "set",dict:=ĺ,data:=.Ď #[] 0<|.ä 0 0<|!w.ç.í "set-order"}:=aT _ rfl);let O:Shared.Ā {s with heap:=s.H.Ò {cls:=.È "set",dict:=ĺ,data:=.Ď #[] 0<|.ä 0 0<|!w.ç.í "set-order"} } (.C s.d) "set":=%[0,_,N|rb]
   let hli:=gx.init.Æ;let Y:=gx.init.bind<|.C s.d
   repeat (any_goals (first|assumption|wp_step))
   refine kG (r_ (R:=wants (λr G=>r=.ß/\∃h' tk,G={s with heap:=h',toks:=tk}/\(∀b o,s.H.Á b=ĳ o->h'.Á b=ĳ o)/\Φ h') E) gx.init.plain F.entry_set_init<|check_set_init_1 O ?_) λr₂ G q=>?_
   .unfold Builtin.«set.__init__» noKeywords;generalize hU:Builtin.Frozenset.updateFrom=U
    wp_walk
    subst hU;calc hu _ _ _ _ (by simp[Z]) (show A.Þ+1+1<=A.Þ+6 by lia) (d6 ..) N (λb o e=>ag _ e) λh' tk k m=>?_;calc af ?_;show%[17,rb,h',tk,rb,k|m]
   .cases r₂ with
    | error e=>show q
    | ok fl₂=>
     cases fl₂ with
     | ret r=>
      let(rfl,h',tk,rfl,k,m):=q
      repeat (any_goals (first|assumption|wp_step))
      show h _ _ k m
     | _=>show q.î
  | _=>show B.î
end
section
variable {prog:Ň}{w:ŋ}{I:Type}[Ŏ I]{vk:fM prog w I}{A:ō}{E:AB}{s:Ľ}
def W6 (jx:vk.deep<=8)(nc:kY vk)(O:wR vk)(D:wQ vk)(N:M7 vk)(hu:A.Þ+14+vk.deep<cLine)(Z:A.ò=ĺ)(Y:s.H.Ĕ l items)(B:∀i v,items[i]?=ĳ v->∃b,v=Value.C b/\vk.is s.H (val i) v)(hb:items.E<=3999)(q:∀h' tk ks,(∀b o,s.H.Á b=ĳ o->h'.Á b=ĳ o)->ks.n<=items.E->(∀x,x∈ks↔x∈(List.æ items.E).Q val)->rN vk h' s.d ks->Q (.C s.d) {s with heap:=h',toks:=tk}):Ł (ł prog w) A (call (.È "set") [.C l]) Q E s:=by
 let J:l<s.d:=by let(o,ho,_):=Y;show a6 ho
 calc W5 (Φ:=λh'=>∃ks:Ĵ I,ks.n<=items.E/\(∀x,x∈ks↔x∈(List.æ items.E).Q val)/\rN vk h' s.d ks) Z (λA' E' Q' h1 F hu' s1 e1 L q1=>?_) λh' tk k ⟨ks,G,M,m⟩=>q h' tk ks k G M m;refine W4 (val:=val) (s:={s with heap:=h1}) jx nc O D N ye F (Y.at λo e=>L _ o e) (Ue vk e1) (ii J) (by simp_all) (λi v hv=>?_) hb λh' tk ks k G M m=>?_
 .let(b,e,hi):=B i v hv;show%[0,b,e|O hi (λb o its n e _=>L b o e)]
 .show q1 h' tk (λb o e=>k b o (bn<|a6 e)<|L b o e) %[2,ks,G,M|m]
end
@[reducible] def pJ (cf:Ĺ->Ĵ ĵ) (as:Ĵ Ĺ):PyProof.â.KeyKind:={PyProof.Rows.strKind with keyOf:=λv=>match v with|.C a=>if a∈as then ĳ (cf a) else ĺ|_=>none}
def yj {cf:Ĺ->Ĵ ĵ}{as:Ĵ Ĺ}{v:Ķ}{k:Ĵ ĵ}(h:(pJ cf as).Ģ v=ĳ k):∃a,v=.C a/\a∈as/\k=cf a:=by
 cases v <;> first|(cases h;done)|skip;rename_i a;by_cases m:a∈as
 .have:(pJ cf as).Ģ (.C a)=ĳ (cf a):=Ŀ m;rw[this]at h;show%[2,a,rb,m|(bd h).Ù]
 .have:(pJ cf as).Ģ (.C a)=ĺ:=ŀ m;rw[this]at h;cases h
theorem yp:∀vs:Ĵ Ķ,vs.zip vs=vs.Q λv=>(v,v)
 | []=>rfl
 | v::vs=>Œ ((v,v) :: ·) (yp vs)
def HY (m:a∈as):(pJ cf as).Ģ (.C a)=ĳ (cf a):=Ŀ m
section
variable {prog:Ň}{w:ŋ}{A:ō}{E:AB}{s:Ľ}
def Nf {vs:Ĵ Ķ}(N:s.H.Á a=ĳ (seqObj "list" vs.Y n))(hz:vs.n<=4000)(h0:ŕ I (pairsOf vs))(hk:2<=vs.n->∀(h':Ō) (Q:Ť->Ľ->Prop),(∀b o,s.H.Á b=ĳ o->b≠a->h'.Á b=ĳ o)->Q kn {s with heap:=h' }->Ł (ł prog w) A (keyKind' vs.Y) Q E {s with heap:=h' })(hc:∀(h':Ō),(∀b o,s.H.Á b=ĳ o->b≠a->h'.Á b=ĳ o)->jP prog w A {s with heap:=h' } I kn)(h:∀(h':Ō) (out:Ĵ Ķ),out.ú vs->out.Ä (λx y=>I.ģ ((I.Ģ x).Í I.dflt)<|(I.Ģ y).Í I.dflt)->(∀b o,s.H.Á b=ĳ o->b≠a->h'.Á b=ĳ o)->(∃e,h'.Á a=ĳ (seqObj "list" out.Y e))->P (.done<|.ret .ß) {s with heap:=h' }):Ł (ł prog w) A (Builtin.«list.sort» %[[.C a]|[]]) P E s:=by
 rw[list_sort_plain];let ha:a<s.d:=a6 N;let F:vs.n<=Ń:=aw hz yi;calc ab<|listItems_at N rb ?_;calc ab<|listUpdate_at N rb ?_ (by show F)<|b5 _;obtain⟨e1,M⟩:∃e1,(s.H.ī a<|Obj.Ĳ λ_=>#[]).Á a=ĳ (seqObj "list" #[] e1):=%[_|get?_update_seq N λ_=>#[]]
 calc ab<|seqEpoch_at M rb ?_;calc ab<|wpAny_newTuple ?_ (by show F);calc ab<|xc ?_<|b5 _;calc eK ?_;let B:(((s.H.ī a<|Obj.Ĳ λ_=>#[]).Ò<|seqObj "tuple" vs.Y 0).Ò<|seqObj "list" #[] 0).Á a=ĳ (seqObj "list" #[] e1):=by rw[xy _ _ _ (by rw[size_push',Heap.size_update];show bn<|hV ha),xy _ _ _ (by rw[Heap.size_update];show bn ha)];show M
 let Y:∀b o,s.H.Á b=ĳ o->b≠a->(((s.H.ī a<|Obj.Ĳ λ_=>(#[]:Ņ Ķ)).Ò<|seqObj "tuple" vs.Y 0).Ò<|seqObj "list" #[] 0).Á b=some o:=λb o e O=>by calc ag _<|ag _ ?_;rw[ww _ _ _ _ O];show e
 dsimp only;generalize ((s.H.ī a<|Obj.Ĳ λ_=>(#[]:Ņ Ķ)).Ò<|seqObj "tuple" vs.Y 0).Ò (seqObj "list" #[] 0)=Gf at B Y ⊢;let L:∀(out:Ņ Ķ),out.I.ú vs->out.I.Ä (λx y=>I.ģ ((I.Ģ x).Í I.dflt)<|(I.Ģ y).Í I.dflt)->P (.done<|.ret .ß) {s with heap:=Gf.ī a<|Obj.Ĳ λ_=>out}:=λout pp sp=>by
  calc h _ out.I pp sp (λb o e O=>?_) ?_;.rw[ww _ _ _ _ O];show Y b o e O
  .show%[_|get?_update_seq B λ_=>out]
 by_cases D:vs.Y.E<2
 .let J:vs.n<2:=by show D
  rw[Ŀ D,Ŀ D];calc ab<|af ?_;calc ab<|af ?_;dsimp only;let Z:(arrOf<|SortSt.mk' general' (vs.Y.zip vs.Y) #[] 7 ĺ).Q (·.2)=vs.Y:=by apply nI.mp;rw[uu,x4,yp,cp];show me _
  calc ab<|seqEpoch_at B rb ?_;calc ab<|listUpdate_at B rb ?_ (b5 _) (by rw[Z];show kr F);simp only[bne_self_eq_false,a9,if_false];calc af<|L _ (by rw[Z]) ?_;rw[Z];show(show ∀(R:Ķ->Ķ->Prop) (u:Ĵ Ķ),u.n<2->u.Ä R from λR u h=>by
   cases u with
   | nil=>show .Ü
   | cons v r=>
    cases r with
    | nil=>show List.pairwise_singleton _ _
    | cons w r=>show ń h<|Nat.not_lt.Û<|fz 2 r.n) _ vs J
 .let J:2<=vs.n:=by show kH D
  rw[ŀ D,ŀ D];calc ab<|hk J Gf _ Y ?_;refine ab (gz (Zv (K:=I) (kn:=kn) (hc Gf Y) (st:=SortSt.mk' kn (vs.Y.zip vs.Y) #[] 7 ĺ)
   (Q:=λ_ st'=>failedOf st'=ĺ/\(arrOf st').I.ú (pairsOf vs).I/\(arrOf st').I.Ä (kL I)) rb rb rb h0 λst' a1 a2 a3=>%[a1,a2|a3]) ?_ λ_ _ e=>e)
  rintro⟨⟨⟩,st'⟩ s' ⟨rfl,hf,hp,hs⟩;let pv:(pairsOf vs).I=vs.Q λv=>(v,v):=by show (vs.Y.zip vs.Y).I=_;rw[x4];show yp vs
  rw[pv]at hp;let hm:∀p∈(arrOf st').I,p.1=p.2:=λp G=>by let(v,_,rfl):=ar.mp (hp.õ.mp G);rfl
  let pm:((arrOf st').Q (·.2)).I.ú vs:=by rw[uu];have:=hp.Q (·.2);rw[cp]at this;show this.Z<|x8<|me _
  let sm:((arrOf st').Q (·.2)).I.Ä (λx y=>I.ģ ((I.Ģ x).Í I.dflt)<|(I.Ģ y).Í I.dflt):=by rw[uu,c_];calc kN (λ{p q} G hqm hpq=>?_) hs;rw[<-hm p G,<-hm q hqm];show hpq
  refine ab<|seqEpoch_at B rb<|ab<|listUpdate_at B rb ?_ (b5 _)<|kr ?_
  .rw[hf];simp only[bne_self_eq_false,a9,if_false];show af<|L _ pm sm
  .have:=pm.length_eq;rw[bo]at this;simp[*]
def JG (Y:Ł (ł prog w) A.ħ (collect v) (λvs s1=>∃(I:PyProof.Rows.KeyKind) (kn:SortKind),vs.n<=4000/\ŕ I (pairsOf vs)/\
   (2<=vs.n->∀(h':Ō) (Q:Ť->Ľ->Prop) (E:AB),(∀b o,s1.H.Á b=ĳ o->h'.Á b=ĳ o)->Q kn {s1 with heap:=h' }->Ł (ł prog w) A.ħ.ħ (keyKind' vs.Y) Q E {s1 with heap:=h' })/\
   (∀(h':Ō),(∀b o,s1.H.Á b=ĳ o->h'.Á b=ĳ o)->jP prog w A.ħ.ħ {s1 with heap:=h' } I kn)/\
   ∀(h':Ō) (out:Ĵ Ķ) (e:ĵ),(∀b o,s1.H.Á b=ĳ o->h'.Á b=ĳ o)->out.ú vs->out.Ä (λx y=>I.ģ ((I.Ģ x).Í I.dflt)<|(I.Ģ y).Í I.dflt)->h'.Á s1.d=ĳ (seqObj "list" out.Y e)->
    Q (.C s1.d) {s1 with heap:=h' }) E s):Ł (ł prog w) A (call (.Õ "sorted") [v]) Q E s:=by
 calc Calls.call_function_entry kind_sorted plain_sorted entry_sorted (args_sorted1 _) ?_;calc ab (m:=checkCount "sorted" 1 1 _)<|af ?_;calc ab<|bJ Y λvs s1 zq=>?_;let(I,kn,hz,J,hk,G,h):=zq;calc ab<|xc ?_<|aw hz yi;let L:(s1.H.Ò<|seqObj "list" vs.Y 0).Á s1.d=ĳ (seqObj "list" vs.Y 0):=aT _ rfl;let keep:∀b o,s1.H.Á b=ĳ o->(s1.H.Ò<|seqObj "list" vs.Y 0).Á b=some o:=λb o e=>ag _ e;let nb:∀b o,s1.H.Á b=ĳ o->b≠s1.d:=λb o q=>bn<|a6 q;refine ab (eK (de slot_list_sort (s:={s1 with heap:=s1.H.Ò<|seqObj "list" vs.Y 0}) %[0,_,L|rb] entry_list_sort
  (Nf (s:={s1 with heap:=s1.H.Ò<|seqObj "list" vs.Y 0}) L hz J (λF h' Q' kp=>hk F h' Q' _ λb o e=>kp b o (keep b o e)<|nb b o e) (λh' kp=>G h' λb o e=>kp b o (keep b o e)<|nb b o e) λh' out D sp kp B=>%[0,_,rb|?_])<|args_list_sort _))
 let(e,B):=B;show af %[0,_,rb|h h' out e (λb o z=>kp b o (keep b o z)<|nb b o z) D sp B]
end
abbrev T3:=ĵ×ĵ×ĵ
def mG (t:T3):Dt:=.Ã [.R t.1,.R t.2.1,.À [t.2.2]]
def Ai (t:T3):ĵ:=t.1*1000000+t.2.1*1000+t.2.2
def uy (ts:Ĵ T3):Dt:=.Ã (ts.Q mG)
def jm (ts:Ĵ T3):Ĵ ĵ:=ts.Q Ai
def qy (t:T3):Prop:=t.2.1<1000/\t.2.2<128
def ab6 (h:mG t=mG u):t=u:=by injection h with h;injection h with h1 h2;injection h2 with h2 h3;injection h3 with h3 _;injection h1 with h1;injection h2 with h2;injection h3 with h3;injection h3 with h3 _;show ue (nw h1)<|ue (nw h2) h3
def Rm (F:qy t)(D:qy u)(h:Ai t=Ai u):t=u:=by let(a,b,c):=t;let(d,e,f):=u;let(h1,L):=F;let(J,M):=D;simp only[Ai]at h h1 L J M;let B:a=d:=ye;subst B;let G:b=e:=ye;subst G;let q:c=f:=ye;subst q;rfl
theorem Ng:∀{ts us:Ĵ T3},(∀t∈ts,qy t)->(∀u∈us,qy u)->jm ts=jm us->ts=us
 | [],[],_,_,_=>rfl
 | [],_::_,_,_,h=>by cases h
 | _::_,[],_,_,h=>by cases h
 | t::ts,u::us,h1,h2,h=>by injection h with a b;rw[Rm (h1 _ aS) (h2 _ aS) a,Ng (λx hx=>h1 x<|aE _ hx) (λx hx=>h2 x<|aE _ hx) b]
section
variable {prog:Ň}{w:ŋ}{A:ō}{E:AB}{s:Ľ}
def K5 (r:Ŵ h v (toP<|mG t) as):∃(a:Addr) (o:Obj) (n:Nat) (F D B:Tok),v=.C a/\h.Á a=ĳ o/\o.cls=.È "tuple"/\o.ă=.ð [Value.R t.1 F,Value.R t.2.1 D,Value.À (S [t.2.2]) B].Y n:=by
 unfold mG at r;simp only[toP,eO]at r;cases r with
 | @tuple a o vs n xs as ho hc hd ra=>
  cases q:vs.toList with
  | nil=>rw[q]at ra;cases ra
  | cons v1 r1=>
   rw[q]at ra;cases ra with
   | cons q1 ra=>
    cases q1 with
    | int i F=>
     cases ra with
     | cons q2 ra=>
      cases q2 with
      | int j D=>
       cases ra with
       | cons q3 ra=>
        cases q3 with| str x B=>cases ra;calc%[57,a,o,n,F,D,B,rb,ho,hc|?_];rw[hd];rw[<-q]
def afO (hp:Ŵ s.H p (toP<|mG t) as)(hq:Ŵ s.H q (toP<|mG u) bs)(ht:qy t)(hu:qy u)(hne:t≠u)(O:A.Þ<cLine)(h:Q (.Ć<|ľ<|Ai t<Ai u) s):Ł (ł prog w) A (compareOp .Lt p q) Q E s:=by
 let(a,oa,na,t1,t2,Z,rfl,ha,ca,da):=K5 hp;let(b,ob,nb,u1,u2,Y,rfl,hb,cb,db):=K5 hq;let(x1,L,B):=t;let(M,J,D):=u;let(k1,k2):=ht;let(k3,k4):=hu;simp only[Ai]at h k1 k2 k3 k4 da db;let Ta:s.Ā (.C a) "tuple":=%[0,oa,ha|ca]
 let Tb:s.Ā (.C b) "tuple":=%[0,ob,hb|cb]
 calc og (op:=.Lt) (T:="tuple") Ta Tb qB (de qB Ta F.entry_tuple_lt ?_<|xp _ _) O;show Ł _ _ (Ş (.C b) (.È "tuple") >>= _) _ _ s;calc ab<|ip Tb isSubtype_tuple_tuple ?_;calc ab<|iX ha da<|ab<|iX hb db<|ab ?_;rw[show ([Value.R (x1:ļ) t1,Value.R (L:ļ) t2,Value.À (S [B]) Z]:Ĵ Ķ).Y.I.zip ([Value.R (M:ļ) u1,Value.R (J:ļ) u2,Value.À (S [D]) Y]:Ĵ Ķ).Y.I=[(Value.R (x1:ļ) t1,Value.R (M:ļ) u1),(Value.R (L:ļ) t2,Value.R (J:ļ) u2),(Value.À (S [B]) Z,Value.À (S [D]) Y)] from rfl];let G:∀c:œ,c=ľ (x1*1000000+L*1000+B<M*1000000+J*1000+D)->Q (.Ć c) s:=λc e=>by rw[e];show h
 (rw[gv];calc ab ?_;dsimp only;calc ab<|iS _ _ _ _ prog w _ _ ?_);by_cases ex:x1=M
 .subst ex;(simp only[beq_self_eq_true,eP,a9,if_false];calc af ?_;dsimp only);(rw[gv];calc ab ?_;dsimp only;calc ab<|iS _ _ _ _ prog w _ _ ?_);by_cases ey:L=J
  .subst ey;(simp only[beq_self_eq_true,eP,a9,if_false];calc af ?_;dsimp only);rw[gv];calc ab ?_;calc ab ((eqGives_str (S [B]) (S [D]) Z Y).at _ _ prog w _ _ ?_);let N:(S [B]==S [D])=Ļ:=by
    apply beq_eq_false_iff_ne.mpr;intro e;show (show B≠D from λe=>hne (by rw[e])) (by have:=uW e;injection this)
   simp only[N,kU,if_true];calc ab<|gL<|ab<|lt_str ?_;calc ab<|af<|af<|af<|af %[2,_,rb,yf|?_];calc G _ ?_;have:(S [B]).ē.I<(S [D]).ē.I↔B<D:=by show [B]<[D]↔_;simp[hG]
   by_cases z:B<D;.rw[am (this.Û z),am (wq z _)]
   .rw[al (λy=>z<|this.mp y),al (by simp[*])]
  .let N:((L:ļ)==(J:ļ))=Ļ:=by
    apply beq_eq_false_iff_ne.mpr;intro z;show ey ye
   simp only[N,kU,if_true];calc ab<|gL<|ab<|lt_int ?_;calc ab<|af<|af<|af<|af %[2,_,rb,yf|?_];calc G _ ?_;by_cases z:L<J;.rw[am (ie eJ z),am ye]
   .rw[al (by simp[*]),al ye]
 .let N:((x1:ļ)==(M:ļ))=Ļ:=by
   apply beq_eq_false_iff_ne.mpr;intro z;show ex ye
  simp only[N,kU,if_true];calc ab<|gL<|ab<|lt_int ?_;calc ab<|af<|af<|af<|af %[2,_,rb,yf|?_];calc G _ ?_;by_cases z:x1<M;.rw[am ye,am ye]
  .rw[al ye,al ye]
def W7 (t:T3)(h:qy t):(toP<|mG t).canLay0=ķ/\(toP<|mG t).depth<=1:=by
 let h1:fX (default:W.Ê) (λ_=>ĺ) 0 (.À [t.2.2]) (.À<|S [t.2.2]):=.À _ λc B=>by rw[av.mp B];show h.2
 constructor
 .unfold mG;simp only[toP,eO,PyData.canLay0,PyData.canLayAll0];have:=(h1.lay).1;simp[PyData.canLay0]at this ⊢;show this
 .unfold mG;simp[toP,eO,PyData.depth,PyData.depthAll]
theorem Rn (F:A.Þ+2<cLine):∀(xs ys:Ĵ Ķ) (ts us:Ĵ T3) (i:ĵ) {as bs:Ĵ Ĺ},ũ s.H xs (eO<|ts.Q mG) as->ũ s.H ys (eO<|us.Q mG) bs->(∀t∈ts,qy t)->(∀u∈us,qy u)->fin=ľ (xs.n<ys.n)->Q (ľ<|jm ts<jm us) s->KatLex prog w A Ļ fin Q (xs.zip ys) i s
 | xs,ys,[],us,i,as,bs,rx,ry,_,_,hf,q=>by
  simp only[n9,eO]at rx;cases rx;calc kat_nil ?_;rw[hf];cases us with
  | nil=>simp only[n9,eO]at ry;cases ry;simpa [jm] using q
  | cons u us=>simp only[b7,eO]at ry;cases ry;simpa [jm] using q
 | xs,ys,t::ts,[],i,as,bs,rx,ry,_,_,hf,q=>by simp only[n9,eO]at ry;cases ry;rw[List.zip_nil_right];calc kat_nil ?_;rw[hf];simpa [jm] using q
 | xs,ys,t::ts,u::us,i,as,bs,rx,ry,h1,h2,hf,q=>by
  simp only[b7,eO]at rx ry;cases rx with
  | @cons v vs _ _ _ _ r1 r2=>
   cases ry with
   | @cons v' vs' _ _ _ _ r3 r4=>
    let D:=h1 t aS;let B:=h2 u aS;let J:=W7 t D;let L:=W7 u B;rw[List.zip_cons_cons];calc kat_cons<|SeqAt.eqAt_reads _ _ A s _ _ _ _ r1 r3 J.1 L.1 (by have:=on (toP<|mG t).depth (toP<|mG u).depth;show ax F) prog w _ _ ?_;by_cases e:t=u
    .subst e;rw[(Fw _ _).Û rfl];calc kat_yes<|Rn F vs vs' ts us (i+1) r2 r4 (λx hx=>h1 x<|aE _ hx) (λx hx=>h2 x<|aE _ hx) (by rw[hf];simp) ?_;have:ľ (jm ts<jm us)=ľ (jm (t::ts)<jm (t::us)):=ph.Û (by simp[jm,hG]);rw[this];show q
    .let G:PyData.eqv (toP<|mG t) (toP<|mG u)=Ļ:=by
      cases z:PyData.eqv (toP<|mG t) (toP<|mG u) with| false=>rfl| true=>show ń (ab6<|(Fw _ _).mp z) e
     rw[G];calc kat_no<|kat_one _ _<|afO r1 r3 D B e ye ?_;show Q _ s;have:ľ (Ai t<Ai u)=ľ (jm (t::ts)<jm (u::us)):=ph.Û (by
      let ne:Ai t≠Ai u:=λz=>e<|Rm D B z;simp[jm,hG,ne])
     rw[this];show q
def qP (r:Ŵ h v (toP<|uy ts) as):∃(a:Addr) (o:Obj) (vs:Ņ Ķ) (n:Nat) (bs:Ĵ Ĺ),v=.C a/\h.Á a=ĳ o/\o.cls=.È "tuple"/\o.ă=.ð vs n/\ũ h vs.I (eO<|ts.Q mG) bs:=by
 unfold uy at r;simp only[toP]at r;cases r with| @tuple a o vs n xs as ho hc hd ra=>show%[32,a,o,vs,n,as,rb,ho,hc,hd|ra]
def nJ (h:Ō)(q:Ĺ->Ĵ T3)(as:Ĵ Ĺ):Prop:=∀a∈as,(∃rs,Ŵ h (.C a) (toP<|uy<|q a) rs)/\q a≠[]/\∀t∈q a,qy t
def Ro (h:nJ s.H lf as)(hu:A.Þ+2<cLine):jP prog w A s (pJ (λa=>jm<|lf a) as) (tuples' Ļ):=by intro E x y a b Q ka L q;let(p,rfl,mp,rfl):=yj ka;let(p',rfl,J,rfl):=yj L;let((rs,r),_,ok):=h p mp;let((rs',r'),_,F):=h p' J;let(_,o,vs,n,bs,e1,Z,hc,hd,ra):=qP r;let(_,o',N,n',M,O,B,Y,G,D):=qP r';cases e1;cases O;show kat_lt Z hd B G<|Rn hu _ _ _ _ 0 ra D ok F yf q
def Nh (h:nJ s.H lf as)(h0:0<as.n)(q:Q (tuples' Ļ) s):Ł (ł prog w) A (keyKind' (as.Q Value.C).Y) Q E s:=by
 let kt:∀(bs:Ĵ Ĺ),(∀b∈bs,b∈as)->∃fs,KatTups s.H (bs.Q Value.C) fs/\fs.n=bs.n/\∀v∈fs,∃(c:Addr) (o:Obj),v=.C c/\s.H.Á c=ĳ o/\o.cls=.È "tuple":=by
  intro bs
  induction bs with
  | nil=>show λ_=>%[2,[],trivial,rb|λv hv=>by simp at hv]
  | cons b bs ih=>
   intro Z;let(fs,L,Y,O):=ih λx hx=>Z x (aE _ hx);let((rs,r),ne,ok):=h b (Z b aS);let(_,o,vs,n,cs,e1,M,J,hd,D):=qP r;cases e1;cases F:lf b with
   | nil=>show ń F ne
   | cons t ts=>
    rw[F]at D;cases B:vs.toList with
    | nil=>rw[B]at D;cases D
    | cons v1 vr=>
     rw[B]at D;cases D with
     | cons q1 _=>
      let(c,oc,nc,t1,t2,t3,rfl,N,G,_):=K5 q1;calc%[2,.C c::fs,KatTups.Ð M J hd (by rw[<-cq,B];rfl) L,by simp[Y]|λv hv=>?_];rcases a_.mp hv with z|z;.show%[1,c,oc,z,N|G]
      .show O v z
 let(fs,L,Y,O):=kt as λ_ h=>h;calc kat_kind (T:=.È "tuple") L ye (λv hv=>?_) yi q;let(c,o,rfl,M,J):=O v hv;rw[<-J];show(Looks.ld M).andThen .now
end
def nJ.keeps {h h':Ō}(l:nJ h lf as)(hk:∀b o,h.Á b=ĳ o->h'.Á b=ĳ o):nJ h' lf as:=λa ha=>let %[%[rs|r]|x]:=l a ha;%[%[rs|PyProof.â.Reads.Đ hk r]|x]
def nJ.sub (l:nJ h lf as)(q:∀b∈bs,b∈as):nJ h lf bs:=λa ha=>l a (q a ha)
def Gg (v:Ķ):Ĺ:=match v with|.C a=>a|_=>0
def Aj {as:Ĵ Ĺ}{out:Ĵ Ķ}(p:out.ú (as.Q Value.C)):∃as':Ĵ Ĺ,out=as'.Q Value.C/\as'.ú as:=by
 refine%[0,out.Q Gg,?_|?_]
 .rw[cp];calc(me _).Ù.Z<|du λv hv=>?_;let(a,_,rfl):=ar.mp (p.õ.mp hv);rfl
 .have:=p.Q Gg;rw[cp]at this;show this.Z<|x8<|me _
def JH (h:∀v∈vs,∃a∈as,v=.C a):ŕ (pJ cf as) (pairsOf vs):=λp hp=>by
 let hp:p∈vs.Q λv=>(v,v):=by
  have:(pairsOf vs).I=vs.Q λv=>(v,v):=by show (vs.Y.zip vs.Y).I=_;rw[x4];show yp vs
  rw[<-this];show hp
 let(v,hv,rfl):=ar.mp hp;let(a,ha,rfl):=h v hv;show%[cf a|HY ha]
def Rp {cf:Ĺ->Ĵ ĵ}{as as':Ĵ Ĺ}(hs:∀a∈as',a∈as)(h:(as'.Q Value.C).Ä (λx y=>(pJ cf as).ģ (((pJ cf as).Ģ x).Í (pJ cf as).dflt)<|((pJ cf as).Ģ y).Í (pJ cf as).dflt)):as'.Ä (λa b=>ľ (cf b<cf a)=Ļ):=by rw[c_]at h;calc kN (λ{a b} ha hb hab=>?_) h;rw[HY (hs a ha),HY (hs b hb)]at hab;show hab
def uz (K:W.Ê)(H:Hp)(a:Ĺ)(ts:Ĵ T3):Prop:=fX K H 2 (uy ts) (.C a)/\ts≠[]/\∀t∈ts,qy t
def uz.mv {K:W.Ê}{ts:Ĵ T3}(h:uz K H a ts)(s:aA H H'):uz K H' a ts:=%[h.1.mv s|h.2]
def JK (q:Ĵ (Ĵ T3)):Prop:=q.Ä (λx y=>ľ (jm y<jm x)=Ļ)
section
variable {X:Cx}{ao:AC}{T:St}{H:Hp}{s:Ľ}
def H_ (I:aL X ao T H s)(h:∀a∈as,uz X.K H a (lf a)):nJ s.H lf as:=λa ha=>%[(h a ha).1.reads I rb|(h a ha).2]
end
section
variable {X:Cx}
def Py {s:Ľ}{vs:Ĵ Ķ}(D:s.H.Á l=ĳ o)(F:o.cls=.È "tuple")(hd:o.ă=.ð vs.Y n)(hz:vs.n<=Ń)(q:Q vs {s with heap:=(s.H.Ò<|seqObj "list" #[] 0).ī s.d (Obj.Ĳ (· ++ vs.Y))}):Ł (ł prog w) A (collect<|.C l) Q E s:=by
 let h1:(s.H.Ò<|seqObj "list" #[] 0).Á l=ĳ o:=ag _ D;let B:(s.H.Ò<|seqObj "list" #[] 0).Á s.d=ĳ (seqObj "list" #[] 0):=aT _ rfl;let G:(Value.È "tuple" == Value.È "tuple")=ķ:=by rfl
 calc ab<|wE<|ij entry_proto_collect'<|ab<|xc<|af %[sL _ yn|ij entry_list_iadd' ?_];show Ł _ _ (Builtin.List.listExtendWith _ _ _) _ _ _;calc ab<|vw (T:="tuple") %[0,o,h1|F] ?_;rw[Ŀ (by simp)];calc ab<|listItems_at h1 hd<|ab<|listItems_at (xs:=#[]) (n:=0) B rb ?_;calc ab<|listUpdate_at (xs:=#[]) (n:=0) B rb (af ?_) (b5 _) (by simp only[Array.size_append,bP,om];lia);calc ab<|wpAny_load (get?_update_seq B _) ?_;show Ł _ _ (pure _) Q E _;rw[(show ((#[]:Ņ Ķ)++vs.Y).I=vs from yf)];show af q
def Dj {ao:AC}{s:Ľ}{R:St}{H:Hp}{Q:V->Hp->Prop}{L:Ĺ}{as:Ĵ Ĺ}{cf:Ĺ->Ĵ ĵ}{kn:Ť}(I:aL X ao R H s)(D:aP X.K H L (as.Q V.C)\/aM X.K H L (as.Q V.C))(hz:as.n<=4000)(hk:∀h':Ō,(∀b o,s.H.Á b=ĳ o->h'.Á b=ĳ o)->2<=as.n->∀(Q:Ť->Ľ->Prop) (E:AB),Q kn {s with heap:=h' }->Ł (ł X.Ñ X.w) X.A.ħ.ħ (keyKind' (as.Q Value.C).Y) Q E {s with heap:=h' })(hc:∀h':Ō,(∀b o,s.H.Á b=ĳ o->h'.Á b=ĳ o)->jP X.Ñ X.w X.A.ħ.ħ {s with heap:=h' } (pJ cf as) kn)(q:∀(p:Ĺ) (as':Ĵ Ĺ),H p=ĺ->as'.ú as->as'.Ä (λa b=>ľ (cf b<cf a)=Ļ)->Q (.C p) (upd H p<|.Ç<|as'.Q V.C)):Ł (ł X.Ñ X.w) X.A (call (.Õ "sorted") [.C L]) (EP X ao R Q) X.xe s:=by
 let F:(as.Q Value.C).n=as.n:=aa _;let J:as.n<=Ń:=aw hz yi;refine JG ((show ∀{Q:Ĵ Ķ->Ľ->Prop},Q (as.Q Value.C) {s with heap:=(s.H.Ò<|seqObj "list" #[] 0).ī s.d (Obj.Ĳ (· ++ (as.Q Value.C).Y))}->Ł (ł X.Ñ X.w) X.A.ħ (collect<|.C L) Q X.xe s from λq=>?_) ?_)
 .rcases D with D|D
  .let(its,Y,pl,_):=I.ĕ D;cases u_ Y;show collect_list pl.ö q (by rw[F];show J)
  .let(its,Y,(o,ho,N,no,Z),_):=I.ğ D;cases u_ Y;show Py ho N Z (by rw[F];show J) q
 let hsz:((s.H.Ò<|seqObj "list" #[] 0).ī s.d (Obj.Ĳ (· ++ (as.Q Value.C).Y))).X.E=s.d+1:=by rw[Heap.size_update,size_push']
 let keep:∀b o,s.H.Á b=ĳ o->((s.H.Ò<|seqObj "list" #[] 0).ī s.d (Obj.Ĳ (· ++ (as.Q Value.C).Y))).Á b=some o:=λb o z=>by let B:b<s.d:=a6 z;rw[ww _ _ _ _ (bn B),xy _ _ _ (bn B)];show z
 refine%[12,pJ cf as,kn,by rw[F];show hz,JH λv hv=>by let(a,ha,rfl):=ar.mp hv;show%[0,a,ha|rb],λh2 h' Q' E' kp q'=>?_,λh' kp=>?_|λh' out e kp pm up he=>?_]
 .rw[F]at h2;show hk h' (λb o z=>kp b o<|keep b o z) h2 _ _ q'
 .show hc h' λb o z=>kp b o<|keep b o z
 .let(as',rfl,M):=Aj pm;let G:(as'.Q V.C).n<=Ń:=by rw[aa,M.length_eq];show J
  let O:h'.Á (s.d+1)=ĳ (seqObj "list" (as'.Q Value.C).Y e):=by rw[<-hsz];show he
  calc%[1,.C<|s.d+1,_,I.Ĝ (o:=.Ç (as'.Q V.C)) (t':=s.toks) (λb o z=>kp b o<|keep b o z) (dq _) %[16,G,as'.Q Value.C,e,vd _|O],?_|q _ as' (I.ê.ä<|dq _) M (Rp (λa ha=>M.õ.mp ha) up)];show Value.C _=_;rw[hsz]
def ZL (K:W.Ê):Ĵ V->Hp->VK->Prop:=λxs H Q=>∃(L:Addr) (as:Ĵ Ĺ) (q:Ĺ->Ĵ T3),xs=[.C L]/\aP K H L (as.Q V.C)/\as.n<=4000/\(∀a∈as,uz K H a (q a))/\
 ∀(p:Ĺ) (as':Ĵ Ĺ),H p=ĺ->as'.ú as->JK (as'.Q q)->Q (.C p) (upd H p<|.Ç<|as'.Q V.C)
def Ia (N:X.A.Þ+64<cLine):d7 X (.Õ "sorted") (ZL X.K):=by intro ao s R H xs us Q I r h;let(L,as,M,rfl,J,hz,G,q):=h;let(u,rfl,F):=vals1 r;cases F;let B:=H_ I G;calc Dj (cf:=λa=>jm (M a)) I (.Â J) hz (λh' kp D Q' E' q'=>Nh (B.Đ kp) (ax D) q') (λh' kp=>Ro (B.Đ kp) (show X.A.Þ+1+1+2<cLine by lia)) λp as' hp pm up=>q p as' hp pm ?_;unfold JK;rw[c_];show up
def W8 (K:W.Ê):Ĵ V->Hp->VK->Prop:=λxs H Q=>∃(L:Addr) (as:Ĵ Ĺ) (cf:Ĺ->ĵ),xs=[.C L]/\(aP K H L (as.Q V.C)\/aM K H L (as.Q V.C))/\as.n<64/\(∀a∈as,ad3 H cf a)/\(as.Q cf).Ý/\
 ∀(p:Ĺ) (as':Ĵ Ĺ),H p=ĺ->as'.ú as->(as'.Q cf).Ä (·<·)->Q (.C p) (upd H p<|.Ç<|as'.Q V.C)
def zc:d7 X (.Õ "sorted") (W8 X.K):=by
 intro ao s R H xs us Q I r h;let(L,as,cf,rfl,hS,h64,O,hnd,q):=h;let(u,rfl,ru):=vals1 r;cases ru;let tup:∀a∈as,∃(x y:Nat) (J N:Tok) (o:Obj) (n:Nat) (rest:Ĵ Ķ),s.H.Á a=ĳ o/\o.cls=.È "tuple"/\o.ă=.ð (Value.R x J::Value.R y N::rest).Y n/\y<1000/\cf a=x*1000+y/\(rest=[]\/∃z Y,rest=[Value.À z Y]):=λa hm=>by
  let(x,y,rest,e,hy,hcf,hrest):=O _ hm;let(_,tv,V9,o,ho,hc,n,hd):=e.ok I.ê;cases V9 with
  | cons r1 rr=>
   cases rr with
   | cons r2 rr=>
    let(J,rfl):=r1;let(N,rfl):=r2;calc%[39,x,y,J,N,o,n,_,ho,hc,hd,hy,hcf|?_];rcases hrest with rfl|⟨z,rfl⟩;.cases rr;show .Â rfl
    .cases rr with| cons r3 rr=>cases rr;let(Y,rfl):=r3;show .Ó %[5,z,Y|rb]
 let inj:∀a b,a∈as->b∈as->cf a=cf b->a=b:=λa b ha hb e=>by
  let(i,hi,rfl):=cE.mp ha;let(j,hj,rfl):=cE.mp hb;let pwi:=gm.mp hnd;rcases tP i j with z|z|z;.show ń e (by have:=pwi i j (by simpa using hi) (by simpa using hj) z;simpa using this)
  .subst z;rfl
  .show ń e.Ù (by have:=pwi j i (by simpa using hj) (by simpa using hi) z;simpa using this)
 refine Dj (cf:=λa=>[cf a]) (kn:=tuples' ķ) I hS ye ?_ ?_ ?_
 .intro h' kp h2 Q' E' hQ;let kt:∀(bs:Ĵ Ĺ),(∀b∈bs,b∈as)->∃fs,KatTups h' (bs.Q Value.C) fs/\fs.n=bs.n/\∀v∈fs,∃(x:Int) (t:Tok),v=.R x t:=by
   intro bs
   induction bs with
   | nil=>show λ_=>%[2,[],trivial,rb|λv hv=>by simp at hv]
   | cons b bs ih=>
    intro hb;let(fs,k1,k2,k3):=ih λx hx=>hb x (aE _ hx);let(x,y,J,N,o,n,rest,ho,hc,hd,_):=tup b (hb b aS);show%[2,.R x J::fs,KatTups.Ð (kp _ _ ho) hc hd rb k1,by simp[k2]|λv hv=>by
     rcases a_.mp hv with z|z;.show%[5,_,_|z]
     .show k3 v z]
  let(fs,k1,k2,k3):=kt as λ_ h=>h;show kat_kind (s:={s with heap:=h' }) (T:=.È "int") k1 ye (λv hv=>by let(x,t,rfl):=k3 v hv;show Looks.of_pure rb) yi hQ
 .intro h' kp E x y a b C ka kb hC;let(p,rfl,mp,rfl):=yj ka;let(p',rfl,mp',rfl):=yj kb;let(x1,F,J,N,o1,n1,r1,ho1,hc1,hd1,hy1,aeu,hr1):=tup p mp;let(D,B,Y,t4,o2,n2,r2,Z,hc2,G,hy2,aev,hr2):=tup p' mp';let M:C (ľ<|x1*1000+F<D*1000+B) {s with heap:=h' }:=by
   let e:ľ (x1*1000+F<D*1000+B)=ľ ([cf p]<[cf p']):=ph.Û (by rw[aeu,aev,hG];simp);rw[e];show hC
  calc kat_lt (s:={s with heap:=h' }) (kp _ _ ho1) hd1 (kp _ _ Z) G ?_;calc kat_cons<|iS _ _ _ _ X.Ñ X.w _ _ ?_;refine kat_go (λe=>kat_yes ?_) λe=>kat_no ?_
  .let ex:x1=D:=by have:((x1:ļ)==(D:ļ))=ķ:=e;lia
   calc kat_cons<|iS _ _ _ _ X.Ñ X.w _ _ ?_;refine kat_go (λe=>kat_yes ?_) λe=>kat_no ?_
   .let ey:F=B:=by have:((F:ļ)==(B:ļ))=ķ:=e;lia
    let eij:p=p':=inj p p' mp mp' (by rw[aeu,aev,ex,ey]);subst eij;let eo:o1=o2:=by rw[ho1]at Z;show bd Z
    subst eo;rw[hd1]at G;let er:r1=r2:=by injection G with G _;have:=Œ Array.I G;simp at this;show this.2.2
    subst er;let fl:ľ ((Value.R (x1:ļ) J::Value.R (F:ļ) N::r1).Y.E<(Value.R (D:ļ) Y::Value.R (B:ļ) t4::r1).Y.E)=ľ (x1*1000+F<D*1000+B):=by rw[ex,ey];simp
    rcases hr1 with rfl|⟨z,t5,rfl⟩;.show kat_nil (by rw[fl];show M)
    .calc kat_cons<|SeqAt.EqAt.same _ X.Ñ X.w _ _ ?_;show kat_yes<|kat_nil (by rw[fl];show M)
   .let ey:F≠B:=λz=>by have:((F:ļ)==(B:ļ))=Ļ:=e;simp[z]at this
    calc kat_one _ _<|lt_int ?_;rw[show ľ ((F:ļ)<(B:ļ))=ľ (x1*1000+F<D*1000+B) by rw[ex];simp];show M
  .let ex:x1≠D:=λz=>by have:((x1:ļ)==(D:ļ))=Ļ:=e;simp[z]at this
   calc oneLt_int ?_;rw[show ľ ((x1:ļ)<(D:ļ))=ľ (x1*1000+F<D*1000+B) by
    by_cases z:x1<D;.rw[am (ie eJ z),am ye]
    .rw[al (by simp[*]),al ye]]
   show M
 .intro p as' hp pm up;calc q p as' hp pm ?_;rw[c_];calc(up.and<|c_.mp ((pm.Q cf).nodup_iff.Û hnd)).imp λ{a b} h=>?_;let h1:=qE h.1;rw[hG]at h1;have:¬cf b<cf a:=λz=>h1<|.Â z;show Nat.lt_of_le_of_ne (Iff.mp Nat.not_lt this) h.2
def qz (w:ŋ)(a:Ĺ)(bs:Ĵ Ĺ):Ō->Prop:=λh=>∃es ep t,SetT w h a es ep t/\es.I.Q (·.2)=bs.Q Value.C
def qz.ext (m:qz w a bs h):dg P w H h a (.ext<|qz w a bs):=by
 refine%[m,?_|λh1 F B k=>?_]
 .let(es,ep,t,(o,q,_),_):=m;show%[o|q]
 .let(es,ep,t,D,e):=B;show%[26,es,ep,t,D.mv k|e]
def Pz (w:ŋ)(K:W.Ê):Ĵ V->Hp->VK->Prop:=λxs H Q=>∃(p:Addr) (bs:Ĵ Ĺ) (B:Ĺ->Ĵ T3),xs=[.C p]/\H p=ĳ (.ext<|qz w p bs)/\bs.n<=4000/\(∀a∈bs,uz K H a (B a))/\
 ∀(p':Ĺ) (q:Ĵ Ĺ),H p'=ĺ->q.ú bs->JK (q.Q B)->Q (.C p') (upd H p'<|.Ç<|q.Q V.C)
def CK (hc:X.Ě=ķ)(hu:X.A.Þ+64<cLine):d7 X (.Õ "sorted") (Pz X.w X.K):=by
 intro ao s R H xs us Q I r h;let(p,bs,Z,rfl,hd,hn,hl,q):=h;let(u,rfl,ru):=vals1 r;cases ru;let((es,ep,t,m,O),_,_):=(show dg X.Ñ X.w H s.H p (.ext<|qz X.w p bs) from I.ê _ _ hd)
 let hes:es.E=bs.n:=by have:=Œ List.n O;rw[aa,aa]at this;show this
 calc cj<|JG<|Df (A:=X.A.in1) (I.ok.hd hc) m ye λh1 tk d acc Y pm=>?_;rw[O]at pm;let(as,rfl,G):=Aj pm;let M:(as.Q Value.C).n=as.n:=aa _;let D:=G.length_eq;let B:nJ h1 Z as:=((H_ I hl).sub λb hb=>G.õ.mp hb).Đ Y;refine%[12,pJ (λa=>jm<|Z a) as,tuples' Ļ,by rw[M,D];show hn,JH λv hv=>by let(a,ha,rfl):=ar.mp hv;show%[0,a,ha|rb],λN h' Q' E' kp q'=>?_,λh' kp=>?_|λh' out e kp pm up he ht=>?_]
 .rw[M]at N;show Nh (B.Đ kp) (ax N) q'
 .show Ro (B.Đ kp) (show X.A.Þ+1+1+2<cLine by lia)
 .let(as',rfl,J):=Aj pm;let F:(as'.Q V.C).n<=Ń:=by rw[aa,J.length_eq,D];show (aw hn yi)
  let I1:aL X ao R H {s with heap:=h1,toks:=tk,drawn:=d}:=(I.ġ (t':=tk) Y).aa0 d;calc%[1,.C h1.X.E,_,I1.Ĝ (o:=.Ç (as'.Q V.C)) (t':=tk) kp (ah _) %[16,F,as'.Q Value.C,e,vd _|he],rb|q _ as' I1.ä (J.Z G) ?_];unfold JK;rw[c_];show (Rp (λa ha=>J.õ.mp ha) up)
end
section
variable {P:Ň}{w:ŋ}{I:Type}[Ŏ I]
def W9 (vk:fM P w I)(p:I->Ķ->Prop):fM P w I where
 is:=λh k v=>vk.is h k v/\p k v
 hash:=vk.ÿ
 draws:=vk.draws
 deep:=vk.deep
 inj:=λh1 D=>vk.inj h1.1 D.1
 keeps:=λh F hd hs=>%[vk.Đ h.1 F hd hs|h.2]
 pyHash:=λB h q=>vk.pyHash B h.1 q
 eqBool:=λB h1 D q=>vk.eqBool B h1.1 D.1 q
 quiet:=λn hn h q=>vk.quiet n hn h.1 q
def afP {vk:fM P w I}{p:I->Ķ->Prop}(B:kY vk):kY (W9 vk p):=λn hn h q=>B n hn h.1 q
def afQ {vk:fM P w I}{p:I->Ķ->Prop}(B:wQ vk):wQ (W9 vk p):=λh q hd hs=>%[B h.1 q hd hs|h.2]
def afR {vk:fM P w I}{p:I->Ķ->Prop}(q:wR vk):wR (W9 vk p):=λh hs=>%[q h.1 hs|h.2]
def afS {vk:fM P w I}{p:I->Ķ->Prop}(B:M7 vk):M7 (W9 vk p):=λh q=>B h.1 q
end
def iC (ts:Ĵ T3):ux:=ts.Q λt=>[Sum.Â (t.1:ļ),Sum.Â (t.2.1:ļ),Sum.Ó (S [t.2.2])]
theorem yq:∀{ts us:Ĵ T3},iC ts=iC us->ts=us
 | [],[],_=>rfl
 | [],_::_,h=>by cases h
 | _::_,[],h=>by cases h
 | t::ts,u::us,h=>by injection h with a b;injection a with a1 a2;injection a2 with a2 q;injection q with q _;injection a1 with a1;injection a2 with a2;injection q with q;let q:=uW q;injection q with q _;rw[yq b,show t=u from ue (nw a1) (ue (nw a2) q)]
section
variable {P:Ň}{w:ŋ}
variable {X:Cx}
def Ck:(qO<|cV P w).is h (Sum.Â i) (Value.R i t):=by show (Jc i t)
def Rq:(qO<|cV P w).is h (Sum.Ó x) (Value.À x t):=by show (Jd x t)
theorem Rr:∀{ts:Ĵ T3} {vs:Ĵ Ķ} {as:Ĵ Ĺ},ũ h vs (eO<|ts.Q mG) as->jY (tupK<|qO<|cV P w) h (iC ts) vs
 | [],vs,as,r=>by simp only[n9,eO]at r;cases r;trivial
 | t::ts,vs,as,r=>by
  simp only[b7,eO]at r;cases r with| cons r1 r2=>let(a,o,n,G,F,D,rfl,q,B,hd):=K5 r1;show%[%[a,o,n,_,rb,q,B,hd,Ck,Ck,Rq|trivial]|Rr r2]
def aew (r:Ŵ h v (toP<|uy ts) as)(q:ts≠[]):(Ah P w).is h (iC ts) v:=by let(a,o,vs,n,bs,rfl,B,G,hd,D):=qP r;calc%[%[6,a,o,n,vs,rb,B,G,hd|Rr D],λz=>q<|qh.mp z|λt F=>?_];let(u,_,rfl):=ar.mp F;show%[9,_,_,_|rb]
def ab7 (w:ŋ)(K:W.Ê):Ĵ V->Hp->VK->Prop:=λxs H Q=>∃(L:Addr) (as:Ĵ Ĺ) (q:Ĺ->Ĵ T3),xs=[.C L]/\aP K H L (as.Q V.C)/\as.n<=3999/\(∀a∈as,uz K H a (q a))/\
 ∀(p:Ĺ) (bs:Ĵ Ĺ),H p=ĺ->(∀b∈bs,b∈as)->(bs.Q q).Ý->(∀a∈as,q a∈bs.Q q)->Q (.C p) (upd H p<|.ext<|qz w p bs)
def PB (hc:X.Ě=ķ)(hu:X.A.Þ+64<cLine):d7 X (.È "set") (ab7 X.w X.K):=by
 (intro ao s T H xs us Q I r h);let(L,as,B,rfl,hS,hz,hl,q):=h;let(u,rfl,ru):=vals1 r;cases ru;let(its,rv,pl,_):=I.ĕ hS;let agX:=u_ rv;subst agX;let hsz:(as.Q Value.C).Y.E=as.n:=yf;refine cj<|W6 (vk:=W9 (Ah X.Ñ X.w) λk v=>∃b∈as,v=.C b/\k=iC (B b)) (val:=λi=>iC (B<|as.Í i 0)) (show (2:Nat)<=8 by decide) (afP aen) (afR aes) (afQ aeo) (afS ab4) (show X.A.Þ+14+2<cLine by lia) (I.ok.hd hc) pl.ö (λi v hv=>?_) (by rw[hsz];show hz) λh' tk ks kk hkl N m ht=>?_
 .let hi:i<as.n:=by
   have:=(Array.getElem?_eq_some_iff.mp hv).1;simp_all
  let ev:v=.C as[i]:=by
   have:(as.Q Value.C)[i]?=ĳ v:=by simpa using hv
   rw[ba,ae hi]at this;show(bd this).Ù
  let eg:as.Í i 0=as[i]:=by simp[hi]
  let((rs,rd),ne,_):=(H_ I hl) as[i] (aI hi);calc%[0,as[i],ev|?_];rw[eg,ev];show%[23,aew rd ne,as[i],aI hi,rb|rb]
 .let(es,ep,t,m,ti,G,_,_):=m;let hv:∀(i:ĵ) e k,es.I[i]?=ĳ e->ks[i]?=ĳ k->∃b∈as,e.2=.C b/\k=iC (B b):=λi e k h1 h2=>((G.č i e k h1 h2).1).2;let M:es.I.Q (·.2)=((es.I.Q (·.2)).Q Gg).Q Value.C:=by
   rw[cp];calc(me _).Ù.Z<|du λv W_=>?_;let(e,he,rfl):=ar.mp W_;let(i,hi,rfl):=cE.mp he;let(b,_,J,_):=hv i _ (ks[i]'(by rw[G.len];show hi)) (ae hi) (ae _);rw[J];rfl
  let F:ks=((es.I.Q (·.2)).Q Gg).Q λb=>iC (B b):=by
   apply pi;.simp[G.len]
   .intro i h1 h2;let hi:i<es.I.n:=by rw[<-G.len];show h1
    let(b,_,J,e3):=hv i _ _ (ae hi) (ae h1);rw[e3];simp only[uv];rw[J];rfl
  generalize (es.I.Q (·.2)).Q Gg=bs at M F;let hbs:∀b∈bs,b∈as:=λb O=>by
   let(i,hi,rfl):=cE.mp O;let D:i<es.I.n:=by have:=Œ List.n M;rw[aa]at this;simp[*]
   let(b',Y,J,_):=hv i _ (ks[i]'(by rw[G.len];show D)) (ae D) (ae _);have:(es.I.Q (·.2))[i]?=ĳ (.C bs[i]):=by rw[M];simp[hi]
   rw[ba,ae D]at this;have:es.I[i].2=.C bs[i]:=bd this;rw[J]at this;cases this;show Y
  let nd:(bs.Q B).Ý:=by
   have:=G.nd;rw[F]at this;let e:(bs.Q λb=>iC<|B b)=(bs.Q B).Q iC:=by rw[cp];rfl
   rw[e]at this;show List.Ä.of_map iC (λa b Z z=>Z (by rw[z])) this
  calc%[1,.C s.d,_,I.Ĝ (o:=.ext (qz X.w s.d bs)) (t':=tk) kk (ah _)<|qz.ext %[26,es,ep,t,m|M],rb|q _ bs I.ä hbs nd λa ha=>?_];let(i,hi,rfl):=cE.mp ha;have:iC (B as[i])∈ks:=(N _).Û<|ar.Û %[0,i,by rw[hsz];show bS.Û hi|by simp[hi]];rw[F]at this;let(b,O,e):=ar.mp this;rw[<-yq e];show ar.Û %[0,b,O|rb]
end
end L2
namespace L2
open PySem PySem.Spec PyProof.Rows PySem.Builtin PySem.Builtin.Str
def wU (x y z:Ŋ)(t u v c:Tok)(hf:((occurrences x y 0 x.n 1).Ė||(y.n==0&&z.n==0))=Ļ->
   (u==0||v==0)=Ļ/\(u==v)=Ļ/\(y==z)=Ļ/\tooLong (x.n+(occurrences x y 0 x.n 1).n*z.n)=Ļ) :
  Gives («str.replace» %[[.À x t,.À y u,.À z v,.R 1 c]|[]]) (if ((occurrences x y 0 x.n 1).Ė||(y.n==0&&z.n==0))=ķ then .val (.À x t) else .À (glued z<|partsBetween x (occurrences x y 0 x.n 1) y.n)):=by
 show Gives (if ((occurrences x y 0 x.n 1).Ė||(y.n==0&&z.n==0))=true then (rule "str.replace.nothing" >>= λ_=>ret (.À x t)) else
     (isSame (.À y u) (.À z v) >>= λsame=>if same=ķ then (rule "str.replace.old-is-new" >>= λ_=>ret (.À x t)) else if tooLong (x.n+(occurrences x y 0 x.n 1).n*z.n)=ķ then unsupported "str.replace:memory" else retStr (glued z<|partsBetween x (occurrences x y 0 x.n 1) y.n))) _
 cases G:((occurrences x y 0 x.n 1).Ė||(y.n==0&&z.n==0))
 .let(D,B,q,F):=hf G;rw[isSame_str_other y z u v D B q,F];show .of_eq rfl
 .show .rule<|.of_eq rb
end L2
namespace L2
open PySem PySem.Spec PyProof.Rows
def Good (u:Ķ)(n:ĵ):Prop:=∃x t,u=.À x t/\0<t/\t<n
def GP (X:Cx)(ao:AC)(I:St)(Q:VK)(u:Ķ)(s':Ľ):Prop:=∃v H',aL X ao I H' s'/\bL v u/\Good u s'.Ï/\Q v H'
structure GE (X:Cx)(e:Ő)(t:TE):Prop where
 out:∀(ao:AC) (s:Ľ) (σ:St) (H:Hp) (Q:VK),aL X ao σ H s->t σ H Q->Ł (ł X.Ñ X.w) X.A (Ŕ e X.É) (GP X ao σ Q) X.xe s
section
variable {X:Cx}
def aa6 (ha:QE X a ta)(hs:Qu (.ù (.R i) j p)):GE X (.Č a (.ù (.R i) j p) pos) (wD adI ta<|tC<|.R i):=by
 calc⟨λao s T H Q I h=>?_⟩;calc Ů<|bJ (ha.ã ao s T H _ I h) λv s1 ⟨x,H1,I1,r1,q1⟩=>sC ?_;let(z,i',c,rfl,e',hz,B,q):=q1;cases e';let(t,rfl):=r1;let(O,h1,D,N,G,F):=Bv B;let M:z.ē.I.n=z.n:=by simp[Str.length]
 rw[M]at h1 G F;let hn:=tV;show tail_any (typeIs_str _ z t) slot_str_getitem.Æ (getItem_str (c:=c) (by
  rw[(al ye),(al ye),si]) (by rw[h1];simpa using D) %[4,.À ⟨#[c]⟩,H1,(I1.tok<|s1.Ï+1).tok _,%[_|rb],%[1,_,_,rb,mN _|eQ _]|q])<|hs _ _
def tUp (K:W.Ê)(to:TE):TE:=λT H Q=>to T H λx H1=>∃c:Nat,x=.À (S [c])/\c<128/\Q (.À<|S [up1 c]) H1
def afT {apos cpos:Pos}(N:GE X o to)(G:Ž (attributeBase o "upper" X.É (Ŕ o X.É)=Ŕ o X.É) ž)(D:Ž ((apos.endLine==cpos.line)=ķ) ž):GE X (.ĩ (.Ą o "upper" apos) [] [] cpos) (tUp X.K to):=by
 calc⟨λao s T H Q I h=>?_⟩;calc wpAny_Call_method0_late G D<|bJ (N.ã ao s T H _ I h) λv s1 Y=>?_;let(x,H1,I1,r1,O,c,e,M,q):=Y;subst e;let(t,rfl):=r1;let(_,t',e',J,L):=O;refine⟨27,"str","str.upper",bv,PySem.F.slot_str_upper,PySem.F.type_str_upper,typeIs_str s1 _ t,λ_ e=>(nomatch e),nL rb<|PySem.evalArgs_none ?_⟩
 .let B:Builtin.Str.tooLong (Txt.upper<|S [c]).n=Ļ:=fit_upper (by show aw (show 1<=1000 by decide) yi);calc call_gives F.slot_str_upper (typeIs_str s1 _ t) F.entry_str_upper (F.args_str_upper_1 _) (gives_str_upper (S [c]) t B) %[fit_le B|?_];let e:Txt.upper (S [c])=S ([c].Q up1):=by rw[upper_ascii (x:=S [c]) (λd hd=>by rw[av.mp hd];show M)];simp[S]
  show%[4,.À<|S [up1 c],H1,I1.tok _,%[s1.Ï|congrArg (λz=>Value.À z s1.Ï) e],%[1,_,s1.Ï,rb,mM J L|eQ _]|q]
end
theorem Ni:∀{l:Ĵ ĵ} {c i:ĵ},l[i]?=ĳ c->(∀k,k<i->l[k]?≠ĳ c)->l.Å i++l.Î (i+1)=l.ý c
 | [],_,_,h,_=>by simp at h
 | d::l,c,0,h,_=>by
  have:d=c:=by simpa using h
  subst this;simp
 | d::l,c,i+1,h,hk=>by let hd:d≠c:=λe=>hk 0 ye (by simp[e]);let B:=Ni (l:=l) (c:=c) (i:=i) (by simpa using h) (λk q=>by have:=hk (k+1)<|ui q;simpa using this);rw[r8 (by simpa using hd),<-B];simp
open Builtin.Str in
def Nj (l)(c)(h:c∈l):∃i,occurrences (S l) (S [c]) 0 (S l).n 1=[i]/\glued (S []) (partsBetween (S l) [i] (S [c]).n)=S (l.ý c):=by
 rcases StrLaws.occ_head (S l) (S [c]) 1 (ah 1) with⟨B,hk⟩|⟨i,r,B,hi,hk⟩
 .let(i,hi):=mx.mp h;show ń ((ku (S l) c i).Û hi)<|hk i
 .let D:=StrLaws.occ_length_le (S l) (S [c]) 0 (S l).n 1;rw[B]at D;have:r=[]:=List.eq_nil_of_length_eq_zero (by rw[bX]at D;lia);subst this;let F:l[i]?=ĳ c:=(ku (S l) c i).mp hi;calc%[0,i,B|?_];rw[(show partsBetween (S l) [i] (S [c]).n=[strSub (S l) 0 i,strSub (S l) (i+(S [c]).n) (S l).n] from rfl),KZ,KZ,(jg l),b9,<-Ni F (λk q z=>hk k q<|(ku (S l) c k).Û z)];show (⟨(S<|l.Å i).ē++(S []).ē++(S<|l.Î<|i+1).ē⟩:Ŋ)=_;unfold S;congr 1;apply nI.mp;simp
def cR (c:ĵ):ĵ:=if 65<=c/\c<=90 then 63 else c
def Ug (a b:ĵ):(!ľ ([b]<[a]))=ľ (a<=b):=by
 by_cases h:a<=b;.rw[am h,al (by simp[hG];show h)];rfl
 .rw[al h,am (by simp[hG];show uk h)];rfl
structure Gi (P:Ň)(w:ŋ)(K:W.Ê)(mg:Ŋ->ĸ Ķ)(base:Ō)(f:Ĺ)(fd:Ŝ):Prop where
 run:∀(A:ō) (outer:Ĵ Env) (s:Ľ) (H:Hp) (args:Args) (c:ĵ) (t:Tok),dR 1 A->xO P w K mg base A outer s H->š s fd args ([("sign":Ŋ)].zip [Value.À (S [c]) t])->0<t->t<s.Ï->
  codeAny (ł P w) A (.call (.C f) args) (λr s'=>∃u,r=.ok (.ret u)/\CE outer P w H s (λv H'=>v=.À (S [cR c])/\H'=H) u s'/\Good u s'.Ï) s
def ab8 {K:W.Ê}{mg:Ŋ->ĸ Ķ}{st:ŏ}{x1 x2 x3:Ŋ}{j1 j3 j5:_}(F:rD K "tile_of" "tile_of" st f fd)(Y:aX ["sign"] ["sign"] (aJ st))(D:(aJ st).Ú.Æ ("sign":Ŋ)=ĳ .ô)(hb:eU st=[.Return (ĳ<|.IfExp (.Compare (.ù (.À x1) j1 p1) [.LtE,.LtE] [.å "sign" p2,.ù (.À x3) j3 p3] p4) (.ù (.À x2) j5 p5) (.å "sign" p6) p7) p8])(h1:x1=S [65])(h2:x2=S [63])(h3:x3=S [90]):Gi P w K mg base f fd:=by
 subst h1 h2 h3;let(oc,od,kV,doc,pm,an,bw,ct,osl,rfl,lk,hcd):=F.ex;calc⟨λA outer s H args c t hr O hbd t0 t1=>?_⟩;let KX:K.In s.H:=O.mod.yR.Đ λb o e=>(O.bs b o e).1;let L:∀y∈[("sign":Ŋ)].zip [Value.À (S [c]) t],(aJ st).Ú.Æ y.1=ĳ .ô\/((aJ st).Ú.Æ y.1=ĳ .ñ/\((cellsFrom (s.d+1) (aJ st).Ú []).Æ y.1).ĝ=ķ):=λzq hy=>by let(n,v):=zq;let hn:n="sign":=av.mp (vv hy).1;subst hn;show .Â D
 calc uB hr.depth (KX _ _ lk) rb Y.co Y.gen rb (wT KX hcd)<|hbd _ _ _ _ ?_;calc cj<|wpAny_newFunctionEnv_cells Y.þ L λenv he s1 x ht=>?_;subst he;calc%[(O.mod.nolimit.Đ λb o e=>(O.bs b o e).1).Đ x.Ĥ.keep|codeAny_func ?_];let I:aL (pA qj P w K mg base ["sign"] "tile_of" (aJ st) f bw A outer s H E0) [] (start ["sign"] [.À (S [c])]) H s1:=zN Y hr.hd O rb (.Ð %[t|rb] .Ü) x ht
 let hm:bindL (envOfC "tile_of" (aJ st) s.d f bw).ę ([("sign":Ŋ)].zip [Value.À (S [c]) t]) (λ_=>ĺ) "sign"=ĳ (Value.À (S [c]) t):=zM (i:=0) (P:=["sign"]) (vs:=[Value.À (S [c]) t]) yi rb rb D
 rw[hb];let N:t<s1.Ï:=bq t1 ht;let nm:∀(tk:ĵ) (p:Pos) (Q:AB) (E:AB),Q (.À (S [c]) t) {s1 with toks:=tk}->
   Ł (ł P w) (A.deeper<|envOfC "tile_of" (aJ st) s.d f bw) (Ŕ (.å "sign" p)<|envOfC "tile_of" (aJ st) s.d f bw) Q E {s1 with toks:=tk}:=λtk p Q E q=>
  tj (vi Y.þ D x.Ĥ.ns hm q) yi
 let M:∀(B:ĵ) (y:Tok) (d:ĵ),d=cR c->0<y->y<B->s1.Ï<=B->∃u,(Except.ok (Flow.ret<|.À (S [d]) y):Result)=.ok (.ret u)/\CE outer P w H s (λv H'=>v=.À (S [cR c])/\H'=H) u {s1 with toks:=B }/\Good u B:=λB y d hd a2 a3 a4=>by let J:=I.tok B;subst hd;show%[33,_,rb,%[53,.À<|S [cR c],H,J.os,J.bare,J.ø,J.ê,%[y|rb],%[rb|rb],J.gh|J.tk],_,y,rb,a2|a3]
 calc oI<|wpAny_Return_some<|wpAny_IfExp<|isTrue_chain<|kF<|test_link<|nm _ _ _ _<|ya<|fq ?_;let G:∀a:ĵ,(S [a]).ē.I=[a]:=λa=>rfl;rw[G,G,Ug];by_cases c1:65<=c
 .rw[am c1];calc ite_tt<|test_last<|kF<|ya<|fq ?_;rw[G,G,Ug];by_cases Z:c<=90
  .rw[am Z];calc ite_tt<|kF ?_;show M (s1.Ï+1+1+1) (s1.Ï+1+1) 63 (Ŀ %[c1|Z]).Ù (mN _) (eQ _) ye
  .rw[al Z];show ite_ff<|nm _ _ _ _<|M (s1.Ï+1+1) t c (if_neg λz=>Z z.2).Ù t0 (bq N<|kc s1.Ï 2) ye
 .rw[al c1];show ite_ff<|ite_ff<|nm _ _ _ _<|M (s1.Ï+1) t c (if_neg λz=>c1 z.1).Ù t0 (bq N<|dq _) ye
section
variable {X:Cx}{ao:AC}{C:St}{H:Hp}{s:Ľ}
variable {prog:Ň}{w:ŋ}{A:ō}{E:AB}
def Uh (X:Cx)(s:Ľ)(x:Ŋ)(u:Ķ):Prop:=∃m,s.H.Ns X.É.ď m/\Look X.É s.H m x u
def uD {E:AB}{x:Ŋ}{u:Ķ}{pos:Pos}{Q:AB}(I:aL X ao C H s)(h:Uh X s x u)(q:Q u s)(hd:Ž ((x==("__debug__":Ŋ))=Ļ) ſ)(D:Ž ((x==("__classdict__":Ŋ))=Ļ) ſ):Ł (ł X.Ñ X.w) X.A (Ŕ (.å x pos) X.É) Q E s:=by
 let(m,hn,l):=h;rcases l with⟨hk,hm⟩|⟨hk,c,F,B⟩;.show tj (vi I.ok.þ hk hn hm q) hd
 .rcases hk with hk|hk;.show tj (wpAny_loadName_cell I.ok.þ hk F B q) hd
  .show tj (wpAny_loadName_free I.ok.þ hk F B q D) hd
def vW (ir is it il : ĵ)(tb : TS)(c : ĵ) : TS := λD C H => ∃l : Ĵ ĵ, (((C.Ď is<|ĳ<|.À<|S [c]).Ď it<|ĳ<|.À<|S [cR c]))[ir]? = ĳ (ĳ<|.À<|S l) /\ l.n <= 1000 /\
  (if cR c ∈ l then tb {nx := D.nx, rt := D.rt} (((C.Ď is<|ĳ<|.À<|S [c]).Ď it<|ĳ<|.À<|S [cR c]).Ď il<|ĳ<|.À<|S<|l.ý<|cR c) H
   else D.nx ((C.Ď is<|ĳ<|.À<|S [c]).Ď it<|ĳ<|.À<|S [cR c]) H)
def agY (ir is it il:ĵ)(G F:TE)(tb:TS):TS:=λD C H=>G C H λx1 H1=>F C H1 λJ L=>∃q B:Nat,x1=.À (S [q])/\J=.À (S [B])/\
 vW ir is it il tb q {nx:=vW ir is it il tb B D,rt:=D.rt} C L
structure Ui (X:Cx)(ir is it il:ĵ)(f:Ĺ)(fd:Ŝ):Prop where
 nd:X.N.Ý
 r:X.N[ir]?=ĳ "rack"
 s:X.N[is]?=ĳ "sign"
 t:X.N[it]?=ĳ "tile"
 l:X.N[il]?=ĳ "left"
 vr:Ve X.É.ĉ "rack"
 vs:Loc X.É.ĉ "sign"
 vt:Loc X.É.ĉ "tile"
 vl:Loc X.É.ĉ "left"
 fs:X.fn "sign"=ķ
 ft:X.fn "tile"=ķ
 fl:X.fn "left"=ķ
 T:Gi X.Ñ X.w X.K X.mg X.ø f fd
 b:lN X.K fd ["sign"] []
 m:X.mg "tile_of"=ĳ (.C f)
 k:W.Ī X.K (.C f)=ķ
 g:Gl X "tile_of"
 rm:dR 1 X.A
abbrev Ib (x0 : Ŋ)(j0 j1 : ĵ)(JL JM pk2 JN JQ Rt Ru Rv JR JT vX yr yt yu vY Ak Ie : Pos)(rest : Ĵ ŏ) : Ĵ ŏ :=[.Assign [.å "tile" JL] (.ĩ (.å "tile_of" JM) [.å "sign" pk2] [] JN) JQ,
   .If (.Compare (.å "tile" Rt) [.In] [.å "rack" Ru] Rv) (.Assign [.å "left" JR] (.ĩ (.Ą (.å "rack" JT) "replace" vX) [.å "tile" yr, .ù (.À x0) j0 yt, .ù (.R 1) j1 yu] [] vY) Ak::rest) [] Ie]
def Xa (Y:Ui X ir is it il f fd)(I:aL X ao C H s):Ł (ł X.Ñ X.w) X.A (assign (.å "sign" p1) X.É<|.À (S [c]) t) (λ_ s2=>aL X ao (C.Ď is<|ĳ<|.À<|S [c]) H s2/\Uh X s2 "sign" (.À (S [c]) t)/\s.Ï<=s2.Ï) X.xe s:=cj (tI<|uV I Y.nd Y.s Y.vs (v:=.À (S [c])) %[t|rb] (λs' I' _ ex q=>%[I',ex|q])<|.Â Y.fs)
def ZM {ir is it il:ĵ}{c:ĵ}{t:Tok}{N:Ŋ}{j0 j1:ĵ}{JL JM G JN JQ Rt Ru Rv JR JT Z O yt yu vY Ak Ie:Pos}{rest:Ĵ ŏ}{D:Ends}(Y:Ui X ir is it il f fd)(hx0:N=S [])(hl1:(Z.endLine==vY.line)=ķ)(hs1:swapsWith (.ĩ (.å "tile_of" JM) [.å "sign" G] [] JN) (ĳ<|.å "tile" JL) JQ.line X.É=pure Ļ)(hs2:swapsWith (.ĩ (.Ą (.å "rack" JT) "replace" Z) [.å "tile" O,.ù (.À N) j0 yt,.ù (.R 1) j1 yu] [] vY) (ĳ<|.å "left" JR) Ak.line X.É=pure Ļ)(B:tU X rest tb)(I:aL X ao (C.Ď is<|ĳ<|.À<|S [c]) H s)(ex:Uh X s "sign" (.À (S [c]) t))(t0:0<t)(t1:t<s.Ï)(q:vW ir is it il tb c D C H):Ł (ł X.Ñ X.w) X.A (execs (Ib N j0 j1 JL JM G JN JQ Rt Ru Rv JR JT Z O yt yu vY Ak Ie rest) X.É) (SP X ao {nx:=D.nx,rt:=D.rt}) X.xe s:=by
 subst hx0;let(l,hl,hz,q):=q;calc oI<|xj (n5<|Bh I Y.g Y.m ?_ yi) hs1;calc sD (h₀:=X.base) I.ok.mod.yR Y.k (fN<|uD I ex<|oy %[I.jR|?_]) rb rfl;calc vn<|kG (Y.T.run X.A X.İ s H %[[.À (S [c]) t]|[]] c t Y.rm I.env0 (Y.b s [.À (S [c]) t] I.jR rb) t0 t1) λr s1 hr=>?_;let(u,rfl,ce,y,y',hy,g0,g1):=hr;let(v,H1,I1,rv,ev,eH):=I.after ce;subst ev eH hy;let(y2,ey):=rv;injection ey with ey1 ey2;subst ey1 ey2;calc cj<|uV I1 Y.nd Y.t Y.vt (v:=.À (S [cR c])) %[y'|rb] (λs2 I2 _ Rw ht=>?_)<|.Â Y.ft;let g2:y'<s2.Ï:=bq g1 ht;let(m,hn,hlm):=id I2.loc;let(ur,(M,er),lr):=hlm ir "rack" _ Y.r hl Y.vr;subst er;let J:Uh X s2 "rack" (.À (S l) M):=%[0,m,hn|lr]
 calc oI<|wpAny_If<|wpAny_isTrue_Compare1 (uD I2 Rw<|uD I2 J<|in_str<|fq ?_) (by with_unfolding_all rfl);let ein:(!(Builtin.Str.occurrences (S l) (S [cR c]) 0 (S l).n 1).Ė)=ľ (cR c∈l):=by let e:=xl (S l)<|cR c;rw[Ti]at e;rw[show (S [cR c])=(⟨#[cR c]⟩:Ŋ) from rb,e]
 rw[ein];by_cases L:cR c∈l
 .rw[Ŀ L]at q;rw[am L];calc ite_tt<|oI<|xj (wpAny_Call_method_late rb rb hl1 rb<|uD I2 J ?_) hs2;calc⟨27,"str","str.replace",bv,sQ,sR,typeIs_str s2 _ M,λ_ e=>(nomatch e),?_⟩;calc nL rb<|vx ?_;show Ł _ _ (spliced<|(Ļ,Ŕ (.å "tile" O) X.É)::(Ļ,Ŕ (.ù (.À<|S []) j0 yt) X.É)::(Ļ,Ŕ (.ù (.R 1) j1 yu) X.É)::[]) _ _ _;calc fN<|uD I2 Rw<|fN<|kF<|fN<|sC<|oy ?_;let(i,ho,Nk):=Nj l (cR c) L;refine call_gives F.slot_str_replace (typeIs_str _ _ M) F.entry_str_replace (F.args_str_replace_4 _ _ _ _) (wU (S l) (S [cR c]) (S []) M y' s2.Ï _ λ_=>%[?_,?_,?_|?_]) ?_
  .have:y'≠0:=ii g0;have:s2.Ï≠0:=ii<|mM g0 g2;simp[*]
  .have:y'≠s2.Ï:=bn g2;simpa using this
  .rfl
  .rw[jg,show (S []).n=0 from rb,Nat.mul_zero,vT];show al (by have:=aF (n:=l.length) hz;lia)
  rw[ho];rw[ŀ (by rw[(show (([i]:Ĵ ĵ).Ė||((S [cR c]).n==0&&(S []).n==0))=Ļ from rfl)];decide),Nk];calc%[?_|?_];show aw mP<|ax<|aF yw
  .calc xK (I2.tok<|s2.Ï+1+1+1) Y.nd Y.l Y.vl (v:=.À (S<|l.ý<|cR c)) %[_|rb] (λs3 I4=>?_)<|.Â Y.fl;calc bJ (B.ã ao s3 _ _ {nx:=D.nx,rt:=D.rt} I4 q) λfl s4 z=>?_;cases fl with| next=>show ly z| ret v=>show z| brk=>show z| cont=>show z
 .rw[ŀ L]at q;rw[al L];show ite_ff<|ly<|ly %[3,_,_,I2|q]
def aex {ir is it il:ĵ}{x0:Ŋ}{j0 j1:ĵ}{JL JM Z JN JQ Rt Ru Rv JR JT vX yr yt yu vY Ak Ie:Pos}{rest:Ĵ ŏ}{e1 O:Ő}{kt:_}(Y:Ui X ir is it il f fd)(hx0:x0=S [])(hp:Ū (ł X.Ñ X.w) X.A X.É X.xe)(hcm:X.Ě=ķ)(g1:GE X e1 t1)(g2:GE X O t2)(hl1:(vX.endLine==vY.line)=ķ)(hs1:swapsWith (.ĩ (.å "tile_of" JM) [.å "sign" Z] [] JN) (ĳ<|.å "tile" JL) JQ.line X.É=pure Ļ)(hs2:swapsWith (.ĩ (.Ą (.å "rack" JT) "replace" vX) [.å "tile" yr,.ù (.À x0) j0 yt,.ù (.R 1) j1 yu] [] vY) (ĳ<|.å "left" JR) Ak.line X.É=pure Ļ)(hst:ŉ [e1,O] X.É=[(Ļ,Ŕ e1 X.É),(Ļ,Ŕ O X.É)])(hs:∀x,foldedSetIterable (.Ă [e1,O] kt p2) X.É x=pure x)(hrest:tU X rest tb):QS X (.For (.å "sign" p1) (.Ă [e1,O] kt p2) (Ib x0 j0 j1 JL JM Z JN JQ Rt Ru Rv JR JT vX yr yt yu vY Ak Ie rest) [] pos) (agY ir is it il t1 t2 tb):=by
 calc⟨λao s C H D I h=>?_⟩;calc wpAny_For (wn ?_) hs;rw[hst];show Ł _ _ (spliced<|(Ļ,Ŕ e1 X.É)::(Ļ,Ŕ O X.É)::[]) _ _ s;calc fN<|bJ (g1.ã ao s C H _ I h) λu1 s1 ⟨v1,H1,I1,r1,gd1,q1⟩=>fN<|cj<|gz (g2.ã ao s1 C H1 _ I1 q1) (λu2 s2 ⟨v2,H2,I2,r2,gd2,q2⟩ ht=>oy %[show 2<=Ń by decide|?_]) λ_ _ z _=>z;let(L,J,ev1,ev2,q):=q2;subst ev1 ev2;let(B,rfl):=r1;let(F,rfl):=r2;let(_,_,eg,a0,a1):=gd1;injection eg with eg1 eg2;subst eg1 eg2;let(_,_,eg,b0,b1):=gd2;injection eg with eg1 eg2;subst eg1 eg2;let I3:aL X ao C H2 {s2 with heap:=s2.H.Ò {cls:=.È "tuple",data:=.ð [Value.À (S [L]) B,Value.À (S [J]) F].Y} }:=I2.ġ (t':=s2.toks) λb o e=>ag _ e;let rT:(s2.H.Ò {cls:=.È "tuple",data:=.ð [Value.À (S [L]) B,Value.À (S [J]) F].Y}).Á s2.d=ĳ {cls:=.È "tuple",data:=.ð [Value.À (S [L]) B,Value.À (S [J]) F].Y}:=aT _ rfl;let fa3:mq X ao H2 s2.d:=I2.m_ (ah _)<|I2.ê.ä<|ah _;let hT:∀h:Ō,h.Á s2.d=ĳ {cls:=.È "tuple",data:=.ð [Value.À (S [L]) B,Value.À (S [J]) F].Y}->h.IsTuple s2.d [Value.À (S [L]) B,Value.À (S [J]) F].Y:=λh e=>%[37,_,e,rb,_|rb]
 calc qq (hT _ rT) ?_;generalize hob:({cls:=.È "tuple",data:=.ð [Value.À (S [L]) B,Value.À (S [J]) F].Y}:Obj)=JV at I3 rT hT ⊢;generalize ha:s2.heap.objs.size=a at I3 rT fa3 hT ⊢;generalize hs3:({s2 with heap:=s2.H.Ò JV}:Ľ)=s3 at I3 ⊢;let ht3:s3.Ï=s2.Ï:=by rw[<-hs3]
 let ZP:s3.H.Á a=ĳ JV:=by rw[<-hs3];show rT
 let fit:mq X ao H2 s3.d:=I3.m_ (ah _)<|I3.ê.ä<|ah _;let nia:s3.d≠a:=λz=>by rw[<-z]at ZP;show ń (a6 ZP)<|mh _
 refine(let S3:ĵ->St->Hp->Prop:=λn C' H'=>match n with| 0=>D.nx C' H'| 1=>vW ir is it il tb J D C' H'| _=>vW ir is it il tb L {nx:=vW ir is it il tb J D,rt:=D.rt} C' H';?_)
 refine(let fp:Ĵ Ĺ:=[s3.d,a];?_)
 let M:∀{H':Hp},(∀b∈fp,H' b=ĺ)->∀b∈fp,mq X ao H' b:=λhn b G=>%[hn b G|by
  rcases a_.mp G with z|z;.rw[z];show fit.2
  .rw[av.mp z];show fa3.2]
 refine wl (λn s'=>n<=2/\∃C' H',aL X ao C' H' s'/\s'.H.Ħ s3.d a (2-n)/\s'.H.Á a=ĳ JV/\(∀b∈fp,H' b=ĺ)/\s2.Ï<=s'.Ï/\S3 n C' H') ?_ 2
  %[10,ah _,C|%[30,H2,I3.ġ (t':=s3.toks) λb o e=>ag _ e,%[2,_,aT _ rb,rb|rb],ag _ ZP,λb G=>by
   rcases a_.mp G with z|z;.rw[z];show fit.1
   .rw[av.mp z];show fa3.1,by show s2.Ï<=s3.Ï;lia|q]]
 intro n s4 z;let(hn,C4,H4,I4,eY,ho4,QB,tk4,q4):=z;let(f0,f1,f2,f3,f4,f5):=(M QB s3.d (by simp[fp]));let one:∀(k:ĵ) (c:ĵ) (tk:Tok) (D':Ends),n=k+1->[Value.À (S [L]) B,Value.À (S [J]) F].Y[2-n]?=ĳ (Value.À (S [c]) tk)->0<tk->tk<s2.Ï->D'.rt=D.rt->(∀C' H',D'.nx C' H'->S3 k C' H')->vW ir is it il tb c D' C4 H4->
   Ł (ł X.Ñ X.w) X.A (pyNext<|.C s3.d) (λr s₁=>match r with
   | none=>Ł (ł X.Ñ X.w) X.A (execs [] X.É) (λf N=>SP X ao D f N) (notedBy (ł X.Ñ X.w) X.A X.É λe s'=>cameBackBy (ł X.Ñ X.w) X.A X.É X.xe e s') s₁
   | some v=>Ł (ł X.Ñ X.w) X.A (letOwnedTupleGo (.å "sign" p1) (.C s3.d) v) (λ_ s₁'=>
     Ł (ł X.Ñ X.w) X.A (assign (.å "sign" p1) X.É v) (λ_ s₂=>Ł (ł X.Ñ X.w) X.A (execs (Ib x0 j0 j1 JL JM Z JN JQ Rt Ru Rv JR JT vX yr yt yu vY Ak Ie rest) X.É) (λf N=>match f with
      | .next|.cont=>∃m,m<n/\(m<=2/\∃C' H',aL X ao C' H' N/\N.H.Ħ s3.d a (2-m)/\N.H.Á a=ĳ JV/\(∀b∈fp,H' b=ĺ)/\s2.Ï<=N.Ï/\S3 m C' H')
      | .brk=>SP X ao D .next N
      | .ret v=>SP X ao D (.ret v) N) (notedBy (ł X.Ñ X.w) X.A X.É λe s'=>cameBackBy (ł X.Ñ X.w) X.A X.É X.xe e s') s₂) (notedBy (ł X.Ñ X.w) X.A X.É λe s'=>cameBackBy (ł X.Ñ X.w) X.A X.É X.xe e s') s₁') (notedBy (ł X.Ñ X.w) X.A X.É λe s'=>cameBackBy (ł X.Ñ X.w) X.A X.É X.xe e s') s₁) (notedBy (ł X.Ñ X.w) X.A X.É λe s'=>cameBackBy (ł X.Ñ X.w) X.A X.É X.xe e s') s4:=by
  intro k c tk D' hk hit k0 k1 hrt hnx hq;calc eS hp<|cj<|wpAny_pyNext_tuple_item eY (hT _ ho4) (x:=Value.À (S [c]) tk) hit λh' st' sb Gj=>?_;let(o5,e5,c5,d5):=id st';let ho5:h'.Á a=ĳ JV:=(sb.2 a<|lS nia).Z ho4;calc eS hp<|Bl (s:={s4 with heap:=h' }) e5 c5 d5 yi ?_;let I5':=(I4.ı (t':=s4.toks) (λb o G e=>(sb.2 b G).Z e) f0 f1 f3 f4 f5).pinned (M QB) (λb G=>by
   rcases a_.mp G with z|z;.rw[z];show%[0,o5,e5|λv z=>by rw[d5]at z;cases z]
   .rw[av.mp z];show%[0,JV,ho5|λv z=>by rw[<-hob]at z;cases z])
  calc eS hp<|bJ (Xa Y I5' (t:=tk) (c:=c) (p1:=p1)) λ_ s6 zz=>?_;let(I6,ex6,t6):=zz;calc eS hp<|cj<|gz (ZM Y hx0 hl1 hs1 hs2 hrest I6 ex6 k0 (show tk<s6.Ï from bq (bq k1 tk4) t6) hq) (λf s7 q7 ht7=>?_) λ_ _ z _=>z;cases f with
  | next=>
   let(C7,H7,I7,n7):=q7;let pn:∀b o,b∈fp->h'.Á b=ĳ o->s7.H.Á b=ĳ o/\H7 b=ĺ:=λb o G e=>by have:=I7.pin (b,o)<|cS _<|cS _<|mQ G e;show%[this.1|this.2.1]
   let mi:s3.d∈fp:=aS;let ma:a∈fp:=aE _<|av.Û rb;refine%[2,k,by simp_all,ye|%[27,C7,H7,I7.jG,?_,(pn a JV ma ho5).1,λb G=>?_,aw tk4<|aw t6 ht7|hnx _ _ n7]]
   .let O:2-k=2-n+1:=gg ye;rw[O];show st'.at λo e=>(pn _ o mi e).1
   .rcases a_.mp G with z|z;.rw[z];show(pn _ o5 mi e5).2
    .rw[av.mp z];show(pn a JV ma ho5).2
  | cont=>let(_,_,_,z):=q7;show z.î
  | brk=>let(_,_,_,z):=q7;show z.î
  | ret v=>let(x7,C7,H7,I7,r7,q7):=q7;show%[31,x7,C7,H7,I7.jG,r7|hrt ▸ q7]
 rcases(show n=0\/n=1\/n=2 by lia) with e|e|e
 .subst e;calc eS hp<|wpAny_pyNext_tuple_end (I4.ok.hd hcm) eY (hT _ ho4) yf λh' eb=>?_;show ly %[3,C4,H4,I4.ı (t':=s4.toks) (λb o G e=>eb b o G e) f0 f1 f3 f4 f5|q4]
 .subst e;show one 0 J F D rb yf b0 b1 rb (λ_ _ z=>z) q4
 .subst e;show one 1 L B {nx:=vW ir is it il tb J D,rt:=D.rt} rb yf a0 (bq a1 ht) rb (λ_ _ z=>z) q4
open Classical in
def aey (N:X.A.Þ+64<cLine):fB X (compareOp .In) (ad4 X.K Ļ):=by intro ao s C H x y v u Q I L J h;let(n,d,es,hn,hd,B,q):=h;let(as,M):=hd.reads I L;let(bs,D):=B.reads I J;let G:=hd.lay;calc SeqAt.in_tuple_reads D M (B.lay).1 G.1 (by have:=xC (PyData.depthAll<|eO es) (toP d).depth;lia) %[1,.bl _,H,I,rb|?_];rw[Hz];show q
def ab9 {X:Cx}(K:W.Ê)(q:X.A.Þ+64<cLine)(h:Ž (X.K=K) ž):fB X (compareOp .In) (ad4 K Ļ):=by subst h;show aey q
def Km (x k):checkTypeCall "enumerate" %[[x]|[(Str.ċ "start",k)]]=pure ():=by kernel_rfl
def Nm (x k):checkBuiltinCall "enumerate.__new__" %[[.È "enumerate",x]|[(Str.ċ "start",k)]]=pure ():=by kernel_rfl
def Ko (o x k):argsOk "object.__init__" %[[o,x]|[(Str.ċ "start",k)]]:=by first|show .of_eq ym|show ym|trivial
def afU (x:Ŋ)(t:Tok)(k:ĵ)(tk:Tok)(hk:k<1000):ŵ (Builtin.«enumerate.__new__» %[[.È "enumerate",.À x t]|[(Str.ċ "start",.R (k:Int) tk)]]) (λ_ R s=>
   R (.ok<|.ret<|.C (s.H.Ò {cls:=.È<|strIterType x,data:=.ì #[.À x t,.R 0 0]}).X.E)
    {s with heap:=(s.H.Ò {cls:=.È<|strIterType x,data:=.ì #[.À x t,.R 0 0]}).Ò {cls:=.È "enumerate",data:=.ì #[.ß,.Ć Ļ,.C s.d,ś k,.ß,.ß]} }):=
 .of_wp λprog w A R s h=>by
  let F:=sub_enumerate;let q:Builtin.į.fitsIndex (k:ļ)=ķ:=by unfold Builtin.SmallTypes.fitsIndex;simp only[df,dP];lia
  let D:Builtin.į.indexObject "enumerate.__new__" (Value.R (k:ļ) tk)=pure (Value.R (k:ļ) tk):=by kernel_rfl
  let B:asInt? (Value.R (k:ļ) tk)=pure (ĳ (k:ļ)):=by kernel_rfl
  wp_walk
  refine wpAny_stack_any λst=>af ?_
  split
  .rename_i c _ _ _ _ _;cases(c==Value.È "enumerate")
   .dsimp only;simp only[a9,if_false,if_true];calc ab ?_;refine oB (a:=(Value.À x t,ĳ<|Value.R (k:ļ) tk)) ?e ?_
    (case e=>kernel_rfl)
    simp only[D,pure_bind,B,q,eP,a9,if_false]
    wp_walk using rh
    show%[0,_,rb|h]
   .dsimp only;simp only[a9,if_false,if_true];calc ab ?_;refine oB (a:=(Value.À x t,ĳ<|Value.R (k:ļ) tk)) ?e ?_
    (case e=>kernel_rfl)
    simp only[D,pure_bind,B,q,eP,a9,if_false]
    wp_walk using rh
    show%[0,_,rb|h]
  .dsimp only;simp only[a9,if_false,if_true];calc ab ?_;refine oB (a:=(Value.À x t,ĳ<|Value.R (k:ļ) tk)) ?e ?_
   (case e=>kernel_rfl)
   simp only[D,pure_bind,B,q,eP,a9,if_false]
   wp_walk using rh
   show%[0,_,rb|h]
def Ig (F:typeLookup (.È T) "__init__"=pure (ĳ<|.Õ "object.__init__"))(hm:Bind.madeBy (.È T)=pure (ĳ newId))(B:(ĳ newId != ĳ "object.__new__")=ķ):ŵ (Builtin.«object.__init__» %[[self,a]|kw]) (λ_ R s=>s.Ā self T/\R (.ok<|.ret .ß) s):=by
 calc Meets.of_wp λprog w A R s hs=>?_;let(D,q):=hs
 repeat (any_goals (first|assumption|wp_step))
 show%[0,_,rb|q]
def PJ {T B q:ŗ}{Bn Bi:Builtin}{F:Ĵ (Ŋ×Ķ)}{S:PySem.Spec}{Q Q₁:AB}(ft:TypeCalled T B q)(hct:checkTypeCall T %[args|F]=pure ())(Z:checkBuiltinCall B %[.È T::args|F]=pure ())(N:entryFor table B=ĳ Bn)(D:entryFor table q=ĳ Bi)(g:ŵ (Bn %[.È T::args|F]) S)(h:S A.ħ (wants Q₁ E) s)(J:∀obj L,Q₁ obj L->L.Ā obj T/\argsOk q %[obj::args|F]/\∃Si,ŵ (Bi %[obj::args|F]) Si/\Si A.ħ (wants (λr s₂=>r=.ß/\Q obj s₂) E) L):Ł (ł prog w) A (call (.È T) args F) Q E s:=by
 let(c,tl,hmro):=ft.mro;let Y:=ft.made;let hsub:=ft.sub;calc vn<|vF ?_;calc af %[sL _ yn|ij xt ?_];let h1:=ft.notType;let h2:=ft.canCreate
 repeat (any_goals (first|assumption|wp_step))
 calc kG (r_ ft.plain N<|oB Z<|g prog w A.ħ _ s h) λr L O=>?_;cases r with
 | error e=>show O
 | ok fl=>
  cases fl with
  | ret obj=>
   let(hT,hok,Si,gi,M):=J _ _ O;let hli:=ft.init.Æ;let hbi:=ft.init.bind obj
   repeat (any_goals (first|assumption|wp_step))
   calc kG (r_ ft.init.plain D<|ft.init.check _ _ _ _ _ _ _ _ hT hok<|gi prog w A.ħ _ L M) λr₂ s₂ G=>?_;cases r₂ with
   | error e=>show G
   | ok fl₂=>
    cases fl₂ with
    | ret r=>
     let(rfl,hq):=G
     repeat (any_goals (first|assumption|wp_step))
    | _=>show G.î
  | _=>show O.î
def PL {x:Ŋ}{t tk:Tok}{k:ĵ}(hk:k<1000){Q:AB}(h:∀h',Ű h' (s.d+1) s.d k .ß->h'.Ē s.d (strIterType x) x t 0->h'.X.E=s.d+2->
   (∀b o,s.H.Á b=ĳ o->h'.Á b=ĳ o)->Q (.C<|s.d+1) {s with heap:=h' }) :
  Ł (ł prog w) A (call (.È "enumerate") [.À x t] [(Str.ċ "start",.R (k:ļ) tk)]) Q E s:=by
 refine PJ (Q₁:=λobj D=>D.Ā obj "enumerate"/\Q obj D) sK (Km _ _) (Nm _ _) F.entry_enumerate_new F.entry_object_init (afU x t k tk hk) ?_
  λobj _ q=>%[q.1,Ko obj _ _,_,Ig sK.init.Æ sK.made yi,q.1,rb|q.2]
 let hz:(s.H.Ò {cls:=.È<|strIterType x,data:=.ì #[.À x t,.R 0 0]}).X.E=s.d+1:=d6 ..;rw[hz];let B:Ű ((s.H.Ò {cls:=.È<|strIterType x,data:=.ì #[.À x t,.R 0 0]}).Ò
   {cls:=.È "enumerate",data:=.ì #[.ß,.Ć Ļ,.C s.d,ś k,.ß,.ß]}) (s.d+1) s.d k .ß:=by
  have:=aT (s.H.Ò {cls:=.È<|strIterType x,data:=.ì #[.À x t,.R 0 0]})
   (o:={cls:=.È "enumerate",data:=.ì #[.ß,.Ć Ļ,.C s.d,ś k,.ß,.ß]}) rfl
  rw[hz]at this;show this
 refine%[%[0,_,B|rb]|h _ B %[2,_,ag _<|aT _ rb,rb|rb] (by rw[d6,hz]) λb o y=>ag _<|ag _ y]
def Np {M:Model}{E:AB}{env:Env}{T:ŗ}{e:Ő}{rest:Ĵ Ő}{kws:Ĵ Ţ}{Q:AB}(h:Ł M A (spliced<|backTo pos<|starEach (e::rest) env) (λvs D=>Ł M A (evalAll ((backToKw pos<|keywordEach kws env).Q (·.2)))
   (λkvs G=>Ł M A (call (.È T) vs (((backToKw pos<|keywordEach kws env).û (·.1)).zip kvs)) Q E G) E D) E s)
  (J:Ž (backTo pos (ŉ (e::rest) env)=(Ļ,Ŕ e env)::backTo pos (ŉ rest env)) ž)
  (q:Ž ((backTo pos<|ŉ (e::rest) env).đ (·.1)=Ļ) ž)
  (B:Ž ((backToKw pos<|keywordEach kws env).ė (·.1.ĝ)=ķ) ž)
  (F:Ž ((backToKw pos<|keywordEach kws env).đ (·.1.isNone)=Ļ) ž) :
  Ł M A (callWith pos (.È T) [] (backTo pos<|ŉ (e::rest) env)<|backToKw pos<|keywordEach kws env) Q E s:=by
 rw[J]at h q ⊢;calc ab<|eK<|gz (evalArgs_kwB (f:=.È T) (Q:=λa D=>Ł M A (call (.È T) ([]++a.pos) a.kw) Q E D) B h) (λa D N=>ab<|t9 ?_) λ_ _ x=>x;simp only[q,F,si];calc ab<|af ?_;show ab<|gz N (λr G L=>ab<|eK<|wpAny_point<|af L) λ_ _ x=>x
end
def aez (ta tk:TE):TI:=λI H R=>ta I H λx H1=>tk I H1 λy q=>∃(l:Ĵ ĵ) (k:Nat),[x]=[V.À (S l)]/\[y]=[V.R (k:ļ)]/\k<1000/\R (z9 l k) q
section
variable {X:Cx}{elts:Ĵ Ő}{x1:ĵ}{tp:Pos}
def ZQ {a e:Ő}{ta tk:TE}{p pos kpos:Pos}(hg:Gl X "enumerate")(hm:X.mg "enumerate"=ĺ)(ha:QE X a ta)(hk:QE X e tk)(hs:Ž (ŉ [a] X.É=(Ļ,Ŕ a X.É)::ŉ [] X.É) ž)(G:Ž (backTo pos (ŉ [a] X.É)=(Ļ,Ŕ a X.É)::backTo pos (ŉ [] X.É)) ž)(N:Ž ((backTo pos<|ŉ [a] X.É).đ (·.1)=Ļ) ž)(D:Ž ((backToKw pos<|keywordEach [%[ĳ<|Str.ċ "start",e|kpos]] X.É).ė (·.1.ĝ)=ķ) ž)(J:Ž ((backToKw pos<|keywordEach [%[ĳ<|Str.ċ "start",e|kpos]] X.É).đ (·.1.isNone)=Ļ) ž)(M:Ž ((backToKw pos<|keywordEach [%[ĳ<|Str.ċ "start",e|kpos]] X.É).û (·.1)=[Str.ċ "start"]) ž):QI X (.Ă elts x1 tp) (.ĩ (.å "enumerate" p) [a] [%[ĳ<|Str.ċ "start",e|kpos]] pos) (aez ta tk):=⟨by
 intro ao s T H R I h;calc n5<|nA I hg hm boot_enumerate ?_ yi yi;let pa:=(ak ha aq hs).ã;let pk:=abo (nm:=ĳ (Str.ċ "start")) (kpos:=kpos) hk.ã adC;calc Np (bJ (pa pos ao s T H (λvs H1=>tk T H1 λy B=>∃(l:Ĵ ĵ) (k:Nat),vs=[V.À (S l)]/\[y]=[V.R (k:ļ)]/\k<1000/\R (z9 l k) B) I ?_) λus s1 ⟨vs,H1,I1,r1,q1⟩=>?_) G N D J;.show h
 .refine bJ (pk pos ao s1 T H1 (λZ B=>∃(l:Ĵ ĵ) (k:Nat),vs=[V.À (S l)]/\Z=[V.R (k:ļ)]/\k<1000/\R (z9 l k) B) I1 ?_) λws s2 ⟨Z,B,I2,rz,q2⟩=>?_
  .show q1
  .let(l,k,rfl,rfl,F,q):=q2;let(u,rfl,t,rfl):=vals1 r1;let(u2,rfl,t2,rfl):=vals1 rz;let L:strIterType (S l)="str_ascii_iterator"\/strIterType (S l)="str_iterator":=by unfold strIterType;split <;> simp
   calc PL F λh' Y O hsz hk=>rl Y ?_;calc%[13,s2.d+1,[s2.d+1,s2.d],_,_,B,rb,I2.ġ (t':=s2.toks) hk,Fz L l k t s2.d _,%[xD _,b5 _,%[_|Y]|O],λb hb=>?_|q];rcases a_.mp hb with z|z
   .rw[z];show I2.m_ (dq _)<|I2.ê.ä<|dq _
   .rw[av.mp z];show I2.m_ (ah _)<|I2.ê.ä<|ah _⟩
end
def Xb {l:Ĵ ĵ}{k:ĵ}{g:TG}{tb:TS}{D:Ends}{I:St}{H:Hp}(q:ĵ->St->Hp->Prop)(J:q 0 I H)(hs:∀i c I H T,l[i]?=ĳ c->q i I H->H T=ĺ->g (.C T) I (upd H T<|.Ã [.R ((k+i:Nat):Int),.À (S [c])]) λI2 G=>tb {D with nx:=q<|i+1,ct:=q<|i+1,bk:=D.nx} I2 G)(hd:∀I H,q l.n I H->D.nx I H):Dy (z9 l k) g tb D I H:=Lg l.n q J (λi I H h p=>%[h|λx H' y=>by let(T,c,B,rfl,F,rfl):=y;show hs i c I _ T F p B]) λI H p=>%[ah _|hd I H p]
end L2
namespace L2
open PySem PySem.Spec PyProof.Rows PySem.W
section
variable {prog:Ň}{w:ŋ}{A:ō}{E:AB}{s:Ľ}{z ti to u v a:Ĺ}{i:ĵ}{f:Ņ Ķ}{x y m n:Ķ}
def Xc {nv:ĵ}{PV:ĵ->Ķ->Prop}{Z:ĵ->Ō->Prop}(DV:ż prog w A v [v] nv PV Z){Q:AB}(D:ZA z ti to u v a a)(hz:ţ s.H z ti to .ß)(hi:Ś s.H ti (.C u) (.C v))(ho:Ś s.H to m n)(hu:s.H.ĥ u a i)(hv:Z i s.H)(ha:s.H.Ĕ a f)(hx:f[i]?=ĳ x)(hlt:i<nv)(q:∀y h' tk,PV i y->ţ h' z ti to (ś s.d)->Ś h' to x y->h'.ĥ u a (i+1)->Z (i+1) h'->Ś h' s.d x y->
   (∀c o,c≠z->c≠to->c≠u->c≠v->s.H.Á c=ĳ o->h'.Á c=ĳ o)->Q (.C s.d) {s with heap:=h',toks:=tk}) :
  Ł (ł prog w) A (Builtin.«zip.__next__» %[[.C z]|[]]) (λfin s'=>∃r,fin=.done (.ret r)/\Q r s') E s:=by
 show Ł _ _ (Ŷ (.C z) 2 >>= _) _ _ _;(calc ab<|im hz rb (x:=.Ć Ļ) rb ?_;show Ł _ _ (Ŷ (.C z) 3 >>= _) _ _ _;calc ab<|im hz rb (x:=.C ti) rb<|ab<|iF hi rb ?_;show Ł _ _ (Builtin.į.ownedTupleIsFree (.C z) >>= _) _ _ _);calc ab ?_;calc ab<|im hz rb (x:=.ß) rb<|af ?_;calc ab<|gL<|ab<|im hz rb (x:=.C to) rb<|ab<|qS hz yf λg1 z1 G=>?_;calc ab ?_;calc ab<|ab<|wpAny_onRaise ?_;calc ab<|wpAny_nextOf_list_item (hu.at λo e=>G.á _ o D.q3 e) (Heap.Ĕ.at ha λo e=>G.á _ o D.p2 e) hx λg2 u2 L=>af ?_;let o2:Ś g2 to m n:=L.á _ _ D.q8<|G.á _ _ D.q2 ho;calc ab<|iF o2 rb<|ab<|wpAny_updateSeq_pair o2 λg3 o3 N=>?_;calc ab<|wpAny_letGo<|af ?_;calc ab<|ab<|wpAny_onRaise ?_;calc ab<|DV.item i _ _ _ hlt (DV.frame _ _ _ hv λc M o e=>by rw[av.mp M]at e ⊢;show N.á _ o D.q9.Ù<|L.á _ o D.p1.Ù<|G.á _ o D.q4 e) λy g4 tk hpy v4 O=>af ?_;let o4:Ś g4 to x n:=O.á _ _ D.q9 o3;calc ab<|iF o4 rb<|ab<|wpAny_updateSeq_pair o4 λB Y J=>?_;replace Y:Ś B to x y:=Y;calc ab<|wpAny_letGo<|af<|af ?_;calc ab<|iF Y rb<|ab<|wpAny_newTuple ?_;let sz:B.X.E=s.d:=by rw[J.1,O.1,N.1,L.1,G.1]
 let z5:ţ B z ti to .ellipsis:=J.á _ _ D.q2.Ù<|O.á _ _ D.q4.Ù<|N.á _ _ D.q2.Ù<|L.á _ _ D.q3.Ù z1;let v5:Z (i+1) B:=DV.frame _ _ _ v4 λc M o e=>by rw[av.mp M]at e ⊢;show J.á _ o D.q9.Ù e
 let lz:z<B.X.E:=a6 z5;calc ab ?_;calc ab<|qS (ag _ z5) yf λg7 z7 k7=>?_;replace z7:ţ g7 z ti to (ś B.X.E):=z7;refine qS z7 yf λg8 z8 k8=>?_
 replace z8:ţ g8 z ti to (ś B.X.E):=z8;let up:∀c o,c≠z->B.Á c=ĳ o->g8.Á c=ĳ o:=λc o F e=>k8.á _ _ F<|k7.á _ _ F<|ag _ e;let t8:Ś g8 B.X.E x y:=k8.á _ _ (ii lz)<|k7.á _ _ (ii lz)<|aT _ rb;rw[sz]at z8 t8;calc af %[0,_,rb|?_];rw[sz];show q y g8 tk hpy z8 (up _ _ D.q2 Y) ((u2.at λo e=>J.á _ o D.q8.Ù<|O.á _ o D.p1<|N.á _ o D.q8.Ù e).at λo e=>up _ o D.q3 e) (DV.frame _ _ _ v5 λc M o e=>by rw[av.mp M]at e ⊢;show up _ o D.q4 e) t8 λc o F c2 c3 c4 e=>up c o F<|(λc o F c2 c3 c4 e=>J.á _ _ c2<|O.á _ _ c4<|N.á _ _ c2<|L.á _ _ c3<|G.á _ _ F e) c o F c2 c3 c4 e
def ZR (hh:A.ò=ĺ)(D:ZA z ti to u v a a)(hz:ţ s.H z ti to .ß)(hi:Ś s.H ti (.C u) (.C v))(hu:s.H.ĥ u a i)(ha:s.H.Ĕ a f)(hx:f[i]?=ĺ)(q:∀h' e,(∀c o,c≠z->c≠to->c≠u->c≠v->s.H.Á c=ĳ o->h'.Á c=ĳ o)->(∃o,h'.Á e=ĳ o/\o.cls=.È "StopIteration")->E (.C e) {s with heap:=h' }):Ł (ł prog w) A (Builtin.«zip.__next__» %[[.C z]|[]]) Q E s:=by
 show Ł _ _ (Ŷ (.C z) 2 >>= _) _ _ _;(calc ab<|im hz rb (x:=.Ć Ļ) rb ?_;show Ł _ _ (Ŷ (.C z) 3 >>= _) _ _ _;calc ab<|im hz rb (x:=.C ti) rb<|ab<|iF hi rb ?_;show Ł _ _ (Builtin.į.ownedTupleIsFree (.C z) >>= _) _ _ _);calc ab ?_;calc ab<|im hz rb (x:=.ß) rb<|af ?_;calc ab<|gL<|ab<|im hz rb (x:=.C to) rb<|ab<|qS hz yf λg1 F B=>?_;calc ab ?_;calc ab<|ab<|wpAny_onRaise ?_;calc ab<|wpAny_nextOf_list_end hh (hu.at λo e=>B.á _ o D.q3 e) (Heap.Ĕ.at ha λo e=>B.á _ o D.p2 e) hx λZ e J Y=>?_;let(oe,G,L):=Y;let N:ţ Z z ti to .ellipsis:=J _ _ D.q3.Ù F;let ez:e≠z:=λt=>by subst t;rw[N]at G;cases G;simp at L
 show qS N yf λg3 _ O=>q g3 e (λc o M _ c3 _ t=>O.á _ _ M<|J _ _ c3<|B.á _ _ M t) %[0,oe,O.á _ _ ez G|L]
abbrev zm2 (h:Ō)(a:Ĺ)(x:Ŋ)(t:Tok):Ō:=(zipH1 h a).Ò {cls:=.È<|strIterType x,data:=.ì #[.À x t,.R 0 0]}
abbrev zm3 (h:Ō)(a:Ĺ)(x:Ŋ)(t:Tok):Ō:=(zm2 h a x t).Ò {cls:=.È "tuple",data:=.ð #[.C h.X.E,.C (zipH1 h a).X.E]}
abbrev zm4 (h:Ō)(a:Ĺ)(x:Ŋ)(t:Tok):Ō:=(zm3 h a x t).Ò {cls:=.È "tuple",data:=.ð #[.ß,.ß]}
abbrev Rx (h:Ō)(a:Ĺ)(x:Ŋ)(t:Tok):Ō:=(zm4 h a x t).Ò {cls:=.È "zip",data:=.ì #[.ß,.Ć Ļ,.Ć Ļ,.C (zm2 h a x t).X.E,.C (zm3 h a x t).X.E]}
def ab_ (a)(x)(t:Tok)(f):ŵ (Builtin.«zip.__new__» %[[.È "zip",.C a,.À x t]|[]]) (λ_ R s=>s.H.Ĕ a f/\R (.ok<|.ret<|.C (zm4 s.H a x t).X.E) {s with heap:=Rx s.H a x t}):=
 .of_wp λprog w A R s h=>by
  let(hp,D,d,tk,os):=s;let(h1,h):=h;let q:=sub_zip;let B:Heap.Ĕ (Shared.H %[hp,D,d,tk|os]) a f:=h1
  wp_walk using ox B,rh
  show%[0,_,rb|h]
def agZ {x:Ŋ}(ha:s.H.Ĕ a f)(q:∀h',ţ h' (s.d+4) (s.d+2) (s.d+3) .ß->Ś h' (s.d+2) (.C s.d) (.C<|s.d+1)->Ś h' (s.d+3) .ß .ß->
   h'.ĥ s.d a 0->h'.Ē (s.d+1) (strIterType x) x t 0->(∀c o,s.H.Á c=ĳ o->h'.Á c=ĳ o)->Q (.C<|s.d+4) {s with heap:=h' }) :
  Ł (ł prog w) A (call (.È "zip") [.C a,.À x t]) Q E s:=by
 calc callType_new F.called_zip yi (F.typeCall_zip_2 _ _) (F.newCall_zip_2 _ _) (λobj=>F.args_object_init_3 obj _ _) F.entry_zip_new (ab_ a x t f) %[ha|?_];let B:(zipH1 s.H a).X.E=s.d+1:=d6 ..;let J:(zm2 s.H a x t).X.E=s.d+2:=by rw[d6,B]
 let G:(zm3 s.H a x t).X.E=s.d+3:=by rw[d6,J]
 let N:(zm4 s.H a x t).X.E=s.d+4:=by rw[d6,G]
 let D:(Rx s.H a x t).Á (zm4 s.H a x t).X.E=ĳ _:=aT _ rfl;let O:(Rx s.H a x t).Á (zm3 s.H a x t).X.E=ĳ _:=ag _<|aT _ rb;let M:(Rx s.H a x t).Á (zm2 s.H a x t).X.E=ĳ _:=ag _<|ag _<|aT _ rb;let L:(Rx s.H a x t).Á (zipH1 s.H a).X.E=ĳ _:=ag _<|ag _<|ag _<|aT _ rb;rw[J,G,N]at D;rw[B,J]at M;rw[G]at O;rw[B]at L;rw[N];show%[%[0,_,D|rb]|q _ D M O %[2,_,(ag _<|ag _<|ag _<|ag _<|aT _ rb),rb|rb] %[2,_,L,rb|rb] λc o t=>ag _<|ag _<|ag _<|ag _<|ag _ t]
end
def Uj (K:W.Ê)(a:Ĺ)(l:Ĵ ĵ):It:=%[λi H=>∃xs x,aP K H a xs/\xs[i]?=ĳ x/\i<l.n,λi H t H'=>∃T x c,H T=ĺ/\t=.C T/\(∀xs,aP K H a xs->xs[i]?=ĳ x)/\l[i]?=ĳ c/\H'=upd H T (.Ã [x,.À (S [c])])|λi H=>∃xs,aP K H a xs/\xs.n<=i]
def Xd {P:Ň}{w:ŋ}{K:W.Ê}{elts:Ĵ Ő}{x1:ĵ}{pos:Pos}{z ti to u v a:Ĺ}{ty:ŗ}(hty:ty="str_ascii_iterator"\/ty="str_iterator")(l:Ĵ ĵ)(t:Tok)(D:ZA z ti to u v a a):Turn P w K (.Ă elts x1 pos) (Uj K a l) [z,ti,to,u,v] z (λi h=>ţ h z ti to .ß/\Ś h ti (.C u) (.C v)/\(∃m n,Ś h to m n)/\h.ĥ u a i/\h.Ē v ty (S l) t i) where
 mem:=by simp
 obj:=λi h st c q=>by
  let(h1,B,(m,n,M),(o4,J,_,d4),(o5,L,_,d5)):=st;simp only[a_,eR,or_false]at q;rcases q with e|e|e|e|e <;> subst e
  .show%[0,_,h1|λv y=>by cases y]
  .show%[0,_,B|λv y=>by cases y]
  .show%[0,_,M|λv y=>by cases y]
  .show%[0,o4,J|λv y=>by rw[d4]at y;cases y]
  .show%[0,o5,L|λv y=>by rw[d5]at y;cases y]
 keep:=λi h h' st k=>by let(h1,B,(m,n,M),J,o,L,r):=st;show%[48,k z yf _ h1,k ti yf _ B,%[5,m,n|k to yf _ M],J.at λo e=>k u yf o e,o,k v yf o L|r]
 item:=by
  intro X hP hw hK q i ao s C H E I hf st hg;subst hP hw hK;let(h1,B,(m,n,M),J,L):=st;let(xs,x,G,hx,hil):=hg;let(fs,rf,pf,_):=I.ĕ G;let(p,ep,rp):=rf.get hx;let lt:∀c∈[z,ti,to,u,v],c<s.d:=λc q=>by
   simp only[a_,eR,or_false]at q;rcases q with e|e|e|e|e <;> subst e
   .show a6 h1
   .show a6 B
   .show a6 M
   .let(o,e,_):=J;show a6 e
   .let(o,e,_):=L;show a6 e
  let O:s.Ā (.C z) "zip":=%[0,_,h1|rb]
  let Z:X.A.ħ.ò=ĺ:=by simp[I.ok.hd q]
  let Y:∀(DV:ż X.Ñ X.w X.A.ħ v [v] (S l).ē.E (λi w=>∃c u,(S l).ē[i]?=ĳ c/\w=.À ⟨#[c]⟩ u) (λi h=>h.Ē v ty (S l) t i)),
    Ł (ł X.Ñ X.w) X.A (pyNext<|.C z) (λr s1=>∃u1,r=ĳ u1/\Ł (ł X.Ñ X.w) X.A (letOwnedTupleGo (.Ă elts x1 pos) (.C z) u1) (λ_ s2=>∃x H',aL X ao C H' s2/\bL x u1/\(Uj X.K a l).E_ i H x H'/\(ţ s2.H z ti to .ß/\Ś s2.H ti (.C u) (.C v)/\(∃m n,Ś s2.H to m n)/\s2.H.ĥ u a (i+1)/\s2.H.Ē v ty (S l) t (i+1))/\∀b∈[z,ti,to,u,v],H' b=ĺ) E s1) E s:=by
   intro DV;calc cj ?_;calc ab<|ml<|ee (name:=Str.ċ "__next__") O wc<|de wc O F.entry_zip_next ?_<|F.args_zip_next_1 _;refine Xc DV D h1 B M J L (show s.H.Ĕ a fs.Y from pf.ö) (x:=p) (by simpa using ep) (by simpa [S] using hil) λy h' tk hPy k1 k2 k3 k4 k5 k6=>af λht=>?_
   let(c,ut,hcl,rfl):=hPy;calc%[0,_,rb|wpAny_letOwnedTupleGo_zip k1 λh2' e2 N=>?_];let up:∀c o,c∉[z,ti,to,u,v]->s.H.Á c=ĳ o->h2'.Á c=ĳ o:=λc o q e=>by simp only[a_,eR,or_false,not_or]at q;show N.á _ _ q.1<|k6 c o q.1 q.2.2.1 q.2.2.2.1 q.2.2.2.2 e
   let(I3,fr):=aL.aaZ (y:=.À (S [c])) (tk:=tk) I hf lt rp %[ut|rb] (N.á _ _ (ii<|lt z yf) k5) up;let(o5,k4,r5):=k4;show%[12,.C s.d,_,I3,rb,%[7,s.d,x,c,I.ê.ä<|ah _,rb,λzs hz=>by rw[I.xM hz G];show hx,by simpa [S] using hcl|rb],
    %[48,e2,N.á _ _ D.q1<|k6 _ _ D.q1 D.q5 D.q6 D.q7 B,%[5,_,_|N.á _ _ D.q2 k2],k3.at λo e=>N.á _ o D.q3 e,o5,N.á _ _ D.q4 k4|r5]|fr]
  rcases hty with rfl|rfl;.show Y<|Draws.strAscii Z v (S l) t
  .show Y<|Draws.strWide Z v (S l) t
 done:=by
  intro X hP hw hK q i ao s C H E I hf st hg;subst hP hw hK;let(h1,B,(m,n,M),J,L):=st;let(xs,G,hl):=hg;let(fs,rf,pf,_):=I.ĕ G;let bW:=rf.n;let Z:X.A.ħ.ò=ĺ:=by simp[I.ok.hd q]
  let O:s.Ā (.C z) "zip":=%[0,_,h1|rb]
  calc ab<|ml<|ee (name:=Str.ċ "__next__") O wc<|de wc O F.entry_zip_next ?_<|F.args_zip_next_1 _;calc ZR Z D h1 B J (show s.H.Ĕ a fs.Y from pf.ö) (by simp;simp_all) λh' e k zz=>?_;let(o,e1,e2):=zz;calc ab<|ip (T:="StopIteration") (b:=true) %[0,o,e1|e2] isSubtype_stop ?_;calc af %[rb|aL.Ca (fp:=[z,ti,to,u,v]) (t':=s.toks) I (λc o q e=>?_) hf];simp only[a_,eR,or_false,not_or]at q;show k c o q.1 q.2.2.1 q.2.2.2.1 q.2.2.2.2 e
 self:=λA i s Q E st h=>uj st.1 h
section
variable {X:Cx}{elts:Ĵ Ő}{x1:ĵ}{tp:Pos}
def afV (K:W.Ê)(ta:TA):TI:=λT H R=>ta T H λvs H1=>∃a l,vs=[.C a,.À (S l)]/\(∃xs,aP K H1 a xs)/\R (Uj K a l) H1
def acd {a b:Ő}{ta:TA}{p pos:Pos}(hg:Gl X "zip")(hm:X.mg "zip"=ĺ)(ha:QA X [a,b] ta)(hs:Ž (ŉ [a,b] X.É=[(Ļ,Ŕ a X.É),(Ļ,Ŕ b X.É)]) ž)(G:Ž (ŉ [b] X.É=[(Ļ,Ŕ b X.É)]) ž):QI X (.Ă elts x1 tp) (.ĩ (.å "zip" p) [a,b] [] pos) (afV X.K ta):=⟨by
 intro ao s T H R I h;calc Ż<|nA I hg hm Jv<|g6 (bJ (ha.ã pos ao s T H _ I h) λus s1 zz=>?_) (by rw[hs,G]) (by rw[G];rfl);let(vs,H1,I1,r1,q1):=zz;let(a,l,e,(xs,L),q):=q1;subst e;cases r1 with
 | cons r rr=>
  cases rr with
  | cons r' rr=>
   cases rr;cases r;let(t,rfl):=r';let(fs,rf,Z,_):=I1.ĕ L;let J:a<s1.d:=by
    let(o,ho,_):=(show s1.H.Ĕ a fs.Y from Z.ö)
    show a6 ho
   let M:strIterType (S l)="str_ascii_iterator"\/strIterType (S l)="str_iterator":=by unfold strIterType;split <;> simp
   calc agZ (show s1.H.Ĕ a fs.Y from Z.ö) λh' Y k2 k3 k4 k5 kk=>uj Y ?_;let D:ZA (s1.d+4) (s1.d+2) (s1.d+3) s1.d (s1.d+1) a a:=by
    let B:∀N a b:ĵ,a<N->b<N->ZA (N+4) (N+2) (N+3) N (N+1) a b:=λN a b J lb=>by constructor <;> lia
    show B _ _ _ J J
   calc%[13,s1.d+4,[s1.d+4,s1.d+2,s1.d+3,s1.d,s1.d+1],_,_,H1,rb,I1.ġ (t':=s1.toks) kk,Xd M l t D,%[Y,k2,%[5,_,_|k3],k4|k5],λc O=>?_|q];let F:s1.d<=c:=by
    simp only[a_,eR,or_false]at O;let B:∀N c:ĵ,(c=N+4\/c=N+2\/c=N+3\/c=N\/c=N+1)->N<=c:=λN c h=>by lia
    show B _ _ O
   show I1.m_ F<|I1.ê.ä F⟩
end
def aeA {K KT:W.Ê}{a:Ĺ}{xs:Ĵ V}{l:Ĵ ĵ}{f:St->St}{tt:TT}(G:xs.n=l.n){D:Ĺ}{te:TE}{I:St}{H:Hp}{R:Hp->Prop}(B:ĵ->Ĵ V->Hp->Prop)(M:B 0 [] (upd H D<|.Ç []))(F:∀i ys H,i<=xs.n->B i ys H->aP K H a xs)(hs:∀i x c ys H T,xs[i]?=some x->l[i]?=some c->B i ys H->H T=none->qN xs.n i D (λv H Q=>∃a p q,v=.C a/\aM KT H a [p,q]/\Q [ĳ p,ĳ q]) f I tt te (.C T) (upd H T<|.Ã [x,.À (S [c])]) ys (B<|i+1))(hd:∀ys H,B xs.n ys H->R H):rM (Uj K a l) D H R (zT (λv H Q=>∃a p q,v=.C a/\aM KT H a [p,q]/\Q [ĳ p,ĳ q]) f I tt te):=DP xs.n B M (λi ys H h p=>%[%[1,xs,xs[i],F i ys H (ax h) p,by simp[h]|G ▸ h]|λx H' y=>by let(T,x,c,J,rfl,hx,L,rfl):=y;show hs i x c ys H T (hx xs<|F i ys H (ax h) p) L p J]) λys H p=>%[%[0,xs,F _ ys H (ah _) p|ah _]|hd ys H p]
section
variable {I:Type}[Ŏ I]
def uE (ys:Ĵ (I×Ĺ×V))(k:I)(b:Ĺ)(v:V):Ĵ (I×Ĺ×V):=if (Eb ys k).ĝ=ķ then ys.Q (λy=>if y.1=k then (y.1,y.2.1,v) else y) else ys++[(k,b,v)]
theorem Mx.putAt (h:bL v r):∀{ys:Ĵ (I×Ĺ×V)} {xs:Ĵ (I×Ĺ×Ķ)},Mx ys xs->Mx (ys.Q λy=>if y.1=k then (y.1,y.2.1,v) else y) (xs.Q<|PySem.putAt k r)
 | _,_,.Ü=>.Ü
 | _,_,.Ð (a:=p) (b:=q) hp t=>by
  calc .Ð ?_<|Mx.putAt h t;unfold PySem.putAt;dsimp only;by_cases e:p.1=k
  .rw[Ŀ e,Ŀ (hp.1.Ù.Z e)];show%[hp.1,hp.2.1|h]
  .rw[ŀ e,ŀ λz=>e (hp.1.Z z)];show hp
def Mx.put {ys:Ĵ (I×Ĺ×V)}{xs:Ĵ (I×Ĺ×Ķ)}{k:I}{v:V}(m:Mx ys xs)(h:bL v r):Mx (uE ys k b v) (storedH xs k b r):=by
 let q:=m.val k;unfold uE storedH;cases D:Eb ys k with
 | none=>
  cases B:atKey xs k with| none=>simp only[Option.isSome_none,a9,if_false];show m.snoc %[rb,rb|h]| some p=>rw[D,B]at q;show q.î
 | some u=>
  cases B:atKey xs k with| none=>rw[D,B]at q;show q.î| some p=>simp only[Option.isSome_some,if_true];show m.putAt h
def Nq (ys:Ĵ (I×Ĺ×V))(k:I)(b)(v):(uE ys k b v).n<=ys.n+1:=by
 unfold uE;split;.rw[aa];lia
 .simp
def ZS {ys:Ĵ (I×Ĺ×V)}{k:I}{v:V}:∀y∈uE ys k b v,(∃z∈ys,z.1=y.1/\z.2.1=y.2.1)\/(y.1=k/\y.2.1=b):=λy q=>by
 unfold uE at q;split at q
 .let(z,hz,e):=ar.mp q;calc .Â %[0,z,hz|?_];split at e <;> (subst e;show%[rb|rb])
 .rcases a7.mp q with h|h;.show .Â %[2,y,h,rb|rb]
  .rw[av.mp h];show .Ó %[rb|rb]
def Xe (x:I):x∈(uE ys k b v).Q (·.1)↔x∈ys.Q (·.1)\/x=k:=by
 let hs:(Eb ys k).ĝ=ķ↔k∈ys.Q (·.1):=by
  unfold Eb;rw[xk,List.find?_isSome,ar];constructor;.intro z;let(y,h1,q):=z;show%[0,y,h1|fI q]
  .intro z;let(y,h1,q):=z;show%[0,y,h1|am q]
 unfold uE;split
 .rename_i h;let e:(ys.Q λy=>if y.1=k then (y.1,y.2.1,v) else y).Q (·.1)=ys.Q (·.1):=by
   rw[cp];calc du λy _=>?_;show (if y.1=k then (y.1,y.2.1,v) else y).1=y.1
   split <;> rfl
  rw[e];show%[.Â|λz=>z.î id λe=>e ▸ hs.mp h]
 .simp
end
section
variable {X:Cx}{C:Type}[Ŏ C]
def aa7 {C:Type} [Ŏ C] (hf:C->ļ)(lies:Hp->Ĺ->C->Prop)(td ty tv:TE):TS:=λD T H=>tv T H λv H1=>td T H1 λx B=>ty T B λy q=>∃a ys b k,x=.C a/\q a=ĳ (MD hf a ys)/\(∀y∈ys,lies q y.2.1 y.1)/\y=.C b/\lies q b k/\ys.n<Ń/\
 D.nx T (upd q a<|MD hf a<|uE ys k b v)
def ace (q:Kd X.Ñ X.w C){pos pos':Pos}(hu:X.A.Þ+1+q.vk.deep<cLine+1)(ho:QE X o td)(hi:QE X i ty)(hv:QE X value tv)(hs:swapsWith value (ĳ<|.Č o i pos') pos.line X.É=pure Ļ):QS X (.Assign [.Č o i pos'] value pos) (aa7 q.vk.ÿ q.lies td ty tv):=⟨by
 intro ao s T H D I h;calc wpAny_Assign_Subscript (bJ (hv.ã ao s T H _ I h) λr s1 h1=>?_) hs;let(v,H1,I1,rv,q1):=h1;calc bJ (ho.ã ao s1 T H1 _ I1 q1) λu s2 O=>?_;let(x,H2,I2,rx,q2):=O;calc bJ (hi.ã ao s2 T H2 _ I2 q2) λN s3 Y=>?_;let(y,H3,G,Z,a,ys,b,k,ex,M,hk,ey,hb,l,q3):=Y;subst ex ey;obtain rfl:u=Value.C a:=rx;obtain rfl:N=Value.C b:=Z;let(hz,hd,hn,xs,B,dd):=abR q G.ê M hk;calc wpAny_setItem_heap (knd:=aa3 q.vk q.small) hu (q.ok G.ê hb) dd (λh' Qv J=>?_) (by rw[<-B.length];show hz);let F:=B.put (k:=k) (b:=b) rv;let(L,es,ep,p1,p2,p3,p4,_,p6):=Qv;refine%[3,T,_,Hv G (by rw[M];show True.intro) J %[L|p1]<|Wy %[50,aw (Nq _ _ _ _) l,hd,by rw[F.keys];show p6,_,F,L,es,ep,p1,p2,p3|p4]|q3]⟩
def Xf {C:Type} [Ŏ C] (hf:C->ļ):Ĵ V->Hp->VK->Prop:=λxs H Q=>∃(a:Addr) (ys:Ĵ (C×Ĺ×V)),xs=[.C a]/\H a=ĳ (MD hf a ys)/\((ys.Q (·.1)).Ý->∀(p:Ĺ),H p=ĺ->Q (.C p) (upd H p<|.Ç<|ys.Q λy=>V.C y.2.1))
def acf {ys:Ĵ (C×Ĺ×V)}{xs:Ĵ (C×Ĺ×Ķ)}(m:Mx ys xs):(ys.Q λy=>y.2.1)=xs.Q λx=>x.2.1:=by
 induction m with| nil=>rfl| cons h t ih=>rw[b7,b7,h.2.1,ih]
def Uk (hf:C->ļ)(hc:X.Ě=ķ):d7 X (.È "list") (Xf hf):=by
 (intro ao s T H xs us Q I r h);let(a,ys,rfl,e,q):=h;let(u,rfl,ru):=vals1 r;cases ru;let(z,lo,nd,xs,F,o,es,ep,h1,Y,Z,M):=aa4 I.ê e;let hsz:es.E=xs.n:=by rw[<-bo,M,aa]
 calc cj<|kdl_call (abE lo es ep) (I.ok.hd hc) %[2,o,h1,Y|Z] (by rw[hsz,<-F.n];show z) λh' tk D c' hk N B ht=>?_;let ea:D.I=(xs.Q λx=>x.2.1).Q Value.C:=by
  apply ic;intro j;by_cases L:j<xs.n
  .let G:j<D.E:=by rw[B.1,hsz];show L
   let(z1,e1,e2):=B.2 j D[j] (by simp[G]);let J:es.I[j]?=ĳ z1:=by rw[cq];show e1
   rw[M,ba,ae L]at J;let J:=bd J;subst J;rw[cq,b8 G,e2];simp[L]
  .rw[c9 (by rw[bo,B.1,hsz];show kH L),c9 (by simp;lia)]
 let er:(ys.Q λy=>V.C y.2.1)=(xs.Q λx=>x.2.1).Q V.C:=by rw[<-acf F,cp];rfl
 refine%[1,.C s.d,_,I.Ĝ (o:=.Ç (ys.Q λy=>V.C y.2.1)) (t':=tk) hk (ah _) %[16,by rw[aa];show z,D.I,c',by rw[ea,er];show vd _|by simpa using N],rb|q nd _<|I.ê.ä<|ah _]
end
def Nr (H:Hp)(b:Ĺ)(ts:Ĵ T3):Prop:=ts≠[]/\∃bs:Ĵ Ĺ,H b=ĳ (.Ã<|bs.Q V.C)/\Paired (λ(p:Addr) (t:T3)=>H p=ĳ (.Ã [.R t.1,.R t.2.1,.À (S [t.2.2])])) bs ts
section
variable {P:Ň}{w:ŋ}{H:Hp}{h:Ō}
variable {X:Cx}
def afW (ok:gK P w H h){t:T3}(e:H p=ĳ (.Ã [.R t.1,.R t.2.1,.À (S [t.2.2])])):(tupK<|qO<|cV P w).is h [Sum.Â (t.1:ļ),Sum.Â (t.2.1:ļ),Sum.Ó (S [t.2.2])] (.C p):=by
 let(_,its,r,o,h1,q,n,B):=(show dg P w H h p (.Ã _) from ok p _ e)
 cases r with
 | @cons _ u1 _ _ r1 r=>
  cases r with
  | @cons _ u2 _ _ r2 r=>
   cases r with| @cons _ u3 _ _ r3 r=>cases r;let(G,rfl):=r1;let(F,rfl):=r2;let(D,rfl):=r3;show%[p,o,n,_,rb,h1,q,B,Ck,Ck,Rq|trivial]
theorem Xg (ok:gK P w H h):∀{ps:Ĵ Ĺ} {ts:Ĵ T3} {us:Ĵ Ķ},Ř (λ(p:Ĺ) (t:T3)=>H p=ĳ (.Ã [.R t.1,.R t.2.1,.À (S [t.2.2])])) ps ts->Vals (ps.Q V.C) us->jY (tupK<|qO<|cV P w) h (iC ts) us
 | _,_,_,.Ü,.Ü=>trivial
 | _,_,_,.Ð e t,.Ð r v=>by cases r;show%[afW ok e|Xg ok t v]
def aeC (ok:gK P w H h)(m:Nr H b ts):(Ah P w).is h (iC ts) (.C b):=by
 let(ne,bs,G,q):=m;let(_,its,r,o,h1,B,n,D):=(show dg P w H h b (.Ã _) from ok b _ G)
 calc%[%[6,b,o,n,its.Y,rb,h1,B,D|by simpa using Xg ok q r],λz=>ne<|qh.mp z|λt F=>?_];let(u,_,rfl):=ar.mp F;show%[9,_,_,_|rb]
def qC (H:Hp)(b:Ĺ)(k:ux):Prop:=∃ts,k=iC ts/\Nr H b ts
def afX (P:Ň)(w:ŋ):Kd P w ux:=%[Ah P w,(by decide:(2:ĵ)<=8),qC|λok zq=>by let(ts,e,m):=zq;exact e ▸ aeC ok m]
def sS (w:ŋ)(k:ux):ļ:=reduceHash (Builtin.Ă.tupleHashOf<|k.Q λq=>reduceHash<|Builtin.Ă.tupleHashOf<|q.Q<|ac9 w)
def Xh (w)(hw:Ž (X.w=w) ž):QE X (.Dict [] [] pos) (Wz<|sS w):=Zx _
def Xi (w){pos pos':Pos}(B:X.A.Þ+64<cLine)(q:QE X o td)(hi:QE X i ty)(hv:QE X value tv)(hs:swapsWith value (ĳ<|.Č o i pos') pos.line X.É=pure Ļ)(hw:Ž (X.w=w) ž):QS X (.Assign [.Č o i pos'] value pos) (aa7 (sS w) qC td ty tv):=by subst hw;show ace (afX X.Ñ X.w) (show X.A.Þ+1+2<cLine+1 by lia) q hi hv hs
def PN (w)(q:X.Ě=ķ)(hw:Ž (X.w=w) ž):d7 X (.È "list") (Xf<|sS w):=Uk _ q
end
end L2
namespace L2
open PySem PySem.Spec PyProof.Rows
def TkO (o:Obj)(x:Ŋ)(t:ĵ):Prop:=∃us n,o.ă=.ð us n/\Value.À x t∈us
def ZV (H:Hp)(x:Ŋ)(t:ĵ):Prop:=∃b o u,H b=ĳ (.jk o u)/\TkO o x t
def sH.tok (h:sH o n)(k:TkO o x t):0<t/\t<n:=by let(us,m,e,z):=k;unfold sH at h;rw[e]at h;show h x t z
def ZV.good {X:Cx}{ao:AC}{T:St}{H:Hp}{s:Ľ}{x:Ŋ}{t:ĵ}(k:ZV H x t)(I:aL X ao T H s):0<t/\t<s.Ï:=by let(b,o,u,h,k):=k;show sH.tok (I.gh.2 b _ h) k
section
variable {X:Cx}{pos:Pos}
def tWk (t:TE):TE:=λT H Q=>t T H λv H1=>Q (wB v) H1
def K6 (h:QE X e t):QE X e (tWk t):=⟨λao s T H Q I q=>bJ (h.ã ao s T H _ I q) λv s1 zq=>by let(x,H1,I1,r1,q1):=zq;exact %[1,wB x,H1,I1,r1.weak|q1]⟩
def afY (l:Ĵ ĵ):TE:=λ_ H Q=>∀k,0<k->(∀x t,ZV H x t->0<t/\t<k)->Q (.sx (S l) k) H
def acg (l){j}(q:y=S l):QE X (.ù (.À y) j pos) (afY l):=⟨λao s T H Q I h=>by subst q;show kF %[1,.sx (S l) s.Ï,H,I.tok _,rb|h _ I.gh.1 λx t k=>k.good I]⟩
def Nt:wG X "str.replace" (λx vs H Q=>∃(l:Ĵ ĵ) (c k D:Nat),x=.À (S l)/\vs=[.sx (S [c]) k,.sx (S []) D,.R 1]/\c∈l/\l.n<=1000/\0<k/\k<D/\Q (.À<|S<|l.ý c) H):=by
 intro ao s T H x vs v us Q I Y B h;let(l,c,k,D,rfl,rfl,N,Z,L,M,q):=h;let(G,rfl):=Y;cases B with
 | cons r1 B=>
  cases B with
  | cons r2 B=>
   cases B with
   | cons r3 B=>
    cases B;cases r1;cases r2;let(t3,rfl):=r3;let(i,J,Nk):=Nj l c N;refine call_gives F.slot_str_replace (typeIs_str _ _ G) F.entry_str_replace (F.args_str_replace_4 _ _ _ _) (wU (S l) (S [c]) (S []) G k D _ λ_=>%[?_,?_,?_|?_]) ?_
    .have:k≠0:=ii L;have:D≠0:=ii<|mM L M;simp[*]
    .have:k≠D:=bn M;simpa using this
    .rfl
    .rw[jg,show (S []).n=0 from rb,Nat.mul_zero,vT];show al (by have:=aF (n:=l.length) yw;lia)
    rw[J];rw[ŀ (by rw[(show (([i]:Ĵ ĵ).Ė||((S [c]).n==0&&(S []).n==0))=Ļ from rfl)];decide),Nk];show%[17,by show ax<|aF<|aw (mP) Z,.À<|S<|l.ý c,H,I.tok _,%[_|rb]|q]
def ach {h:Ō}{its:Ĵ Ķ}(e:h.Á a=ĳ o)(p:ź h a its.Y):∃n,o.ă=.ð its.Y n:=by let(o',e',_,n,d):=p;rw[e]at e';cases e';show%[n|d]
def Xj (t:zJ):TG:=λv T H Q=>∃a o p q x,v=.C a/\H a=ĳ (.jk o<|.Ã [p,q,.À x])/\∀k,TkO o x k->t [p,q,.sx x k] T H Q
def ZW {es:Ĵ Ő}{k:ĵ}{t:zJ}(G:X.Ě=ķ)(h:Ql X es t)(hn:Ž ((assignEach es X.É).n=3) ž)(D:Ž ((assignEach es X.É).findIdx? (·.1)=ĺ) ž):PG X (.Ă es k pos) (Xj t):=by
 intro ao s T H v u Q I r hw;let(a,o,p,q,x,rfl,ha,hw):=hw;cases r;let(e,z,its,B,F):=(show dg X.Ñ X.w H s.H a (.jk o<|.Ã [p,q,.À x]) from I.ê a _ ha)
 let(n,hd):=ach e F;cases B with
 | cons r1 B=>
  cases B with
  | cons r2 B=>
   cases B with| cons r3 B=>cases B;let(tk,rfl):=r3;calc assign_Tuple_tuple (I.ok.hd G) F (by simp[hn]) D λh' hx=>?_;show h ao _ T H [p,q,.sx x tk] _ Q (I.ġ (t':=s.toks) λb o e=>hx b o (bn<|a6 e) e) (.Ð r1<|.Ð r2<|.Ð rb .Ü)<|hw tk %[3,_,_,hd|yf]
def ZX {es:Ĵ Ő}{k:ĵ}{t:zJ}(B:X.Ě=ķ)(h:Vi X es t)(hn:Ž ((assignEach es X.É).n=3) ž)(q:Ž ((assignEach es X.É).findIdx? (·.1)=ĺ) ž):QG X (.Ă es k pos) (Xj t):=⟨ZW B h.ã hn q⟩
end
abbrev Cx.tkc (X:Cx)(n:ĵ):Cx:={X with s₀:={X.s₀ with toks:=n} }
section
variable {X:Cx}{ao:AC}{C:St}{H:Hp}{s:Ľ}{n:ĵ}{pos:Pos}
def aL.tkc (I:aL X ao C H s)(h:n<=s.Ï):aL (X.tkc n) ao C H s:=let ok:=I.ok
 %[%[ok.mod,ok.þ,ok.glob,ok.blt,ok.above,ok.inj,ok.has,ok.cab,ok.hd,ok.frames,ok.stk,ok.exf,ok.bs,ok.zG,ok.Dv,ok.Hs,ok.o7|ok.Ey],I.os,I.bare,I.ø,I.loc,I.ñ,I.Ô,I.mO,I.pin,I.ê,I.Ċ,I.gh|h]
def aL.Z0 (I:aL (X.tkc n) ao C H s)(h:X.s₀.Ï<=n):aL X ao C H s:=let ok:=I.ok
 %[%[ok.mod,ok.þ,ok.glob,ok.blt,ok.above,ok.inj,ok.has,ok.cab,ok.hd,ok.frames,ok.stk,ok.exf,ok.bs,ok.zG,ok.Dv,ok.Hs,ok.o7|ok.Ey],I.os,I.bare,I.ø,I.loc,I.ñ,I.Ô,I.mO,I.pin,I.ê,I.Ċ,I.gh|aw h I.tk]
def afZ (j:ĵ)(tl:TE)(tb:ĵ->TS):TS:=λD C H=>tl C H λv H1=>∃(l:Ĵ ĵ) (q:ĵ->St->Hp->Prop),v=.À (S l)/\(∀c∈l,c<128)/\q 0 C H1/\
 (∀i c C H k n,l[i]?=ĳ c->q i C H->0<k->k<n->tb n {D with nx:=q<|i+1,ct:=q<|i+1,bk:=D.nx} (C.Ď j<|ĳ<|.sx (S [c]) k) H)/\∀C H,q l.n C H->D.nx C H
def aci {x:Ŋ}{j:ĵ}{iter:Ő}{N:Ĵ ŏ}{tl:TE}{tb:ĵ->TS}{px:Pos}(hp:Ū (ł X.Ñ X.w) X.A X.É X.xe)(hc:X.Ě=ķ)(hN:X.N.Ý)(hj:X.N[j]?=ĳ x)(hx:Loc X.É.ĉ x)(hl:QE X iter tl)(M:∀n,tU (X.tkc n) N (tb n))(hs:Ž (∀x,foldedSetIterable iter X.É x=pure x) ε)(hf:Ž (X.fn x=ķ\/X.É.ĉ.Ú.Æ x=ĳ .ô) ζ):QS X (.For (.å x px) iter N [] pos) (afZ j tl tb):=⟨by
 intro ao s C H D I h;calc wpAny_For (bJ (hl.ã ao s C H _ I h) λv s1 zz=>?_) hs;let(xv,H1,I1,r1,l,Pv,e,ha,p0,step,fin):=zz;subst e;let(t,rfl):=r1;calc wpAny_pyIter_ascii (by simpa [S] using ha) ?_;let f2:mq X ao H1 s1.d:=I1.m_ (ah _)<|I1.ê.ä<|ah _;let T:=λtg=>LK (P:=X.prog) (w:=X.w) (K:=X.K) (tg:=tg) (.Â rb) l t s1.d;let B:∀{H':Hp},H' s1.d=ĺ->∀b∈[s1.d],mq X ao H' b:=λhn b M=>by rw[av.mp M];show%[hn|f2.2]
 refine wl (λm s'=>∃i C' H',m=l.n-i/\aL X ao C' H' s'/\(i<=l.n/\s'.H.Ē s1.d "str_ascii_iterator" (S l) t i)/\H' s1.d=ĺ/\Pv i C' H') ?_ l.n
  %[7,0,C,H1,rb,(I1.ġ (t':=s1.toks) λb o e=>ag _ e),%[23,b5 _,_,aT _ rb,rb|rb],f2.1|p0]
 generalize s1.heap.objs.size=it at *
 intro _ Z z;let(i,C3,H3,rfl,I3,O,Qo,p3):=z;by_cases q:i<l.n
 .let(f0,f1,_,f3,f4,f5):=B Qo it (av.Û rb);calc eS hp<|wpAny_pyNext_ascii_item O.2 (c:=l[i]) (by simp[S,q]) λh' st' sb=>?_;let I4:aL X ao C3 H3 {Z with heap:=h',toks:=Z.Ï+1}:=I3.ı (λb o M e=>(sb.2 b M).Z e) f0 f1 f3 f4 f5;let(o,e,c2,d2):=id st';calc eS hp<|Bl (s:={Z with heap:=h',toks:=Z.Ï+1}) e c2 d2 yi ?_;calc eS hp<|cj<|tI<|xK (v:=.sx (S [l[i]]) Z.Ï) (I4.pinned (B Qo)<|(T<|.å x px).obj (i+1) h' %[q|st']) hN hj hx rb (λs6 I6 ht=>?_) hf;let Y:=I6.tk;calc eS hp<|bJ ((M s6.Ï).ã _ s6 _ H3 _ (I6.tkc<|ah _)<|step i l[i] C3 H3 Z.Ï s6.Ï (by simp[q]) p3 I3.gh.1 ht) λf s7 q7=>?_;let F:∀{L:St} {G:Hp},aL (X.tkc s6.Ï) (ao++wC [it] h') L G s7->Pv (i+1) L G->∃m,m<l.n-i/\∃i C' H',m=l.n-i/\aL X ao C' H' s7/\(i<=l.n/\s7.H.Ē it "str_ascii_iterator" (S l) t i)/\H' it=ĺ/\Pv i C' H':=λ{L G} J n7=>by
   let pn:=λb M o e=>J.pin (b,o)<|cS _<|cS _<|mQ (fp:=[it]) (b:=b) M (o:=o) e;show%[0,_,pM q<|eQ i|%[7,i+1,L,G,rb,(J.Z0 Y).jG,(T<|.å x px).keep _ _ _ %[q|st'] λb M o e=>(pn b M o e).1,(pn it (av.Û rb) o e).2.1|n7]]
  cases f with
  | next=>let(L,G,J,n7):=q7;show F J n7
  | cont=>let(L,G,J,n7):=q7;show F J n7
  | brk=>let(L,G,J,q7):=q7;show%[3,L,G,(J.Z0 Y).jG|q7]
  | ret v=>let(x7,L,G,J,r7,q7):=q7;show%[31,x7,L,G,(J.Z0 Y).jG,r7|q7]
 .obtain rfl:i=l.n:=vE O.1 (Nat.le_of_not_lt q);calc eS hp<|bJ ((T<|.å x px).done X rb rb rb hc l.n ao Z C3 H3 X.xe I3 (B Qo) O<|ah _) λr s4 zq=>?_;let(hr,I4):=zq;subst hr;show ly %[3,C3,H3,I4|fin _ _ p3]⟩
def aeD (n:ĵ)(t:TA):TE:=λC H Q=>t C H λvs H1=>∃i j x k,vs=[.R i,.R j,.sx x k]/\(0<k/\k<n)/\∀g o,H1 g=ĺ->Q (.C g) (upd H1 g<|.jk o<|.Ã [.R i,.R j,.À x])
def Z1 {x1}(h:QA X es t):QE X (.Ă es x1 pos) (aeD X.s₀.Ï t):=⟨by
 intro ao s C H Q I L;calc wn<|bJ (h.ã pos ao s C H _ I L) λus s1 J=>?_;let(xs,H1,I1,r,i,j,x,k,e,(G,F),q):=J;subst e;cases r with
 | cons r1 r=>
  cases r with
  | cons r2 r=>
   cases r with
   | cons r3 r=>
    cases r;let(D,rfl):=r1;let(B,rfl):=r2;cases r3;calc%[zsz 3|?_];refine%[1,.C s1.d,_,I1.Ĝ (o:=.jk {cls:=.È "tuple",data:=.ð [Value.R i D,.R j B,.À x k].Y} (.Ã [.R i,.R j,.À x])) (t':=s1.toks) (λb u e=>ag _ e) (ah _)
     %[20,aT _ rb,zsz 3,[.R i D,.R j B,.À x k],.Ð %[_|rb]<|.Ð %[_|rb]<|.Ð %[_|rb] .Ü|%[37,_,aT _ rb,rb,_|rb]] (ah _) ?_,rb|q _ _ (I1.ê.ä<|ah _)]
    intro y z hz;simp at hz;let(rfl,rfl):=hz;show%[G|bq F I1.tk]⟩
def af0 (l m:Ĵ ĵ)(i:ļ):TA:=λ_ H Q=>∀k,0<k->Q [.sx (S l) k,.sx (S m) (k+1),.R i] H
def acj (l m){j1 j2 j3}(q:y=S l)(hz:z=S m):QA X [.ù (.À y) j1 p1,.ù (.À z) j2 p2,.ù (.R i) j3 p3] (af0 l m i):=⟨by
 subst q hz;intro pos ao s C H Q I h;show Ł _ _ (spliced<|(Ļ,Ŕ (.ù (.À<|S l) j1 p1) X.É)::(Ļ,Ŕ (.ù (.À<|S m) j2 p2) X.É)::(Ļ,Ŕ (.ù (.R i) j3 p3) X.É)::[]) _ _ _;calc fN<|kF<|fN<|kF<|fN<|sC<|oy ?_;show%[1,[.sx (S l) s.Ï,.sx (S m) (s.Ï+1),.R i],H,I.tok<|s.Ï+1+1+1,.Ð rb<|.Ð rb<|.Ð %[_|rb] .Ü|h s.Ï I.gh.1]⟩
end
def Ih {X:Cx}(K:W.Ê)(h:Ž (X.K=K) ž):d7 X (.Õ "sorted") (W8 K):=by subst h;show zc
end L2
namespace My
open PySem L2
def top (i:ĵ):ŏ:=PySem.Challenge.pw_letterrack_k47_whole_boards_that_grow.main.body.Í i (.Pass %[(0),(0),(0)|0])
def bQ (s:ŏ):Ĵ Ŋ:=(iT s).args.Q (·.arg)
def ag0 (s:ŏ):Ŋ:=match s with| .FunctionDef n _ _ _ _ _ _ _ _ _=>n| _=>""
abbrev sV:ŏ:=top 13
def PX:aX ["thing"] (bQ sV) (aJ sV):={}
abbrev vm:ŏ:=top 14
def Ul:aX ["thing"] (bQ vm) (aJ vm):={}
abbrev qQ:ŏ:=top 15
def Nu:aX ["sign"] (bQ qQ) (aJ qQ):={}
abbrev vo:ŏ:=top 16
def Gk:aX ["sign"] (bQ vo) (aJ vo):={}
abbrev vp:ŏ:=top 17
def sW:aX ["rack","signs","tiles","sign","tile"] (bQ vp) (aJ vp):={}
abbrev lU:ŏ:=top 18
def Ef:aX ["laying"] (bQ lU) (aJ lU):={}
abbrev sX:ŏ:=top 23
def qR:aX ["thing","width"] (bQ sX) (aJ sX):={}
abbrev sY:ŏ:=top 24
def Dk:aX ["thing"] (bQ sY) (aJ sY):={}
abbrev qT:ŏ:=top 25
def Al:aX ["thing"] (bQ qT) (aJ qT):={}
abbrev pK:ŏ:=top 26
def Kp:aX ["rows","row","column"] (bQ pK) (aJ pK):={}
abbrev nU:ŏ:=top 27
def Ii:aX ["rows","thing"] (bQ nU) (aJ nU):={}
abbrev tu:ŏ:=top 28
def P0:aX ["rows","marks","begin"] (bQ tu) (aJ tu):={}
abbrev nW:ŏ:=top 29
def wV:aX ["rows","column"] (bQ nW) (aJ nW):={}
abbrev nZ:ŏ:=top 30
def wW:aX ["rows"] (bQ nZ) (aJ nZ):={}
abbrev uF:ŏ:=inClass (top 31) 0
def Kq:aX ["self","rows","marks","begin"] (bQ uF) (aJ uF):={}
abbrev yw:ŏ:=inClass (top 31) 1
def P_:aX ["self","row","column"] (bQ yw) (aJ yw):={}
abbrev pL:ŏ:=inClass (top 31) 2
def uG:aX ["self"] (bQ pL) (aJ pL):={}
abbrev vZ:ŏ:=inClass (top 31) 3
def j4:aX ["self","row","column","way","line","place","ahead","signs","first"] (bQ vZ) (aJ vZ):={}
abbrev qD:ŏ:=inClass (top 31) 4
def vq:aX ["self","begin"] (bQ qD) (aJ qD):={}
abbrev uH:ŏ:=inClass (top 31) 5
def jq:aX ["self","laying","lines","row","column","sign"] (bQ uH) (aJ uH):={}
abbrev qU:ŏ:=top 34
def Nv:aX ["board","thing"] (bQ qU) (aJ qU):={}
abbrev qW:ŏ:=top 35
def uI:aX ["board","thing","cells"] (bQ qW) (aJ qW):={}
abbrev tD:ŏ:=top 36
def Qa:aX ["laying"] (bQ tD) (aJ tD):={}
abbrev qX:ŏ:=top 37
def Nx:aX ["laying"] (bQ qX) (aJ qX):={}
abbrev vA:ŏ:=top 38
def Um:aX ["laying"] (bQ vA) (aJ vA):={}
abbrev jy:ŏ:=top 39
def lJ:aX ["board","row","column","around"] (bQ jy) (aJ jy):={}
abbrev yx:ŏ:=top 40
def jz:aX ["board","laying","after","way","asked","row","column","words","along","run"] (bQ yx) (aJ yx):={}
abbrev pN:ŏ:=top 41
def n6:aX ["board","laying","row","column","sign"] (bQ pN) (aJ pN):={}
abbrev kZ:ŏ:=top 42
def CN:aX ["laying"] (bQ kZ) (aJ kZ):={}
abbrev pP:ŏ:=top 43
def n8:aX ["board","laying","after","row","column"] (bQ pP) (aJ pP):={}
abbrev mW:ŏ:=top 44
def pQ:aX ["board","laying","joined"] (bQ mW) (aJ mW):={}
abbrev n_:ŏ:=top 45
def gH:aX ["board","book","laying","words","row","column","way","signs","word"] (bQ n_) (aJ n_):={}
abbrev mX:ŏ:=top 46
def Gm:aX ["board","book","rack","laying"] (bQ mX) (aJ mX):={}
abbrev lV:ŏ:=top 49
def i_:aX ["board","book","row","column","way","run","place","ahead","behind"] (bQ lV) (aJ lV):={}
abbrev pR:ŏ:=top 50
def oh:aX ["board","cells","row","signs"] (bQ pR) (aJ pR):={}
abbrev Cm:ŏ:=top 51
def Z2:aX ["board"] (bQ Cm) (aJ Cm):={}
abbrev yC:ŏ:=top 53
def vB:aX ["board","word","cells","row"] (bQ yC) (aJ yC):={}
abbrev k_:ŏ:=top 54
def iz:aX ["board","row","column","word","triples","place","letter","sign"] (bQ k_) (aJ k_):={}
abbrev mY:ŏ:=top 55
def lW:aX ["board","book","fitting","row","column"] (bQ mY) (aJ mY):={}
abbrev oA:ŏ:=top 56
def wX:aX ["triples","fitting","joining"] (bQ oA) (aJ oA):={}
abbrev j6:ŏ:=top 57
def oE:aX ["letters","rack","texts","sign","tile","left"] (bQ j6) (aJ j6):={}
abbrev pU:ŏ:=top 58
def oF:aX ["triples","rack","cells","layings","signs"] (bQ pU) (aJ pU):={}
abbrev lg:ŏ:=top 59
def eE:aX ["board","book","rack","fitting","joining","layings","word","row","column","triples"] (bQ lg) (aJ lg):={}
abbrev oG:ŏ:=top 60
def qF:aX ["board","book","rack","across","down"] (bQ oG) (aJ oG):={}
abbrev vC:ŏ:=top 62
def Gn:aX ["text"] (bQ vC) (aJ vC):={}
abbrev pW:ŏ:=top 63
def Kr:aX ["text"] (bQ pW) (aJ pW):={}
abbrev wg:ŏ:=inClass (top 64) 0
def Am:aX ["self","words","word"] (bQ wg) (aJ wg):={}
abbrev uJ:ŏ:=inClass (top 64) 1
def Ks:aX ["self"] (bQ uJ) (aJ uJ):={}
abbrev yD:ŏ:=inClass (top 64) 2
def Qc:aX ["self","text"] (bQ yD) (aJ yD):={}
abbrev vD:ŏ:=top 66
def Uo:aX ["_law_script","_law_k"] (bQ vD) (aJ vD):={}
abbrev Gp:ŏ:=top 67
def acn:aX ["_law_x"] (bQ Gp) (aJ Gp):={}
abbrev Cp:ŏ:=top 68
def Z4:aX ["_law_x"] (bQ Cp) (aJ Cp):={}
abbrev yE:ŏ:=top 69
def JW:aX ["_law_script","_law_k","_law_cell"] (bQ yE) (aJ yE):={}
abbrev yF:ŏ:=top 70
def JX:aX ["_law_script","_law_k","_law_base","_law_many","_law_left","_law_found","_law_x","_law_j"] (bQ yF) (aJ yF):={}
abbrev vG:ŏ:=top 71
def mZ:aX ["_law_script","_law_k","_law_letters_here","_law_row","_law_found","_law_digit"] (bQ vG) (aJ vG):={}
abbrev Cq:ŏ:=top 72
def qG:aX ["_law_letters_here","_law_script","_law_start","_law_many","_law_found","_law_k","_law_row","_law_size"] (bQ Cq) (aJ Cq):={}
abbrev Uq:ŏ:=top 73
def af2:aX ["_law_rows","_law_row","_law_column"] (bQ Uq) (aJ Uq):={}
abbrev s_fresh:ŏ:=top 74
def uK:aX ["_law_rows","_law_word","_law_row","_law_column","_law_way","_law_cells","_law_letter"] (bQ s_fresh) (aJ s_fresh):={}
abbrev Cr:ŏ:=top 75
def mH:aX ["_law_rows","_law_row","_law_column","_law_way","_law_letter","_law_found","_law_k"] (bQ Cr) (aJ Cr):={}
abbrev yG:ŏ:=top 76
def oW:aX ["_law_rows","_law_begin","_law_cells","_law_row","_law_column","_law_letter","_law_beside"] (bQ yG) (aJ yG):={}
abbrev vH:ŏ:=top 77
def pX:aX ["_law_rows","_law_words_here","_law_cells","_law_way","_law_row","_law_column","_law_letter","_law_cross_here"] (bQ vH) (aJ vH):={}
abbrev vI:ŏ:=top 78
def iD:aX ["_law_cells","_law_rack","_law_found","_law_row","_law_column","_law_letter","_law_more","_law_laid","_law_left"] (bQ vI) (aJ vI):={}
abbrev K7:ŏ:=top 79
def uL:aX ["_law_rows","_law_begin","_law_words_here","_law_rack","_law_found","_law_word","_law_place","_law_way","_law_cells","_law_laying"] (bQ K7) (aJ K7):={}
abbrev pY:ŏ:=top 80
def iw:aX ["_law_script","_law_x","_law_high","_law_wide","_law_marks","_law_row"] (bQ pY) (aJ pY):={}
abbrev Gq:ŏ:=top 81
def tH:aX ["_law_rows","_law_laying","_law_way","_law_found","_law_row","_law_column","_law_sign","_law_cross_here"] (bQ Gq) (aJ Gq):={}
abbrev Gr:ŏ:=top 82
def qH:aX ["_law_old","_law_new","_law_laying","_law_laid","_law_row","_law_column","_law_sign"] (bQ Gr) (aJ Gr):={}
abbrev Cu:ŏ:=top 83
def Eh:aX ["_law_board","_law_after","_law_book","_law_words_here","_law_rack","_law_laying","_law_told","_law_runs_here"] (bQ Cu) (aJ Cu):={}
abbrev Ur:ŏ:=top 84
def jc:aX ["_law_script","_law_some","_law_words_here","_law_book","_law_board","_law_rack","_law_k","_law_digits_here","_law_tile","_law_every","_law_laying","_law_after"] ["_law_script"] (aJ Ur):={}
section
variable {P:Ň}{w:ŋ}{K:W.Ê}{mg:Ŋ->ĸ Ķ}{base:Ō}
def Gs (c:ĵ):œ:=ľ (97<=c)&&ľ (c<=122)
def JZ (c:ĵ):œ:=ľ (65<=c)&&ľ (c<=90)
def Gu (l:Ĵ ĵ):œ:=match l with|[c]=>Gs c||JZ c|_=>false
def Jy (a b:ĵ):([a]<[b])↔a<b:=by simp[hG]
def Us (a b:ĵ):(!ľ ([a]<[b]))=ľ (b<=a):=by
 by_cases h:a<b;.rw[am ((Jy a b).Û h),al (ie Nat.not_le h)];rfl
 .rw[al (λz=>h<|(Jy a b).mp z),am (kH h)];rfl
def af3 (K:W.Ê)(H:Hp)(x:V):Prop:=∃t,o_ K H x t/\W.kitOne K t (.È "str")=ĳ Ļ
def aeE (K:W.Ê):Sp:=λvs H Q _=>(∃x,vs=[x]/\af3 K H x/\Q (.bl Ļ) H)\/(∃l,vs=[.À (S l)]/\l.n<=1000/\Q (.bl<|Gu l) H)
abbrev DA (K:W.Ê)(mg:Ŋ->ĸ Ķ)(n:Ŋ)(s:ŏ):Prop:=sI K mg n s (bQ s)
abbrev DF (P:Ň)(w:ŋ)(K:W.Ê)(mg:Ŋ->ĸ Ķ)(base:Ō)(s:ŏ)(k:ĵ)(sp:Sp):Prop:=Ft P w K mg base (ag0 s) k (bQ s) sp
structure MA (K:W.Ê)(C:Ĺ)(x q:Ŋ)(s:ŏ) where
 f:Ĺ
 fd:Ŝ
 F:rD K x q s f fd
 b:lN K fd (bQ s) []
 m:Meth K C x f
def MA.mks {K:W.Ê}{C:Ĺ}{q:Ŋ}{s:ŏ}(a:MA K C "__init__" q s)(h:W.makesIn K C=ķ/\W.Ī K (.C C)=ķ):Mk K C a.f:=%[h.1,a.m.č,a.m.fn|h.2]
abbrev MF (P:Ň)(w:ŋ)(K:W.Ê)(mg:Ŋ->ĸ Ķ)(base:Ō){C:Ĺ}{x q:Ŋ}{s:ŏ}(a:MA K C x q s)(k:ĵ)(sp:Sp):Prop:=tW P w K mg base qj k a.f a.fd (bQ s) sp
def MK:Ĵ ĵ:=[46,50,51,52,98,99,100]
structure aco (K:W.Ê)(C:Ĺ):Prop where
 cl:Cls K C
 nh:mz K C "held"
structure Z5 (K:W.Ê)(C:Ĺ):Prop where
 cl:Cls K C
 nr:mz K C "rows"
 nm:mz K C "marks"
 nb:mz K C "begin"
structure GG (K:W.Ê)(mg:Ŋ->ĸ Ķ) where
 b':Ĺ
 v':mg "Board"=ĳ (.C b')
 a':Z5 K b'
 m':MA K b' "__init__" "Board.__init__" uF
 w':W.makesIn K b'=ķ/\W.Ī K (.C b')=ķ
 f':MA K b' "at" "Board.at" yw
 o':MA K b' "is_free" "Board.is_free" pL
 p':MA K b' "run" "Board.run" vZ
 s':MA K b' "turned" "Board.turned" qD
 k':MA K b' "laid" "Board.laid" uH
 d':Ĺ
 I':mg "Book"=ĳ (.C d')
 g':aco K d'
 t':MA K d' "__init__" "Book.__init__" wg
 J':W.makesIn K d'=ķ/\W.Ī K (.C d')=ķ
 q':MA K d' "has" "Book.has" yD
 u':MA K d' "words" "Book.words" uJ
 c':mg "len"=ĺ
 h':mg "range"=ĺ
 l':mg "sorted"=ĺ
 e':mg "tuple"=ĺ
 r':mg "list"=ĺ
 n':mg "isinstance"=ĺ
 K':mg "bool"=ĺ
 A':mg "int"=ĺ
 B':mg "str"=ĺ
 j':mg "all"=ĺ
 x':mg "any"=ĺ
 y':mg "set"=ĺ
 z':mg "enumerate"=ĺ
 C':mg "zip"=ĺ
 L':mg "min"=ĺ
 M':mg "max"=ĺ
 i':∃t,mg "FREE"=ĳ (.À (S [46]) t)
 N':∃t,mg "MARKS"=ĳ (.À (S MK) t)
 D':∃t,mg "MOST"=ĳ (.R 9 t)
 E':∃t,mg "LETTERS"=ĳ (.À (S AL) t)
 F':∃t,mg "MOST_TILES"=ĳ (.R 7 t)
 O':DA K mg "is_whole" sV
 P':DA K mg "is_sign" vm
 Q':DA K mg "letter_of" qQ
 G':DA K mg "tile_of" vo
 R':DA K mg "left_of" vp
 S':DA K mg "turned_laying" lU
 T':DA K mg "is_block" sX
 U':DA K mg "are_rows" sY
 V':DA K mg "are_marks" qT
 W':DA K mg "is_cell_of" pK
 X':DA K mg "is_begin_of" nU
 Y':DA K mg "is_board" tu
 Z':DA K mg "column_text" nW
 aa':DA K mg "turned_rows" nZ
 ab':DA K mg "is_triple" qU
 ac':DA K mg "is_laying" qW
 ad':DA K mg "cells_of" tD
 ae':DA K mg "is_across" qX
 af':DA K mg "is_down" vA
 ag':DA K mg "is_next_to_taken" jy
 ah':DA K mg "formed" yx
 ai':DA K mg "check_free" pN
 aj':DA K mg "check_straight" kZ
 ak':DA K mg "check_gaps" pP
 al':DA K mg "check_joined" mW
 am':DA K mg "check_words" n_
 an':DA K mg "check_laying" mX
 ao':DA K mg "cross_letters" lV
 ap':DA K mg "free_cells" pR
 aq':DA K mg "hooks" Cm
 ar':DA K mg "starts" yC
 as':DA K mg "letters_to_lay" k_
 at':DA K mg "letters_down" mY
 au':DA K mg "can_be_laid" oA
 H':DA K mg "sign_texts" j6
 av':DA K mg "layings_of" pU
 aw':DA K mg "layings_across" lg
 ax':DA K mg "all_layings" oG
 ay':DA K mg "is_word" vC
 az':DA K mg "check_word" pW
 ba':DA K mg "_law_cell_at" vD
 bb':DA K mg "_law_next" Gp
 bc':DA K mg "_law_other" Cp
 bd':DA K mg "_law_number" yE
 be':DA K mg "_law_digits" yF
 bf':DA K mg "_law_letters" vG
 bg':DA K mg "_law_words" Cq
 bh':DA K mg "_law_at" Uq
 bi':DA K mg "_law_fresh" s_fresh
 bj':DA K mg "_law_cross" Cr
 bk':DA K mg "_law_joined" yG
 bl':DA K mg "_law_crossed" vH
 bm':DA K mg "_law_dressed" vI
 bn':DA K mg "_law_all" K7
 bo':DA K mg "_law_free_board" pY
 bp':DA K mg "_law_runs" Gq
 bq':DA K mg "_law_kept" Gr
 br':DA K mg "_law_right" Cu
def Gv (G:GG K mg):DF P w K mg base vm 1 (aeE K):=by
 refine G.P'.cQ Ul (λf bw A outer s H vs Q E M h=>?_) λvs H Q E h=>?_
 .refine%[0,_,aB (cg (QW.qt (qL (eV<|dw<|aO iI yk G.n' fF<|ak aG<|ak (oR (v:=.ty "str") yk G.B' PyProof.â.boot_str rb) aq)
    <|nC<|bN Fb (aO cP yk G.c' bE<|ak aG aq) aC<|bR _)) (aD<|aY fL) bI)
   (aD (aY (aaR (oJ rE rE (b_ [97] yn) aG<|b_ [122] yn)
   <|mj<|oJ rE rE (b_ [65] yn) aG<|b_ [90] yn)))|?_]
  rcases h with⟨x,rfl,⟨t,ty,hk⟩,q⟩|⟨l,rfl,L,q⟩;.show%[25,_,_,_,Ļ,rb,ty,hk|bZ<|bZ q]
  .calc%[25,_,_,_,ķ,rb,.À _,ym|bK %[11,l,rb,(ax<|aF L),rb|aU _ rb ?_]];by_cases h1:l.n=1
   .let(c,rfl):=List.length_eq_one_iff.mp h1;calc KQ rb ?_;calc%[1,[97],[c],rb,rb|aU (ľ<|97<=c) (by rw[Us]) ?_];let q':Q (.bl<|Gs c||JZ c) H:=q;let D:(JZ c=(Gs c||JZ c))->Lj Y6 Y6 (tC<|.À<|S [65]) (eG 0) (tC<|.À<|S [90]) [ĳ (.À<|S [c])] H Q:=λe=>by
     calc%[1,[65],[c],rb,rb|aU (ľ<|65<=c) (by rw[Us]) ?_];rw[<-e]at q';by_cases B:65<=c
     .calc jT9 B %[1,[c],[90],rb,rb|?_];rw[Us];simpa [JZ,B] using q'
     .calc jF9 B ?_;simpa [JZ,B] using q'
    by_cases B:97<=c
    .calc jT9 B %[1,[c],[122],rb,rb|aU _ rb ?_];rw[Us];by_cases F:c<=122
     .calc jT9 F ?_;simpa [Gs,B,F] using q'
     .show jF9 F<|D (by simp[Gs,B,F])
    .show jF9 B<|D (by simp[Gs,B])
   .let e:(!ľ (V.R (l.n:ļ)=V.R 1))=ķ:=by
     rw[al];rfl;intro z;lia
    rw[e];let J:Gu l=Ļ:=by
     match l,h1 with| [],_=>rfl| [c],h=>show ń rb h| _::_::_,_=>rfl
    rw[J]at q;show bZ q
 .rcases h with⟨x,rfl,_⟩|⟨x,rfl,_⟩ <;> rfl
def aeF (a b:V)(c:ļ):∃v,ju [a,b] (c%2)=ĳ v/\(v=a\/v=b):=by
 rcases Int.emod_two_eq c with h|h;.show%[0,a,by rw[h];show aQ (j:=0) rb|.Â rb]
 .show%[0,b,by rw[h];show aQ (j:=1) rb|.Ó rb]
def aeG (K:W.Ê):Sp:=λvs H Q _=>∃(a:Addr) (ns:Ĵ ļ) (k:Nat),vs=[.C a,.R k]/\aP K H a (ns.Q V.R)/\∀v:ļ,Q (.R v) H
def aa8:Sp:=λvs H Q _=>∃x:Int,vs=[.R x]/\0<=x/\x<1099511627776/\∀y:ļ,0<=y->y<2147483647->Q (.R y) H
def af4 (K:W.Ê):Sp:=λvs H Q _=>∃(a:Addr) (ns:Ĵ ļ) (k:Nat),vs=[.C a,.R k]/\aP K H a (ns.Q V.R)/\k<=1000/\∀v:ļ,Q (.R v) H
def af5 (K:W.Ê):Sp:=λvs H Q _=>∃(a:Addr) (ns:Ĵ ļ) (k:Nat) (b:Int) (m:Nat),vs=[.C a,.R k,.R b,.R m]/\aP K H a (ns.Q V.R)/\k<=1000/\0<b/\b<1000000/\m<=100/\
 ∀(p:Ĺ) (ds:Ĵ ļ) (H':Hp),aA H H'->H p=ĺ->H' p=ĳ (.Ç<|ds.Q V.R)->ds.n=m->(∀d∈ds,0<=d/\d<b)->Q (.C p) H'
def isLet (c:ĵ):Prop:=97<=c/\c<=122
structure aeH (ls:Ĵ ĵ):Prop where
 lo:2<=ls.n
 hi:ls.n<=26
 az:∀c∈ls,isLet c
structure jo (w:Ĵ ĵ):Prop where
 lo:2<=w.n
 hi:w.n<=9
 az:∀c∈w,isLet c
def Gw (G:GG K mg):DF P w K mg base vD 1 (aeG K):=by
 calc G.ba'.cQ Uo λf bw A outer s H vs Q E F h=>?_;let(a,ns,k,rfl,B,q):=h;calc%[0,_,aB (cg (bN Bm aW (aO cu yk G.c' bE<|ak aG aq)<|bR _) (aD<|aY<|bB iR aG aW λ_ _=>rfl) bI)<|aD<|aY aC|?_];calc%[22,a,_,rb,.Â B,_,_,rb,rb|aU _ rb ?_];refine DK (λD=>?_) λ_=>?_
 .let hk:k<ns.n:=by
   have:=fI D;rw[aa]at this;simp_all
  show%[6,a,_,_,.R ns[k],rb,rb,B,aQ (by simp[hk])|q _]
 .show q _
def Ry (G:GG K mg):DF P w K mg base Gp 1 aa8:=by calc G.bb'.cQ acn λf bw A outer s H vs Q E D h=>?_;let(x,rfl,B,h1,q):=h;calc%[0,_,aD<|aY<|aN dM (aN cT (aN cT (aN gP aG aG)<|aN gP aC aG) aC) aC|?_];calc%[4,_,_,rb,rb,.Â %[ye|ye]|%[4,_,_,rb,rb,.Â %[yi|yi]|%[22,_,_,rb,rb,_,_,rb,rb|%[4,_,_,rb,rb,(by decide)|?_]]]];show q _ (iP _ yi)<|fS _ yi
def Ny (G:GG K mg):DF P w K mg base Cp 1 aa8:=by calc G.bc'.cQ Z4 λf bw A outer s H vs Q E D h=>?_;let(x,rfl,B,h1,q):=h;calc%[0,_,aD<|aY<|aN dM (aN cT (aN cT (aN gP aG aG)<|aN gP aC aG) aC) aC|?_];calc%[4,_,_,rb,rb,.Â %[ye|ye]|%[4,_,_,rb,rb,.Â %[yi|yi]|%[22,_,_,rb,rb,_,_,rb,rb|%[4,_,_,rb,rb,(by decide)|?_]]]];show q _ (iP _ yi)<|Int.lt_trans (fS _ yi) yi
def vJ (G:GG K mg):DF P w K mg base yE 2 (af4 K):=by
 calc G.bd'.cQ JW λf bw A outer s H vs Q E B h=>?_;let(a,ns,k,rfl,D,hk,q):=h;refine%[0,_,aB (aZ (i:=2) JW.nd rb (Or.Â rb)<|aV (Gw G) B rb<|ak aG<|ak aW aq)
  (aB (cg (bN kE (aN dM bh aC) aC<|bR _) (aD<|aY<|aN iM bh aC) bI)
 <|aD<|aY<|aV (Ny G) B rb<|ak (aV (Ry G) B rb<|ak (aN dM (aN cT bh<|aN gP (aN gP aC aW) aW) aC) aq) aq)|?_]
 calc%[31,a,ns,k,rb,D|λv=>?_];calc%[12,_,_,rb,rb,(by decide),rb|aU _ rb ?_];calc DK (λ_=>?_) λ_=>?_;.show%[4,_,_,rb,rb,%[yi|yi]|q _]
 .calc%[3,_,_,rb|%[19,rb,.Â %[yi|yi],_,_,rb,rb|%[17,.Ó %[cz _|ye],_,_,rb,rb|%[4,_,_,rb,rb,(by decide)|?_]]]];calc%[11,_,rb,iP _ yi,Int.lt_trans (fS _ yi) yi|λy h1 F=>?_];show%[11,y,rb,h1,ye|λz _ _=>q z]
def vK (J:GG K mg):DF P w K mg base yF 3 (af5 K):=by
 calc J.be'.cQ JX ?_;intro f bw A outer s H vs Q E hr h;let(a,ns,k,b,m,rfl,hS,hk,D,hb1,hm,q):=h;let F:dR 1 _:=hr.Ø yi;let nd:=JX.nd;refine%[0,_,aB (aZ (i:=4) nd rb (Or.Â rb)<|aV (vJ J) hr rb<|ak aG<|ak aW aq)
  (aB (aZ (i:=5) nd rb (Or.Â rb)<|dN aq)
  (aB (aZ (i:=6) nd rb (Or.Â rb)<|aN dM bV aC)
  (aB (cW b4 rb (jr rb J.h'<|ak bG aq) (bD (i:=7) nd rb<|Or.Â rb)
   (aB (aZ (i:=6) nd rb (Or.Â rb)<|aV (Ny J) F rb<|ak (aV (Ry J) F rb<|ak (aN cT cM gO) aq) aq)
   (aB (dD (dH c8 fh fk gQ cB
   <|ak (aN dM (bB iR (dN<|ak bV<|ak cM aq) (aN dM (aV (Gw J) F rb<|ak aG<|ak aW aq) aC) λ_ _=>rfl) bh) aq))
  <|aD<|aZ (i:=4) nd rb (Or.Â rb)<|aN iM bV bh)))
 <|aD<|aY cB)))|?_]
 calc%[8,a,ns,k,rb,hS,hk|λv=>?_];calc%[zsz 0|λp hp=>?_];calc%[4,_,_,rb,rb,(by decide)|?_];refine%[11,_,rb,cz _,ye|iH (n:=m) (lo:=0) (λi I G=>∃(L x:Int) (jv:ĸ V) (ds:Ĵ ļ),I=[ĳ (.C a),ĳ (.R k),ĳ (.R b),ĳ (.R m),ĳ (.R L),ĳ (.C p),ĳ (.R x),jv]/\aA H G/\
  G p=ĳ (.Ç<|ds.Q V.R)/\ds.n=i/\(∀d∈ds,0<=d/\d<b)/\0<=x/\x<2147483647)
  %[47,v,_,ĺ,[],rb,aA.è hp,au,rb,λd hd=>by simp at hd,iP _ yi|fS _ yi] ?_ ?_]
 .intro i I G hi z;let(L,x,jv,ds,rfl,M,B,N,hd,Y,O):=z;calc%[1,_,_,rb,rb|?_];calc%[11,_,rb,ye,ye|λy h1 h2=>?_];calc%[11,y,rb,h1,ye|λz h3 h4=>?_];calc%[.Â %[10,rb,_|aP.of B]|?_];calc%[zsz 2|λt ht=>?_];let s3:∀o,aA H (upd G t o):=λo=>M.bH<|M.Ô ht;calc%[31,a,ns,k,rb,(s3 _).ð hS|λcv=>?_];let(u,hu,hu2):=aeF (.R L) (.R z) cv;obtain⟨c,rfl⟩:∃c,u=.R c:=by rcases hu2 with e|e <;> show%[_|e]
  calc%[4,_,_,rb,rb,(by decide)|%[41,t,_,_,_,rb,rb,aP.of au,hu,_,_,rb,rb,D|?_]];let Z:p≠t:=bU B ht;calc%[7,p,_,_,rb,rb,(by rw[bx Z];show B),(by rw[aa,N];show aF ye)|?_];calc%[4,_,_,rb,rb,%[D|ye]|?_];calc%[47,L/b,z,_,ds++[c%b],rb,(s3 _).bH hp,?_,by simp[N],?_,h3|h4];.rw[au];simp
  .intro d hd';rcases a7.mp hd' with e|e;.show hd d e
   .rw[av.mp e];show%[iP _ ye|fS _ D]
 .intro I G z;let(L,x,jv,ds,rfl,M,B,N,hd,Y,O):=z;show(q p ds G M hp B N hd)
def aa9 (d):ju AL (d%26)=ĳ (97+(d%26).Ö):=by let e:d%26=(((d%26).Ö:ĵ):ļ):=ye;rw[e];calc aQ ?_;simp only[AL,ba,b3];rw[gN ye];rfl
theorem Nz:∀(F:Ĵ ĵ) (L:Ĵ ĵ),L.Ý->F.n<L.n->∃x∈L,x∉F
 | [],L,_,h=>by
  cases L with| nil=>simp at h| cons x r=>show%[0,x,aS|yf]
 | c::F,L,nd,h=>by
  let q:F.n<(L.ý c).n:=by rw[List.length_erase];simp only[bX]at h;split <;> lia
  let(x,h1,B):=Nz F (L.ý c) (nd.ý c) q;let(D,G):=nd.mem_erase_iff.mp h1;show%[0,x,G|λz=>by rcases a_.mp z with e|e;show D e;show B e]
def Z6 (F:Ĵ ĵ)(h:F.n<26)(d:ļ):∃j:Nat,(97+((d+j)%26).Ö)∉F:=by let(x,h1,B):=Nz F ((List.æ 26).Q (97 + ·)) yi (by simpa using h);let(c,D,rfl):=ar.mp h1;let q:c<26:=bS.mp D;calc%[((c-d)%26).Ö|?_];rw[(show ((d+(((c-d)%26).Ö:ĵ))%26).Ö=c from ye)];show B
def Ij {ds:Ĵ ļ}(h1:a<=b)(q:b<=ds.n):(lH (ds.Q V.R) (ĳ (a:ļ))<|ĳ (b:ļ)).n=b-a:=by unfold lH;rw[HT.wF,HT.wF,a8,cn,aa];grind
def lq (l:Ĵ ĵ):(l.Q λc=>[c]).Ì=l:=by
 induction l with| nil=>rfl| cons c r ih=>rw[b7,gd,ih];rfl
def af6:∀c∈AL,isLet c:=λc q=>by let(k,hk,rfl):=ar.mp q;have:=bS.mp hk;show%[kc _ _|ye]
def vL (c:ĵ):Prop:=Gu [c]=ķ
def vL.lt (h:vL c):c<128:=by unfold vL Gu Gs JZ at h;lia
def aeI (h:isLet c):vL c:=by simp[vL,Gu,Gs,h.1,h.2]
def aeJ (h:isLet c):vL (c-32):=by let h1:=h.1;let q:=h.2;simp[vL,Gu,Gs,JZ];lia
abbrev ones (cs:Ĵ ĵ):Ĵ (Ĵ ĵ):=cs.Q λc=>[c]
structure Blk (r w:ĵ)(ls:AA):Prop where
 len:ls.n=r
 gW:∀l∈ls,l.n=w
def zf (c:ĵ):Prop:=c=46\/vL c
def mkC (c:ĵ):Prop:=c∈MK
structure vM (r w:ĵ)(aj aH:AA)(i j:ĵ):Prop where
 r1:1<=r
 r9:r<=9
 w1:1<=w
 w9:w<=9
 br:Blk r w aj
 bm:Blk r w aH
 cr:∀l∈aj,∀c∈l,zf c
 cm:∀l∈aH,∀c∈l,mkC c
 bi:i<r
 bj:j<w
def j7 (ls)(l):Ts ls++[V.À (S l)]=Ts (ls++[l]):=by simp[Ts]
def rH (cs)(c):ones cs++[[c]]=ones (cs++[c]):=by simp[ones]
def Rz (c)(fs):inV (.À<|S [c]) (Ts<|ones fs)=ľ (c∈fs):=by
 unfold inV
 induction fs with
 | nil=>rfl
 | cons a r ih=>
  show (rR (.À<|S [a]) (.À<|S [c])||(Ts<|ones r).đ λy=>rR y (.À<|S [c]))=_;rw[ih];by_cases h:a=c
  .subst h;have:rR (.À<|S [a]) (.À<|S [a])=ķ:=by show ľ (S [a]=S [a])=_;simp
   rw[this];simp
  .let h':¬c=a:=λz=>h z.Ù
   have:rR (.À<|S [a]) (.À<|S [c])=Ļ:=by show ľ (S [a]=S [c])=_;simp[(show ¬S [a]=S [c] from λz=>h (by have:=uW z;injection this))]
   rw[this];simp[h']
def Xk (fs):(Ts<|ones fs).ė pB=ķ:=by rw[fE];intro v hv;let(l,_,rfl):=ar.mp hv;rfl
def aeK (K:W.Ê):Sp:=λvs H Q _=>∃(a:Addr) (ns:Ĵ ļ) (k:Nat),vs=[.C a,.R k]/\aP K H a (ns.Q V.R)/\k<=1000/\
 ∀(p:Ĺ) (ls:Ĵ ĵ) (H':Hp),aA H H'->H' p=ĳ (.Ç<|Ts<|ones ls)->aeH ls->Q (.C p) H'
def Ut (Gz:GG K mg):DF P w K mg base vG 4 (aeK K):=by
 calc Gz.bf'.cQ mZ ?_;(intro f bw A outer s H vs Q E hr h);let(a,ns,k,rfl,hS,hk,q):=h;calc%[0,_,(aB (aZ (i:=2) mZ.nd rb (Or.Â rb)<|b_ AL yn)<|aB (aZ (i:=3) mZ.nd rb (Or.Â rb)<|aV (vK Gz) hr.Ø rb<|ak aG<|ak aW<|ak aC<|ak aC aq)<|aB (cg (bN kE (aN dM (bB iR bG aC λ_ _=>rfl) aC) aC<|bR _) (aD<|aY<|c7 (xW rb) yk Gz.r' nV<|ak bh aq) bI)<|aB (aZ (i:=4) mZ.nd rb (Or.Â rb)<|dN aq)<|aB (cW b4 rb (dh<|iW Bw bG (iQ aC)<|iQ<|aN cT aC<|aN dM (aN iM (bB iR bG aC λ_ _=>rfl) aC) aC) (bD (i:=5) mZ.nd rb<|Or.Â rb)<|aB (Dw b4 (bN Vx (bB vR bh (aN dM cB aC) λ_ _=>rfl) bV rb)<|aD<|aZ (i:=5) mZ.nd rb (Or.Â rb)<|aN cT cB aC)<|aD<|dD<|dH c8 fh fk gQ bV<|ak (bB vR bh (aN dM cB aC) λ_ _=>rfl) aq)<|aD<|aY bV)|?_];let N:AL.n<=Ń:=by decide
 calc%[45,a,ns,k,208,5,rb,hS,hk,yi,yi,yi|λp ds H1 J hp Z hl hd=>?_];let O:ju (ds.Q V.R) 0=ĳ (.R ds[0]):=aQ (j:=0) (by simp[hl]);calc%[6,p,_,0,_,rb,rb,aP.of Z,O|%[12,_,_,rb,rb,(by decide),rb|aU _ rb ?_]];calc DK (λ_=>?_) λ_=>?_;.show%[2,AL,rb,yi|λp2 B=>q p2 AL _ (J.bH<|J.Ô B) au %[yi,yi|af6]]
 .calc%[zsz 0|λF hF=>?_];let B:upd H1 F (.Ç []) p=ĳ (.Ç<|ds.Q V.R):=aA.è hF _ _ Z;let Y:aA H (upd H1 F<|.Ç []):=J.bH<|J.Ô hF;calc%[0,_,rb|%[41,p,_,0,_,rb,rb,aP.of B,O,_,_,rb,rb,%[yi|yi]|%[3,_,_,rb|%[19,rb,(by show (0:ļ)<3;decide),_,_,rb,rb|%[38,_,rb,p,_,rb,aP.of B|λt ht=>?_]]]]];obtain⟨r,hr1,hr2⟩:∃r:Nat,(3:ļ)+ds[0]/8%3=((3+r:ĵ):ļ)/\r<3:=%[0,(ds[0]/8%3).Ö,by simp_all;lia|by grind]
  rw[hr1];let zZ:(lH (ds.Q V.R) (ĳ (1:ĵ))<|ĳ ((3+r:ĵ):ļ)).n=2+r:=by rw[Ij ye (by grind)];simp
  generalize hxs:lH (ds.Q V.R) (ĳ 1) (ĳ ((3+r:ĵ):ļ))=xs;let ag1:xs.n=2+r:=by rw[<-hxs];show zZ
  let Xl:∀v∈xs,∃d:Int,v=.R d:=λv hv=>by rw[<-hxs]at hv;let(d,_,e):=DQ hv;show%[d|e]
  let L:F≠t:=λz=>by rw[<-z,au]at ht;cases ht
  refine%[2,t,rb,%[_|aP.of au]|h_ (K:=K) (a:=t) (xs:=xs) (λi I D=>∃(dv:ĸ V) (fs:Ĵ ĵ),I=[ĳ (.C a),ĳ (.R k),ĳ (.À<|S AL),ĳ (.C p),ĳ (.C F),dv]/\aA H D/\D t=ĳ (.Ç xs)/\D F=ĳ (.Ç<|Ts<|ones fs)/\fs.n=i/\∀c∈fs,isLet c)
   %[27,ĺ,[],rb,Y.bH<|Y.Ô ht,au,by rw[bx L,au];rfl,rb|λc hc=>by simp at hc] (λi I D _ zq=>by let(_,_,_,_,h2,_):=zq;exact aP.of h2) ?_ ?_]
  .intro i y I D hi z;let(dv,fs,rfl,pZ,h2,dX,M,G):=z;let hil:i<xs.n:=(ap.mp hi).1;let(d,rfl):=Xl y (a5 hi);let(j0,hj0):=Z6 fs (by grind) d;calc%[λm σ' H'=>H'=D/\∃(e:Int),σ'=[ĳ (.C a),ĳ (.R k),ĳ (.À<|S AL),ĳ (.C p),ĳ (.C F),ĳ (.R e)]/\∃j:Nat,j<=m/\(97+((e+j)%26).Ö)∉fs,%[0,j0,rb|%[49,d,rb,j0,ah _|hj0]]|?_];intro m σ' H' z;let(rfl,e,rfl,j,hjm,hj):=z;calc%[4,_,_,rb,rb,(by decide)|%[7,AL,_,_,rb,rb,N,aa9 e|%[12,F,_,rb,.Â<|aP.of dX,rb,Xk fs|aU _ rb ?_]]];rw[Rz];refine DK (λhc=>?_) λhc=>?_
   .let hj1:j≠0:=λz=>by subst z;simp at hj;show hj (fI hc)
    refine%[0,λI2 H3=>H3=H'/\I2=[ĳ (.C a),ĳ (.R k),ĳ (.À<|S AL),ĳ (.C p),ĳ (.C F),ĳ (.R<|e+1)],?_|?_]
    .rintro I2 H3 ⟨rfl,rfl⟩;calc%[2,m-1,b6 ye ye,rb|%[49,e+1,rb,j-1,se hjm _|?_]];have:(e+1+((j-1:ĵ):ļ))=e+(j:ļ):=by lia
     rw[this];show hj
    .show%[4,_,_,rb,rb,rb|rb]
   .let ag2:t≠F:=L.Ù;calc%[10,.Â %[10,rb,_|aP.of dX],_|%[11,_,rb,rb,(by show (0:ļ)<26;decide)|%[7,AL,_,_,rb,rb,N,aa9 e|%[7,F,_,_,rb,rb,dX,by rw[aa,aa];show aF (by grind)|?_]]]];calc%[27,_,fs++[97+(e%26).Ö],rb,pZ.bH<|J.Ô hF,by rw[bx ag2];show h2,by rw[au,j7,rH],by simp[M]|λc hc'=>?_];rcases a7.mp hc' with z|z;.show G c z
    .rw[av.mp z];show%[kc _ _|by grind]
  .intro I D z;let(dv,fs,rfl,pZ,h2,dX,M,G):=z;show(q F fs D pZ dX %[by simp[*],by grind|G])
def Z7:Sp:=λvs H Q _=>∃l:Ĵ ĵ,vs=[.À (S l)]/\jo l/\∀H',aA H H'->Q (.bl ķ) H'
def aeL (h:isLet c):ľ ([c]<[97])=Ļ/\ľ ([122]<[c])=Ļ:=by
 let q:∀a b:ĵ,([a]<[b])↔a<b:=λa b=>by simp[hG]
 constructor;.rw[al];rw[q];have:=h.1;lia
 .rw[al];rw[q];have:=h.2;lia
def Uu (J:GG K mg):DF P w K mg base vC 1 Z7:=by
 calc J.ay'.cQ Gn λf bw A outer s H vs Q E Z h=>?_;let(l,rfl,hw,q):=h;let h1:=hw.lo;let Y:=hw.hi;refine%[0,_,aD (aY (nD (oJ kI kI aC (aO cP yk J.c' bE<|ak aG aq) aC)
  (mj (aO (iY rb) yk J.j' yn (ak (fU rb (fQ.of Gn.nd ym) (wI aG) (λ_ _ _ _ _=>cF)
   λ_ _ _ _ _=>oJ rE rE (b_ [97] yn) aG<|b_ [122] yn) aq)))))|?_]
 calc%[33,l,rb,(ax<|aF ye),_,_,rb,rb|aU ķ (by simp;lia) ?_];calc bZ %[1,_,_,rb,rb|aU ķ (by simp;lia) ?_];calc bZ ?_;refine%[0,l,rb|λL M=>xT (λi ys D=>ys=(List.Ë i ķ).Q V.bl/\D L=ĳ (.Ç ys)/\aA H D) %[rb,au|aA.è M] ?_ ?_]
 .intro i c ys D hi z;let(rfl,B,F):=z;let G:i<l.n:=(ap.mp hi).1;let(N,O):=aeL (hw.az c<|a5 hi);calc%[1,[97],[c],rb,rb|aU ķ (by rw[N];rfl)<|bZ %[12,[c],[122],rb,rb,B,?_|dz.mk G %[?_,au|F.bH M]]];.rw[aa,dL];show aF ye
  .rw[O,List.replicate_succ',bg];rfl
 .intro ys D z;let(rfl,B,F):=z;calc%[1,L,List.Ë l.n ķ,rb,aP.of B|?_];rw[(show (List.Ë l.n ķ).ė id=ķ from yf)];show q D F
def acp:Sp:=λvs H Q _=>∃l:Ĵ ĵ,vs=[.À (S l)]/\jo l/\∀H',aA H H'->Q .ć H'
def Ku (G:GG K mg):DF P w K mg base pW 2 acp:=by calc G.az'.cQ Kr λf bw A outer s H vs Q E B h=>?_;let(l,rfl,hw,q):=h;calc%[0,_,aD<|cg (eV<|dw<|aV (Uu G) B rb<|ak aG aq) iG bI|?_];calc%[2,l,rb,hw|λH1 s1=>(aU ķ rb ?_)];show bK<|q H1 s1
def mJ (ws:AA):Ĵ (Key×V):=ws.Q λl=>(gR l,V.bl ķ)
def NK (ws):(mJ ws).Q (·.1)=ws.Q gR:=by unfold mJ;rw[cp];rfl
def Z8 (h:gR a=gR b):a=b:=uW (Sum.Ó.inj h)
def Ik (ws)(l):fO (mJ ws) (gR l)=if l∈ws then ĳ (.bl ķ) else ĺ:=by
 induction ws with
 | nil=>simp[mJ,fO]
 | cons a r ih=>
  by_cases e:a=l
  .subst e;have:fO (mJ<|a::r) (gR a)=ĳ (.bl ķ):=ig (p:=(gR a,V.bl ķ)) rfl;rw[this];simp
  .have:fO (mJ<|a::r) (gR l)=fO (mJ r) (gR l):=iu (p:=(gR a,V.bl true)) λz=>e<|Z8 z
   rw[this,ih];simp[(show ¬l=a from λz=>e z.Ù)]
def acq (h:l∈ws):putK (mJ ws) (gR l) (.bl ķ)=mJ ws:=by
 let q:((mJ ws).đ λD=>ľ<|D.1=gR l)=ķ:=by rw[qu,Ik,Ŀ h];rfl
 unfold putK;rw[Ŀ q];calc(du λD B=>?_).Z<|me _;let(a,_,rfl):=ar.mp B;by_cases e:gR a=gR l;.simp[e]
 .simp[e]
def acr (h:l∉ws):putK (mJ ws) (gR l) (.bl ķ)=mJ (ws++[l]):=by rw[YL _ (by rw[Ik,ŀ h])];simp[mJ]
structure j8 (C:Ĺ)(H:Hp)(p d:Ĺ)(ws:AA):Prop where
 ob:∃dx,H p=ĳ (.ins C dx [("held",.C d)])
 dc:H d=ĳ (.dK<|mJ ws)
 nd:ws.Ý
 az:∀l∈ws,jo l
def uM (ws:AA)(l:Ĵ ĵ):Ĵ (Ĵ ĵ):=if l∈ws then ws else ws++[l]
def Ei (ws)(l):putK (mJ ws) (gR l) (.bl ķ)=mJ (uM ws l):=by
 unfold uM;split;.rename_i h;show acq h
 .rename_i h;show acr h
def Il {ws:AA}(h:ws.Ý):(uM ws l).Ý:=by
 unfold uM;split;.show h
 .rename_i q;show Qy h q
def Ej:x∈uM ws l↔x∈ws\/x=l:=by
 unfold uM;split;.rename_i h;show%[.Â|λz=>z.î id λe=>e ▸ h]
 .simp
def Ek (ws)(l):(uM ws l).n<=ws.n+1:=by
 unfold uM;split;.lia
 .simp
def af7 (K:W.Ê)(H:Hp)(a:Ĺ)(ls:AA):Prop:=aP K H a (Ts ls)\/aM K H a (Ts ls)
def aeM (K:W.Ê)(C:Ĺ):Sp:=λvs H Q _=>∃(p dx a:Addr) (ls:AA),vs=[.C p,.C a]/\H p=ĳ (.ins C dx [])/\af7 K H a ls/\(∀l∈ls,jo l)/\ls.n<=200/\
 ∀(d:Ĺ) (ws:AA) (H':Hp),H d=ĺ->j8 C H' p d ws->(∀x,x∈ws↔x∈ls)->ws.n<=ls.n->(∀b o,H b=ĳ o->b≠p->H' b=ĳ o)->Q .ć H'
def acs (G:GG K mg):MF P w K mg base G.t' 3 (aeM K G.d'):=by
 calc G.t'.F.cQ Am ?_;intro bw A outer s H vs Q E hr h;let(p,dx,a,ls,rfl,hp,hS,hW,hn,k):=h;refine%[0,_,aB (Fe aG Ly rb) (aD (cW b4 rb ((dh aW).or<|fJ aW) (bD (i:=2) Am.nd rb<|Or.Â rb)
 <|aB (dD<|aV (Ku G) hr rb<|ak bh aq)<|aD<|BP (BR hr) (dF aG rb) bh fL rb))|?_]
 intro d hd;let N:p≠d:=bU hp hd;calc%[18,p,G.d',dx,[],rb,(by rw[bx N];show hp),G.g'.cl,G.g'.nh,(by decide)|?_];let hP1:upd (upd H d<|HO.dK []) p (HO.ins G.d' dx<|jU "held" (V.C d) []) p=ĳ (.ins G.d' dx [("held",.C d)]):=au;let Z:upd (upd H d<|HO.dK []) p (HO.ins G.d' dx<|jU "held" (V.C d) []) d=ĳ (.dK<|mJ []):=by rw[bx N.Ù,au];rfl
 let M9:∀b o,H b=ĳ o->b≠p->upd (upd H d<|HO.dK []) p (HO.ins G.d' dx<|jU "held" (V.C d) []) b=some o:=λb o e hb=>by rw[bx hb,bx (bU e hd)];show e
 let npl:∀o,H p=ĳ o->(∀ys,o≠.Ç ys)/\∀u ys,o≠.jk u (.Ç ys):=λo e=>by rw[hp]at e;cases e;show⟨λ_ z=>(nomatch z),λ_ _ z=>(nomatch z)⟩
 let npt:∀o,H p=ĳ o->(∀ys,o≠.Ã ys)/\∀u ys,o≠.jk u (.Ã ys):=λo e=>by rw[hp]at e;cases e;show⟨λ_ z=>(nomatch z),λ_ _ z=>(nomatch z)⟩
 rcases hS with hS|hS
 .refine .Â %[2,a,rb,%[_|hS.keep M9 npl]|h_ (K:=K) (a:=a) (xs:=Ts ls) (λi I F=>∃(O:ĸ V) (ws:AA),I=[ĳ (.C p),ĳ (.C a),O]/\F p=ĳ (.ins G.d' dx [("held",.C d)])/\F d=ĳ (.dK<|mJ ws)/\ws.Ý/\
   (∀x,x∈ws↔x∈ls.Å i)/\ws.n<=i/\∀b o,H b=ĳ o->b≠p->F b=ĳ o) %[28,ĺ,[],rb,hP1,Z,oC,λx=>by simp,ah _|M9] (λi I F _ ⟨_,_,_,_,_,_,_,_,kp⟩=>hS.keep kp npl) ?_ ?_]
  .intro i y I F hi z;let(O,ws,rfl,q,D,J,hm,L,kp):=z;rw[ba]at hi;let(l,B,e):=io.mp hi;subst e;let hil:i<ls.n:=(ap.mp B).1;calc%[2,l,rb,hW l<|a5 B|λH3 M=>?_];let Y:=M _ _ D;calc%[51,p,G.d',dx,_,_,rb,M _ _ q,G.g'.cl,G.g'.nh,rb,d,_,rb,t_.k (k:=gR l) Y (by rw[mJ,aa];show aF ye)|?_];calc%[28,_,uM ws l,rb,by rw[bx N];show M _ _ q,by rw[au,Ei],Il J,λx=>?_,aw (Ek _ _)<|ja L|λb o e hb=>?_];.rw[Ej,hm,bu,B];simp
   .rw[bx (bU e hd)];show M _ _<|kp b o e hb
  .intro I F z;let(O,ws,rfl,q,D,J,hm,L,kp):=z;rw[aa]at hm L;rw[b9]at hm;show k d ws F hd %[%[dx|q],D,J|λl L=>hW l<|(hm l).mp L] hm L kp
 .refine .Ó %[2,a,rb,%[_|hS.keep M9 npt]|qp (K:=K) (a:=a) (xs:=Ts ls) (λi I F=>∃(O:ĸ V) (ws:AA),I=[ĳ (.C p),ĳ (.C a),O]/\F p=ĳ (.ins G.d' dx [("held",.C d)])/\F d=ĳ (.dK<|mJ ws)/\ws.Ý/\
   (∀x,x∈ws↔x∈ls.Å i)/\ws.n<=i/\∀b o,H b=ĳ o->b≠p->F b=ĳ o) %[28,ĺ,[],rb,hP1,Z,oC,λx=>by simp,ah _|M9] (λi I F _ ⟨_,_,_,_,_,_,_,_,kp⟩=>hS.keep kp npt) ?_ ?_]
  .intro i y I F hi z;let(O,ws,rfl,q,D,J,hm,L,kp):=z;rw[ba]at hi;let(l,B,e):=io.mp hi;subst e;let hil:i<ls.n:=(ap.mp B).1;calc%[2,l,rb,hW l<|a5 B|λH3 M=>?_];let Y:=M _ _ D;calc%[51,p,G.d',dx,_,_,rb,M _ _ q,G.g'.cl,G.g'.nh,rb,d,_,rb,t_.k (k:=gR l) Y (by rw[mJ,aa];show aF ye)|?_];calc%[28,_,uM ws l,rb,by rw[bx N];show M _ _ q,by rw[au,Ei],Il J,λx=>?_,aw (Ek _ _) ye|λb o e hb=>?_];.rw[Ej,hm,bu,B];simp
   .rw[bx (bU e hd)];show M _ _<|kp b o e hb
  .intro I F z;let(O,ws,rfl,q,D,J,hm,L,kp):=z;rw[aa]at hm L;rw[b9]at hm;show k d ws F hd %[%[dx|q],D,J|λl L=>hW l<|(hm l).mp L] hm L kp
def aa_ (C:Ĺ):Sp:=λvs H Q _=>∃(p d:Addr) (ws:AA) (l:Ĵ ĵ),vs=[.C p,.À (S l)]/\j8 C H p d ws/\Q (.bl<|ľ<|l∈ws) H
def Xm (G:GG K mg):MF P w K mg base G.q' 1 (aa_ G.d'):=by
 calc G.q'.F.cQ Qc λbw A outer s H vs Q E D h=>?_;let(p,d,ws,l,rfl,B,q):=h;let((dx,hp),hd,_,_):=id B;calc%[0,_,aD<|aY<|adk<|adO (BR D) aW<|dF aG rb|?_];calc%[51,p,G.d',dx,_,_,rb,hp,G.g'.cl,G.g'.nh,rb,d,_,rb,pD.k (k:=gR l) hd|?_];rw[Ik];by_cases h:l∈ws;.rw[Ŀ h];simpa [h] using q
 .rw[ŀ h];simpa [h] using q
def aeN (ws:AA):Prop:=ws.Ä (λa b=>ľ (b<a)=Ļ)
def acu (C:Ĺ):Sp:=λvs H Q _=>∃(p d:Addr) (ws:AA),vs=[.C p]/\j8 C H p d ws/\ws.n<64/\
 ∀(t:Ĺ) (us:AA) (H':Hp),aA H H'->H t=ĺ->H' t=ĳ (.Ã<|Ts us)->us.ú ws->aeN us->Q (.C t) H'
def Z9 (G:GG K mg):MF P w K mg base G.u' 1 (acu G.d'):=by calc G.u'.F.cQ Ks λbw A outer s H vs Q E J h=>?_;let(p,d,ws,rfl,B,D,q):=h;let((dx,hp),hd,_,_):=id B;calc%[0,_,aD<|aY<|c7 dU yk G.e' di<|ak (aO (LQ rb) yk G.l' fm<|ak (dF aG rb) aq) aq|?_];calc%[13,p,G.d',dx,_,_,rb,hp,G.g'.cl,G.g'.nh,rb|%[7,d,_,ws,rb,hd,NK ws,D|λt us F pm rs=>?_]];calc%[3,t,_,rb|.Â %[aP.of au|λv hv=>?_]];let s1:aA H (upd H t<|.Ç<|Ts us):=aA.è F;show q v us _ (s1.bH<|s1.Ô hv) (s1.Ô hv) au pm rs
def Up (ws:AA):Prop:=ws.Ä (λa b=>a<b)
def Xn {a b:Ĵ ĵ}(h1:¬a<b)(q:a≠b):b<a:=by
 by_cases h:b<a;.show h
 .show ń (List.le_antisymm (List.not_lt.mp h)<|List.not_lt.mp h1) q
theorem up_eq:∀{a b:AA},Up a->Up b->(∀x,x∈a↔x∈b)->a=b
 | [],[],_,_,_=>rfl
 | [],y::b,_,_,h=>by have:=(h y).Û yf;simp at this
 | x::a,[],_,_,h=>by have:=(h x).mp yf;simp at this
 | x::a,y::b,ha,hb,h=>by
  let(q,G):=gp.mp ha;let(D,F):=gp.mp hb;let e:x=y:=by
   rcases a_.mp ((h x).mp yf) with e|e;.show e
   .rcases a_.mp ((h y).Û yf) with B|B;.show B.Ù
    .show ń (List.lt_trans (q y B)<|D x e)<|yb _
  subst e;let B:a=b:=up_eq G F λz=>by
   constructor
   .intro hz;rcases a_.mp ((h z).mp<|aE _ hz) with e|e;.show ń (e ▸ q z hz)<|yb _
    .show e
   .intro hz;rcases a_.mp ((h z).Û<|aE _ hz) with e|e;.show ń (e ▸ D z hz)<|yb _
    .show e
  rw[B]
def RB {us:AA}(h:us.Ä (λa b=>ľ (b<a)=Ļ))(nd:us.Ý):Up us:=by calc(List.pairwise_and_iff.Û %[h|nd]).imp λ{a b} zq=>?_;let(h1,q):=zq;show Xn (qE h1)<|lS q
def Xo (x)(ws):inV (.À<|S x) (Ts ws)=ľ (x∈ws):=by
 unfold inV
 induction ws with
 | nil=>simp[Ts]
 | cons y ws ih=>
  let e:rR (.À<|S y) (.À<|S x)=ľ (y=x):=by
   show ľ (S y=S x)=_;by_cases h:y=x;.rw[h];simp
   .let q:S y≠S x:=λe=>h<|uW e
    simp[h,q]
  show (rR (.À<|S y) (.À<|S x)||(Ts ws).đ _)=_;rw[e,ih];by_cases h:y=x;.simp[h]
  .let q:¬x=y:=λe=>h e.Ù
   simp[h,q]
def j8.same (B:j8 C H p d ws)(s:aA H H'):j8 C H' p d ws:=%[let %[dx|e]:=B.ob;%[dx|s _ _ e],s _ _ B.dc,B.nd|B.az]
def Z_ (K:W.Ê):Sp:=λvs H Q _=>∃(p a:Addr) (ls:Ĵ ĵ) (ns:Ĵ ļ) (st m:Nat),vs=[.C p,.C a,.R st,.R m]/\H p=ĳ (.Ç<|Ts<|ones ls)/\aeH ls/\aP K H a (ns.Q V.R)/\st+m<=1000/\m<=60/\
 ∀(t:Ĺ) (ws:AA) (H':Hp),aA H H'->H' t=ĳ (.Ç<|Ts ws)->ws.Ý->(∀l∈ws,jo l)->aeN ws->ws.n<=m->Q (.C t) H'
def Qd (O:GG K mg):DF P w K mg base Cq 4 (Z_ K):=by
 calc O.bg'.cQ qG ?_;(intro f bw A outer s H vs Q E hr h);let(p,a,ls,ns,st,m,rfl,hp,hA,hS,hst,hm,q):=h;let hlo:(Ts<|ones ls).n=ls.n:=by rw[aa,aa]
 calc%[0,_,(aB (aZ (i:=4) qG.nd rb (Or.Â rb) Ly)<|aB (cW b4 rb (jr yk O.h'<|ak bG aq) (bD (i:=5) qG.nd rb<|Or.Â rb)<|aB (aZ (i:=6) qG.nd rb (Or.Â rb)<|aV (vK O) hr.Ø rb<|ak aW<|ak (aN cT bh cB)<|ak aC<|ak aC aq)<|aB (aZ (i:=7) qG.nd rb (Or.Â rb)<|bB iR (dN<|ak aC<|ak aC<|ak aC<|ak aC<|ak aC<|ak aC<|ak aC<|ak (aN cT aC<|aN dM (aN iM (bB iR cM aC λ_ _=>rfl) aC) aC) aq) (aN dM (bB iR cM aC λ_ _=>rfl) aC) λ_ _=>rfl)<|aD<|BP (BR hr) bV (dH bv e_ fb oV (b_ [] yn)<|ak (fU rb (fQ.of qG.nd ym) (dh<|iW Bw cM (iQ aC)<|iQ<|aN cT aC gO) (λ_ _ _ _ _=>cF) λ_ _ _ _ _=>(bB (Y9 K) aW (aN dM (aN iM aG aC)<|aO (yU K) yk O.c' bE<|ak aW aq) λ_ _=>rfl)) aq) fL rb)<|aD<|aY<|aO ug yk O.l' fm<|ak (c7 (Tv rb) yk O.r' nV<|ak bV aq) aq)|?_];intro d hd;calc%[11,_,rb,cz _,ye|?_];refine iH (lo:=0) (n:=m) (λi I H2=>∃(v5 v6 v7:ĸ V) (ws:AA),I=[ĳ (.C p),ĳ (.C a),ĳ (.R st),ĳ (.R m),ĳ (.C d),v5,v6,v7]/\aA H H2/\H2 d=ĳ (.dK<|mJ ws)/\ws.Ý/\(∀l∈ws,jo l)/\ws.n<=i)
  %[18,ĺ,ĺ,ĺ,[],rb,aA.è hd,au,oC,λl h=>by simp at h|ah _] ?_ ?_
 .intro i I H2 hi z;let(v5,v6,v7,ws,rfl,sm,N,M6,F,G):=z;let e0:(st:ļ)+(0+(i:ļ))=((st+i:ĵ):ļ):=ye;calc%[1,_,_,rb,rb|%[45,a,ns,st+i,520,10,by show [V.C a,V.R ((st:ļ)+(0+(i:ļ))),V.R 520,V.R 10]=_;rw[e0];rfl,sm.ð hS,ye,yi,yi,yi|λpr ds H3 s3 ahw M hl hdd=>?_]];let at0:ju (ds.Q V.R) 0=ĳ (.R ds[0]):=aQ (j:=0) (by simp[hl]);calc%[41,pr,_,0,_,rb,rb,aP.of M,at0,_,_,rb,rb,%[yi|yi]|%[4,_,_,rb,rb,(by decide)|%[4,_,_,rb,rb,zsz 8|λt ht=>?_]]];obtain⟨z,hz1,hz2,hz3⟩:∃z:Nat,ju [V.R 2,V.R 2,V.R 3,V.R 3,V.R 3,V.R 4,V.R 4,V.R (2+ds[0]/8%8)] (ds[0]%8)=ĳ (.R z)/\2<=z/\z<=9:=by
   rcases (show ds[0]%8=0\/ds[0]%8=1\/ds[0]%8=2\/ds[0]%8=3\/ds[0]%8=4\/ds[0]%8=5\/ds[0]%8=6\/ds[0]%8=7 from ye) with e|e|e|e|e|e|e|e <;> rw[e]
   .show%[2,2,aQ (j:=0) rb,yi|yi]
   .show%[2,2,aQ (j:=1) rb,yi|yi]
   .show%[2,3,aQ (j:=2) rb,yi|yi]
   .show%[2,3,aQ (j:=3) rb,yi|yi]
   .show%[2,3,aQ (j:=4) rb,yi|yi]
   .show%[2,4,aQ (j:=5) rb,yi|yi]
   .show%[2,4,aQ (j:=6) rb,yi|yi]
   .calc%[2,(2+ds[0]/8%8).Ö,?_,by grind|by grind];let e2:(2+ds[0]/8%8)=(((2+ds[0]/8%8).Ö:ĵ):ļ):=by grind
    rw[<-e2];show aQ (j:=7) rfl
  let hT:upd H3 t (.Ç [V.R 2,V.R 2,V.R 3,V.R 3,V.R 3,V.R 4,V.R 4,V.R (2+ds[0]/8%8)]) t=ĳ _:=au;let s1:aA H3 (upd H3 t<|.Ç [V.R 2,V.R 2,V.R 3,V.R 3,V.R 3,V.R 4,V.R 4,V.R (2+ds[0]/8%8)]):=aA.è ht;generalize upd H3 t (.Ç [V.R 2,V.R 2,V.R 3,V.R 3,V.R 3,V.R 4,V.R 4,V.R (2+ds[0]/8%8)])=H4 at hT s1 ⊢;calc%[41,pr,_,0,_,rb,rb,aP.of<|s1 _ _ M,at0,_,_,rb,rb,(by decide)|%[6,t,_,_,_,rb,rb,aP.of hT,hz1|?_]];let Dl:aA H H4:=(sm.Z s3).Z s1;calc%[10,rb,_|%[17,rb,_,_,rb,rb|%[38,_,rb,pr,_,rb,aP.of<|s1 _ _ M|λu hu'=>?_]]];let e1:(1:ļ)+(z:ļ)=((1+z:ĵ):ļ):=rfl;rw[e1];let zZ:(lH (ds.Q V.R) (ĳ (1:ĵ))<|ĳ ((1+z:ĵ):ļ)).n=z:=by rw[Ij ye ye];lia
  generalize hxs:lH (ds.Q V.R) (ĳ 1) (ĳ ((1+z:ĵ):ļ))=xs;let ag1:xs.n=z:=by rw[<-hxs];show zZ
  let Xl:∀v∈xs,∃d:Int,v=.R d:=λv hv=>by rw[<-hxs]at hv;let(d,hd,e):=DQ hv;show%[d|e]
  let sU:∀o,aA H4 (upd H4 u o):=λo=>aA.è hu';refine%[2,u,rb,%[_|aP.of au]|λL Y=>oU (K:=K) (a:=u) (xs:=xs) (λi ys Z=>∃B:Ĵ ĵ,ys=Ts (B.Q λc=>[c])/\B.n=i/\(∀c∈B,c∈ls)/\Z L=ĳ (.Ç ys)/\Z u=ĳ (.Ç xs)/\aA H4 Z)
   %[30,[],rb,rb,λc hc=>by simp at hc,au,by rw[bx (bU au Y)];show au|(sU _).bH<|(sU _).Ô Y] (λi ys Z _ zq=>by let(_,_,_,_,_,h2,_):=zq;exact aP.of h2) ?_ ?_]
  .intro i y ys Z hi z;let(B,rfl,hcl,J,D,hu2,pZ):=z;let hil:i<xs.n:=(ap.mp hi).1;let(d,rfl):=Xl y (a5 hi);let hlp:(0:ļ)<(ls.n:ļ):=by have:=hA.lo;lia
   obtain⟨j,hj1,hj2⟩:∃j:Nat,d/20%(ls.n:ļ)=(j:ļ)/\j<ls.n:=by let h1:0<=d/20%(ls.n:ļ):=iP _ ye;let h2:d/20%(ls.n:ļ)<ls.n:=fS _ hlp;show%[0,(d/20%(ls.n:ļ)).Ö,ye|by simp_all]
   let Xp:=pZ _ _<|Dl _ _ hp;calc%[3,_,_,rb|%[19,rb,%[yi|yi],p,_,rb,.Â<|aP.of Xp|%[4,_,_,rb,rb,by rw[hlo];show hlp|%[47,p,_,_,.À<|S [ls[j]],rb,rb,aP.of Xp,?_,D,?_|?_]]]];.rw[hlo,hj1];show aQ (by simp[Ts,ones,hj2])
   .rw[aa,aa];show aF ye
   .refine dz.mk hil %[30,B++[ls[j]],by simp[Ts],by simp[hcl],λc hc=>?_,au,?_|λb o e=>?_]
    .rcases a7.mp hc with e|e;.show J c e
     .rw[av.mp e];show aI _
    .rw[bx (bU au Y)];show hu2
    .rw[bx (bU ((sU _) b o e) Y)];show pZ b o e
  .intro ys Z z;let(B,rfl,hcl,J,D,hu2,pZ):=z;calc%[12,L,B.Q λc=>[c],rb,rb,aP.of D,by rw[lq];lia|?_];rw[lq];let hd5:=pZ _ _<|s1 _ _<|s3 _ _ N;let hW:jo B:=%[by simp[*],ye|λc hc=>hA.az c<|J c hc]
   calc%[1,d,_,rb,t_.k (k:=gR B) hd5 (by rw[mJ,aa];show aF ye)|?_];calc%[18,_,_,_,uM ws B,rb,(Dl.Z pZ).bH hd,by rw[au,Ei],Il M6,λl hl=>?_|aw (Ek _ _)<|ja G];rcases Ej.mp hl with e|e;.show F l e
   .rw[e];show hW
 .intro I H2 z;let(v5,v6,v7,ws,rfl,sm,N,M6,F,G):=z;calc%[7,d,_,ws,rb,N,NK ws,ye|λL Y=>?_];let s3:aA H (upd H2 L<|.Ç<|Ts ws):=sm.bH<|sm.Ô Y;calc%[4,L,ws,rb,aP.of au,ye|λL2 ws' D pm pw=>?_];show q L2 ws' _ (s3.bH<|s3.Ô D) au (pm.nodup_iff.Û M6) (λl hl=>F l<|pm.õ.mp hl) pw (by rw[pm.length_eq];show G)
def acv:Sp:=λvs H Q _=>∃i:Int,vs=[.R i]/\Q (.bl ķ) H
def Dm (G:GG K mg):DF P w K mg base sV 1 acv:=by calc G.O'.cQ PX λf bw A outer s H vs Q E B h=>?_;let(i,rfl,q):=h;calc%[0,_,(aD<|aY<|nD (aO iI yk G.n' fF<|ak aG<|ak (oR (v:=.ty "int") yk G.A' PyProof.â.boot_int rb) aq)<|mj<|adl<|aO iI yk G.n' fF<|ak aG<|ak (oR (v:=.ty "bool") yk G.K' PyProof.â.boot_bool rb) aq)|?_];show%[25,_,_,_,ķ,rb,.R _,ym|bZ %[25,_,_,_,Ļ,rb,.R _,ym|q]]
def jh {ls:AA}{i:ĵ}{l:Ĵ ĵ}(h:ls[i]?=ĳ l):(Ts ls)[i]?=ĳ (.À<|S l):=by simp[Ts,h]
def nO {ls:AA}{i:ĵ}{x:V}(h:(Ts ls)[i]?=ĳ x):∃l,ls[i]?=ĳ l/\x=.À (S l):=by rw[ba]at h;let(l,h1,q):=io.mp h;show%[0,l,h1|q.Ù]
def qI (n):((List.Ë n ķ).ė id)=ķ:=by simp
def oO (n):(List.Ë n ķ).Q V.bl++[V.bl ķ]=(List.Ë (n+1) ķ).Q V.bl:=by rw[List.replicate_succ',bg];rfl
def acw:Sp:=λvs H Q _=>∃(p:Addr) (ls:AA) (r w:Nat),vs=[.C p]/\H p=ĳ (.Ã<|Ts ls)/\Blk r w ls/\1<=r/\r<=9/\1<=w/\w<=9/\∀H',aA H H'->Q (.bl ķ) H'
def Dp (G:GG K mg):DF P w K mg base sX 1 acw:=by
 calc G.T'.cQ qR ?_;(intro f bw A outer s H vs Q E hr h);let(p,ls,r,w,rfl,hp,Y,r1,r9,w1,w9,q):=h;let iZ:(Ts ls).n=r:=by rw[aa,Y.len]
 let h0:0<ls.n:=by rw[Y.len];show r1
 calc%[0,_,(aB (cg (QW.qt<|qL (eV<|dw<|aO iI yk G.n' fF<|ak aG<|ak (oR (v:=.ty "tuple") yk G.e' di rb) aq)<|nC<|eV<|oK kI kI aC (aO cu yk G.c' bE<|ak aG aq)<|KY yk G.D') (aD<|aY fL) bI)<|aB (cg (eV<|dw<|aO (iY rb) yk G.j' iJ<|ak (fU rb (fQ.of qR.nd ym) (fJ aG) (λ_ _ _ _ _=>cF) λ_ _ _ _ _=>(aO (L_ K) yk G.n' fF<|ak aG<|ak (oR (v:=.ty "str") yk G.B' PyProof.â.boot_str rb) aq)) aq) (aD<|aY fL) bI)<|aB (aZ (i:=1) qR.nd rb (Or.Ó rb)<|aO cP yk G.c' bE<|ak (bB bY aG aC λ_ _=>rfl) aq)<|aD<|aY<|nD (oJ kI kI aC aW<|KY yk G.D')<|mj<|aO (iY rb) yk G.j' iJ<|ak (fU rb (fQ.of qR.nd ym) (fJ aG) (λ_ _ _ _ _=>cF) λ_ _ _ _ _=>(gC kE (aO cP yk G.c' bE<|ak aG aq) bh<|bR _)) aq)|?_];calc%[25,_,_,_,ķ,rb,.Ã hp,ym|aU _ rb<|bK ?_];calc%[22,p,_,rb,.Ó<|aM.of hp,_,_,rb,rb|aU ķ (by rw[iZ];simp;show ie sT r1)<|bZ %[1,_,_,rb,rb|aU ķ (by rw[iZ];simp;show ie sT r9)<|bK ?_]];refine%[2,p,rb,%[_|aM.of hp]|λL hL=>ud (xs:=Ts ls) (λi ys N=>ys=(List.Ë i ķ).Q V.bl/\N L=ĳ (.Ç ys)/\aA H N) %[rb,au|aA.è hL] (λi ys N _ h=>aM.of<|h.2.2 _ _ hp) ?_ ?_]
 .intro i x ys N hi z;let(rfl,D,F):=z;let(l,hl,rfl):=nO hi;let J:i<(Ts ls).n:=(ap.mp hi).1;refine%[18,_,_,_,ķ,rb,.À _,ym,D,by rw[aa,dL];show aF ye|dz.mk J %[oO i,au|F.bH hL]]
 .intro ys N z;let(rfl,D,F):=z;calc%[1,L,_,rb,aP.of D|?_];rw[qI];calc(aU _ rb<|bK ?_);let M:ls[0].n=w:=Y.gW _<|aI _;calc%[25,p,_,_,.À<|S ls[0],rb,rb,aM.of<|F _ _ hp|%[23,aQ (j:=0)<|jh (by simp[h0]),_,rb,(ax<|aF ye)|?_]];calc%[1,_,_,rb,rb|aU ķ (by rw[M];simp;lia)<|bZ %[1,_,_,rb,rb|aU ķ (by rw[M];simp;lia)<|bZ ?_]];refine%[2,p,rb,%[_|aM.of<|F _ _ hp]|λL2 wY=>ud (xs:=Ts ls) (λi ys O=>ys=(List.Ë i ķ).Q V.bl/\O L2=ĳ (.Ç ys)/\aA H O) %[rb,au|F.bH<|F.Ô wY] (λi ys N _ h=>aM.of<|h.2.2 _ _ hp) ?_ ?_]
  .intro i x ys O hi z;let(rfl,Z,B):=z;let(l,hl,rfl):=nO hi;let J:i<(Ts ls).n:=(ap.mp hi).1;let NP:l.n=w:=Y.gW _<|a5 hl;calc%[30,_,rb,ax<|aF ye,rb,Z,by rw[aa,dL];show aF ye|dz.mk J %[?_,au|B.bH<|F.Ô wY]];rw[NP,M,am rfl];show oO i
  .intro ys O z;let(rfl,Z,B):=z;calc%[1,L2,_,rb,aP.of Z|?_];rw[qI];show q O B
def oM {r w:ĵ}{ls:AA}(h:Blk r w ls):ls.Ì.n=r*w:=by
 rw[List.length_flatten];have:ls.Q List.n=List.Ë r w:=by rw[<-h.len,List.eq_replicate_iff];show%[yf|λb q=>by let(l,B,rfl):=ar.mp q;show h.gW l B]
 rw[this,List.sum_replicate_nat]
def aeO:Sp:=λvs H Q _=>∃(p:Addr) (ls:AA) (r w:Nat),vs=[.C p]/\H p=ĳ (.Ã<|Ts ls)/\Blk r w ls/\1<=r/\r<=9/\1<=w/\w<=9/\(∀l∈ls,∀c∈l,zf c)/\∀H',aA H H'->Q (.bl ķ) H'
def Qe (G:GG K mg):DF P w K mg base sY 2 aeO:=by
 calc G.U'.cQ Dk ?_;(intro f bw A outer s H vs Q E hr h);let(p,ls,r,w,rfl,hp,Y,r1,r9,w1,w9,hc,q):=h;let hrw:r*w<=81:=iE r9 w9;let hfl:=oM Y;calc%[0,_,(aD<|aY<|nD (aV (Dp G) hr.Ø rb<|ak aG aq)<|mj<|aO (iY rb) yk G.j' iJ<|ak (fU rb (fQ.of Dk.nd ym) (wI<|dH bv e_ fb xU (b_ [] yn)<|ak aG aq) (λ_ _ _ _ _=>cF) λ_ _ _ _ _=>(aaR (gC uc aG (kJ yk G.i')<|bR _)<|mj<|aV (Gv G) hr.Ø rb<|ak aG aq)) aq)|?_];calc%[35,p,ls,r,w,rb,hp,Y,r1,r9,w1,w9|λH1 s1=>(aU ķ rb<|bZ ?_)];calc%[17,rb,p,ls,rb,rb|%[20,aM.of<|s1 _ _ hp,ye,_,rb|λL Z=>?_]];refine xT (λi ys B=>ys=(List.Ë i ķ).Q V.bl/\B L=ĳ (.Ç ys)/\aA H B) %[rb,au|s1.bH<|s1.Ô Z] ?_ ?_
 .intro i c ys B hi z;let(rfl,D,J):=z;let M:i<ls.Ì.n:=(ap.mp hi).1;let(l,hl,N):=uA.mp (a5 hi);let F:B L=ĳ (.Ç<|(List.Ë i ķ).Q V.bl)/\((List.Ë i ķ).Q V.bl).n<Ń/\dz ls.Ì.n i ((List.Ë i ķ).Q V.bl++[V.bl ķ]=(List.Ë (i+1) ķ).Q V.bl/\upd B L (.Ç<|(List.Ë i ķ).Q V.bl++[V.bl ķ]) L=ĳ (.Ç<|(List.Ë i ķ).Q V.bl++[V.bl ķ])/\aA H (upd B L<|.Ç<|(List.Ë i ķ).Q V.bl++[V.bl ķ])):=
   %[D,by rw[aa,dL];show aF ye|dz.mk M %[oO i,au|J.bH<|s1.Ô Z]]
  calc%[1,[c],[46],rb,rb|aU _ rb ?_];rcases hc l hl c N with e|e
  .subst e;show bZ F
  .by_cases O:[c]=[46]
   .show jT9 O F
   .calc jF9 O<|.Ó %[2,[c],rb,by show 1<=1000;decide|?_];rw[show Gu [c]=ķ from e];show F
 .intro ys B z;let(rfl,D,J):=z;calc%[1,L,_,rb,aP.of D|?_];rw[qI];show q B J
def acy:Sp:=λvs H Q _=>∃(p:Addr) (ls:AA) (r w:Nat),vs=[.C p]/\H p=ĳ (.Ã<|Ts ls)/\Blk r w ls/\1<=r/\r<=9/\1<=w/\w<=9/\(∀l∈ls,∀c∈l,mkC c)/\∀H',aA H H'->Q (.bl ķ) H'
def NQ (G:GG K mg):DF P w K mg base qT 2 acy:=by
 calc G.V'.cQ Al ?_;(intro f bw A outer s H vs Q E hr h);let(p,ls,r,w,rfl,hp,N,r1,r9,w1,w9,Y,q):=h;let Z:r*w<=81:=iE r9 w9;let hfl:=oM N;calc%[0,_,(aD<|aY<|nD (aV (Dp G) hr.Ø rb<|ak aG aq)<|mj<|aO (iY rb) yk G.j' iJ<|ak (fU rb (fQ.of Al.nd ym) (wI<|dH bv e_ fb xU (b_ [] yn)<|ak aG aq) (λ_ _ _ _ _=>cF) λ_ _ _ _ _=>(gC Fq aG (kJ yk G.N') rb)) aq)|?_];calc%[35,p,ls,r,w,rb,hp,N,r1,r9,w1,w9|λH1 s1=>(aU ķ rb<|bZ ?_)];calc%[17,rb,p,ls,rb,rb|%[20,aM.of<|s1 _ _ hp,ye,_,rb|λL O=>?_]];refine xT (λi ys D=>ys=(List.Ë i ķ).Q V.bl/\D L=ĳ (.Ç ys)/\aA H D) %[rb,au|s1.bH<|s1.Ô O] ?_ ?_
 .intro i c ys D hi z;let(rfl,B,F):=z;let J:i<ls.Ì.n:=(ap.mp hi).1;let(l,hl,M):=uA.mp (a5 hi);calc%[12,c,MK,rb,rb,B,by rw[aa,dL];show aF ye|dz.mk J %[?_,au|F.bH<|s1.Ô O]];rw[am (show c∈MK from Y l hl c M)];show oO i
 .intro ys D z;let(rfl,B,F):=z;calc%[1,L,_,rb,aP.of B|?_];rw[qI];show q D F
def aac (K:W.Ê):Sp:=λvs H Q _=>∃(p:Addr) (ls:AA) (r w:Nat) (i j:Int),vs=[.C p,.R i,.R j]/\aM K H p (Ts ls)/\Blk r w ls/\1<=r/\r<=9/\w<=9/\Q (.bl<|ľ<|0<=i/\i<r/\0<=j/\j<w) H
def rO (G:GG K mg):DF P w K mg base pK 2 (aac K):=by
 calc G.W'.cQ Kp λf bw A outer s H vs Q E L h=>?_;let(p,ls,r,w,i,j,rfl,hp,F,r1,r9,w9,q):=h;let Z:(Ts ls).n=r:=by rw[aa,F.len]
 let M:0<ls.n:=by rw[F.len];lia
 let J:ls[0].n=w:=F.gW _<|aI _;calc%[0,_,(aB (cg (QW.qt<|qL (eV<|dw<|aV (Dm G) L.Ø rb<|ak aW aq)<|nC<|eV<|dw<|aV (Dm G) L.Ø rb<|ak bh aq) (aD<|aY fL) bI)<|aD<|aY<|nD (oJ kI Bm aC aW<|aO cu yk G.c' bE<|ak aG aq)<|mj<|oJ kI Bm aC bh<|aO cP yk G.c' bE<|ak (bB bY aG aC λ_ _=>rfl) aq)|?_];calc%[0,i,rb|bK %[0,j,rb|aU _ rb<|bK ?_]];calc%[1,_,_,rb,rb|aU _ rb ?_];by_cases h1:0<=i
 .calc jT9 h1 %[22,p,_,rb,.Ó hp,_,_,rb,rb|aU _ rb ?_];rw[Z];by_cases B:i<(r:ļ)
  .calc jT9 B %[1,_,_,rb,rb|aU _ rb ?_];by_cases D:0<=j
   .calc jT9 D %[6,p,_,_,.À<|S ls[0],rb,rb,hp,aQ (j:=0)<|jh (by simp[M])|%[33,_,rb,ax<|aF ye,_,_,rb,rb|?_]];rw[J];simpa [h1,B,D] using q
   .calc jF9 D ?_;simpa [h1,B,D] using q
  .calc jF9 B ?_;simpa [h1,B] using q
 .calc jF9 h1<|aU _ rb<|bK ?_;simpa [h1] using q
def acz (K:W.Ê):Sp:=λvs H Q _=>∃(p b:Addr) (ls:AA) (r w:Nat) (i j:Nat),vs=[.C p,.C b]/\H p=ĳ (.Ã<|Ts ls)/\H b=ĳ (.Ã [.R i,.R j])/\Blk r w ls/\1<=r/\r<=9/\w<=9/\i<r/\j<w/\Q (.bl ķ) H
def Im (G:GG K mg):DF P w K mg base nU 3 (acz K):=by calc G.X'.cQ Ii λf bw A outer s H vs Q E D h=>?_;let(p,b,ls,r,w,i,j,rfl,hp,B,F,r1,r9,w9,hi,J,q):=h;calc%[0,_,(aD<|aY<|nD (aO iI yk G.n' fF<|ak aW<|ak (oR (v:=.ty "tuple") yk G.e' di rb) aq)<|nD (gC kE (aO cu yk G.c' bE<|ak aW aq) aC<|bR _)<|mj<|aV (rO G) D.Ø rb<|ak aG<|ak (bB bY aW aC λ_ _=>rfl)<|ak (bB bY aW aC λ_ _=>rfl) aq)|?_];calc%[25,_,_,_,ķ,rb,.Ã B,ym|aU ķ rb<|bZ ?_];calc%[4,b,_,rb,.Ó<|aM.of B,rb|aU ķ rb<|bZ ?_];calc%[6,b,_,_,.R i,rb,rb,aM.of B,aQ (j:=0) rb|%[6,b,_,_,.R j,rb,rb,aM.of B,aQ (j:=1) rb|?_]];calc%[29,p,ls,r,w,i,j,rb,aM.of hp,F,r1,r9,w9|?_];rw[am %[cz _,ie eJ hi,ye|ye]];show q
def acC:Sp:=λvs H Q _=>∃(pr pm pb:Addr) (r w:Nat) (aj aH:AA) (i j:Nat),vs=[.C pr,.C pm,.C pb]/\H pr=ĳ (.Ã<|Ts aj)/\H pm=ĳ (.Ã<|Ts aH)/\H pb=ĳ (.Ã [.R i,.R j])/\vM r w aj aH i j/\∀H',aA H H'->Q (.bl ķ) H'
def Qf (G:GG K mg):DF P w K mg base tu 4 acC:=by
 calc G.Y'.cQ P0 λf bw A outer s H vs Q E M h=>?_;let(pr,pm,pb,r,w,aj,aH,i,j,rfl,F,hm,Z,B,q):=h;let O:(Ts aj).n=r:=by rw[aa,B.br.len]
 let l2:(Ts aH).n=r:=by rw[aa,B.bm.len]
 let h0:0<aj.n:=by rw[B.br.len];show B.r1
 let J:0<aH.n:=by rw[B.bm.len];show B.r1
 let N:aj[0].n=w:=B.br.gW _<|aI _;let L:aH[0].n=w:=B.bm.gW _<|aI _;let w9:=B.w9;calc%[0,_,(aB (cg (QW.qt<|qL (eV<|dw<|aV (Qe G) M.Ø rb<|ak aG aq)<|nC<|eV<|dw<|aV (NQ G) M.Ø rb<|ak aW aq) (aD<|aY fL) bI)<|aB (cg (QW.qt<|qL (bN Fb (aO cu yk G.c' bE<|ak aW aq) (aO cu yk G.c' bE<|ak aG aq)<|bR _)<|nC<|bN Fb (aO cP yk G.c' bE<|ak (bB bY aW aC λ_ _=>rfl) aq) (aO cP yk G.c' bE<|ak (bB bY aG aC λ_ _=>rfl) aq)<|bR _) (aD<|aY fL) bI)<|aD<|aY<|aV (Im G) M.Ø rb<|ak aG<|ak bh aq)|?_];calc%[59,pr,aj,r,w,rb,F,B.br,B.r1,B.r9,B.w1,B.w9,B.cr|λH1 s1=>(aU _ rb<|bK ?_)];calc%[59,pm,aH,r,w,rb,s1 _ _ hm,B.bm,B.r1,B.r9,B.w1,B.w9,B.cm|λY s2=>(aU _ rb<|bK ?_)];let D:=s1.Z s2;calc%[1,pm,_,rb,.Ó<|aM.of<|D _ _ hm|%[4,pr,_,rb,.Ó<|aM.of<|D _ _ F,rb|aU _ rb ?_]];calc KQ (by rw[O,l2]) ?_;calc%[25,pm,_,_,.À<|S aH[0],rb,rb,aM.of<|D _ _ hm|%[23,aQ (j:=0)<|jh (by simp[J]),_,rb,ax<|aF ye|%[6,pr,_,_,.À<|S aj[0],rb,rb,aM.of<|D _ _ F,aQ (j:=0)<|jh (by simp[h0])|%[11,_,rb,ax<|aF ye,rb|aU _ rb ?_]]]];calc KQ (by rw[N,L]) ?_;calc%[5,pr,pb|%[64,aj,r,w,i,j,rb,D _ _ F,D _ _ Z,B.br,B.r1,B.r9,B.w9,B.bi,B.bj|?_]];show q Y D
structure dj (C:Ĺ)(H:Hp)(p:Ĺ)(r w:ĵ)(aj aH:AA)(i j:ĵ):Prop where
 ex:∃dx pr pm pb,H p=ĳ (.ins C dx [("rows",.C pr),("marks",.C pm),("begin",.C pb)])/\H pr=ĳ (.Ã<|Ts aj)/\H pm=ĳ (.Ã<|Ts aH)/\H pb=ĳ (.Ã [.R i,.R j])
 ok:vM r w aj aH i j
def dj.mv {r w:ĵ}{aj aH:AA}{i j:ĵ}(B:dj C H p r w aj aH i j)(s:aA H H'):dj C H' p r w aj aH i j:=by let((dx,pr,pm,pb,a,b,c,d),o):=B;show%[%[25,dx,pr,pm,pb,s _ _ a,s _ _ b,s _ _ c|s _ _ d]|o]
def acD (C:Ĺ):Sp:=λvs H Q _=>∃(p dx pr pm pb:Addr) (r w:Nat) (aj aH:AA) (i j:Nat),vs=[.C p,.C pr,.C pm,.C pb]/\H p=ĳ (.ins C dx [])/\H pr=ĳ (.Ã<|Ts aj)/\H pm=ĳ (.Ã<|Ts aH)/\H pb=ĳ (.Ã [.R i,.R j])/\vM r w aj aH i j/\
 ∀H',(∀b o,H b=ĳ o->b≠p->H' b=ĳ o)->H' p=ĳ (.ins C dx [("rows",.C pr),("marks",.C pm),("begin",.C pb)])->Q .ć H'
def rP (G:GG K mg):MF P w K mg base G.m' 5 (acD G.b'):=by
 calc G.m'.F.cQ Kq λbw A outer s H vs Q E L h=>?_;let(p,dx,pr,pm,pb,r,w,aj,aH,i,j,rfl,hp,F,hm,J,B,q):=h;calc%[0,_,(aB (cg (eV<|dw<|aV (Qf G) L.Ø rb<|ak aW<|ak bh<|ak bG aq) iG bI)<|aB (Fe aG aW rb)<|aB (Fe aG bh rb)<|aD<|Fe aG bG rb)|?_];calc%[5,pr,pm|%[39,pb,r,w,aj,aH,i,j,rb,F,hm,J,B|λH1 s1=>(aU _ rb<|bK ?_)]];calc%[18,p,G.b',dx,_,rb,s1 _ _ hp,G.a'.cl,G.a'.nr,by decide|?_];calc%[18,p,G.b',dx,_,rb,au,G.a'.cl,G.a'.nm,by show 1<1000;decide|?_];calc%[18,p,G.b',dx,_,rb,au,G.a'.cl,G.a'.nb,by show 2<1000;decide|?_];calc q _ (λb o e D=>?_) ?_;.rw[bx D,bx D,bx D];show s1 _ _ e
 .show au
def atC (aj:AA)(r w:ĵ)(i j:ļ):ĵ:=if 0<=i/\i<r/\0<=j/\j<w then (aj.Í i.Ö []).Í j.Ö 0 else 46
def ag3 (C:Ĺ):Sp:=λvs H Q _=>∃(p:Addr) (r w:Nat) (aj aH:AA) (bi bj:Nat) (i j:Int),vs=[.C p,.R i,.R j]/\dj C H p r w aj aH bi bj/\Q (.À<|S [atC aj r w i j]) H
def Cv (G:GG K mg):MF P w K mg base G.f' 3 (ag3 G.b'):=by
 calc G.f'.F.cQ P_ λbw A outer s H vs Q E L h=>?_;let(p,r,w,aj,aH,bi,bj,i,j,rfl,B,q):=h;let((dx,pr,pm,pb,hp,D,hm,M),O):=B;let w9:=O.w9;calc%[0,_,(aD<|aY<|oH (dw<|aV (rO G) L.Ø rb<|ak (dF aG rb)<|ak aW<|ak bh aq) (bB vR (bB bY (dF aG rb) aW λ_ _=>rfl) bh λ_ _=>rfl)<|kJ yk G.i')|?_];calc%[13,p,G.b',dx,_,_,rb,hp,G.a'.cl,G.a'.nr,rb|%[29,pr,aj,r,w,i,j,rb,aM.of D,O.br,O.r1,O.r9,O.w9|aU _ rb ?_]];by_cases h:0<=i/\i<r/\0<=j/\j<w
 .rw[am h];let e:atC aj r w i j=(aj.Í i.Ö []).Í j.Ö 0:=Ŀ h;rw[e]at q;obtain⟨i,rfl⟩:∃k:Nat,i=k:=%[i.Ö|ye]
  obtain⟨j,rfl⟩:∃k:Nat,j=k:=%[j.Ö|ye]
  let hi:i<aj.n:=by rw[O.br.len];simp_all
  let F:aj[i]?=ĳ (aj.Í i []):=by rw[ai,ae hi];rfl
  let hw:(aj.Í i []).n=w:=O.br.gW _<|a5 F;let J:(aj.Í i [])[j]?=ĳ ((aj.Í i []).Í j 0):=by rw[ai (l:=aj.Í i []),ae (by simp_all)];rfl
  refine bZ %[13,p,G.b',dx,_,_,rb,hp,G.a'.cl,G.a'.nr,rb|%[6,pr,_,_,_,rb,rb,aM.of D,aQ<|jh F|%[7,_,_,_,rb,rb,ax<|aF ye,aQ J|q]]]
 .rw[al h];let e:atC aj r w i j=46:=ŀ h;rw[e]at q;show bK q
def isFree (aj:AA):œ:=aj.Ì.ė λc=>ľ ([c]=[46])
def aeP (C:Ĺ):Sp:=λvs H Q _=>∃(p:Addr) (r w:Nat) (aj aH:AA) (bi bj:Nat),vs=[.C p]/\dj C H p r w aj aH bi bj/\∀H',aA H H'->Q (.bl<|isFree aj) H'
def Gx (G:GG K mg):MF P w K mg base G.o' 1 (aeP G.b'):=by
 calc G.o'.F.cQ uG ?_;intro bw A outer s H vs Q E hr h;let(p,r,w,aj,aH,bi,bj,rfl,B,q):=h;let((dx,pr,pm,pb,hp,J,hm,hb),O):=B;let Z:r*w<=81:=iE O.r9 O.w9;let hfl:=oM O.br;calc%[0,_,(aD<|aY<|aO (iY rb) yk G.j' iJ<|ak (fU rb (fQ.of uG.nd ym) (wI<|dH bv e_ fb xU (b_ [] yn)<|ak (dF aG rb) aq) (λ_ _ _ _ _=>cF) λ_ _ _ _ _=>(gC uc aG (kJ yk G.i')<|bR _)) aq)|?_];calc%[rb|%[51,p,G.b',dx,_,_,rb,hp,G.a'.cl,G.a'.nr,rb,pr,aj,rb,rb|%[20,aM.of J,ye,_,rb|λL Y=>?_]]];refine xT (λi ys F=>ys=((aj.Ì.Å i).Q λc=>ľ<|[c]=[46]).Q V.bl/\F L=ĳ (.Ç ys)/\aA H F) %[rb,au|aA.è Y] ?_ ?_
 .intro i c ys F hi z;let(rfl,D,M):=z;let N:i<aj.Ì.n:=(ap.mp hi).1;calc%[12,[c],[46],rb,rb,D,?_|dz.mk N %[?_,au|M.bH Y]];show aF (by grind)
  .rw[bu,hi];simp
 .intro ys F z;let(rfl,D,M):=z;rw[b9]at D;calc%[1,L,_,rb,aP.of D|?_];let e:((aj.Ì.Q λc=>ľ<|[c]=[46]).ė id)=isFree aj:=by
   rw[List.all_map];rfl
  rw[e];show q F M
def dI (aj:AA)(j:ĵ):Ĵ ĵ:=aj.Q λl=>l.Í j 0
def lineOf (aj:AA)(i j:ĵ)(way:ļ):Ĵ ĵ:=if way=0 then aj.Í i [] else dI aj j
def placeOf (i j:ĵ)(way:ļ):ĵ:=if way=0 then j else i
def af8:Sp:=λvs H Q _=>∃(p:Addr) (aj:AA) (r w j:Nat),vs=[.C p,.R j]/\H p=ĳ (.Ã<|Ts aj)/\Blk r w aj/\r<=9/\w<=9/\j<w/\∀H',aA H H'->Q (.À<|S<|dI aj j) H'
def wZ (O:GG K mg):DF P w K mg base nW 1 af8:=by
 calc O.Z'.cQ wV λf bw A outer s H vs Q E Y h=>?_;let(p,aj,r,w,j,rfl,hp,F,r9,w9,hj,q):=h;calc%[0,_,(aD<|aY<|dH bv e_ fb oV (b_ [] yn)<|ak (fU rb (fQ.of wV.nd ym) (fJ aG) (λ_ _ _ _ _=>cF) λ_ _ _ _ _=>(bB vR aG bh λ_ _=>rfl)) aq)|?_];let Z:(Ts aj).n=r:=by rw[aa,F.len]
 refine%[23,rb,p,rb,%[_|aM.of hp]|λL M=>ud (xs:=Ts aj) (λi ys D=>ys=Ts (ones<|(aj.Å i).Q λl=>l.Í j 0)/\D L=ĳ (.Ç ys)/\aA H D) %[rb,au|aA.è M] (λi ys D _ h=>aM.of<|h.2.2 _ _ hp) ?_ ?_]
 .intro i x ys D hi z;let(rfl,B,G):=z;let(l,N,rfl):=nO hi;let J:i<(Ts aj).n:=(ap.mp hi).1;let NP:l.n=w:=F.gW _<|a5 N;calc%[40,l,_,l.Í j 0,rb,rb,ax<|aF ye,?_,B,?_|dz.mk J %[?_,au|G.bH M]];.show aQ (by rw[ai,ae (by simp_all)];rfl)
  .rw[aa,aa,aa];show aF (by grind)
  .rw[j7,bu,N];simp
 .intro ys D z;let(rfl,B,G):=z;rw[Z,<-F.len,b9]at B;calc%[12,L,_,rb,rb,aP.of B,?_|?_];.rw[lq,aa,F.len];lia
  .rw[lq];show q D G
def jA {r w:ĵ}{aj:AA}(q:Blk r w aj){i j:ĵ}(hi:i<r){way:ļ}:(lineOf aj i j way).n=if way=0 then w else r:=by
 unfold lineOf;by_cases h:way=0
 .rw[Ŀ h,Ŀ h,ai,ae (by rw[q.len];show hi)];show q.gW _<|aI _
 .rw[ŀ h,ŀ h];unfold dI;rw[aa,q.len]
def kj (l):(cC l).n<=l.n:=by unfold cC;rw[List.length_reverse];show aw (rX _).length_le (by rw[List.length_reverse];show ah _)
def rJ (l):(cN l).n<=l.n:=(rX _).length_le
def El (i j:ĵ)(way:ļ)(l:Ĵ ĵ):Ĵ V:=if way=0 then [.R i,.R ((j:ļ)-(cC<|l.Å j).n),.À (S<|cC (l.Å j)++cN (l.Î j))] else [.R ((i:ļ)-(cC<|l.Å i).n),.R j,.À (S<|cC (l.Å i)++cN (l.Î i))]
def af9 (C:Ĺ):Sp:=λvs H Q _=>∃(p:Addr) (r w:Nat) (aj aH:AA) (bi bj i j:Nat) (way:Int),vs=[.C p,.R i,.R j,.R way]/\dj C H p r w aj aH bi bj/\i<r/\j<w/\(way=0\/way=1)/\
 ∀(t:Ĺ) (H':Hp),aA H H'->H t=ĺ->H' t=ĳ (.Ã<|El i j way<|lineOf aj i j way)->Q (.C t) H'
def Xq (G:GG K mg):MF P w K mg base G.p' 2 (af9 G.b'):=by
 calc G.p'.F.cQ j4 ?_;intro bw A outer s H vs Q E hr h;let(p,r,w,aj,aH,bi,bj,i,j,way,rfl,B,hi,hj,fY,q):=h;let((dx,pr,pm,pb,hp,M,hm,hb),O):=B;let r9:=O.r9;let w9:=O.w9;calc%[0,_,(aB (aZ (i:=4) j4.nd rb (Or.Â rb)<|oH (bN kE bG aC<|bR _) (bB bY (dF aG rb) aW λ_ _=>rfl)<|aV (wZ G) hr.Ø rb<|ak (dF aG rb)<|ak bh aq)<|aB (aZ (i:=5) j4.nd rb (Or.Â rb)<|oH (bN kE bG aC<|bR _) bh aW)<|aB (aZ (i:=6) j4.nd rb (Or.Â rb)<|bB bY (dH bv PySem.F.slot_str_rpartition PySem.F.type_str_rpartition Za (iW Hw bV mR<|iQ cB)<|ak (kJ yk G.i') aq) aC λ_ _=>rfl)<|aB (aZ (i:=7) j4.nd rb (Or.Â rb)<|aN lG cM<|bB bY (dH bv PySem.F.slot_str_partition PySem.F.type_str_partition abB (iW Hw bV (iQ cB) mR)<|ak (kJ yk G.i') aq) aC λ_ _=>rfl)<|aB (aZ (i:=8) j4.nd rb (Or.Â rb)<|aN fD cB<|aO cP yk G.c' bE<|ak cM aq)<|aD<|aY<|oH (bN kE bG aC<|bR _) (cI<|ak aW<|ak jO<|ak gO aq)<|cI<|ak jO<|ak bh<|ak gO aq)|?_];let D:aj[i]?=ĳ (aj.Í i []):=by rw[ai,ae (by rw[O.br.len];show hi)];rfl
 rcases fY with rfl|rfl
 .let F:(lineOf aj i j 0).n=w:=jA O.br hi;let el:aj.Í i []=lineOf aj i j 0:=rfl;rw[el]at D;let hz:∀l:Ĵ ĵ,l.n<=100->l.n<=Ń:=λl h=>ax<|aF ye;calc%[rb|aU _ rb<|bZ ?_];calc%[13,p,G.b',dx,_,_,rb,hp,G.a'.cl,G.a'.nr,rb|%[6,pr,_,_,_,rb,rb,aM.of M,aQ<|jh D|?_]];generalize hL:lineOf aj i j 0=l at F D ⊢;calc%[rb|aU _ rb<|bZ ?_];calc%[43,_,rb,l,rb,hz _ ye,rb|?_];rw[Ma];calc%[11,_,rb,rb,by rw[a8];grind|λp1 N Y J=>?_];calc%[6,p1,_,_,_,rb,rb,aM.of au,aQ (j:=2) rb|?_];let s1:aA H (upd H p1<|.Ã [.À N,.À Y,.À (S<|cC<|l.Å j)]):=aA.è J;generalize upd H p1 (.Ã [.À N,.À Y,.À (S<|cC<|l.Å j)])=H1 at s1 ⊢;let t1:=kj<|l.Å j;let t2:=rJ<|l.Î j;rw[a8]at t1;rw[cn]at t2;calc%[43,_,rb,l,rb,hz _ ye,rb|?_];rw[xV];calc%[11,_,rb,rb,by rw[cn];show aw (nS _ _) ye|λp2 b2 c2 L=>?_];calc%[41,p2,_,_,_,rb,rb,aM.of au,aQ (j:=0) rb,_,_,rb,rb,ax<|aF (by grind)|?_];let s2:=s1.bH (o:=HO.Ã [.À (S<|cN<|l.Î j),.À b2,.À c2])<|s1.Ô L;calc%[33,_,rb,hz _ ye,_,_,rb,rb|?_];calc%[rb|aU _ rb<|bZ ?_];calc%[zsz 3|λt Z=>?_];show q t _ (s2.bH<|s2.Ô Z) (s2.Ô Z) (by rw[au,hL];rfl)
 .let F:(lineOf aj i j 1).n=r:=jA O.br hi;let el:dI aj j=lineOf aj i j 1:=rfl;let hz:∀l:Ĵ ĵ,l.n<=100->l.n<=Ń:=λl h=>ax<|aF ye;calc%[rb|aU _ rb<|bK ?_];calc%[13,p,G.b',dx,_,_,rb,hp,G.a'.cl,G.a'.nr,rb|%[45,pr,aj,r,w,j,rb,M,O.br,r9,w9,hj|λH0 s0=>?_]];rw[el];generalize hL:lineOf aj i j 1=l at F ⊢;calc%[rb|aU _ rb<|bK ?_];calc%[43,_,rb,l,rb,hz _ ye,rb|?_];rw[Ma];calc%[11,_,rb,rb,by rw[a8];lia|λp1 N Y J=>?_];calc%[6,p1,_,_,_,rb,rb,aM.of au,aQ (j:=2) rb|?_];let s1:aA H (upd H0 p1<|.Ã [.À N,.À Y,.À (S<|cC<|l.Å i)]):=s0.bH<|s0.Ô J;generalize upd H0 p1 (.Ã [.À N,.À Y,.À (S<|cC<|l.Å i)])=H1 at s1 ⊢;let t1:=kj<|l.Å i;let t2:=rJ<|l.Î i;rw[a8]at t1;rw[cn]at t2;calc%[43,_,rb,l,rb,hz _ ye,rb|?_];rw[xV];calc%[11,_,rb,rb,by rw[cn];lia|λp2 b2 c2 L=>?_];calc%[41,p2,_,_,_,rb,rb,aM.of au,aQ (j:=0) rb,_,_,rb,rb,ax<|aF ye|?_];let s2:=s1.bH (o:=HO.Ã [.À (S<|cN<|l.Î i),.À b2,.À c2])<|s1.Ô L;calc%[33,_,rb,hz _ ye,_,_,rb,rb|?_];calc%[rb|aU _ rb<|bK ?_];calc%[zsz 3|λt Z=>?_];show q t _ (s2.bH<|s2.Ô Z) (s2.Ô Z) (by rw[au,hL];rfl)
abbrev aR:=ĵ×ĵ×ĵ
def rk (t:aR):ĵ:=t.1*1000+t.2.1
def sw (t:aR):aR:=(t.2.1,t.1,t.2.2)
def Ao (t:aR):Prop:=t.1<9/\t.2.1<9/\t.2.2<128
def uN (H:Hp)(a:Ĺ)(t:aR):Prop:=H a=ĳ (.Ã [.R t.1,.R t.2.1,.À (S [t.2.2])])
def tO (H:Hp)(a:Ĺ):aR:=match H a with| some (.Ã [.R x,.R y,.À z])=>(x.Ö,y.Ö,z.ē.I.headD 0)| _=>(0,0,0)
def Gy (h:uN H a t):tO H a=t:=by unfold tO;rw[show H a=_ from h];rfl
structure cY (H:Hp)(as:Ĵ Ĺ)(ts:Ĵ aR):Prop where
 at_:∀a∈as,uN H a (tO H a)
 eq:as.Q (tO H)=ts
def cY.fG (k:∀a xs,H a=ĳ (.Ã xs)->H' a=ĳ (.Ã xs))(h:cY H as ts):cY H' as ts:=by let e:∀a∈as,tO H' a=tO H a:=λa ha=>Gy<|k a _<|h.č a ha;show%[λa ha=>by rw[e a ha];show k a _<|h.č a ha|by rw[<-h.eq];show du e]
def cY.mv (k:aA H H')(h:cY H as ts):cY H' as ts:=h.fG λa xs e=>k a _ e
def cO (q:H M=ĳ (.Ç ys)):∀a xs,H a=ĳ (.Ã xs)->upd H M (.Ç zs) a=ĳ (.Ã xs):=λa xs e=>by
 let ne:a≠M:=λz=>by rw[z,q]at e;cases e
 rw[bx ne];show e
def cY.snoc (h:cY H as ts)(ha:uN H a t):cY H (as++[a]) (ts++[t]):=by
 calc%[λb q=>?_|by rw[bg,h.eq,qV,Gy ha]];rcases a7.mp q with z|z;.show h.č b z
 .rw[av.mp z,Gy ha];show ha
def cY.nil:cY H [] []:=%[λa h=>by simp at h|rb]
def cY.len (h:cY H as ts):as.n=ts.n:=by rw[<-h.eq,aa]
def cY.get (h:cY H as ts)(hi:i<as.n):∃t,ts[i]?=ĳ t/\uN H as[i] t:=%[0,tO H as[i],by rw[<-h.eq];simp[hi]|h.č _<|aI _]
def cY.perm {as as':Ĵ Ĺ}(h:cY H as ts)(p:as'.ú as):cY H as' (as'.Q<|tO H)/\(as'.Q<|tO H).ú ts:=%[%[λa ha=>h.č a<|p.õ.mp ha|rb]|by rw[<-h.eq];show p.Q _]
def bC (aj:AA)(w:ĵ):Ĵ (Ĵ ĵ):=(List.æ w).Q (dI aj)
def jd {r w:ĵ}{aj:AA}(h:Blk r w aj):Blk w r (bC aj w):=
 %[by unfold bC;rw[aa,ej]|λl q=>by let(j,_,rfl):=ar.mp q;unfold dI;rw[aa,h.len]]
def yH {r w:ĵ}{aj:AA}(h:Blk r w aj){D:ĵ->Prop}(hp:∀l∈aj,∀c∈l,D c):∀l∈bC aj w,∀c∈l,D c:=λl F c G=>by let(j,B,rfl):=ar.mp F;let(l',q,rfl):=ar.mp G;let hw:=h.gW l' q;rw[ai,ae (by simp_all)];show hp l' q _<|aI _
def Aq {r w:ĵ}{aj:AA}(h:Blk r w aj):bC (bC aj w) r=aj:=by
 apply pi;.unfold bC;rw[aa,ej,h.len]
 .intro i h1 q;rw[show (bC (bC aj w) r)[i]=dI (bC aj w) i by simp[bC]];unfold dI bC;rw[cp];apply pi;.rw[aa,ej,(h.gW aj[i]<|aI _)]
  .intro j D B;rw[uv,List.getElem_range];show (aj.Q λl=>l.Í j 0).Í i 0=aj[i][j];rw[ai,ae (by rw[aa];show q),uv];rw[ai,ae B];rfl
def NT {r w:ĵ}{aj aH:AA}{bi bj:ĵ}(B:vM r w aj aH bi bj):vM w r (bC aj w) (bC aH w) bj bi:=%[B.w1,B.w9,B.r1,B.r9,jd B.br,jd B.bm,yH B.br B.cr,yH B.bm B.cm,B.bj|B.bi]
def setAt (R:AA)(i j z:ĵ):Ĵ (Ĵ ĵ):=R.Ď i ((R.Í i []).Ď j z)
def bf (R:AA)(ts:Ĵ aR):Ĵ (Ĵ ĵ):=ts.foldl (λR t=>setAt R t.1 t.2.1 t.2.2) R
def Io {r w:ĵ}{R:AA}(h:Blk r w R){i j z:ĵ}(hi:i<r):Blk r w (setAt R i j z):=by
 calc%[by unfold setAt;rw[qr,h.len]|λl q=>?_];rcases sv q with y|y;.show h.gW l y
 .rw[y,qr,ai,ae (by rw[h.len];show hi)];show h.gW _<|aI _
def acE {r w:ĵ}{R:AA}(h:Blk r w R){i j z:ĵ}(hi:i<r){B:ĵ->Prop}(hp:∀l∈R,∀c∈l,B c)(hz:B z):∀l∈setAt R i j z,∀c∈l,B c:=λl D c q=>by
 rcases sv D with y|y;.show hp l y c q
 .rw[y]at q;rcases sv q with u|u
  .rw[ai,ae (by rw[h.len];show hi)]at u;show hp _ (aI _) c u
  .rw[u];show hz
def inB (r w:ĵ)(t:aR):Prop:=t.1<r/\t.2.1<w/\vL t.2.2
theorem gq {r w:ĵ}:∀{ts:Ĵ aR} {R:AA},Blk r w R->(∀t∈ts,inB r w t)->Blk r w (bf R ts)
 | [],_,h,_=>h
 | t::ts,_,h,k=>gq (ts:=ts) (Io h (k t aS).1) λx hx=>k x (aE _ hx)
theorem yI {r w:ĵ}:∀{ts:Ĵ aR} {R:AA},Blk r w R->(∀t∈ts,inB r w t)->(∀l∈R,∀c∈l,zf c)->∀l∈bf R ts,∀c∈l,zf c
 | [],_,_,_,g=>g
 | t::ts,_,h,k,g=>yI (ts:=ts) (Io h (k t aS).1) (λx hx=>k x<|aE _ hx) (acE h (k t aS).1 g<|.Ó (k t aS).2.2)
def aad {r w:ĵ}{aj aH:AA}{bi bj:ĵ}(B:vM r w aj aH bi bj)(k:∀t∈ts,inB r w t):vM r w (bf aj ts) aH bi bj:=%[B.r1,B.r9,B.w1,B.w9,gq B.br k,B.bm,yI B.br k B.cr,B.cm,B.bi|B.bj]
def J0 (R)(ts:Ĵ aR)(t:aR):bf R (ts++[t])=setAt (bf R ts) t.1 t.2.1 t.2.2:=by unfold bf;rw[List.foldl_append];rfl
structure gJ (H0 H:Hp)(ps:Ĵ Ĺ)(R:AA):Prop where
 len:ps.n=R.n
 nd:ps.Ý
 fr:∀p∈ps,H0 p=ĺ
 at_:∀(i:ĵ) (h:i<ps.n),H ps[i]=ĳ (.Ç<|Ts<|ones<|R.Í i [])
def gJ.mv (h:gJ H0 H ps R)(k:∀p∈ps,H' p=H p):gJ H0 H' ps R:=%[h.Ċ,h.nd,h.fr|λi hi=>by rw[k _ (aI _)];show h.č i hi]
def gJ.mvS (h:gJ H0 H ps R)(k:aA H H'):gJ H0 H' ps R:=%[h.Ċ,h.nd,h.fr|λi hi=>k _ _<|h.č i hi]
def gJ.snoc (h:gJ H0 H ps R)(hn:p∉ps)(B:H0 p=ĺ)(hp:H p=ĳ (.Ç<|Ts<|ones l)):gJ H0 H (ps++[p]) (R++[l]):=by
 refine%[by simp[h.len],?_,λx hx=>?_|λi hi=>?_]
 .rw[List.nodup_append];calc%[h.nd,yf|λa ha b q=>?_];rw[av.mp q];show λz=>hn<|z ▸ ha
 .rcases a7.mp hx with z|z;.show h.fr x z
  .rw[av.mp z];show B
 .by_cases c:i<ps.n;.rw[List.getElem_append_left c,h.č i c,ai,ai,fc (by rw[<-h.len];show c)]
  .let e:i=ps.n:=by simp at hi;lia
   subst e;rw[List.getElem_append_right (ah _)];simp only[o0,List.getElem_singleton];rw[hp,ai,dC (by rw[h.len];show ah _),h.len];simp
def gJ.set (h:gJ H0 H ps R)(hi:i<ps.n):gJ H0 (upd H ps[i]<|.Ç<|(Ts<|ones<|R.Í i []).Ď j<|.À<|S [z]) ps (setAt R i j z):=by
 let e:(Ts<|ones<|R.Í i []).Ď j (.À<|S [z])=Ts (ones<|(R.Í i []).Ď j z):=by show List.Ď (((R.Í i []).Q λc=>[c]).Q λl=>V.À<|S l) j (V.À<|S [z])=((List.Ď (R.Í i []) j z).Q λc=>[c]).Q λl=>V.À (S l);rw[List.map_set,List.map_set]
 rw[e];calc%[by unfold setAt;rw[qr];show h.Ċ,h.nd,h.fr|λk hk=>?_];by_cases c:k=i
 .subst c;rw[au];unfold setAt;rw[ai (l:=R.Ď _ _),l_ (by rw[<-h.len];show hi)];rfl
 .rw[bx (λz=>c<|(List.getElem_inj h.nd).mp z),h.č k hk];unfold setAt;rw[ai (l:=R.Ď _ _),oz (λz=>c z.Ù),<-ai]
def ag4:Sp:=λvs H Q _=>∃(p:Addr) (aj:AA) (r w:Nat),vs=[.C p]/\H p=ĳ (.Ã<|Ts aj)/\Blk r w aj/\1<=r/\r<=9/\w<=9/\∀(p':Ĺ) (H':Hp),aA H H'->H' p'=ĳ (.Ã<|Ts<|bC aj w)->Q (.C p') H'
def w6 (G:GG K mg):DF P w K mg base nZ 2 ag4:=by
 calc G.aa'.cQ wW λf bw A outer s H vs Q E Y h=>?_;let(p,aj,r,w,rfl,hp,J,r1,r9,w9,q):=h;calc%[0,_,(aD<|aY<|c7 dU yk G.e' di<|ak (fU rb (fQ.of wW.nd ym) (jr yk G.h'<|ak (aO cP yk G.c' bE<|ak (bB bY aG aC λ_ _=>rfl) aq) aq) (λ_ _ _ _ _=>cF) λ_ _ _ _ _=>(aV (wZ G) Y.Ø rb<|ak aW<|ak aG aq)) aq)|?_];let h0:0<aj.n:=by rw[J.len];show r1
 let O:aj[0].n=w:=J.gW _<|aI _;calc%[25,p,_,_,.À<|S aj[0],rb,rb,aM.of hp|%[23,aQ (j:=0)<|jh (by simp[h0]),_,rb,ax<|aF ye|%[11,_,rb,cz _,ye|?_]]];intro M N;rw[O];refine Fp (lo:=0) (n:=w) (λi ys D=>ys=Ts ((List.æ i).Q<|dI aj)/\D M=ĳ (.Ç ys)/\aA H D) %[rb,au|aA.è N] ?_ ?_
 .intro i ys D hi z;let(rfl,F,B):=z;calc%[45,p,aj,r,w,i,by rw[ng];rfl,B _ _ hp,J,r9,w9,hi|λH3 L=>%[L _ _ F,?_|dz.mk hi %[?_,au|(B.Z L).bH N]]];.rw[aa,aa,ej];show aF ye
  .rw[j7,fw,bg];rfl
 .intro ys D z;let(rfl,F,B):=z;calc%[3,M,_,rb|.Â %[aP.of F|λl Z=>?_]];show q l _ (B.bH<|B.Ô Z) au
def aae (C:Ĺ):Sp:=λvs H Q _=>∃(p:Addr) (r w:Nat) (aj aH:AA) (bi bj:Nat),vs=[.C p]/\dj C H p r w aj aH bi bj/\∀(p':Ĺ) (H':Hp),aA H H'->dj C H' p' w r (bC aj w) (bC aH w) bj bi->Q (.C p') H'
def Xr (G:GG K mg):MF P w K mg base G.s' 8 (aae G.b'):=by
 calc G.s'.F.cQ vq ?_;intro bw A outer s H vs Q E hr h;let(p,r,w,aj,aH,bi,bj,rfl,BA,q):=h;let((dx,pr,pm,pb,hx,hpr,Y,D),B):=BA;calc%[0,_,(aB (aZ (i:=1) vq.nd rb (Or.Â rb)<|cI<|ak (bB bY (dF aG rb) aC λ_ _=>rfl)<|ak (bB bY (dF aG rb) aC λ_ _=>rfl) aq)<|aD<|aY<|Bq (G.m'.mks G.w') (rP G) hr.Ø rb G.v' G.m'.b .Ü f9<|ak (aV (w6 G) hr.Ø rb<|ak (dF aG rb) aq)<|ak (aV (w6 G) hr.Ø rb<|ak (dF aG rb) aq)<|ak aW aq)|?_];calc%[13,p,G.b',dx,_,_,rb,hx,G.a'.cl,G.a'.nb,rb|%[6,pb,_,_,.R bj,rb,rb,aM.of D,aQ (j:=1) rb|?_]];calc%[13,p,G.b',dx,_,_,rb,hx,G.a'.cl,G.a'.nb,rb|%[18,pb,_,_,.R bi,rb,rb,aM.of D,aQ (j:=0) rb,zsz 2|λb hb=>?_]];let s1:aA H (upd H b<|.Ã [.R bj,.R bi]):=aA.è hb;calc%[13,p,G.b',dx,_,_,rb,s1 _ _ hx,G.a'.cl,G.a'.nr,rb|%[47,pr,aj,r,w,rb,s1 _ _ hpr,B.br,B.r1,B.r9,B.w9|λp1 H1 t1 h1=>?_]];let s2:=s1.Z t1;calc%[13,p,G.b',dx,_,_,rb,s2 _ _ hx,G.a'.cl,G.a'.nm,rb|%[47,pm,aH,r,w,rb,s2 _ _ Y,B.bm,B.r1,B.r9,B.w9|λp2 L J h2=>?_]];let s3:=s2.Z J;calc(λx M nx ndx nex=>?_);let O:aA L (upd (upd L M<|HO.own x) x<|HO.ins G.b' M []):=λb o e=>by rw[bx (bU e nx),bx (bU e ndx)];show e
 let F:L b=ĳ (.Ã [.R bj,.R bi]):=J _ _<|t1 _ _ au;calc%[5,x,M|%[9,p1,p2,b|%[29,w,r,bC aj w,bC aH w,bj,bi,rb,au,O _ _<|J _ _ h1,O _ _ h2,O _ _ F,NT B|λH3 kp Z=>%[rb|?_]]]];let N:aA L H3:=λb o e=>kp b o (O b o e)<|bU e nx;show q x H3 (s3.Z N) %[%[25,M,p1,p2,b,Z,N _ _<|J _ _ h1,N _ _ h2|N _ _ F]|NT B]
def aeQ (C:Ĺ):Sp:=λvs H Q _=>∃(p t:Addr) (as:Ĵ Ĺ) (ts:Ĵ aR) (r w:Nat) (aj aH:AA) (bi bj:Nat),vs=[.C p,.C t]/\dj C H p r w aj aH bi bj/\H t=ĳ (.Ã<|as.Q V.C)/\cY H as ts/\(∀t∈ts,inB r w t)/\
 ∀(p':Ĺ) (H':Hp),aA H H'->dj C H' p' r w (bf aj ts) aH bi bj->Q (.C p') H'
def Cw (G:GG K mg):MF P w K mg base G.k' 8 (aeQ G.b'):=by
 calc G.k'.F.cQ jq ?_;intro bw A outer s H vs Q E hr h;let(p,t,as,ts,r,w,aj,aH,bi,bj,rfl,BA,ht,hL,cJ,q):=h;let((dx,pr,pm,pb,hx,hpr,hpm,hpb),B):=BA;let r9:=B.r9;let w9:=B.w9;let O:=B.br;calc%[0,_,(aB (QM (ix:=2) (ns:=["row"]) jq.nd rb (Or.Â rb) rb (fu.of ["self","laying","lines",".3","column","sign"] [3] ym) (fJ<|dF aG rb) (λ_ _ _ _ _=>(tE (show (["row","self","laying","lines",".3","column","sign"]:Ĵ Ŋ).Ý by decide +kernel) rb yk)) (λ_ _ _ _ _=>cF) λ_ _ _ _ _=>(c7 (xW rb) yk G.r' nV<|ak aG aq))<|aB (cW b4 rb (fJ aW) (jV rb<|bO (bD (i:=3) jq.nd rb<|Or.Â rb)<|bO (bD (i:=4) jq.nd rb<|Or.Â rb)<|bO (bD (i:=5) jq.nd rb<|Or.Â rb) g_)<|aD<|adt cB<|adZ (bB iR bh bG λ_ _=>rfl) bV set_list)<|aD<|aY<|Bq (G.m'.mks G.w') (rP G) hr.Ø rb G.v' G.m'.b .Ü f9<|ak (c7 dU yk G.e' di<|ak (fU rb (fQ.of jq.nd ym) (dh bh) (λ_ _ _ _ _=>cF) λ_ _ _ _ _=>(V4 K bv e_ fb (Y_ K) (b_ [] yn)<|ak aG aq)) aq)<|ak (dF aG rb)<|ak (dF aG rb) aq)|?_];refine%[32,p,G.b',dx,_,_,rb,hx,G.a'.cl,G.a'.nr|%[23,rb,pr,rb,%[_|aM.of hpr]|λM hM=>Tq (f:=eF [3] 0) (tt:=gb) (xs:=Ts aj) (λi ys H2=>∃ps:Ĵ Ĺ,ys=ps.Q V.C/\H2 M=ĳ (.Ç ys)/\aA H H2/\gJ H H2 ps (aj.Å i)/\M∉ps)
  %[15,[],rb,au,aA.è hM,%[yf,oC,λp h=>by simp at h|λi h=>by simp at h]|yf] (λi ys H2 _ h=>by let(_,_,_,L,_):=h;show aM.of<|L _ _ hpr) ?_ ?_]]
 .intro i x ys H2 hi z;let(ps,rfl,xg,L,zj,nM):=z;let(l,hl,rfl):=nO hi;let NP:l.n=w:=O.gW _<|a5 hl;let iZ:(Ts aj).n=r:=by rw[aa,O.len]
  let hpl:ps.n<=9:=by rw[zj.len,a8,O.len];lia
  calc aaY %[2,l,rb,ye|λc hc=>?_];let ncM:M≠c:=λz=>by rw[<-z,xg]at hc;cases hc
  let ncp:c∉ps:=λz=>by let(k,hk,e):=cE.mp z;have:=zj.č k hk;rw[e,hc]at this;cases this
  refine%[by rw[bx ncM];show xg,by rw[aa];show aF ye|dz.mk ((ap.mp hi).1) %[15,ps++[c],yf,au,(L.bH<|L.Ô hc).bH hM,?_|?_]]
  .rw[show aj.Å (i+1)=aj.Å i++[l] by rw[bu,hl];rfl];calc gJ.mv ((zj.mvS<|aA.è hc).snoc ncp (L.Ô hc) au) λy hy=>bx λz=>?_;rcases a7.mp hy with u|u
   .show nM<|z ▸ u
   .show ncM<|z.Ù.Z<|av.mp u
  .intro z;rcases a7.mp z with u|u;.show nM u
   .show ncM<|av.mp u
 .intro ys H2 z;let(ps,rfl,xg,L,zj,nM):=z;rw[cw (by rw[aa];show ah _)]at zj;refine%[2,t,rb,%[_|aM.of<|L _ _ ht]|qp (K:=K) (a:=t) (xs:=as.Q V.C) (λi I H3=>∃v3 v4 v5:ĸ V,I=[ĳ (.C p),ĳ (.C t),ĳ (.C M),v3,v4,v5]/\aA H H3/\H3 M=ĳ (.Ç<|ps.Q V.C)/\gJ H H3 ps (bf aj<|ts.Å i))
   %[8,ĺ,ĺ,ĺ,rb,L,xg|zj] (λi I H3 _ h=>by let(_,_,_,_,L,_):=h;show aM.of<|L _ _ ht) ?_ ?_]
  .intro i x I H3 D z;let(v3,v4,v5,rfl,F,Xu,J):=z;rw[ba]at D;let hi:i<as.n:=by
    rcases fv i as.n with z|z;.show z
    .rw[c9 z]at D;cases D
   rw[ae hi]at D;let D:V.C as[i]=x:=bd D;subst D;let(u,eu,hU):=hL.get hi;let(u1,u2,u3):=cJ u (a5 eu);let hb3:Blk r w (bf aj<|ts.Å i):=gq O λy hy=>cJ y<|eL hy;let hpl:ps.n=r:=by rw[J.len,hb3.len]
   let hps:u.1<ps.n:=by simp_all
   calc%[1,as[i],_,rb,aM.of<|F _ _ hU|%[16,rb,_,_,rb|%[5,_,_|%[17,rb,_,_,rb,rb|?_]]]];refine%[6,M,_,_,.C ps[u.1],rb,rb,aP.of Xu,aQ (by simp[hps])|%[6,ps[u.1],_,_,u.2.1,rb,rb,J.č u.1 hps,?_|?_]]
   .have:((bf aj<|ts.Å i).Í u.1 []).n=w:=by
     rw[ai,ae (by rw[hb3.len];show u1)];show hb3.gW _<|aI _
    unfold C_;rw[aa,aa,this,Ŀ (ie eJ u2)];congr 1
   .refine%[8,_,_,_,rb,F.bH<|J.fr _<|aI _,?_|?_]
    .let ne:M≠ps[u.1]:=λz=>nM (by rw[z];show aI _)
     rw[bx ne];show Xu
    .rw[show bf aj (ts.Å<|i+1)=setAt (bf aj<|ts.Å i) u.1 u.2.1 u.2.2 by rw[bu,eu];show J0 _ _ _];show J.Ď hps
  .intro I H3 z;let(v3,v4,v5,rfl,F,Xu,J):=z;rw[cw (by rw[aa,hL.len];show ah _)]at J;let B':=aad B cJ;let hpl:ps.n=r:=by rw[J.len,B'.br.len]
   refine%[2,M,rb,%[_|aP.of Xu]|λN hN=>oU (xs:=ps.Q V.C) (λi ys H4=>ys=Ts ((bf aj ts).Å i)/\H4 N=ĳ (.Ç ys)/\aA H3 H4) %[rb,au|aA.è hN] (λi ys H4 _ h=>aP.of<|h.2.2 _ _ Xu) ?_ ?_]
   .intro i x ys H4 hi z;let(rfl,Z,Xv):=z;rw[ba]at hi;let Y:i<ps.n:=by
     rcases fv i ps.n with z|z;.show z
     .rw[c9 z]at hi;cases hi
    rw[ae Y]at hi;let hi:V.C ps[i]=x:=bd hi;subst hi;let hri:i<(bf aj ts).n:=by rw[<-J.len];show Y
    let hg:(bf aj ts).Í i []=(bf aj ts)[i]:=by rw[ai,ae hri];rfl
    let hat:=J.č i Y;rw[hg]at hat;calc%[rb|%[28,ps[i],ones (bf aj ts)[i],rb,rb,aP.of<|Xv _ _ hat,by rw[lq,(B'.br.gW _<|aI _)];lia,Z,?_|dz.mk (by rw[aa];show Y) %[?_,au|Xv.bH hN]]];.rw[aa,a8];show aF (by grind)
    .rw[lq,j7,bu,ae hri];rfl
   .intro ys H4 z;let(rfl,Z,Xv):=z;rw[cw (by rw[aa,J.len];show ah _)]at Z;calc%[3,N,_,rb|.Â %[aP.of Z|λl hl=>?_]];let s5:=(F.Z Xv).bH (o:=.Ã (Ts<|bf aj ts))<|(F.Z Xv).Ô hl;calc%[13,p,G.b',dx,_,_,rb,s5 _ _ hx,G.a'.cl,G.a'.nm,rb|%[13,p,G.b',dx,_,_,rb,s5 _ _ hx,G.a'.cl,G.a'.nb,rb|λx dy nx ndx nex=>?_]];let s6:aA (upd H4 l<|.Ã<|Ts<|bf aj ts) (upd (upd (upd H4 l<|.Ã<|Ts<|bf aj ts) dy<|HO.own x) x<|HO.ins G.b' dy []):=λb o e=>by rw[bx (bU e nx),bx (bU e ndx)];show e
    calc%[5,x,dy|%[9,l,pm,pb|%[29,r,w,bf aj ts,aH,bi,bj,rb,au,s6 _ _ au,s6 _ _<|s5 _ _ hpm,s6 _ _<|s5 _ _ hpb,B'|λH5 kp hx5=>%[rb|?_]]]];let s7:aA (upd H4 l<|.Ã<|Ts<|bf aj ts) H5:=λb o e=>kp b o (s6 b o e)<|bU e nx;show q x H5 (s5.Z s7) %[%[25,dy,l,pm,pb,hx5,s7 _ _ au,s7 _ _<|s5 _ _ hpm|s7 _ _<|s5 _ _ hpb]|B']
def aaf {l:Ĵ ĵ}(h1:low<=k)(hk:k<=l.n)(B:∀m,low<=m->m<k->l[m]?≠ĳ 46)(F:low=0\/l[low-1]?=ĳ 46):cC (l.Å k)=(l.Å k).Î low:=by
 rcases F with e|e
 .subst e;calc u9 λhm=>?_;let(m,hm):=mx.mp hm;let q:m<(l.Å k).n:=(ap.mp hm).1;rw[a8]at q;show B m (b5 _) (by simp_all) (by rw[kM,Ŀ ye]at hm;show hm)
 .by_cases D:low=0
  .subst D;calc u9 λhm=>?_;let(m,hm):=mx.mp hm;let q:m<(l.Å k).n:=(ap.mp hm).1;rw[a8]at q;show B m ye ye (by rw[kM,Ŀ ye]at hm;show hm)
  .have:=DR (l:=l.Å k) (i:=low-1) (by rw[kM,Ŀ (b6 ye ye)];show e) (λm hm z=>by
    let q:m<(l.Å k).n:=(ap.mp z).1;rw[a8]at q;rw[kM,Ŀ ye]at z;show B m ye ye z)
   rw[this,show low-1+1=low by lia]
def Xw {l:Ĵ ĵ}(h1:k<=high)(hk:high<=l.n)(B:∀m,k<=m->m<high->l[m]?≠ĳ 46)(D:high=l.n\/l[high]?=ĳ 46):cN (l.Î k)=(l.Î k).Å (high-k):=by
 rcases D with e|e
 .rw[cw (by simp_all)];calc uZ λhm=>?_;let(m,hm):=mx.mp hm;let q:m<(l.Î k).n:=(ap.mp hm).1;rw[f6]at hm;show B (k+m) (kc _ _) (by simp[cy,c6]at *;lia) hm
 .refine uf (by rw[f6,show k+(high-k)=high from ga h1];show e) λm hm z=>?_
  rw[f6]at z;show B (k+m) ye (by simp[cy,c6]at *;lia) z
def uO (l:Ĵ ĵ)(m:ļ):ĵ:=if 0<=m/\m<l.n then l.Í m.Ö 0 else 46
def tL {l:Ĵ ĵ}(h:m<l.n):uO l (m:ļ)=l[m]:=by unfold uO;rw[Ŀ %[cz _|ie eJ h],b3,ai,ae h];rfl
def NZ {l:Ĵ ĵ}{m:ļ}(h:¬(0<=m/\m<l.n)):uO l m=46:=ŀ h
def RD {r w:ĵ}{aj:AA}(F:Blk r w aj){i j:ĵ}(hi:i<r)(J:j<w){way:ļ}(hw:way=0\/way=1)(t:ļ):atC aj r w ((i:ļ)+t*way) ((j:ļ)+t*(1-way))=uO (lineOf aj i j way) ((placeOf i j way:ĵ)+t):=by
 let q:=jA F hi (j:=j) (way:=way);rcases hw with rfl|rfl
 .unfold atC uO;rw[q];let D:(i:ļ)+t*0=i:=ye;let B:(j:ļ)+t*(1-0)=j+t:=ye;rw[D,B];show (if _ then _ else _)=(if 0<=(j:ļ)+t/\(j:ļ)+t<w then _ else _)
  by_cases h:0<=(j:ļ)+t/\(j:ļ)+t<w;.rw[Ŀ h,Ŀ %[ye,ie eJ hi,h.1|h.2],b3];rfl
  .rw[ŀ h,ŀ (λz=>h %[z.2.2.1|z.2.2.2])]
 .unfold atC uO;rw[q];rw[(show (i:ļ)+t*1=i+t from ye),(show (j:ļ)+t*(1-1)=j from ye)];show (if _ then _ else _)=(if 0<=(i:ļ)+t/\(i:ļ)+t<r then _ else _)
  by_cases h:0<=(i:ļ)+t/\(i:ļ)+t<r
  .rw[Ŀ h,Ŀ %[h.1,h.2,ye|ye]];show (aj.Í ((i:ļ)+t).Ö []).Í j 0=(aj.Q λl=>l.Í j 0).Í ((i:ļ)+t).Ö 0;let G:((i:ļ)+t).Ö<aj.n:=by rw[F.len];simp_all
   rw[ai (l:=aj),ai (l:=aj.Q λl=>l.Í j 0),ba,ae G];rfl
  .rw[ŀ h,ŀ (λz=>h %[z.1|z.2.1])]
def af_ {r w:ĵ}{aj:AA}(q:Blk r w aj){i j:ĵ}(hi:i<r)(B:j<w){way:ļ}(hw:way=0\/way=1)(t:ļ):atC aj r w ((i:ļ)-t*way) ((j:ļ)-t*(1-way))=uO (lineOf aj i j way) ((placeOf i j way:ĵ)-t):=by have:=RD q hi B hw<|-t;rw[show (i:ļ) + -t*way=(i:ļ)-t*way by rw[Int.neg_mul];rfl,show (j:ļ) + -t*(1-way)=(j:ļ)-t*(1-way) by rw[Int.neg_mul];rfl]at this;show this
def cZ (l:Ĵ ĵ)(k c:ĵ):Ĵ ĵ:=(cC<|l.Å k).Q PyProof.â.ě++c::(cN<|l.Î<|k+1).Q PyProof.â.ě
def aga (K:W.Ê):Sp:=λvs H Q _=>∃(p:Addr) (aj:AA) (r w:Nat) (i j:Int),vs=[.C p,.R i,.R j]/\aM K H p (Ts aj)/\Blk r w aj/\1<=r/\r<=9/\w<=9/\Q (.À<|S [atC aj r w i j]) H
def iK (M:GG K mg):DF P w K mg base Uq 1 (aga K):=by
 calc M.bh'.cQ af2 λf bw A outer s H vs Q E Y h=>?_;let(p,aj,r,w,i,j,rfl,hp,F,r1,r9,w9,q):=h;let Z:(Ts aj).n=r:=by rw[aa,F.len]
 let O:0<aj.n:=by rw[F.len];show r1
 let N:aj[0].n=w:=F.gW _<|aI _;calc%[0,_,(aB (cg (QW.qt<|Ez (oK kI Bm aC aW<|aO cu yk M.c' bE<|ak aG aq)<|Bj<|oK kI Bm aC bh<|aO cP yk M.c' bE<|ak (bB bY aG aC λ_ _=>rfl) aq) (aD<|aY<|bB vR (bB bY aG aW λ_ _=>rfl) bh λ_ _=>rfl) bI)<|aD<|aY<|b_ [46] yn)|?_];let out:¬(0<=i/\i<r/\0<=j/\j<w)->Q (.À<|S [46]) H:=λz=>by let e:atC aj r w i j=46:=ŀ z;rw[e]at q;show q
 calc%[1,_,_,rb,rb|aU _ rb ?_];by_cases h1:0<=i
 .calc jT9 h1 %[22,p,_,rb,.Ó hp,_,_,rb,rb|aU _ rb ?_];rw[Z];by_cases B:i<(r:ļ)
  .calc jT9 B %[1,_,_,rb,rb|aU _ rb ?_];by_cases J:0<=j
   .calc jT9 J %[6,p,_,_,.À<|S aj[0],rb,rb,hp,aQ (j:=0)<|jh (by simp[O])|%[33,_,rb,ax<|aF ye,_,_,rb,rb|aU _ rb ?_]];rw[N];by_cases G:j<(w:ļ)
    .rw[am G];rw[(show atC aj r w i j=(aj.Í i.Ö []).Í j.Ö 0 from Ŀ %[h1,B,J|G])]at q;obtain⟨i,rfl⟩:∃k:Nat,i=k:=%[i.Ö|ye]
     obtain⟨j,rfl⟩:∃k:Nat,j=k:=%[j.Ö|ye]
     let hi:i<aj.n:=by rw[F.len];show Iff.mp eJ B
     let D:aj[i]?=ĳ (aj.Í i []):=by rw[ai,ae hi];rfl
     let hw:(aj.Í i []).n=w:=F.gW _<|a5 D;let L:(aj.Í i [])[j]?=ĳ ((aj.Í i []).Í j 0):=by rw[ai (l:=aj.Í i []),ae (by simp_all)];rfl
     show bZ %[6,p,_,_,_,rb,rb,hp,aQ<|jh D|%[7,_,_,_,rb,rb,ax<|aF ye,aQ L|q]]
    .show jF9 G<|out λz=>G z.2.2.2
   .show jF9 J<|out λz=>J z.2.2.1
  .show jF9 B<|bK<|out λz=>B z.2.1
 .show jF9 h1<|out λz=>h1 z.1
def RG {r w:ĵ}{aj:AA}(cr:∀l∈aj,∀c∈l,zf c){i j:ĵ}{way:ļ}(F:Blk r w aj)(G:j<w):∀c∈lineOf aj i j way,zf c:=λc q=>by
 unfold lineOf at q;split at q
 .rw[ai]at q;cases e:aj[i]? with| none=>rw[e]at q;simp at q| some l=>rw[e]at q;show cr l (a5 e) c q
 .let(l,D,rfl):=ar.mp q;let B:j<l.n:=by rw[F.gW l D];show G
  rw[ai,ae B];show cr l D _<|aI _
def GC (h:zf c):c<128:=by
 rcases h with e|e;.rw[e];decide
 .show e.lt
def acF:Sp:=λvs H Q _=>∃(p:Addr) (aj:AA) (r w i j c:Nat) (way:Int),vs=[.C p,.R i,.R j,.R way,.À (S [c])]/\H p=ĳ (.Ã<|Ts aj)/\Blk r w aj/\1<=r/\r<=9/\w<=9/\(∀l∈aj,∀c∈l,zf c)/\i<r/\j<w/\(way=0\/way=1)/\
 Q (.À<|S<|cZ (lineOf aj i j way) (placeOf i j way) c) H
def N5 (Gz:GG K mg):DF P w K mg base Cr 2 acF:=by
 calc Gz.bj'.cQ mH ?_;(intro f bw A outer s H vs Q E hr h);let(p,aj,r,w,i,j,c,way,rfl,hp,L,r1,r9,w9,cr,hi,hj,Y,q):=h;let N:=jA L hi (j:=j) (way:=way);let hk:placeOf i j way<(lineOf aj i j way).n:=by rw[N];unfold placeOf;split <;> assumption
 let hl9:(lineOf aj i j way).n<=9:=by rw[N];split <;> assumption
 let F:=af_ L hi hj Y;let G:=RD L hi hj Y;let J1:=RG cr (i:=i) (way:=way) L hj;let M:∀m,uO (lineOf aj i j way) m<128:=λm=>by
  unfold uO;split
  .rename_i h;rw[ai,ae (by simp_all)];show GC<|J1 _<|aI _
  .decide
 generalize lineOf aj i j way=l at hk hl9 F G M q;generalize placeOf i j way=k at hk F G q;let hz:∀n,n<=100->n<=Ń:=λn h=>ax<|aF ye;calc%[0,_,(aB (aZ (i:=5) mH.nd rb (Or.Â rb) bV)<|aB (aZ (i:=6) mH.nd rb (Or.Â rb) aC)<|aB (rF<|Dw b4 (bN mC (aV (iK Gz) hr.Ø rb<|ak aG<|ak (aN fD aW<|aN gP cM bG)<|ak (aN fD bh<|aN gP cM<|aN fD aC bG) aq) (b_ [46] yn)<|bR _)<|aB (aZ (i:=5) mH.nd rb (Or.Â rb)<|aN lG (pC bv gr gt pH<|aV (iK Gz) hr.Ø rb<|ak aG<|ak (aN fD aW<|aN gP cM bG)<|ak (aN fD bh<|aN gP cM<|aN fD aC bG) aq) cB)<|aD<|aZ (i:=6) mH.nd rb (Or.Â rb)<|aN cT cM aC)<|aB (aZ (i:=6) mH.nd rb (Or.Â rb) aC)<|aB (rF<|Dw b4 (bN mC (aV (iK Gz) hr.Ø rb<|ak aG<|ak (aN cT aW<|aN gP cM bG)<|ak (aN cT bh<|aN gP cM<|aN fD aC bG) aq) (b_ [46] yn)<|bR _)<|aB (aZ (i:=5) mH.nd rb (Or.Â rb)<|aN lG cB<|pC bv gr gt pH<|aV (iK Gz) hr.Ø rb<|ak aG<|ak (aN cT aW<|aN gP cM bG)<|ak (aN cT bh<|aN gP cM<|aN fD aC bG) aq)<|aD<|aZ (i:=6) mH.nd rb (Or.Â rb)<|aN cT cM aC)<|aD<|aY cB)|?_];let hS:=aM.of (K:=K) hp;calc ?_;refine%[λI H'=>H'=H/\∃v6:ĸ V,I=[ĳ (.C p),ĳ (.R i),ĳ (.R j),ĳ (.R way),ĳ (.À<|S [c]),ĳ (.À<|S<|(cC<|l.Å k).Q PyProof.â.ě++[c]),v6],?_|?_]
 .refine%[λm I H'=>H'=H/\∃t:Nat,t<=k/\m=k-t/\I=[ĳ (.C p),ĳ (.R i),ĳ (.R j),ĳ (.R way),ĳ (.À<|S [c]),ĳ (.À<|S<|((l.Å k).Î<|k-t).Q PyProof.â.ě++[c]),ĳ (.R<|(t:ļ)+1)]/\∀x,k-t<=x->x<k->l[x]?≠ĳ 46,
   %[43,k,rb,0,ye,rb,?_|λx h1 Z=>(ń Z<|Nat.not_lt_of_ge h1)]|?_]
  .rw[Nat.sub_zero,rc (by rw[a8];show on _ _)];rfl
  intro m I H' z;let(rfl,t,ht,rfl,rfl,hx):=z;calc%[3,_,_,rb|%[19,rb,.Ó ⟨by rcases Y with e|e <;> rw[e] <;> decide,by rcases Y with e|e <;> rw[e] <;> decide⟩,_,_,rb,rb|%[22,_,_,rb,rb,_,_,rb,rb|%[17,.Ó ⟨by rcases Y with e|e <;> rw[e] <;> decide,by rcases Y with e|e <;> rw[e] <;> decide⟩,_,_,rb,rb|%[34,p,aj,r,w,_,_,rb,hS,L,r1,r9|%[17,w9,_,_,rb,rb|aU _ rb ?_]]]]]];rw[F];by_cases B:uO l ((k:ļ)-((t:ļ)+1))=46
  .rw[B,am rfl];calc bK %[10,rb,ĳ<|.R<|(t:ļ)+1|?_];let h3:k-t=0\/l[k-t-1]?=ĳ 46:=by
    by_cases D:k-t=0;.show .Â D
    .calc .Ó ?_;rw[show (k:ļ)-((t:ļ)+1)=((k-t-1:ĵ):ļ) by lia,tL (jS ye)]at B;rw[ae ye,B]
   rw[aaf (jI ye) (ax hk) hx h3]
  .rw[al (λz=>B (by injection z))];let cJ:0<=(k:ļ)-((t:ļ)+1)/\(k:ļ)-((t:ļ)+1)<l.n:=by
    by_cases z:0<=(k:ļ)-((t:ļ)+1)/\(k:ļ)-((t:ļ)+1)<l.n;.show z
    .show ń (NZ z) B
   let J:k-t-1<l.n:=ye;let eN:(k:ļ)-((t:ļ)+1)=((k-t-1:ĵ):ļ):=by grind
   refine bZ %[0,λI2 H3=>H3=H'/\I2=[ĳ (.C p),ĳ (.R i),ĳ (.R j),ĳ (.R way),ĳ (.À<|S [c]),ĳ (.À<|S<|((l.Å k).Î<|k-(t+1)).Q PyProof.â.ě++[c]),ĳ (.R<|((t+1:ĵ):ļ)+1)],?_|?_]
   .rintro I2 H3 ⟨rfl,rfl⟩;calc%[2,k-(t+1),pM ye ye,rb|%[11,t+1,ye,rb,rb|λx h1 Z=>?_]];by_cases O:x=k-t-1
    .subst O;rw[ae J];rw[eN,tL J]at B;intro z;show B<|bd z
    .show hx x (by simp_all;lia) Z
   .calc%[3,_,_,rb|%[19,rb,.Ó ⟨by rcases Y with e|e <;> rw[e] <;> decide,by rcases Y with e|e <;> rw[e] <;> decide⟩,_,_,rb,rb|%[22,_,_,rb,rb,_,_,rb,rb|%[17,.Ó ⟨by rcases Y with e|e <;> rw[e] <;> decide,by rcases Y with e|e <;> rw[e] <;> decide⟩,_,_,rb,rb|%[29,p,aj,r,w,_,_,rb,hS,L,r1,r9,w9|?_]]]]];rw[F];refine%[44,rb,_,rb,rb,by show 1<=1000;decide,λd hd=>by rw[av.mp hd];show M _|%[4,_,_,rb,rb,?_|?_]]
    .rw[aa,ay,aa,cn,a8];show hz _ (by simp;lia)
    .calc%[4,_,_,rb,rb,rb|?_];rw[eN,tL J];let ed:(l.Å k).Î (k-(t+1))=l[k-t-1]::(l.Å k).Î (k-t):=by
      let bW:k-(t+1)<(l.Å k).n:=by rw[a8];show b6 ye ye
      rw[iq bW,List.getElem_take,show k-(t+1)+1=k-t by simp_all;lia];congr 1
     rw[ed];rfl
 .intro I H' z;let(rfl,v6,rfl):=z;refine%[λI H2=>H2=H'/\∃v6:ĸ V,I=[ĳ (.C p),ĳ (.R i),ĳ (.R j),ĳ (.R way),ĳ (.À<|S [c]),ĳ (.À<|S<|cZ l k c),v6],?_|?_]
  .refine%[λm I H2=>H2=H'/\∃t:Nat,k+1+t<=l.n/\m=l.n-(k+1+t)/\I=[ĳ (.C p),ĳ (.R i),ĳ (.R j),ĳ (.R way),ĳ (.À<|S [c]),ĳ (.À<|S<|((cC<|l.Å k).Q PyProof.â.ě++[c])++((l.Î<|k+1).Å t).Q PyProof.â.ě),ĳ (.R<|(t:ļ)+1)]/\∀x,k+1<=x->x<k+1+t->l[x]?≠ĳ 46,
    %[43,_,rb,0,hk,rb,?_|λx h1 Z=>(ń Z<|Nat.not_lt_of_ge h1)]|?_]
   .rw[List.take_zero,n9,dS];rfl
   intro m I H2 z;let(rfl,t,ht,rfl,rfl,hx):=z;calc%[3,_,_,rb|%[19,rb,.Ó ⟨by rcases Y with e|e <;> rw[e] <;> decide,by rcases Y with e|e <;> rw[e] <;> decide⟩,_,_,rb,rb|%[22,_,_,rb,rb,_,_,rb,rb|%[17,.Ó ⟨by rcases Y with e|e <;> rw[e] <;> decide,by rcases Y with e|e <;> rw[e] <;> decide⟩,_,_,rb,rb|%[34,p,aj,r,w,_,_,rb,hS,L,r1,r9|%[17,w9,_,_,rb,rb|aU _ rb ?_]]]]]];rw[G];let eN:(k:ļ)+((t:ļ)+1)=((k+1+t:ĵ):ļ):=ye;by_cases B:uO l ((k:ļ)+((t:ļ)+1))=46
   .rw[B,am rfl];calc bK %[10,rb,ĳ<|.R<|(t:ļ)+1|?_];let h3:k+1+t=l.n\/l[k+1+t]?=ĳ 46:=by
     by_cases D:k+1+t=l.n;.show .Â D
     .calc .Ó ?_;rw[eN,tL (Nat.lt_of_le_of_ne ht D)]at B;rw[ae ye,B]
    let e2:=Xw (l:=l) (k:=k+1) (high:=k+1+t) (kc _ _) ht hx h3;rw[show k+1+t-(k+1)=t by simp]at e2;unfold cZ;rw[e2,bt];rfl
   .rw[al (λz=>B (by injection z))];let cJ:0<=(k:ļ)+((t:ļ)+1)/\(k:ļ)+((t:ļ)+1)<l.n:=by
     by_cases z:0<=(k:ļ)+((t:ļ)+1)/\(k:ļ)+((t:ļ)+1)<l.n;.show z
     .show ń (NZ z) B
    let J:k+1+t<l.n:=ye;refine bZ %[0,λI2 H3=>H3=H2/\I2=[ĳ (.C p),ĳ (.R i),ĳ (.R j),ĳ (.R way),ĳ (.À<|S [c]),ĳ (.À<|S<|((cC<|l.Å k).Q PyProof.â.ě++[c])++((l.Î<|k+1).Å<|t+1).Q PyProof.â.ě),ĳ (.R<|((t+1:ĵ):ļ)+1)],?_|?_]
    .rintro I2 H3 ⟨rfl,rfl⟩;calc%[2,l.n-(k+1+(t+1)),pM J<|eQ _,rb|%[11,t+1,J,rb,rb|λx h1 Z=>?_]];by_cases O:x=k+1+t
     .subst O;rw[ae J];rw[eN,tL J]at B;intro z;show B<|bd z
     .show hx x h1 ye
    .calc%[3,_,_,rb|%[19,rb,.Ó ⟨by rcases Y with e|e <;> rw[e] <;> decide,by rcases Y with e|e <;> rw[e] <;> decide⟩,_,_,rb,rb|%[22,_,_,rb,rb,_,_,rb,rb|%[17,.Ó ⟨by rcases Y with e|e <;> rw[e] <;> decide,by rcases Y with e|e <;> rw[e] <;> decide⟩,_,_,rb,rb|%[29,p,aj,r,w,_,_,rb,hS,L,r1,r9,w9|?_]]]]];rw[G];let t1:=kj<|l.Å k;refine%[44,rb,_,rb,rb,by show 1<=1000;decide,λd hd=>by rw[av.mp hd];show M _|%[4,_,_,rb,rb,?_|?_]]
     .show hz _ (by simp;grind)
     .calc%[4,_,_,rb,rb,rb|?_];rw[eN,tL J];let ed:(l.Î<|k+1).Å (t+1)=(l.Î<|k+1).Å t++[l[k+1+t]]:=by
       let bW:t<(l.Î<|k+1).n:=by rw[cn];show fg ye
       rw[wS,ae bW,List.getElem_drop];rfl
      rw[ed,bg,<-bt];rfl
  .intro I H2 z;let(rfl,v6,rfl):=z;show q
def acG {r w:ĵ}{R:AA}(D:Blk r w R){i j z:ĵ}(hi:i<r)(F:j<w):dI (setAt R i j z) j=(dI R j).Ď i z:=by
 apply ic;intro m;let q:i<R.n:=by rw[D.len];show hi
 let B:(R.Í i []).n=w:=by rw[ai,ae q];show D.gW _<|aI _
 unfold dI setAt;rw[ba,rL,rL,ba];by_cases hm:i=m
 .subst hm;rw[Ŀ rb,Ŀ rb,Ŀ q,Ŀ (by rw[aa];show q)];show ĳ (((R.Í i []).Ď j z).Í j 0)=ĳ z;rw[ai,rL,Ŀ rb,Ŀ ye];rfl
 .rw[ŀ hm,ŀ hm]
def aag {r w:ĵ}{R:AA}(B:Blk r w R){i j z:ĵ}(hi:i<r)(D:j<w){way:ļ}:lineOf (setAt R i j z) i j way=(lineOf R i j way).Ď (placeOf i j way) z:=by
 unfold lineOf placeOf;by_cases h:way=0
 .rw[Ŀ h,Ŀ h,Ŀ h];let q:i<R.n:=by rw[B.len];show hi
  unfold setAt;rw[ai,rL,Ŀ rb,Ŀ q];rfl
 .rw[ŀ h,ŀ h,ŀ h];show acG B hi D
def Xx {l:Ĵ ĵ}(hk:k<l.n):cC ((l.Ď k 97).Å k)=cC (l.Å k)/\cN ((l.Ď k 97).Î k)=97::cN (l.Î<|k+1):=by
 constructor;.rw[List.take_set,s_ (by rw[a8];show on _ _)]
 .let q:k<(l.Ď k 97).n:=by rw[qr];show hk
  rw[iq q,List.getElem_set_self,List.drop_set_of_lt ye];rfl
def mK (ws:AA)(l:Ĵ ĵ)(k:ĵ):Ĵ ĵ:=if (cZ l k 97).n=1 then AL else AL.ą λc=>ľ (cZ l k c∈ws)
def ag5 (C B:Ĺ):Sp:=λvs H Q _=>∃(pb q d:Addr) (ws:AA) (r w:Nat) (aj aH:AA) (bi bj i j:Nat) (way:Int),vs=[.C pb,.C q,.R i,.R j,.R way]/\dj C H pb r w aj aH bi bj/\j8 B H q d ws/\i<r/\j<w/\(way=0\/way=1)/\
 ∀H',aA H H'->Q (.À<|S<|mK ws (lineOf aj i j way)<|placeOf i j way) H'
def acH (hw:way=0\/way=1)(hk:placeOf i j way=k):ju (El i j way l) 2=ĳ (.À<|S<|cC (l.Å k)++cN (l.Î k))/\(way=0->ju (El i j way l) 1=ĳ (.R<|(k:ļ)-(cC<|l.Å k).n))/\(way=1->ju (El i j way l) 0=ĳ (.R<|(k:ļ)-(cC<|l.Å k).n)):=by
 subst hk;rcases hw with rfl|rfl;.show%[aQ (j:=2) rb,λ_=>aQ (j:=1) rb|λz=>by lia]
 .show%[aQ (j:=2) rb,λz=>by lia|λ_=>aQ (j:=0) rb]
def Xy (h:c∈cN l):c∈l:=(rX _).subset h
def Xz (h:c∈cC l):c∈l:=by unfold cC at h;rw[xI]at h;show xI.mp<|(rX _).subset h
def Em (G:GG K mg):DF P w K mg base lV 10 (ag5 G.b' G.d'):=by
 calc G.ao'.cQ i_ ?_;(intro f bw A outer s H vs Q E hr h);let(pb,pk,d,ws,r,w,aj,aH,bi,bj,i,j,way,rfl,B,BK,hi,hj,fY,q):=h;let(dx,_,_,_,ex,_):=id B.ex;let r9:=B.ok.r9;let w9:=B.ok.w9;let hll:=jA B.ok.br hi (j:=j) (way:=way);let hk:placeOf i j way<(lineOf aj i j way).n:=by rw[hll];unfold placeOf;split <;> assumption
 let hl9:(lineOf aj i j way).n<=9:=by rw[hll];split <;> assumption
 let J1:=RG B.ok.cr (i:=i) (way:=way) B.ok.br hj;let hz:∀n,n<=100->n<=Ń:=λn h=>ax<|aF ye;calc%[0,_,(aB (aZ (i:=5) i_.nd rb (Or.Â rb)<|gZ (gZ aG G.a'.cl G.k'.m (Cw G) hr.Ø G.k'.b .Ü f9<|ak (cI<|ak (cI<|ak bh<|ak bG<|ak (b_ [97] yn) aq) aq) aq) G.a'.cl G.p'.m (Xq G) hr.Ø G.p'.b .Ü f9<|ak bh<|ak bG<|ak bV aq)<|aB (cg (bN kE (aO cP yk G.c' bE<|ak (bB bY cB aC λ_ _=>rfl) aq) aC<|bR _) (aD<|aY<|kJ yk G.E') bI)<|aB (rF<|aZ (i:=6) i_.nd rb (Or.Â rb)<|oH (bN kE bV aC<|bR _) (aN fD bG<|bB bY cB aC λ_ _=>rfl)<|aN fD bh<|bB bY cB aC λ_ _=>rfl)<|aB (aZ (i:=7) i_.nd rb (Or.Ó rb)<|pC bv gr gt pH<|iW Hw (bB bY cB aC λ_ _=>rfl) mR<|iQ cM)<|aB (aZ (i:=8) i_.nd rb (Or.Ó rb)<|pC bv gr gt pH<|iW Hw (bB bY cB aC λ_ _=>rfl) (iQ<|aN cT cM aC) mR)<|aD<|aY<|dH bv e_ fb oV (b_ [] yn)<|ak (eX (ns:=["letter"]) rb (fu.of ["board","book","row","column","way","run","place","ahead","behind"] [] ym) (wI<|kJ yk G.E') (λ_ _ _ _ _=>(tE (show (["letter","board","book","row","column","way","run","place","ahead","behind"]:Ĵ Ŋ).Ý by decide +kernel) rb yk)) (λ_ _ _ _ _=>(BW<|dw<|gZ bh G.g'.cl G.q'.m (Xm G) hr.Ø G.q'.b .Ü f9<|ak (aN lG (aN lG jO aG) nQ) aq)) λ_ _ _ _ _=>aG) aq)|?_];calc%[7,pb,dx,_,rb,ex,rb,zsz 3|λD ht1=>%[zsz 1|λZ zm=>?_]];let s1:aA H (upd H D<|HO.Ã [V.R i,V.R j,V.À (S [97])]):=aA.è ht1;let s2:=s1.bH (o:=HO.Ã [V.C D])<|s1.Ô zm;let n12:D≠Z:=λz=>by rw[<-z,au]at zm;cases zm
 let h1:upd (upd H D<|HO.Ã [V.R i,V.R j,V.À (S [97])]) Z (HO.Ã [V.C D]) D=ĳ (.Ã [.R i,.R j,.À (S [97])]):=by rw[bx n12,au]
 let h2:upd (upd H D<|HO.Ã [V.R i,V.R j,V.À (S [97])]) Z (HO.Ã [V.C D]) Z=ĳ (.Ã [.C D]):=au;calc%[9,pb,Z,[D]|%[39,[(i,j,97)],r,w,aj,aH,bi,bj,rb,B.mv s2,h2,cY.Ü.snoc (t:=(i,j,97)) h1,λt ht=>by rw[av.mp ht];show%[hi,hj|by show Gu [97]=ķ;decide]|λx1 H3 s3 B3=>?_]];let(N6,_,_,_,XC,_):=id B3.ex;calc%[8,x1,N6,_,rb,XC,rb|%[9,x1,r,w|%[39,setAt aj i j 97,aH,bi,bj,i,j,way,rb,B3,hi,hj,fY|λt H4 s4 ht Gj=>?_]]];let Dl:=(s2.Z s3).Z s4;rw[aag B.ok.br hi hj]at Gj;generalize lineOf aj i j way=l at hk hl9 J1 q Gj;generalize hK:placeOf i j way=k at hk q Gj;let(pa,pc):=Xx hk;let(O,vb,vc):=acH (l:=l.Ď k 97) fY hK;rw[pa,pc]at O;rw[pa]at vb vc;let t1l:=kj<|l.Å k;rw[a8]at t1l;let t2l:=rJ<|l.Î<|k+1;rw[cn]at t2l;let hta:∀c∈cC (l.Å k),c<128:=λc J=>GC<|J1 c<|eL<|Xz J;let hha:∀c∈cN (l.Î<|k+1),c<128:=λc J=>GC<|J1 c<|kR<|Xy J;let F:∀c,(cZ l k c).n=(cC<|l.Å k).n+1+(cN<|l.Î<|k+1).n:=λc=>by unfold cZ;rw[ay,aa,bX,aa];lia
 let M:∀c,cZ l k c=(cC<|l.Å k).Q PyProof.â.ě++[c]++(cN<|l.Î<|k+1).Q PyProof.â.ě:=λc=>by rw[bt];rfl
 generalize hX:cC (l.Å k)=X at O vb vc t1l hta F M;generalize hY:cN (l.Î<|k+1)=Y at O t2l hha F M;generalize El i j way (l.Ď k 97)=rv at O vb vc Gj;let XD:=aM.of (K:=K) Gj;calc%[6,t,_,_,_,rb,rb,XD,O|%[11,_,rb,hz _ (by rw[ay,bX];lia),rb|aU _ rb ?_]];by_cases h1:X.n+1+Y.n=1
 .let e:ľ (V.R ((X++97::Y).n:ĵ)=V.R 1)=ķ:=am (by rw[ay,bX,show X.n+(Y.n+1)=1 by lia];rfl);rw[e];calc bZ ?_;have:=q H4 Dl;unfold mK at this;rw[Ŀ (by rw[F];show h1)]at this;show this
 .let e:ľ (V.R ((X++97::Y).n:ĵ)=V.R 1)=Ļ:=al (λz=>by
   rw[ay,bX]at z;lia)
  rw[e];calc bK ?_;refine%[0,λI H'=>H'=H4/\I=[ĳ (.C pb),ĳ (.C pk),ĳ (.R i),ĳ (.R j),ĳ (.R way),ĳ (.C t),ĳ (.R (X.n:ĵ)),ĺ,ĺ],?_|?_]
  .rcases fY with rfl|rfl
   .calc%[rb|bZ %[41,t,_,_,_,rb,rb,XD,vb rb,_,_,rb,rb,rb|?_]];have:(j:ļ)-((k:ļ)-(X.n:ļ))=(X.n:ļ):=by rw[<-hK];show (j:ļ)-((j:ļ)-_)=_;lia
    show Œ (λv:ļ=>([ĳ (V.C pb),ĳ (V.C pk),ĳ (V.R i),ĳ (V.R j),ĳ (V.R 0),ĳ (V.C t),ĳ (V.R v),ĺ,ĺ]:St)) this
   .calc%[rb|bK %[41,t,_,_,_,rb,rb,XD,vc rb,_,_,rb,rb,rb|?_]];have:(i:ļ)-((k:ļ)-(X.n:ļ))=(X.n:ļ):=by rw[<-hK];show (i:ļ)-((i:ļ)-_)=_;lia
    show Œ (λv:ļ=>([ĳ (V.C pb),ĳ (V.C pk),ĳ (V.R i),ĳ (V.R j),ĳ (V.R 1),ĳ (V.C t),ĳ (V.R v),ĺ,ĺ]:St)) this
  rintro I H' ⟨rfl,rfl⟩;calc%[6,t,_,_,_,rb,rb,XD,O|%[43,_,rb,_,rb,hz _ (by rw[ay,bX];lia),rb|?_]];rw[Ma,List.take_left' rfl];calc%[15,X,rb,rb,ye,hta|?_];calc%[21,t,_,_,_,rb,rb|%[19,XD,O,_,_,rb,rb|%[43,_,rb,_,rb,hz _ (by rw[ay,bX];lia),rb|?_]]];rw[(show (X.n:ļ)+1=((X.n+1:ĵ):ļ) from rfl),xV,show (X++97::Y).Î (X.n+1)=Y by rw[List.drop_append,lh,rc ye];rfl];calc%[15,Y,rb,rb,ye,hha|?_];refine%[14,rb,AL,rb|λL hL=>Tr (f:=eF [] 0) (tt:=tB (S9 G.d' "has" (aa_ G.d') [] E0 (eG 2)<|jt (wD BX (wD BX (eG 8)<|eG 0)<|eG 9) rK)) (te:=eG 0) (λn ys H5=>ys=Ts (ones<|(AL.Å n).ą λc=>ľ<|cZ l k c∈ws)/\H5 L=ĳ (.Ç ys)/\aA H' H5) %[rb,au|aA.è hL] ?_ ?_]
  .intro n c ys H5 hn z;let(rfl,GD,s5):=z;let N:n<AL.n:=(ap.mp hn).1;let ahx:n<26:=N;let BK5:=(BK.same Dl).same s5;let(dk,ek):=BK5.ob;calc%[8,pk,dk,_,rb,ek,rb|%[4,_,_,rb,rb,hz _ (by simp;lia)|%[4,_,_,rb,rb,hz _ (by simp;lia)|%[21,pk,d,ws,_,rb,BK5|aU _ rb ?_]]]];rw[<-M];by_cases J:cZ l k c∈ws
   .refine jT9 J %[GD,?_|dz.mk N %[?_,au|s5.bH hL]]
    .rw[aa,aa];show aF<|aw (iL _ _) (by rw[a8];lia)
    .rw[bu,hn,fT,j7];simp[J]
   .calc jF9 J<|dz.mk N %[?_,GD|s5];rw[bu,hn,fT];simp[J]
  .intro ys H5 z;let(rfl,GD,s5):=z;refine%[12,L,_,rb,rb,aP.of GD,?_|?_]
   .rw[lq];show aw (iL _ _) yi
   .rw[lq];have:=q H5<|Dl.Z s5;unfold mK at this;rw[ŀ (by rw[F];show h1)]at this;show this
def poss (i j:ļ):Ĵ (ļ×ļ):=[(i-1,j),(i+1,j),(i,j-1),(i,j+1)]
def zp (aj:AA)(r w:ĵ)(i j:ļ):œ:=(poss i j).đ λp=>!ľ ([atC aj r w p.1 p.2]=[46])
def aah {D B q F:Ĺ}{i j:ļ}{H:Hp}(h1:H D=ĳ (.Ã [.R (i-1),.R j]))(G:H B=ĳ (.Ã [.R (i+1),.R j]))(J:H q=ĳ (.Ã [.R i,.R (j-1)]))(L:H F=ĳ (.Ã [.R i,.R (j+1)])){n:ĵ}{x:V}(h:([V.C D,V.C B,V.C q,V.C F]:Ĵ V)[n]?=ĳ x):∃(t:Addr) (p:ļ×ļ),x=.C t/\H t=ĳ (.Ã [.R p.1,.R p.2])/\(poss i j)[n]?=ĳ p:=by
 match n,h with| 0,h=>show%[1,D,(i-1,j),(bd h).Ù,h1|rb]| 1,h=>show%[1,B,(i+1,j),(bd h).Ù,G|rb]| 2,h=>show%[1,q,(i,j-1),(bd h).Ù,J|rb]| 3,h=>show%[1,F,(i,j+1),(bd h).Ù,L|rb]| n+4,h=>show ń h yf
def XF (C:Ĺ):Sp:=λvs H Q _=>∃(b:Addr) (r w:Nat) (aj aH:AA) (bi bj:Nat) (i j:Int),vs=[.C b,.R i,.R j]/\dj C H b r w aj aH bi bj/\∀H',aA H H'->Q (.bl<|zp aj r w i j) H'
def GF (M:GG K mg):DF P w K mg base jy 4 (XF M.b'):=by
 calc M.ag'.cQ lJ ?_;(intro f bw A outer s H vs Q E hr h);let(b,r,w,aj,aH,bi,bj,i,j,rfl,B,q):=h;calc%[0,_,(aB (aZ (i:=3) lJ.nd rb (Or.Â rb)<|cI<|ak (cI<|ak (aN fD aW aC)<|ak bh aq)<|ak (cI<|ak (aN cT aW aC)<|ak bh aq)<|ak (cI<|ak aW<|ak (aN fD bh aC) aq)<|ak (cI<|ak aW<|ak (aN cT bh aC) aq) aq)<|aD<|aY<|aO (DW rb) yk M.x' zY<|ak (fU rb (fQ.of lJ.nd ym) (fJ bG) (λ_ _ _ _ _=>cF) λ_ _ _ _ _=>(gC mC (gZ aW M.a'.cl M.f'.m (Cv M) hr.Ø M.f'.b .Ü f9<|ak (bB (iV K) aG aC λ_ _=>rfl)<|ak (bB (iV K) aG aC λ_ _=>rfl) aq) (kJ yk M.i')<|bR _)) aq)|?_];calc%[4,_,_,rb,rb,zsz 2|λD h1=>%[4,_,_,rb,rb,zsz 2|λF h2=>%[4,_,_,rb,rb,zsz 2|λG h3=>%[4,_,_,rb,rb,zsz 2|λJ h4=>%[zsz 4|λT hT=>?_]]]]];let s1:aA H (upd H D<|HO.Ã [.R (i-1),.R j]):=aA.è h1;let s2:=s1.bH (o:=HO.Ã [.R (i+1),.R j])<|s1.Ô h2;let s3:=s2.bH (o:=HO.Ã [.R i,.R (j-1)])<|s2.Ô h3;let s4:=s3.bH (o:=HO.Ã [.R i,.R (j+1)])<|s3.Ô h4;let s5:=s4.bH (o:=HO.Ã [.C D,.C F,.C G,.C J])<|s4.Ô hT;let Y:aA _ _:=aA.è (o:=HO.Ã [.C D,.C F,.C G,.C J]) hT;let k4:aA _ _:=aA.è (o:=HO.Ã [.R i,.R (j+1)]) h4;let k3:aA _ _:=aA.è (o:=HO.Ã [.R i,.R (j-1)]) h3;let k2:aA _ _:=aA.è (o:=HO.Ã [.R (i+1),.R j]) h2;let e1:=Y _ _<|k4 _ _<|k3 _ _<|k2 _ _<|au (H:=H) (a:=D) (o:=HO.Ã [.R (i-1),.R j]);let e2:=Y _ _<|k4 _ _<|k3 _ _<|au (a:=F) (o:=HO.Ã [.R (i+1),.R j]);let e3:=Y _ _<|k4 _ _<|au (a:=G) (o:=HO.Ã [.R i,.R (j-1)]);let e4:=Y _ _<|au (a:=J) (o:=HO.Ã [.R i,.R (j+1)]);let e5:upd (upd (upd (upd (upd H D<|HO.Ã [.R (i-1),.R j]) F<|HO.Ã [.R (i+1),.R j]) G<|HO.Ã [.R i,.R (j-1)]) J<|HO.Ã [.R i,.R (j+1)]) T (HO.Ã [.C D,.C F,.C G,.C J]) T=ĳ (.Ã [.C D,.C F,.C G,.C J]):=au;generalize upd (upd (upd (upd (upd H D<|HO.Ã [.R (i-1),.R j]) F<|HO.Ã [.R (i+1),.R j]) G<|HO.Ã [.R i,.R (j-1)]) J<|HO.Ã [.R i,.R (j+1)]) T (HO.Ã [.C D,.C F,.C G,.C J])=H5 at s5 e1 e2 e3 e4 e5 ⊢;refine%[2,T,rb,%[_|aM.of e5]|λL hL=>ud (xs:=[V.C D,V.C F,V.C G,V.C J]) (λn ys N=>ys=(((poss i j).Å n).Q λp=>!ľ ([atC aj r w p.1 p.2]=[46])).Q V.bl/\N L=ĳ (.Ç ys)/\aA H5 N) %[rb,au|aA.è hL] (λn ys N _ h=>aM.of<|h.2.2 _ _ e5) ?_ ?_]
 .intro n x ys N hx z;let(rfl,Z,O):=z;let(t,p,rfl,ht,hp):=aah e1 e2 e3 e4 hx;let B6:=B.mv<|s5.Z O;let(dx,_,_,_,ex,_):=id B6.ex;let hS:=aM.of (K:=K)<|O _ _ ht;calc%[8,b,dx,_,rb,ex,rb|%[6,t,_,_,_,rb,rb,hS,aQ (j:=0) rb|%[6,t,_,_,_,rb,rb,hS,aQ (j:=1) rb|%[5,b,r|%[24,w,aj,aH,bi,bj,p.1,p.2,rb,B6|%[12,_,_,rb,rb,Z,?_|dz.mk ((ap.mp hx).1) %[?_,au|O.bH hL]]]]]]];.rw[aa,aa,a8];show aF (by have:(poss i j).n=4:=rfl;lia)
  .rw[bu,hp];simp
 .intro ys N z;let(rfl,Z,O):=z;calc%[1,L,_,rb,aP.of Z|?_];let e:((((poss i j).Å 4).Q λp=>!ľ ([atC aj r w p.1 p.2]=[46])).đ id)=zp aj r w i j:=by
   rfl
  show q N<|s5.Z O
def cells (r w:ĵ):Ĵ (ĵ×ĵ):=(List.æ r).ó λi=>(List.æ w).Q λj=>(i,j)
def XH:(cells 9 9).n=81:=by decide +kernel
def XJ:∀r w:Fin 10,cells r.val w.val=(cells 9 9).ą λc=>ľ (c.1<r.val)&&ľ (c.2<w.val):=by decide +kernel
def XM {r w:ĵ}{c:ĵ×ĵ}:c∈cells r w↔c.1<r/\c.2<w:=by
 constructor
 .intro h;let(i,hi,h):=cx.mp h;let(j,q,rfl):=ar.mp h;show%[bS.mp hi|bS.mp q]
 .rintro⟨h1,B⟩;show cx.Û %[0,c.1,bS.Û h1|ar.Û %[0,c.2,bS.Û B|rb]]
def En (H:Hp)(a:Ĺ)(p:ĵ×ĵ):Prop:=H a=ĳ (.Ã [.R p.1,.R p.2])
def pO (H:Hp)(a:Ĺ):ĵ×ĵ:=match H a with| some (.Ã [.R x,.R y])=>(x.Ö,y.Ö)| _=>(0,0)
def Uv (h:En H a p):pO H a=p:=by unfold pO;rw[show H a=_ from h];rfl
structure dJ (H:Hp)(as:Ĵ Ĺ)(ps:Ĵ (ĵ×ĵ)):Prop where
 at_:∀a∈as,En H a (pO H a)
 eq:as.Q (pO H)=ps
def dJ.fG (k:∀a xs,H a=ĳ (.Ã xs)->H' a=ĳ (.Ã xs))(h:dJ H as ps):dJ H' as ps:=by let e:∀a∈as,pO H' a=pO H a:=λa ha=>Uv<|k a _<|h.č a ha;show%[λa ha=>by rw[e a ha];show k a _<|h.č a ha|by rw[<-h.eq];show du e]
def dJ.mv (k:aA H H')(h:dJ H as ps):dJ H' as ps:=h.fG λa xs e=>k a _ e
def dJ.app (h:dJ H as ps)(g:dJ H bs qs):dJ H (as++bs) (ps++qs):=by
 calc%[λb q=>?_|by rw[bg,h.eq,g.eq]];rcases a7.mp q with z|z;.show h.č b z
 .show g.č b z
def dJ.one (ha:En H a p):dJ H [a] [p]:=%[λb q=>by rw[av.mp q,Uv ha];show ha|by rw[qV,Uv ha]]
def dJ.nil:dJ H [] []:=%[λa h=>by simp at h|rb]
def dJ.len (h:dJ H as ps):as.n=ps.n:=by rw[<-h.eq,aa]
def dJ.get (h:dJ H as ps)(hi:i<as.n):∃p,ps[i]?=ĳ p/\En H as[i] p:=%[0,pO H as[i],by rw[<-h.eq];simp[hi]|h.č _<|aI _]
def xq (p:ĵ×ĵ):Dt:=.Ã [.R p.1,.R p.2]
theorem Cy:∀{as:Ĵ Ĺ},(∀a∈as,En H a (pO H a))->fV K H 1 ((as.Q<|pO H).Q xq) (as.Q V.C)
 | [],_=>.Ü
 | a::as,h=>.Ð (.Ã (aM.of<|h a aS)<|.Ð (.R _)<|.Ð (.R _) .Ü) (Cy λx hx=>h x<|aE _ hx)
def dJ.has (h:dJ H as ps)(hp:H p=ĳ (.Ç<|as.Q V.C)):fX K H 2 (.Ç<|ps.Q xq) (.C p):=by rw[<-h.eq];show .Ç (aP.of hp)<|Cy h.č
def frB (aj:AA)(r w:ĵ)(c:ĵ×ĵ):œ:=ľ ([atC aj r w c.1 c.2]=[46])
def zu (aj:AA)(r w:ĵ)(c:ĵ×ĵ):œ:=zp aj r w c.1 c.2
def qY (aj:AA)(r w:ĵ):Ĵ (ĵ×ĵ):=(cells r w).ą λc=>frB aj r w c&&zu aj r w c
def cD (aj:AA)(r w bi bj:ĵ):Ĵ (ĵ×ĵ):=if isFree aj=ķ then [(bi,bj)] else qY aj r w
def Uw (i w):cells (i+1) w=cells i w++(List.æ w).Q λj=>(i,j):=by unfold cells;rw[fw];simp
def aeR {aj:AA}{r w i j:ĵ}(B:Blk r w aj)(hi:i<r)(D:j<w):∃(h1:i<aj.n) (q:j<aj[i].n),atC aj r w (i:ļ) (j:ļ)=aj[i][j]:=by
 let h1:i<aj.n:=by rw[B.len];show hi
 let q:j<aj[i].n:=by rw[B.gW _ (aI _)];show D
 calc%[5,h1,q|?_];unfold atC;rw[Ŀ %[cz _,ie eJ hi,ye|ye],b3,ai (l:=aj),ae h1];show aj[i].Í j 0=_;rw[ai,ae q];rfl
def acI (C:Ĺ):Sp:=λvs H Q _=>∃(b:Addr) (r w:Nat) (aj aH:AA) (bi bj:Nat),vs=[.C b]/\dj C H b r w aj aH bi bj/\
 ∀(p:Ĺ) (as:Ĵ Ĺ) (H':Hp),aA H H'->H' p=ĳ (.Ç<|as.Q V.C)->dJ H' as ((cells r w).ą<|frB aj r w)->Q (.C p) H'
def zx (G:GG K mg):DF P w K mg base pR 1 (acI G.b'):=by
 calc G.ap'.cQ oh ?_;(intro f bw A outer s H vs Q E hr h);let(b,r,w,aj,aH,bi,bj,rfl,B,q):=h;let((dx,pr,pm,pb,hb,hr',hm,hbb),O):=B;let r9:=O.r9;let w9:=O.w9;let iZ:(Ts aj).n=r:=by rw[aa,O.br.len]
 calc%[0,_,(aB (aZ (i:=1) oh.nd rb (Or.Â rb)<|dN aq)<|aB (cW b4 rb (Zj yk G.z'<|ak (dF aG rb) aq) (jV rb<|bO (bD (i:=2) oh.nd rb<|Or.Ó rb)<|bO (bD (i:=3) oh.nd rb<|Or.Â rb) g_)<|aD<|dD<|dH c8 np nt rC aW<|ak (eX (ns:=["column","sign"]) rb (fu.of ["board","cells","row","signs"] [] ym) (Zi yk G.z'<|ak bG aq) (λ_ _ _ _ _=>(B_ K rb (show (["column","sign","board","cells","row","signs"]:Ĵ Ŋ).Ý by decide +kernel) rb rb yk yk)) (λ_ _ _ _ _=>(BW<|bN uc aW (kJ yk G.i')<|bR _)) λ_ _ _ _ _=>(cI<|ak bV<|ak aG aq)) aq)<|aD<|aY aW)|?_];calc%[zsz 0|λF hF=>?_];let s0:aA H (upd H F<|HO.Ç []):=aA.è hF;refine%[32,b,G.b',dx,_,_,rb,s0 _ _ hb,G.a'.cl,G.a'.nr|%[23,rb,pr,rb,%[_|aM.of<|s0 _ _ hr']|V_ (K:=K) (a:=pr) (xs:=Ts aj) (λi I D=>∃(v2 v3:ĸ V) (as:Ĵ Ĺ),I=[ĳ (.C b),ĳ (.C F),v2,v3]/\aA H D/\D F=ĳ (.Ç<|as.Q V.C)/\dJ D as ((cells i w).ą<|frB aj r w)/\as.n<=i*9)
  %[7,ĺ,ĺ,[],rb,s0,au,dJ.Ü|b5 _] (λi I D _ h=>by let(_,_,_,_,Z,_):=h;show aM.of<|Z _ _ hr') ?_ ?_]]
 .intro i x I D T hx z hT;let(v2,v3,as,rfl,Z,dX,hP,hal):=z;let(l,hl,rfl):=nO hx;let hil:i<r:=by have:=(ap.mp hx).1;simp_all
  let hir:i<aj.n:=by rw[O.br.len];show hil
  let hlr:l=aj[i]:=by rw[ae hir]at hl;show(bd hl).Ù
  let NP:l.n=w:=O.br.gW _<|a5 hl;let k1:aA D (upd D T<|HO.Ã [.R i,.À (S l)]):=aA.è hT;calc%[46,T,_,rb,aM.of au,rb,_,_,rb,_,_,rb,rb|?_];let rY:=k1 _ _ dX;let zy:=Z.Z k1;let J2:=hP.mv k1;generalize upd D T (HO.Ã [.R i,.À (S l)])=H3 at k1 rY zy J2 ⊢;refine%[14,.Â %[10,rb,_|aP.of rY],l,rb|λL hL=>Wa (f:=eF [] 0) (KT:=K) (λj ys J=>∃bs:Ĵ Ĺ,ys=bs.Q V.C/\bs.n<=j/\J L=ĳ (.Ç ys)/\aA H3 J/\dJ J bs (((List.æ j).Q λj=>(i,j)).ą<|frB aj r w))
   %[15,[],rb,ah _,au,aA.è hL|dJ.Ü] ?_ ?_]
  .intro j c ys J U hj z hU;let(bs,rfl,gG,jL,s4,N7):=z;let N:j<l.n:=(ap.mp hj).1;let(_,_,hat):=aeR O.br hil (show j<w by simp_all);let hcj:atC aj r w (i:ļ) (j:ļ)=c:=by
    rw[hat];subst hlr;rw[ae N]at hj;show bd hj
   let k5:aA J (upd J U<|HO.Ã [.R j,.À (S [c])]):=aA.è hU;calc%[31,U,_,_,rb,aM.of au|?_];let GD:=k5 _ _ jL;let RJ:=N7.mv k5;let s5:=s4.Z k5;generalize upd J U (HO.Ã [.R j,.À (S [c])])=H5 at k5 GD RJ s5 ⊢;calc%[1,[c],[46],rb,rb|aU _ rb ?_];by_cases hc:c=46
   .let M:frB aj r w (i,j)=ķ:=by
     unfold frB;rw[hcj];show am (by rw[hc])
    calc jT9 (show [c]=[46] by rw[hc]) %[zsz 2|λg hg=>?_];let k6:aA H5 (upd H5 g<|HO.Ã [.R (i:ļ),.R (j:ļ)]):=aA.è hg;let lE:=k6 _ _ GD;calc%[lE,by rw[aa];show aF ye|dz.mk N %[15,bs++[g],yf,by simp;show gG,by rw[au],(s5.Z k6).bH hL|?_]];rw[fw,bg,fT];have:([j].Q λj=>(i,j)).ą (frB aj r w)=[(i,j)]:=by simp[M]
    rw[this];show((RJ.mv k6).app<|dJ.one<|show En _ g (i,j) from au).fG<|cO lE
   .let M:frB aj r w (i,j)=Ļ:=by
     unfold frB;rw[hcj];show al λz=>hc (by injection z)
    calc jF9 (show ¬[c]=[46] from λz=>hc (by injection z))<|dz.mk N %[15,bs,rb,kr gG,GD,s5|?_];rw[fw,bg,fT];have:([j].Q λj=>(i,j)).ą (frB aj r w)=[]:=by simp[M]
    rw[this,dS];show RJ
  .intro ys J z;let(bs,rfl,gG,jL,s4,N7):=z;let nP:=s4 _ _ rY;let Y:=(J2.mv s4).app N7;rw[NP]at Y gG;calc%[18,F,L,_,_,rb,rb,nP,jL,by rw[aa,aa];show ax<|aF ye|?_];calc%[7,_,_,as++bs,rb,(zy.Z s4).bH hF,by rw[au,bg],?_|by simp;lia];rw[Uw,fT];show Y.fG<|cO nP
 .intro I D z;let(v2,v3,as,rfl,Z,dX,hP,hal):=z;rw[iZ]at hP;show(q F as D Z dX hP)
def acJ (C:Ĺ):Sp:=λvs H Q _=>∃(b:Addr) (r w:Nat) (aj aH:AA) (bi bj:Nat),vs=[.C b]/\dj C H b r w aj aH bi bj/\
 ∀(p:Ĺ) (as:Ĵ Ĺ) (H':Hp),aA H H'->H' p=ĳ (.Ã<|as.Q V.C)->dJ H' as (cD aj r w bi bj)->Q (.C p) H'
def aai (G:GG K mg):DF P w K mg base Cm 5 (acJ G.b'):=by
 calc G.aq'.cQ Z2 λf bw A outer s H vs Q E Y h=>?_;let(b,r,w,aj,aH,bi,bj,rfl,B,q):=h;let(dx,_,_,_,hb,_,_,_):=id B.ex;let r9:=B.ok.r9;let w9:=B.ok.w9;calc%[0,_,(aB (cg (dw<|xP aG G.a'.cl G.o'.m (Gx G) Y.Ø G.o'.b .Ü f9) (aD<|aY<|cI<|ak (dF aG rb) aq) bI)<|aD<|aY<|c7 dU yk G.e' di<|ak (eX (ns:=["cell"]) rb (fu.of ["board"] [] ym) (dh<|aV (zx G) Y.Ø rb<|ak aG aq) (λ_ _ _ _ _=>(tE (show (["cell","board"]:Ĵ Ŋ).Ý by decide +kernel) rb yk)) (λ_ _ _ _ _=>(BW<|dw<|aV (GF G) Y.Ø rb<|ak aW<|ak (bB (iV K) aG aC λ_ _=>rfl)<|ak (bB (iV K) aG aC λ_ _=>rfl) aq)) λ_ _ _ _ _=>aG) aq)|?_];calc%[8,b,dx,_,rb,hb,rb|%[24,b,r,w,aj,aH,bi,bj,rb,B|λH1 s1=>(aU _ rb ?_)]];let B1:=B.mv s1;by_cases hf:isFree aj=ķ
 .rw[hf];let(N6,pr,pm,pb,hb1,_,_,hpb):=id B1.ex;calc bZ %[45,b,G.b',N6,_,_,rb,hb1,G.a'.cl,G.a'.nb,rb,zsz 1|λt ht=>?_];let k:aA H1 (upd H1 t<|HO.Ã [.C pb]):=aA.è ht;calc q t [pb] _ (s1.Z k) au ?_;let e:cD aj r w bi bj=[(bi,bj)]:=Ŀ hf;rw[e];show dJ.one<|show En _ pb (bi,bj) from k _ _ hpb
 .rw[show isFree aj=Ļ by simpa using hf];calc bK ?_;let e:cD aj r w bi bj=qY aj r w:=ŀ hf;rw[e]at q;calc%[24,b,r,w,aj,aH,bi,bj,rb,B1|λp as H2 s2 hp hP=>?_];let hal:as.n<=81:=by
   rw[hP.len];calc aw (iL _ _) ?_;have:=XJ %[r|Nat.lt_succ_of_le r9] %[w|ye];rw[this];show aw (iL _ _) (by decide)
  refine%[2,p,rb,%[_|aP.of hp]|λL hL=>vU (K:=K) (a:=p) (f:=eF [] 0) (tt:=tB (Bp (XF G.b') [] E0<|jt (eG 1)<|jt (wD (Td K) (eG 0)<|tC<|V.R 0)<|jt (wD (Td K) (eG 0)<|tC<|V.R 1) rK)) (te:=eG 0) (xs:=as.Q V.C) (λn ys F=>∃bs:Ĵ Ĺ,ys=bs.Q V.C/\bs.n<=n/\F L=ĳ (.Ç ys)/\aA H2 F/\dJ F bs ((((cells r w).ą<|frB aj r w).Å n).ą<|zu aj r w))
   %[15,[],rb,ah _,au,aA.è hL|dJ.Ü] (λn ys F _ h=>by let(_,_,_,_,sm,_):=h;show aP.of<|sm _ _ hp) ?_ ?_]
  .intro n x ys F hx z;let(bs,rfl,Z,wY,M,N):=z;let(hn,hx):=rfg hx;subst hx;let((u,v),hc,O):=(hP.mv M).get hn;let B3:=B1.mv<|s2.Z M;let hS:=aM.of (K:=K) O;calc%[6,as[n],_,_,_,rb,rb,hS,aQ (j:=0) rb|%[6,as[n],_,_,_,rb,rb,hS,aQ (j:=1) rb|%[5,b,r|%[24,w,aj,aH,bi,bj,(u:ļ),(v:ļ),rb,B3|λH4 J=>(aU _ rb ?_)]]]];let jL:=J _ _ wY;by_cases D:zu aj r w (u,v)=ķ
   .have:zp aj r w (u:ļ) (v:ļ)=ķ:=D;rw[this];calc bZ %[jL,by rw[aa];show aF ye|dz.mk (by rw[aa];show hn) %[15,bs++[as[n]],yf,by simp;show Z,by rw[au],(M.Z J).bH hL|?_]];rw[bu,hc,fT];let e2:((ĳ (u,v)).I).ą (zu aj r w)=[(u,v)]:=by simp[D]
    rw[e2];show((N.mv J).app<|dJ.one<|J _ _ O).fG<|cO jL
   .have:zp aj r w (u:ļ) (v:ļ)=Ļ:=by simpa [zu] using D
    rw[this];calc bK<|dz.mk (by rw[aa];show hn) %[15,bs,rb,kr Z,jL,M.Z J|?_];rw[bu,hc,fT];let e2:((ĳ (u,v)).I).ą (zu aj r w)=[]:=by simp[D]
    rw[e2,dS];show N.mv J
  .intro ys F z;let(bs,rfl,Z,wY,M,N):=z;rw[aa,hP.len,b9,List.filter_filter]at N;calc%[3,L,_,rb|.Â %[aP.of wY|λt ht=>?_]];let k:aA F (upd F t<|HO.Ã<|bs.Q V.C):=aA.è ht;calc q t bs _ (((s1.Z s2).Z M).Z k) au ?_;let e3:(cells r w).ą (λa=>zu aj r w a&&frB aj r w a)=qY aj r w:=by
    show List.filter_congr λc _=>Bool.and_comm _ _
   rw[<-e3];show N.mv k
def aeT:Sp:=λvs H Q _=>∃(p:Addr) (as:Ĵ Ĺ) (ts:Ĵ aR),vs=[.C p]/\H p=ĳ (.Ã<|as.Q V.C)/\cY H as ts/\(∀t∈ts,Ao t)/\(ts.Q λt=>rk<|sw t).Ý/\ts.n<=63/\
 ∀(p':Ĺ) (as':Ĵ Ĺ) (q:Ĵ aR) (H':Hp),aA H H'->H' p'=ĳ (.Ã<|as'.Q V.C)->cY H' as' q->q.ú (ts.Q sw)->(q.Q rk).Ä (·<·)->Q (.C p') H'
def Eo (Gz:GG K mg):DF P w K mg base lU 1 aeT:=by
 calc Gz.S'.cQ Ef ?_;intro f bw A outer s H vs Q E hr h;let(p,as,ts,rfl,hp,hL,hok,Y,h63,q):=h;calc%[0,_,(aD<|aY<|c7 dU yk Gz.e' di<|ak (aO zc yk Gz.l' fm<|ak (eX (ns:=["row","column","sign"]) rb (fu.of ["laying"] [] ym) (fJ aG) (λ_ _ _ _ _=>(mU K rb (show (["row","column","sign","laying"]:Ĵ Ŋ).Ý by decide +kernel) rb rb rb yk yk yk)) (λ_ _ _ _ _=>cF) λ_ _ _ _ _=>(cI<|ak aW<|ak aG<|ak bh aq)) aq) aq)|?_];let bW:=hL.Ċ;refine%[2,p,rb,%[_|aM.of hp]|λM hM=>kO (f:=eF [] 0) (tt:=gb) (xs:=as.Q V.C) (λi ys B=>∃bs:Ĵ Ĺ,ys=bs.Q V.C/\bs.n=i/\B M=ĳ (.Ç ys)/\aA H B/\cY B bs ((ts.Å i).Q sw))
  %[15,[],rb,rb,au,aA.è hM|cY.Ü] (λi ys B _ h=>by let(_,_,_,_,D,_):=h;show aM.of<|D _ _ hp) ?_ ?_]
 .intro i x ys B hx z;let(bs,rfl,G,L,D,F):=z;let(hi,hx):=rfg hx;let(t,et,hT):=hL.get hi;calc sJ hx.Ù (aM.of<|D _ _ hT) ?_;calc%[zsz 3|λc J=>?_];let nM:M≠c:=λz=>by rw[<-z,L]at J;cases J
  let Z:upd B c (.Ã [.R t.2.1,.R t.1,.À (S [t.2.2])]) M=ĳ (.Ç<|bs.Q V.C):=by rw[bx nM];show L
  calc%[Z,by rw[aa,G];show aF ye|dz.mk (by rw[aa];show hi) %[15,bs++[c],yf,by simp[G],by rw[au],?_|?_]];.show(D.bH<|D.Ô J).bH hM
  .rw[show (ts.Å<|i+1).Q sw=(ts.Å i).Q sw++[sw t] by rw[wS,et];simp];calc cY.snoc ?_ ?_;.show(F.mv<|aA.è J).fG<|cO Z
   .show cO Z _ _ au
 .intro ys B z;let(bs,rfl,G,L,D,F):=z;rw[aa]at G;rw[cw (by rw[aa];lia)]at F;let O:bs.Q (λa=>rk<|tO B a)=ts.Q λt=>rk (sw t):=by
   have:(bs.Q<|tO B).Q rk=(ts.Q sw).Q rk:=by rw[F.eq]
   rw[cp,cp]at this;show this
  let ag6:∀a∈bs,Ao (tO B a):=λa ha=>by
   have:tO B a∈ts.Q sw:=by rw[<-F.eq];show ci ha
   let(t,ht,e):=ar.mp this;rw[<-e];have:=hok t ht;show%[this.2.1,this.1|this.2.2]
  refine%[42,M,bs,λa=>rk<|tO B a,rb,.Â<|aP.of L,ye,λa ha=>?_,by rw[O];show Y|λp1 as' N pm pw=>?_]
  .have:=ag6 a ha;show%[8,(tO B a).1,(tO B a).2.1,[.À (S [(tO B a).2.2])],.Â<|F.č a ha,by have:=this.2.1;lia,rb|.Ó %[_|rb]]
  .let(l1,l2):=F.perm pm;calc%[3,p1,_,rb|.Â %[aP.of au|λl hl=>?_]];let s1:aA B (upd B p1<|.Ç<|as'.Q V.C):=aA.è N;let s2:=s1.bH (o:=.Ã (as'.Q V.C))<|s1.Ô hl;show q l as' _ _ (D.Z s2) au (l1.mv s2) l2 (by rw[cp];show pw)
def bM (t:aR):ĵ×ĵ:=(t.1,t.2.1)
def acK (K:W.Ê):Sp:=λvs H Q _=>∃(p:Addr) (as:Ĵ Ĺ) (ts:Ĵ aR),vs=[.C p]/\(aP K H p (as.Q V.C)\/aM K H p (as.Q V.C))/\cY H as ts/\ts.n<=63/\
 ∀(p':Ĺ) (bs:Ĵ Ĺ) (H':Hp),aA H H'->H p'=ĺ->H' p'=ĳ (.Ç<|bs.Q V.C)->dJ H' bs (ts.Q bM)->Q (.C p') H'
def qZ (Gz:GG K mg):DF P w K mg base tD 1 (acK K):=by
 calc Gz.ad'.cQ Qa ?_;(intro f bw A outer s H vs Q E hr h);let(p,as,ts,rfl,hp,hL,h63,q):=h;calc%[0,_,(aD<|aY<|eX (ns:=["row","column","sign"]) rb (fu.of ["laying"] [] ym) ((dh aG).or<|fJ aG) (λ_ _ _ _ _=>(mU K rb (show (["row","column","sign","laying"]:Ĵ Ŋ).Ý by decide +kernel) rb rb rb yk yk yk)) (λ_ _ _ _ _=>cF) λ_ _ _ _ _=>(cI<|ak aG<|ak aW aq))|?_];let bW:=hL.Ċ;let step:∀(M:Ĺ) (i:ĵ) (x:V) (ys:Ĵ V) (B:Hp),H M=ĺ->(as.Q V.C)[i]?=ĳ x->(∃bs:Ĵ Ĺ,ys=bs.Q V.C/\bs.n=i/\B M=ĳ (.Ç ys)/\aA H B/\dJ B bs ((ts.Å i).Q bM))->
   qN (as.Q V.C).n i M (λv H Q=>∃a p q r,v=.C a/\aM K H a [p,q,r]/\Q [ĳ p,ĳ q,ĳ r]) (eF [] 0) [ĳ (V.C p)] gb (adB<|jt (eG 0)<|jt (eG 1) rK) x B ys λys B=>∃bs:Ĵ Ĺ,ys=bs.Q V.C/\bs.n=i+1/\B M=ĳ (.Ç ys)/\aA H B/\dJ B bs ((ts.Å<|i+1).Q bM):=by
  intro M i x ys B D hx z;let(bs,rfl,Y,O,F,N):=z;let(hi,hx):=rfg hx;let(t,et,hT):=hL.get hi;calc sJ hx.Ù (aM.of<|F _ _ hT) ?_;calc%[zsz 2|λc L=>?_];let nM:M≠c:=λz=>by rw[<-z,O]at L;cases L
  let Z:upd B c (.Ã [.R t.1,.R t.2.1]) M=ĳ (.Ç<|bs.Q V.C):=by rw[bx nM];show O
  calc%[Z,by rw[aa,Y];show aF ye|dz.mk (by rw[aa];show hi) %[15,bs++[c],yf,by simp[Y],by rw[au],?_|?_]];.show(F.bH<|F.Ô L).bH D
  .rw[show (ts.Å<|i+1).Q bM=(ts.Å i).Q bM++[bM t] by rw[wS,et];simp];calc dJ.app ((N.mv<|aA.è L).fG<|cO Z)<|dJ.one (p:=bM t) ?_;show cO Z _ _ au
 let J:∀(M:Ĺ) (ys:Ĵ V) (B:Hp),H M=ĺ->(∃bs:Ĵ Ĺ,ys=bs.Q V.C/\bs.n=(as.Q V.C).n/\B M=ĳ (.Ç ys)/\aA H B/\dJ B bs ((ts.Å (as.Q V.C).n).Q bM))->Q (.C M) B:=by intro M ys B D z;let(bs,rfl,Y,O,F,N):=z;rw[cw (by rw[aa];lia)]at N;show q M bs B F D O N
 let G:∀M:Ĺ,H M=ĺ->∀B:Hp,aA H B->(aP K H p (as.Q V.C)->aP K B p (as.Q V.C))/\(aM K H p (as.Q V.C)->aM K B p (as.Q V.C)):=λM _ B F=>%[λz=>F.ð z|λz=>F.adW z]
 rcases hp with hp|hp
 .refine .Â %[2,p,rb,%[_|hp]|λM D=>vV (f:=eF [] 0) (tt:=gb) (xs:=as.Q V.C) (λi ys B=>∃bs:Ĵ Ĺ,ys=bs.Q V.C/\bs.n=i/\B M=ĳ (.Ç ys)/\aA H B/\dJ B bs ((ts.Å i).Q bM))
   %[15,[],rb,rb,au,aA.è D|dJ.Ü] (λi ys B _ h=>by let(_,_,_,_,F,_):=h;show(G M D B F).1 hp) (λi x ys B hx h=>step M i x ys B D hx h) λys B h=>J M ys B D h]
 .refine .Ó %[2,p,rb,%[_|hp]|λM D=>kO (f:=eF [] 0) (tt:=gb) (xs:=as.Q V.C) (λi ys B=>∃bs:Ĵ Ĺ,ys=bs.Q V.C/\bs.n=i/\B M=ĳ (.Ç ys)/\aA H B/\dJ B bs ((ts.Å i).Q bM))
   %[15,[],rb,rb,au,aA.è D|dJ.Ü] (λi ys B _ h=>by let(_,_,_,_,F,_):=h;show(G M D B F).2 hp) (λi x ys B hx h=>step M i x ys B D hx h) λys B h=>J M ys B D h]
def aaj:Sp:=λvs H Q _=>∃c:Nat,vs=[.À (S [c])]/\c<128/\Q (.À<|S [PyProof.â.ě c]) H
def N8 (G:GG K mg):DF P w K mg base qQ 1 aaj:=by calc G.Q'.cQ Nu λf bw A outer s H vs Q E F h=>?_;let(c,rfl,D,q):=h;calc%[0,_,(aD<|aY<|pC bv gr gt pH aG)|?_];show%[44,rb,[c],rb,rb,by show 1<=1000;decide,λe B=>by rw[av.mp B];show D|q]
def d_ (r w n:ĵ):Ĵ (ĵ×ĵ):=(List.æ r).ó λi=>(List.æ<|w+1-n).Q λj=>(i,j)
def Ds (r w n):d_ (r+1) w n=d_ r w n++(List.æ<|w+1-n).Q λj=>(r,j):=by unfold d_;rw[fw];simp
def lu {r w n:ĵ}{c:ĵ×ĵ}:c∈d_ r w n↔c.1<r/\c.2<w+1-n:=by
 unfold d_;simp only[cx,ar,bS];constructor;.intro z;let(i,hi,j,q,rfl):=z;show%[hi|q]
 .rintro⟨h1,B⟩;show%[49,c.1,h1,c.2,B|rb]
def yK (r w n):(d_ r w n).n=r*(w+1-n):=by
 induction r with| zero=>simp[d_]| succ r ih=>rw[Ds,ay,ih,aa,ej,oQ]
def aak (C:Ĺ):Sp:=λvs H Q _=>∃(b:Addr) (r w:Nat) (aj aH:AA) (bi bj:Nat) (l:Ĵ ĵ),vs=[.C b,.À (S l)]/\dj C H b r w aj aH bi bj/\l.n<=9/\
 ∀(p:Ĺ) (as:Ĵ Ĺ) (H':Hp),aA H H'->H p=ĺ->H' p=ĳ (.Ç<|as.Q V.C)->dJ H' as (d_ r w l.n)->Q (.C p) H'
def XQ (G:GG K mg):DF P w K mg base yC 1 (aak G.b'):=by
 calc G.ar'.cQ vB ?_;(intro f bw A outer s H vs Q E hr h);let(b,r,w,aj,aH,bi,bj,l,rfl,B,hl9,q):=h;let((dx,pr,pm,pb,hb,M,hm,hbb),O):=B;let r9:=O.r9;let w9:=O.w9;let iZ:(Ts aj).n=r:=by rw[aa,O.br.len]
 let h0:0<aj.n:=by rw[O.br.len];show O.r1
 let Y:aj[0].n=w:=O.br.gW _<|aI _;calc%[0,_,(aB (aZ (i:=2) vB.nd rb (Or.Â rb)<|dN aq)<|aB (cW b4 rb (jr yk G.h'<|ak (aO cu yk G.c' bE<|ak (dF aG rb) aq) aq) (bD (i:=3) vB.nd rb<|Or.Ó rb)<|aD<|dD<|dH c8 np nt rC bh<|ak (fU rb (fQ.of vB.nd ym) (jr yk G.h'<|ak (aN cT (aN fD (aO cP yk G.c' bE<|ak (bB bY (dF aG rb) aC λ_ _=>rfl) aq)<|aO cP yk G.c' bE<|ak aW aq) aC) aq) (λ_ _ _ _ _=>cF) λ_ _ _ _ _=>(cI<|ak bV<|ak aG aq)) aq)<|aD<|aY bh)|?_];calc%[zsz 0|λF hF=>?_];let s0:aA H (upd H F<|HO.Ç []):=aA.è hF;calc%[51,b,G.b',dx,_,_,rb,s0 _ _ hb,G.a'.cl,G.a'.nr,rb,pr,_,rb,.Ó<|aM.of<|s0 _ _ M|?_];rw[iZ];calc%[11,_,rb,cz _,ye|?_];refine iH (lo:=0) (n:=r) (λi I J=>∃(v3:ĸ V) (as:Ĵ Ĺ),I=[ĳ (.C b),ĳ (.À<|S l),ĳ (.C F),v3]/\aA H J/\J F=ĳ (.Ç<|as.Q V.C)/\dJ J as (d_ i w l.n))
  %[4,ĺ,[],rb,s0,au|by simpa [d_] using dJ.nil] ?_ ?_
 .intro i I J hi z;let(v3,as,rfl,N,dX,hP):=z;calc%[10,.Â %[10,rb,_|aP.of dX],b|%[18,G.b',dx,_,_,rb,N _ _ hb,G.a'.cl,G.a'.nr,rb|%[21,pr,_,_,_,rb,rb|%[20,aM.of<|N _ _ M,(aQ (j:=0)<|jh<|ae h0),_,rb|%[23,by rw[Y];show ax<|aF ye,_,rb,ax<|aF ye|%[22,_,_,rb,rb,_,_,rb,rb|%[0,_,rb|?_]]]]]]];rw[Y];calc%[ye,ye|?_];rw[(show ((w:ļ)-(l.n:ļ)+1).Ö=w+1-l.n from ye)];refine λL hL=>Fp (lo:=0) (n:=w+1-l.n) (λj ys D=>∃bs:Ĵ Ĺ,ys=bs.Q V.C/\bs.n=j/\D L=ĳ (.Ç ys)/\aA J D/\dJ D bs ((List.æ j).Q λj=>(i,j)))
   %[15,[],rb,rb,au,aA.è hL|dJ.Ü] ?_ ?_
  .intro j ys D hj z;let(bs,rfl,gG,jL,Z,N7):=z;calc%[zsz 2|λg hg=>?_];let k6:aA D (upd D g<|HO.Ã [.R (0+(i:ļ)),.R (0+(j:ļ))]):=aA.è hg;let lE:=k6 _ _ jL;calc%[lE,by rw[aa];show aF (by simp[cy,c6]at *;lia)|dz.mk hj %[15,bs++[g],yf,by simp;show gG,by rw[au],(Z.Z k6).bH hL|?_]];rw[fw,bg];calc((N7.mv k6).app<|dJ.one (p:=(i,j)) ?_).fG<|cO lE;show upd D g (HO.Ã [.R (0+(i:ļ)),.R (0+(j:ļ))]) g=ĳ (.Ã [.R (i:ļ),.R (j:ļ)]);rw[au,ng,ng]
  .intro ys D z;let(bs,rfl,gG,jL,Z,N7):=z;let nP:=Z _ _ dX;let hal:=hP.Ċ;rw[yK]at hal;let h81:i*(w+1-l.n)<=9*10:=iE ye<|jI ye;calc%[18,F,L,_,_,rb,rb,nP,jL,by show ax<|aF (by simp_all;lia)|?_];calc%[4,_,as++bs,rb,(N.Z Z).bH hF,by rw[au,bg]|?_];rw[Ds];show((hP.mv Z).app N7).fG<|cO nP
 .intro I J z;let(v3,as,rfl,N,dX,hP):=z;show(q F as J N hF dX hP)
def ji (aj:AA)(r w i j:ĵ)(l:Ĵ ĵ)(k:ĵ):œ:=ľ (atC aj r w i ((j+k:ĵ):ļ)=46)||ľ (PyProof.â.ě (atC aj r w i ((j+k:ĵ):ļ))=l.Í k 0)
def jB (aj:AA)(r w i j:ĵ)(l:Ĵ ĵ)(k:ĵ):ĸ aR:=if atC aj r w i ((j+k:ĵ):ļ)=46 then ĳ (i,j+k,l.Í k 0) else ĺ
def jC (aj:AA)(r w i j:ĵ)(l:Ĵ ĵ)(n:ĵ):Ĵ aR:=(List.æ n).û (jB aj r w i j l)
def m7 (aj:AA)(r w i j:ĵ)(l:Ĵ ĵ):œ:=ľ (atC aj r w i ((j:ļ)-1)=46)&&ľ (atC aj r w i ((j:ļ)+(l.n:ļ))=46)
def cG (aj:AA)(r w i j:ĵ)(l:Ĵ ĵ):Ĵ aR:=if (m7 aj r w i j l&&(List.æ l.n).ė (ji aj r w i j l))=ķ then jC aj r w i j l l.n else []
def qe (aj)(r w i j)(l)(n):jC aj r w i j l (n+1)=jC aj r w i j l n++(jB aj r w i j l n).I:=by unfold jC;rw[fw,List.filterMap_append];congr 1
def all_succ (f:ĵ->œ)(n):(List.æ<|n+1).ė f=((List.æ n).ė f&&f n):=by rw[fw];simp
def Ar (aj)(r w i j)(l)(n):(jC aj r w i j l n).n<=n:=by show aw (List.length_filterMap_le _ _) (by rw[ej];show ah _)
def XR {r w bi bj:ĵ}{aj aH:AA}(O:vM r w aj aH bi bj)(i j:ļ):atC aj r w i j<128:=by
 unfold atC;split
 .rename_i h;let(h1,G,F,J):=h;let q:i.Ö<aj.n:=by rw[O.br.len];simp_all
  let D:aj.Í i.Ö []=aj[i.Ö]:=by rw[ai,ae q];rfl
  let B:j.Ö<aj[i.Ö].n:=by rw[O.br.gW _ (aI _)];lia
  rw[D,ai,ae B];show GC<|O.cr _ (aI _) _<|aI _
 .decide
def acL (C:Ĺ):Sp:=λvs H Q _=>∃(b:Addr) (r w:Nat) (aj aH:AA) (bi bj i j:Nat) (l:Ĵ ĵ),vs=[.C b,.R i,.R j,.À (S l)]/\dj C H b r w aj aH bi bj/\j<1000/\l.n<=9/\
 ∀(p:Ĺ) (as:Ĵ Ĺ) (H':Hp),aA H H'->H p=ĺ->H' p=ĳ (.Ç<|as.Q V.C)->cY H' as (cG aj r w i j l)->Q (.C p) H'
def CP (G:GG K mg):DF P w K mg base k_ 4 (acL G.b'):=by
 calc G.as'.cQ iz λf bw A outer s H vs Q E Z h=>?_;let(b,r,w,aj,aH,bi,bj,i,j,l,rfl,B,hj,hl9,q):=h;let(dx,_,_,_,ex,_):=id B.ex;let O:=B.ok;let hz:l.n<=Ń:=ax<|aF ye;calc%[0,_,(aB (cg (QW.qt<|qL (bN mC (gZ aG G.a'.cl G.f'.m (Cv G) Z.Ø G.f'.b .Ü f9<|ak aW<|ak (aN fD bh aC) aq) (kJ yk G.i')<|bR _)<|nC<|bN mC (gZ aG G.a'.cl G.f'.m (Cv G) Z.Ø G.f'.b .Ü f9<|ak aW<|ak (aN cT bh<|aO cP yk G.c' bE<|ak bG aq) aq) (kJ yk G.i')<|bR _) (aD<|aY<|dN aq) bI)<|aB (aZ (i:=4) iz.nd rb (Or.Â rb)<|dN aq)<|aB (cW b4 rb (ZQ yk G.z' bG bh) (jV rb<|bO (bD (i:=5) iz.nd rb<|Or.Â rb)<|bO (bD (i:=6) iz.nd rb<|Or.Â rb) g_)<|aB (aZ (i:=7) iz.nd rb (Or.Â rb)<|gZ aG G.a'.cl G.f'.m (Cv G) Z.Ø G.f'.b .Ü f9<|ak aW<|ak cB aq)<|aD<|cg (bN uc gO (kJ yk G.i')<|bR _) (aD<|dD<|dH c8 fh fk gQ bV<|ak (cI<|ak aW<|ak cB<|ak cM aq) aq)<|aD<|cg (bN mC (aV (N8 G) Z.Ø rb<|ak gO aq) cM<|bR _) (aD<|aY<|dN aq) bI)<|aD<|aY bV)|?_];let D:cG aj r w i j l=[]->∀(H':Hp),aA H H'->(0<=Ń)/\∀p,H' p=ĺ->Q (.C p) (upd H' p<|.Ç []):=λe H' L=>%[yi|λp hp=>q p [] _ (L.bH<|L.Ô hp) (L.Ô hp) au (by rw[e];show cY.Ü)]
 calc%[26,b,dx,_,rb|%[19,ex,rb,_,_,rb,rb|%[5,b,r|%[24,w,aj,aH,bi,bj,_,_,rb,B|%[1,_,_,rb,rb|aU _ rb ?_]]]]];by_cases c1:atC aj r w (i:ļ) ((j:ļ)-1)=46
 .rw[am (show [atC aj r w (i:ļ) ((j:ļ)-1)]=[46] by rw[c1])];calc bK %[8,b,dx,_,rb,ex,rb|%[33,l,rb,hz,_,_,rb,rb|%[5,b,r|%[24,w,aj,aH,bi,bj,_,_,rb,B|%[1,_,_,rb,rb|aU _ rb ?_]]]]];by_cases c2:atC aj r w (i:ļ) ((j:ļ)+(l.n:ļ))=46
  .rw[am (show [atC aj r w (i:ļ) ((j:ļ)+(l.n:ļ))]=[46] by rw[c2])];calc bK ?_;let he:m7 aj r w i j l=ķ:=by unfold m7;rw[am c1,am c2];rfl
   calc%[zsz 0|λF hF=>?_];let s0:aA H (upd H F<|HO.Ç []):=aA.è hF;refine%[4,l,j,rb,rb,hj|Xb (l:=l) (k:=j) (λn I J=>∃(v5 v6 v7:ĸ V) (as:Ĵ Ĺ),I=[ĳ (.C b),ĳ (.R i),ĳ (.R j),ĳ (.À<|S l),ĳ (.C F),v5,v6,v7]/\aA H J/\J F=ĳ (.Ç<|as.Q V.C)/\cY J as (jC aj r w i j l n)/\(List.æ n).ė (ji aj r w i j l)=ķ)
    %[6,ĺ,ĺ,ĺ,[],rb,s0,au,cY.Ü|rb] ?_ ?_]
   .intro n c I J T hn z hT;let(v5,v6,v7,as,rfl,L,dX,hL,ha):=z;let hnl:n<l.n:=(ap.mp hn).1;let ec:l.Í n 0=c:=by rw[ai,hn];rfl
    let k1:aA J (upd J T<|HO.Ã [.R ((j+n:ĵ):ļ),.À (S [c])]):=aA.è hT;calc%[46,T,_,rb,aM.of au,rb,_,_,rb,_,_,rb,rb|?_];let rY:=k1 _ _ dX;let M:=L.Z k1;let wY:=hL.mv k1;generalize upd J T (HO.Ã [.R ((j+n:ĵ):ļ),.À (S [c])])=H3 at k1 rY M wY ⊢;let B3:=B.mv M;let bW:=wY.Ċ;let htl:=Ar aj r w i j l n;calc%[8,b,dx,_,rb,M _ _ ex,rb|%[5,b,r|%[24,w,aj,aH,bi,bj,_,_,rb,B3|?_]]];calc%[1,[atC aj r w (i:ļ) ((j+n:ĵ):ļ)],[46],rb,rb|aU _ rb ?_];by_cases N:atC aj r w (i:ļ) ((j+n:ĵ):ļ)=46
    .calc jT9 (show [atC aj r w (i:ļ) ((j+n:ĵ):ļ)]=[46] by rw[N]) %[.Â %[10,rb,_|aP.of rY],zsz 3|λg hg=>?_];let k4:aA H3 (upd H3 g<|HO.Ã [.R (i:ļ),.R ((j+n:ĵ):ļ),.À (S [c])]):=aA.è hg;let nP:=k4 _ _ rY;calc%[7,F,_,_,rb,rb,nP,by rw[aa];show aF ye|?_];refine%[6,_,_,_,as++[g],rb,(M.Z k4).bH hF,by rw[au,bg];rfl,?_|?_]
     .rw[qe];let et:jB aj r w i j l n=ĳ (i,j+n,c):=by unfold jB;rw[Ŀ N,ec]
      rw[et];show((wY.mv k4).snoc (t:=(i,j+n,c)) au).fG<|cO nP
     .rw[all_succ,ha];unfold ji;rw[am N];rfl
    .calc jF9 (show ¬[atC aj r w (i:ļ) ((j+n:ĵ):ļ)]=[46] from λz=>N (by injection z)) %[33,_,rb,XR O _ _,[PyProof.â.ě (atC aj r w (i:ļ) ((j+n:ĵ):ļ))],[c],rb,rb|aU _ rb ?_];by_cases Y:PyProof.â.ě (atC aj r w (i:ļ) ((j+n:ĵ):ļ))=c
     .rw[am (show [PyProof.â.ě (atC aj r w (i:ļ) ((j+n:ĵ):ļ))]=[c] by rw[Y])];refine bK %[6,_,_,_,as,rb,M,rY,?_|?_]
      .rw[qe];let et:jB aj r w i j l n=ĺ:=by unfold jB;rw[ŀ N]
       rw[et];simpa using wY
      .rw[all_succ,ha];show ji aj r w i j l n=ķ;unfold ji;rw[ec,am Y,Bool.or_true]
     .rw[al (show ¬[PyProof.â.ě (atC aj r w (i:ļ) ((j+n:ĵ):ļ))]=[c] from λz=>Y (by injection z))];calc bZ<|D ?_ H3 M;unfold cG;rw[if_neg];intro z;let z2:=(df _ _ ▸ z).2;rw[fE]at z2;let z3:=z2 n<|bS.Û hnl;unfold ji at z3;rw[al N,ec,al Y]at z3;show ń z3 yi
   .intro I J z;let(v5,v6,v7,as,rfl,L,dX,hL,ha):=z;calc(q F as J L hF dX ?_);let e:cG aj r w i j l=jC aj r w i j l l.n:=by unfold cG;rw[he,ha];show Ŀ rfl
    rw[e];show hL
  .rw[al (show ¬[atC aj r w (i:ļ) ((j:ļ)+(l.n:ļ))]=[46] from λz=>c2 (by injection z))];calc bZ<|D ?_ H<|aA.Ğ _;unfold cG m7;rw[al c2,ko,iA];show ŀ yi
 .rw[al (show ¬[atC aj r w (i:ļ) ((j:ļ)-1)]=[46] from λz=>c1 (by injection z))];calc bZ<|D ?_ H<|aA.Ğ _;unfold cG m7;rw[al c1,iA,iA];show ŀ yi
def lK (c:ĵ×ĵ):Ĵ Key:=[Sum.Â (c.1:ļ),Sum.Â (c.2:ļ)]
def N_ (h:lK a=lK b):a=b:=by injection h with h1 h2;injection h2 with h2 _;injection h1 with h1;injection h2 with h2;show ue (nw h1)<|nw h2
def RK {κ:Type} [Ŏ κ] (kvs:Ĵ (κ×V))(k:κ)(v):(putK kvs k v).n<=kvs.n+1:=by
 unfold putK;split;.rw[aa];show kc _ _
 .simp
def aal (q:H M=ĳ (.dT ks)):∀a xs,H a=ĳ (.Ã xs)->upd H M (.dT ks') a=ĳ (.Ã xs):=λa xs e=>by
 let ne:a≠M:=λz=>by rw[z,q]at e;cases e
 rw[bx ne];show e
def jJ (ws aj:AA)(c:ĵ×ĵ):Ĵ ĵ:=mK ws (lineOf aj c.1 c.2 1) (placeOf c.1 c.2 1)
def q_ (aj:AA)(r w:ĵ):Ĵ (ĵ×ĵ):=(cells r w).ą (frB aj r w)
def uP {aj:AA}{r w:ĵ}{c:ĵ×ĵ}:c∈q_ aj r w↔(c.1<r/\c.2<w)/\atC aj r w c.1 c.2=46:=by
 unfold q_;rw[f7];unfold frB;rw[dP];constructor
 .rintro⟨h1,q⟩;show%[by simp only[cells,cx,ar,bS]at h1;let(i,hi,j,B,rfl):=h1;show%[hi|B]|by injection q]
 .rintro⟨h1,q⟩;show%[by simp only[cells,cx,ar,bS];show%[49,c.1,h1.1,c.2,h1.2|rb]|by rw[q]]
def aam {aj:AA}{r w:ĵ}(r9:r<=9)(w9:w<=9):(q_ aj r w).n<=81:=by
 calc aw (iL _ _) ?_;have:(cells r w).n=r*w:=by
  unfold cells
  induction r with| zero=>simp| succ r ih=>rw[fw,lT,ay,ih (ax r9)];simp[oQ]
 rw[this];show iE r9 w9
def aeU (C B:Ĺ):Sp:=λvs H Q _=>∃(b k d:Addr) (ws:AA) (r w:Nat) (aj aH:AA) (bi bj:Nat),vs=[.C b,.C k]/\dj C H b r w aj aH bi bj/\j8 B H k d ws/\
 ∀(p:Ĺ) (kvs:Ĵ (Ĵ Key×V)) (H':Hp),aA H H'->H p=ĺ->H' p=ĳ (.dT kvs)->(∀c∈q_ aj r w,fO kvs (lK c)=ĳ (.À<|S<|jJ ws aj c))->Q (.C p) H'
def GJ (M:GG K mg):DF P w K mg base mY 11 (aeU M.b' M.d'):=by
 calc M.at'.cQ lW ?_;(intro f bw A outer s H vs Q E hr h);let(b,k,d,ws,r,w,aj,aH,bi,bj,rfl,B,BK,q):=h;calc%[0,_,(aB (aZ (i:=2) lW.nd rb (Or.Â rb) Mf)<|aB (cW b4 rb (dh<|aV (zx M) hr.Ø rb<|ak aG aq) (jV rb<|bO (bD (i:=3) lW.nd rb<|Or.Â rb)<|bO (bD (i:=4) lW.nd rb<|Or.Â rb) g_)<|aD<|BP (BR hr) bh (cI<|ak bG<|ak bV aq) (aV (Em M) hr.Ø rb<|ak aG<|ak aW<|ak bG<|ak bV<|ak aC aq) rb)<|aD<|aY bh)|?_];intro F hF;let s0:aA H (upd H F<|HO.dT []):=aA.è hF;let uQ:upd H F (HO.dT []) F=ĳ (.dT []):=au;calc%[24,b,r,w,aj,aH,bi,bj,rb,B.mv s0|λp as H1 s1 hp hP=>?_];let Z:=s1 _ _ uQ;let npF:p≠F:=λz=>by rw[z,Z]at hp;cases hp
 let hal:as.n<=81:=by rw[hP.len];show aam B.ok.r9 B.ok.w9
 refine%[2,p,rb,%[_|aP.of hp]|h_ (K:=K) (a:=p) (xs:=as.Q V.C) (λn I J=>∃(v3 v4:ĸ V) (kvs:Ĵ (Ĵ Key×V)),I=[ĳ (.C b),ĳ (.C k),ĳ (.C F),v3,v4]/\aA H J/\J p=ĳ (.Ç<|as.Q V.C)/\dJ J as (q_ aj r w)/\J F=ĳ (.dT kvs)/\kvs.n<=n/\∀c∈(q_ aj r w).Å n,fO kvs (lK c)=ĳ (.À<|S<|jJ ws aj c))
  %[40,ĺ,ĺ,[],rb,s0.Z s1,hp,hP,Z,ah _|λc hc=>by simp at hc] (λn I J _ h=>by let(_,_,_,_,_,h2,_):=h;show aP.of h2) ?_ ?_]
 .intro n x I J hx z;let(v3,v4,kvs,rfl,L,O,G,dX,Y,D):=z;let(hi,hx):=rfg hx;subst hx;let(c,ec,hc):=G.get hi;let N:=uP.mp<|a5 ec;calc%[46,as[n],_,rb,aM.of hc,rb,_,_,rb,_,_,rb,rb|?_];calc%[9,b,k,d|%[9,ws,r,w|%[65,aj,aH,bi,bj,c.1,c.2,1,rb,B.mv L,BK.same L,N.1.1,N.1.2,.Ó rb|λH3 s3=>?_]]];calc%[zsz 2|λg hg=>?_];let k4:aA H3 (upd H3 g<|HO.Ã [.R (c.1:ļ),.R (c.2:ļ)]):=aA.è hg;let nP:=k4 _ _<|s3 _ _ dX;calc%[1,F,_,rb,t_.t (k:=lK c) nP au<|aF ye|?_];calc%[40,_,_,putK kvs (lK c) _,rb,((L.Z s3).Z k4).bH hF,by rw[bx npF];show k4 _ _<|s3 _ _ O,((G.mv s3).mv k4).fG<|aal nP,au,aw (RK _ _ _)<|ja Y|λe he=>?_];rw[Lx];by_cases z:lK e=lK c;.rw[Ŀ z,N_ z];rfl
  .rw[ŀ z];rw[bu,ec]at he;rcases a7.mp he with y|y;.show D e y
   .have:e=c:=by simpa using y
    show ń (by rw[this]) z
 .intro I J z;let(v3,v4,kvs,rfl,L,O,G,dX,Y,D):=z;rw[aa,G.len,b9]at D;show(q F kvs J L hF dX D)
def ni (fit:ĵ×ĵ->Ĵ ĵ)(hk:Ĵ (ĵ×ĵ))(ts:Ĵ aR):œ:=(ľ (1<=ts.n)&&ľ (ts.n<=7))&&(ts.ė (λt=>ľ<|t.2.2∈fit (bM t))&&ts.đ (λt=>ľ<|bM t∈hk))
def acM (h:xq a=xq b):a=b:=by injection h with h;injection h with h1 h2;injection h2 with h2 _;injection h1 with h1;injection h2 with h2;show ue (nw h1)<|nw h2
def Ip {hk:Ĵ (ĵ×ĵ)}:xq c∈hk.Q xq↔c∈hk:=%[λh=>by let(d,hd,e):=ar.mp h;rw[<-acM e];show hd|λh=>ci h]
def agb (K:W.Ê):Sp:=λvs H Q _=>∃(p d j:Addr) (as bs:Ĵ Ĺ) (ts:Ĵ aR) (kvs:Ĵ (Ĵ Key×V)) (fit:ĵ×ĵ->Ĵ ĵ) (hk:Ĵ (ĵ×ĵ)),vs=[.C p,.C d,.C j]/\H p=ĳ (.Ç<|as.Q V.C)/\cY H as ts/\ts.n<=63/\H d=ĳ (.dT kvs)/\(∀t∈ts,fO kvs (lK<|bM t)=ĳ (.À<|S<|fit<|bM t))/\
 H j=ĳ (.Ã<|bs.Q V.C)/\dJ H bs hk/\∀H',aA H H'->Q (.bl<|ni fit hk ts) H'
def Ir (G:GG K mg):DF P w K mg base oA 2 (agb K):=by
 calc G.au'.cQ wX ?_;(intro f bw A outer s H vs Q E hr h);let(p,d,j,as,bs,ts,kvs,fit,hk,rfl,hp,hL,h63,hd,hkv,hj,hJ,q):=h;let Y:(as.Q V.C).n=ts.n:=by rw[aa];show hL.Ċ
 calc%[0,_,(aB (cg (eV<|oK kI kI aC (aO cu yk G.c' bE<|ak aG aq)<|KY yk G.F') (aD<|aY fL) bI)<|aB (cg (eV<|dw<|aO (iY rb) yk G.j' iJ<|ak (eX (ns:=["row","column","letter"]) rb (fu.of ["triples","fitting","joining"] [] ym) (dh aG) (λ_ _ _ _ _=>(mU K rb (show (["row","column","letter","triples","fitting","joining"]:Ĵ Ŋ).Ý by decide +kernel) rb rb rb yk yk yk)) (λ_ _ _ _ _=>cF) λ_ _ _ _ _=>(gC Fq bh (abF (BR hr) bV (cI<|ak aG<|ak aW aq) λ_ _=>rfl) rb)) aq) (aD<|aY fL) bI)<|aD<|aY<|aO (DW rb) yk G.x' zY<|ak (fU rb (fQ.of wX.nd ym) (dh<|aV (qZ G) hr.Ø rb<|ak aG aq) (λ_ _ _ _ _=>cF) λ_ _ _ _ _=>(gC (ab9 K hr.Þ) aG bG rb)) aq)|?_];calc%[22,p,_,rb,.Â<|aP.of hp,_,_,rb,rb|aU _ rb ?_];rw[Y];let no:ni fit hk ts=Ļ->Q (.bl Ļ) H:=λe=>by have:=q H<|aA.Ğ _;rw[e]at this;show this
 by_cases c1:1<=ts.n
 .calc jT9 (show (1:ļ)<=(ts.n:ļ) from ie sT c1) %[1,_,_,rb,rb|aU _ rb ?_];by_cases c2:ts.n<=7
  .rw[am (show (ts.n:ļ)<=7 from ie sT c2)];calc bK ?_;refine%[2,p,rb,%[_|aP.of hp]|λL zj=>vV (f:=eF [] 0) (tt:=gb) (xs:=as.Q V.C) (λi ys B=>ys=((ts.Å i).Q λt=>ľ<|t.2.2∈fit (bM t)).Q V.bl/\B L=ĳ (.Ç ys)/\aA H B)
    %[rb,au|aA.è zj] (λi ys B _ h=>aP.of<|h.2.2 _ _ hp) ?_ ?_]
   .intro i x ys B hx z;let(rfl,lE,D):=z;let(hi,hx):=rfg hx;let(t,et,hT):=hL.get hi;calc sJ hx.Ù (aM.of<|D _ _ hT) ?_;calc%[zsz 2|λg hg=>?_];let k4:aA B (upd B g<|HO.Ã [.R (t.1:ļ),.R (t.2.1:ļ)]):=aA.è hg;let Z:=pD.t (k:=lK (bM t)) (k4 _ _<|D _ _ hd)<|show upd B g (HO.Ã [.R (t.1:ļ),.R (t.2.1:ļ)]) g=ĳ (.Ã<|(lK<|bM t).Q kV) from au;rw[hkv t (a5 et)]at Z;calc%[1,d,_,rb,Z|%[12,_,_,rb,rb,k4 _ _ lE,?_|dz.mk (by rw[aa];show hi) %[?_,au|(D.Z k4).bH zj]]];.rw[aa,aa,a8];show aF (by grind)
    .rw[bu,et];simp
   .intro ys B z;let(rfl,lE,D):=z;rw[Y,b9]at lE;calc%[1,L,_,rb,aP.of lE|aU _ rb ?_];rw[List.all_map];by_cases c3:ts.ė (λt=>ľ<|t.2.2∈fit (bM t))=ķ
    .rw[show (ts.ė<|id ∘ λt=>ľ (t.2.2∈fit (bM t)))=ķ from c3];calc bK ?_;calc%[7,p,as,ts,rb,.Â<|aP.of (D _ _ hp),hL.mv D,h63|λp7 cs H7 s7 RL Oa N=>?_];let RM:=D.Z s7;let hcl:cs.n=ts.n:=by rw[N.len,aa]
     refine%[2,p7,rb,%[_|aP.of Oa]|λM hM=>oU (K:=K) (a:=p7) (xs:=cs.Q V.C) (λi ys J=>ys=((ts.Å i).Q λt=>ľ<|bM t∈hk).Q V.bl/\J M=ĳ (.Ç ys)/\aA H7 J)
      %[rb,au|aA.è hM] (λi ys J _ h=>aP.of<|h.2.2 _ _ Oa) ?_ ?_]
     .intro i x ys J hx z;let(rfl,ql,F):=z;let(hi,hx):=rfg hx;subst hx;let(c,ec,hc):=N.get hi;obtain⟨t,et,rfl⟩:∃t,ts[i]?=ĳ t/\bM t=c:=by
       rw[ba]at ec;show io.mp ec
      let O:=(hJ.mv RM).mv F;refine%[42,2,xq<|bM t,hk.Q xq,yi,.Ã (aM.of<|F _ _ hc)<|.Ð (.R _)<|.Ð (.R _) .Ü,?_,ql,?_|dz.mk (by rw[aa];show hi) %[?_,au|F.bH hM]]
      .rw[<-O.eq];show .Ã (aM.of (F _ _<|RM _ _ hj))<|Cy O.č
      .rw[aa,aa,a8];show aF (by grind)
      .rw[bu,et,bg,bg];congr 1;show [V.bl _]=[V.bl _]
       congr 2;show ph.Û Ip
     .intro ys J z;let(rfl,ql,F):=z;rw[aa,hcl,b9]at ql;calc%[1,M,_,rb,aP.of ql|?_];rw[x5];let e:ni fit hk ts=ts.đ (id ∘ λt=>ľ (bM t∈hk)):=by
       unfold ni;rw[am c1,am c2,c3];rfl
      rw[<-e];show q J<|RM.Z F
    .rw[show (ts.ė<|id ∘ λt=>ľ (t.2.2∈fit (bM t)))=Ļ from kz.Û c3];calc bZ ?_;have:=q B D;let e:ni fit hk ts=Ļ:=by
      unfold ni;rw[kz.Û c3,iA,ko]
     rw[e]at this;show this
  .rw[al (show ¬(ts.n:ļ)<=7 by lia)];calc bZ<|no ?_;unfold ni;rw[al c2,ko,iA]
 .calc jF9 (show ¬(1:ļ)<=(ts.n:ļ) by simp_all)<|no ?_;unfold ni;rw[al c1,iA,iA]
def fK:Ĵ ĵ->Ĵ ĵ->Ĵ (Ĵ ĵ)
 | [],_=>[[]]
 | c::ls,rk=>(if c∈rk then (fK ls<|rk.ý c).Q (c :: ·) else [])++(if 63∈rk then (fK ls<|rk.ý 63).Q (PyProof.â.up1 c :: ·) else [])
def xr (h:isLet c):PyProof.â.up1 c=c-32/\cR (PyProof.â.up1 c)=63/\cR c=c/\c<128/\PyProof.â.up1 c<128:=by let h1:=h.1;let q:=h.2;let e:PyProof.â.up1 c=c-32:=Ŀ<|show 97<=c/\c<=122 from h;rw[e];show%[rb,Ŀ %[fg ye|se q _],ŀ ye,ye|jS ye]
theorem tQ:∀(ls rk:Ĵ ĵ) {t:Ĵ ĵ},t∈fK ls rk->t.n=ls.n
 | [],_,t,h=>by rw[av.mp h]
 | c::ls,rk,t,h=>by
  unfold fK at h;rcases a7.mp h with z|z
  .split at z
   .let(u,q,rfl):=ar.mp z;simp[tQ ls _ q]
   .simp at z
  .split at z
   .let(u,q,rfl):=ar.mp z;simp[tQ ls _ q]
   .simp at z
def acN {c:ĵ}{ls rk:Ĵ ĵ}(h:c∈rk):(fK ls<|rk.ý c).n<=(fK (c::ls) rk).n:=by rw[fK,Ŀ h,ay,aa];lia
def acO {c:ĵ}{ls rk:Ĵ ĵ}(h:63∈rk):(fK ls<|rk.ý 63).n<=(fK (c::ls) rk).n:=by rw[fK,Ŀ h,ay,aa (as:=fK ls (rk.ý 63))];lia
def vN (o:ĵ):Sp:=λvs H Q _=>∃(ls rk:Ĵ ĵ),vs=[.À (S ls),.À (S rk)]/\(∀c∈ls,isLet c)/\ls.n<o/\o<=10/\rk.n<=100/\(fK ls rk).n<=900/\
 ∀(p:Ĺ) (H':Hp),aA H H'->H p=ĺ->H' p=ĳ (.Ç<|Ts<|fK ls rk)->Q (.C p) H'
def aan (D:sI K mg name st ps)(q:∀vs H Q E,¬sp vs H Q E):Ft P w K mg base name k ps sp:=by let(f,fd,F,b,g):=D.ex;show%[f,fd,%[λvs H Q E h=>ń h<|q vs H Q E|λA outer s H args us vs Q E _ _ _ _ h=>ń h<|q vs H Q E],b,g|F.kp]
def Qg (c:ĵ)(ts:AA)(n:ĵ){t:Ĵ ĵ}(h:ts[n]?=ĳ t):Ts ((ts.Å<|n+1).Q (c :: ·))=Ts ((ts.Å n).Q (c :: ·))++[V.À (S<|[c]++t)]:=by rw[bu,h,bg];show(j7 _ _).Ù
def Ob (hk:1<=k)(D:sI K mg "sign_texts" j6 ["letters","rack"])(T:Gi P w K mg base f fd)(bT:lN K fd ["sign"] [])(mT:mg "tile_of"=ĳ (.C f))(kT:W.Ī K (.C f)=ķ)(Oc:Ft P w K mg base "sign_texts" k ["letters","rack"] (vN o)):Ft P w K mg base "sign_texts" (k+1) ["letters","rack"] (vN<|o+1):=by
 calc D.cQ oE λf' bw A outer s H vs Q E hr h=>?_;let(ls,rk,rfl,G,J,ho,hrk,Z,q):=h;let Y:Ui (pA qj P w K mg base ["letters","rack","texts","sign","tile","left"] "sign_texts" (aJ j6) f' bw A outer s H E).zH 1 3 4 5 f fd:=%[oE.nd,rb,rb,rb,rb,.Â rb,.Ó rb,.Â rb,.Â rb,rb,rb,rb,T,bT,mT,kT,rb|hr.Ø hk]
 refine%[0,_,aB (cg (bN uc aG (b_ [] yn)<|bR _) (aD<|aY<|dN<|ak (b_ [] yn) aq) bI)
  (aB (aZ (i:=2) oE.nd rb (Or.Â rb)<|dN aq)
  (aB (aex Y yn b4 rb (aa6 aG λ_ _=>rfl) (afT<|aa6 aG λ_ _=>rfl) rb rb rb rb (λ_=>rfl)
  <|aD<|dD<|dH c8 np nt rC bh<|ak (fU rb (fQ.of oE.nd ym) (dh<|aV Oc hr rb<|ak (iW Hw aG (iQ aC) mR)<|ak cB aq) (λ_ _ _ _ _=>cF) λ_ _ _ _ _=>(aN lG bV aG)) aq)
 <|aD<|aY bh))|?_]
 refine%[1,_,_,rb,rb|aU _ rb ?_]
 match ls,G,J,Z,q with
 | [],G,J,Z,q=>show jT9 rfl %[zsz 1|λp hp=>q p _ (aA.è hp) hp au]
 | c::ls,G,J,Z,q=>
  calc bK %[zsz 0|λF hF=>?_];let(u1,u2,u3,u4,u5):=xr (G c aS);let hlo':ls.n<o:=by simp at J;show J
  let hz:(c::ls).n<=Ń:=ax<|aF ye;let s0:aA H (upd H F<|HO.Ç []):=aA.è hF;let uQ:upd H F (HO.Ç []) F=ĳ (.Ç []):=au;generalize upd H F (HO.Ç [])=H0 at s0 uQ ⊢;let one:∀(d:ĵ) (M:Hp) (ts:AA) (Dn:St->Hp->Prop) (Dr:VK),aA H M->M F=ĳ (.Ç<|Ts ts)->cR d∈rk->ts.n<=900->(fK ls<|rk.ý<|cR d).n<=900->
    (∀N,aA H N->N F=ĳ (.Ç (Ts (ts++(fK ls<|rk.ý<|cR d).Q (d :: ·))))->Dn [ĳ (.À<|S<|c::ls),ĳ (.À<|S rk),ĳ (.C F),ĳ (.À<|S [d]),ĳ (.À<|S [cR d]),ĳ (.À<|S<|rk.ý<|cR d)] N)->
    (KD<|Vz K "list" Bx (eG 2)<|jt (KR (KH K<|Bp (vN o) [] E0<|jt (tSl Tj (eG 0) (KN<|tC<|V.R 1) Bs)<|jt (eG 5) rK) gb<|wD BX (eG 4)<|eG 0) rK) {nx:=Dn,rt:=Dr} [ĳ (.À<|S<|c::ls),ĳ (.À<|S rk),ĳ (.C F),ĳ (.À<|S [d]),ĳ (.À<|S [cR d]),ĳ (.À<|S<|rk.ý<|cR d)] M:=by
   intro d M ts Dn Dr sm dX cJ h9 h9' nx;let ag7:mD (c::ls) (ĳ 1) ĺ=ls:=by rw[show (1:ļ)=((1:ĵ):ļ) from rb,xV];rfl
   calc%[10,.Â %[10,rb,_|aP.of dX],_|%[23,rb,c::ls,rb,hz|%[28,ls,rk.ý<|cR d,by rw[ag7];rfl,(λd hd=>G d<|aE _ hd),hlo',ax ho,aw mP hrk,h9'|λp N s3 hn3 hp3=>?_]]];let rY:=s3 _ _ dX;refine%[2,p,rb,%[_|aP.of hp3]|λL hL=>oU (K:=K) (a:=p) (xs:=Ts (fK ls<|rk.ý<|cR d)) (λi ys H4=>ys=Ts (((fK ls<|rk.ý<|cR d).Å i).Q (d :: ·))/\H4 L=ĳ (.Ç ys)/\aA N H4)
    %[rb,au|aA.è hL] (λi ys H4 _ h=>aP.of<|h.2.2 _ _ hp3) ?_ ?_]
   .intro i x ys H4 hx z;let(rfl,jL,s4):=z;let(t,ht,rfl):=nO hx;let htl:=tQ _ _<|a5 ht;calc%[27,[d],t,rb,rb,ax<|aF (by simp;lia),jL,?_|dz.mk ((ap.mp hx).1) %[?_,au|s4.bH hL]];.rw[aa,aa,a8];show aF ye
    .show(Qg d _ i ht).Ù
   .intro ys H4 z;let(rfl,jL,s4):=z;rw[aa,b9]at jL;refine%[18,F,L,_,_,rb,rb,(s4 _ _ rY),jL,?_|nx _ (((sm.Z s3).Z s4).bH hF) ?_]
    .rw[aa,aa,aa];show aw (Nat.add_le_add h9 h9') yi
    .rw[au];unfold Ts;rw[bg]
  calc%[7,S<|c::ls,0,c,rb,rb,by show hz,aQ (j:=0) rb|?_];calc%[7,S<|c::ls,0,c,rb,rb,by show hz,aQ (j:=0) rb|%[33,c,rb,u4,c,PyProof.â.up1 c,rb,rb|?_]];let two:∀(M:Hp) (ts:AA) (v4 v5 v6:ĸ V),aA H M->M F=ĳ (.Ç<|Ts ts)->ts=(if c∈rk then (fK ls<|rk.ý c).Q (c :: ·) else [])->
    vW 1 3 4 5 (KD<|Vz K "list" Bx (eG 2)<|jt (KR (KH K<|Bp (vN o) [] E0<|jt (tSl Tj (eG 0) (KN<|tC<|V.R 1) Bs)<|jt (eG 5) rK) gb<|wD BX (eG 4)<|eG 0) rK) (PyProof.â.up1 c) {nx:=Yv (eG 2) {nx:=λx H'=>Q V.ć H',rt:=Q},rt:=Q} [ĳ (.À<|S<|c::ls),ĳ (.À<|S rk),ĳ (.C F),v4,v5,v6] M:=by
   intro M ts v4 v5 v6 sm dX O;let ag8:ts.n<=(fK (c::ls) rk).n:=by rw[fK,<-O,ay];lia
   calc%[2,rk,rb,ye|?_];by_cases B:63∈rk
   .rw[Ŀ (by rw[u2];show B)];refine one (PyProof.â.up1 c) M ts _ _ sm dX (by rw[u2];show B) (aw ag8 Z) (by rw[u2];show aw (acO B) Z) λN s3 rY=>(q F N s3 hF ?_)
    rw[rY,u2,fK,Ŀ B,O]
   .rw[ŀ (by rw[u2];show B)];calc(q F M sm hF ?_);rw[dX,fK,ŀ B,O,dS]
  calc%[2,rk,rb,ye|?_];rw[u3];by_cases hc:c∈rk
  .rw[Ŀ hc];have:=one c H0 [] (vW 1 3 4 5 (KD<|Vz K "list" Bx (eG 2)<|jt (KR (KH K<|Bp (vN o) [] E0<|jt (tSl Tj (eG 0) (KN<|tC<|V.R 1) Bs)<|jt (eG 5) rK) gb<|wD BX (eG 4)<|eG 0) rK) (PyProof.â.up1 c) {nx:=Yv (eG 2) {nx:=λx H'=>Q V.ć H',rt:=Q},rt:=Q}) Q s0 uQ (by rw[u3];show hc) (by decide) (by rw[u3];show aw (acN hc) Z) λN s3 rY=>two N _ _ _ _ s3 rY (by rw[u3,Ŀ hc];rfl);rw[u3]at this;show this
  .rw[ŀ hc];show two H0 [] _ _ _ s0 uQ (by rw[ŀ hc])
def Kv (G:GG K mg):DF P w K mg base j6 9 (vN 8):=by
 let(f,fd,F,b,m):=G.G'.ex;let q:Ft P w K mg base "sign_texts" 1 ["letters","rack"] (vN 0):=aan G.H' λvs H Q E h=>by let(ls,rk,_,_,h,_):=h;show ń h<|m4 _
 let st:=λo k hk (h:Ft P w K mg base "sign_texts" k ["letters","rack"] (vN o))=>Ob (o:=o) (k:=k) hk G.H' (ab8 F Gk rb rb yn yn yn) b m F.kp h;show st 7 8 yi<|st 6 7 yi<|st 5 6 yi<|st 4 5 yi<|st 3 4 yi<|st 2 3 yi<|st 1 2 yi<|st 0 1 yi q
def lO (H:Hp)(a:Ĺ):Ĵ aR:=match H a with
 | some (.Ã xs)=>xs.Q λv=>match v with| .C b=>tO H b| _=>(0,0,0)
 | _=>[]
def nj (H:Hp)(a:Ĺ)(ts:Ĵ aR):Prop:=∃bs:Ĵ Ĺ,H a=ĳ (.Ã<|bs.Q V.C)/\cY H bs ts
def K8 (h:nj H a ts):lO H a=ts:=by let(bs,h1,q):=h;unfold lO;rw[h1];show ((bs.Q V.C).Q _)=ts;rw[cp,<-q.eq];rfl
def nj.fG (k:∀a xs,H a=ĳ (.Ã xs)->H' a=ĳ (.Ã xs))(h:nj H a ts):nj H' a ts:=let %[bs,h1|h2]:=h;%[0,bs,k _ _ h1|h2.fG k]
structure fZ (H:Hp)(as:Ĵ Ĺ)(ls:Ĵ (Ĵ aR)):Prop where
 at_:∀a∈as,nj H a (lO H a)
 eq:as.Q (lO H)=ls
def fZ.fG (k:∀a xs,H a=ĳ (.Ã xs)->H' a=ĳ (.Ã xs))(h:fZ H as ls):fZ H' as ls:=by let e:∀a∈as,lO H' a=lO H a:=λa ha=>K8<|(h.č a ha).fG k;show%[λa ha=>by rw[e a ha];show(h.č a ha).fG k|by rw[<-h.eq];show du e]
def fZ.mv (k:aA H H')(h:fZ H as ls):fZ H' as ls:=h.fG λa xs e=>k a _ e
def fZ.nil:fZ H [] []:=%[λa h=>by simp at h|rb]
def fZ.app (h:fZ H as ls)(g:fZ H bs ms):fZ H (as++bs) (ls++ms):=by
 calc%[λb q=>?_|by rw[bg,h.eq,g.eq]];rcases a7.mp q with z|z;.show h.č b z
 .show g.č b z
def fZ.one (ha:nj H a ts):fZ H [a] [ts]:=%[λb q=>by rw[av.mp q,K8 ha];show ha|by rw[qV,K8 ha]]
def fZ.len (h:fZ H as ls):as.n=ls.n:=by rw[<-h.eq,aa]
def fZ.get (h:fZ H as ls)(hi:i<as.n):∃t,ls[i]?=ĳ t/\nj H as[i] t:=%[0,lO H as[i],by rw[<-h.eq];simp[hi]|h.č _<|aI _]
def d8 (ts:Ĵ aR)(ss:Ĵ ĵ):Ĵ aR:=List.zipWith (λt c=>(t.1,t.2.1,c)) ts ss
def Ux (h1:ts[i]?=ĳ t)(q:ss[i]?=ĳ c):(d8 ts ss).Å (i+1)=(d8 ts ss).Å i++[(t.1,t.2.1,c)]:=by rw[bu];unfold d8;rw[List.getElem?_zipWith,h1,q];rfl
def J3 {ts:Ĵ aR}{ss:Ĵ ĵ}(h:ts.n=ss.n):(d8 ts ss).n=ts.n:=by unfold d8;rw[List.length_zipWith];lia
def jM (ts:Ĵ aR):Ĵ ĵ:=ts.Q λt=>t.2.2
def dZ (ts:Ĵ aR)(rk:Ĵ ĵ):Ĵ (Ĵ aR):=(fK (jM ts) rk).Q (d8 ts)
def acP:Sp:=λvs H Q _=>∃(p:Addr) (as:Ĵ Ĺ) (ts:Ĵ aR) (rk:Ĵ ĵ),vs=[.C p,.À (S rk)]/\H p=ĳ (.Ç<|as.Q V.C)/\cY H as ts/\ts.n<=7/\(∀t∈ts,isLet t.2.2)/\rk.n<=100/\(fK (jM ts) rk).n<=900/\
 ∀(p':Ĺ) (as':Ĵ Ĺ) (H':Hp),aA H H'->H p'=ĺ->H' p'=ĳ (.Ç<|as'.Q V.C)->fZ H' as' (dZ ts rk)->Q (.C p') H'
def Kw (Gz:GG K mg):DF P w K mg base pU 10 acP:=by
 calc Gz.av'.cQ oF ?_;(intro f bw A outer s H vs Q E hr h);let(p,as,ts,rk,rfl,hp,hL,h7,Av,hrk,yL,q):=h;let hal:=hL.Ċ;calc%[0,_,(aB (aZ (i:=2) oF.nd rb (Or.Â rb)<|aV (qZ Gz) hr.Ø rb<|ak aG aq)<|aB (aZ (i:=3) oF.nd rb (Or.Â rb)<|dN aq)<|aB (cW b4 rb (dh<|aV (Kv Gz) hr.Ø rb<|ak (dH bv e_ fb oV (b_ [] yn)<|ak (eX (ns:=["row","column","letter"]) rb (fu.of ["triples","rack","cells","layings","signs"] [] ym) (dh aG) (λ_ _ _ _ _=>(mU K rb (show (["row","column","letter","triples","rack","cells","layings","signs"]:Ĵ Ŋ).Ý by decide +kernel) rb rb rb yk yk yk)) (λ_ _ _ _ _=>cF) λ_ _ _ _ _=>bh) aq)<|ak aW aq) (bD (i:=4) oF.nd rb<|Or.Â rb)<|aD<|dD<|dH c8 fh fk gQ bG<|ak (c7 dU yk Gz.e' di<|ak (eX (ns:=["cell","sign"]) rb (fu.of ["triples","rack","cells","layings","signs"] [] ym) (acd yk Gz.C'<|ak bh<|ak bV aq) (λ_ _ _ _ _=>(B_ K rb (show (["cell","sign","triples","rack","cells","layings","signs"]:Ĵ Ŋ).Ý by decide +kernel) rb rb yk yk)) (λ_ _ _ _ _=>cF) λ_ _ _ _ _=>(cI<|ak (bB (iV K) aG aC λ_ _=>rfl)<|ak (bB (iV K) aG aC λ_ _=>rfl)<|ak aW aq)) aq) aq)<|aD<|aY bG)|?_];calc%[7,p,as,ts,rb,.Â<|aP.of hp,hL,ye|λpc Z Y sc hnc hpc hPc=>?_];let hcl:Z.n=ts.n:=by rw[hPc.len,aa]
 calc%[zsz 0|λF hF=>?_];let s0:aA Y (upd Y F<|HO.Ç []):=aA.è hF;let uQ:upd Y F (HO.Ç []) F=ĳ (.Ç []):=au;generalize upd Y F (HO.Ç [])=H0 at s0 uQ ⊢;let hp0:=s0 _ _<|sc _ _ hp;refine%[23,rb,p,rb,%[_|aP.of hp0]|λL zj=>vV (f:=eF [] 0) (tt:=gb) (xs:=as.Q V.C) (λi ys B=>ys=Ts (ones<|(jM ts).Å i)/\B L=ĳ (.Ç ys)/\aA H0 B)
  %[rb,au|aA.è zj] (λi ys B _ h=>aP.of<|h.2.2 _ _ hp0) ?_ ?_]
 .intro i x ys B hx z;let(rfl,lE,sm):=z;let(hi,hx):=rfg hx;let(t,et,hT):=((hL.mv sc).mv s0).get hi;calc sJ hx.Ù (aM.of<|sm _ _ hT) ?_;calc%[lE,?_|dz.mk (by rw[aa];show hi) %[?_,au|sm.bH zj]];.rw[aa,aa,a8];show aF ye
  .have:(jM ts)[i]?=ĳ t.2.2:=by unfold jM;rw[ba,et];rfl
   rw[bu,this,j7,rH];rfl
 .intro ys B z;let(rfl,lE,sm):=z;let hsl:(jM ts).n=ts.n:=aa _;rw[aa,hal,<-hsl,b9]at lE;calc%[12,L,ones<|jM ts,rb,rb,aP.of lE,by rw[lq];lia|?_];rw[lq];refine%[28,jM ts,rk,rb,λc hc=>?_,ye,yi,hrk,yL|λpS H1 s1 hn1 O=>?_]
  .let(t,ht,rfl):=ar.mp hc;show Av t ht
  generalize hTX:fK (jM ts) rk=tx at yL O;let ag9:∀t∈tx,t.n=ts.n:=λt ht=>by rw[<-hTX]at ht;rw[tQ _ _ ht,hsl]
  let nSF:pS≠F:=λz=>by rw[z,sm _ _ uQ]at hn1;cases hn1
  refine%[2,pS,rb,%[_|aP.of O]|h_ (K:=K) (a:=pS) (xs:=Ts tx) (λn I J=>∃(v4:ĸ V) (bs:Ĵ Ĺ),I=[ĳ (.C p),ĳ (.À<|S rk),ĳ (.C pc),ĳ (.C F),v4]/\aA Y J/\J pS=ĳ (.Ç<|Ts tx)/\J F=ĳ (.Ç<|bs.Q V.C)/\fZ J bs ((tx.Å n).Q<|d8 ts)/\bs.n=n)
   %[27,ĺ,[],rb,((s0.Z sm).Z s1),O,(s1 _ _<|sm _ _ uQ),fZ.Ü|rb] (λn I J _ h=>by let(_,_,_,_,h2,_):=h;show aP.of h2) ?_ ?_]
  .intro n x I J hx z;let(v4,bs,rfl,s2,hp2,dX,hY,gG):=z;let(ss,hss,rfl):=nO hx;let hnl:n<(Ts tx).n:=(ap.mp hx).1;rw[aa]at hnl;let aha:=ag9 ss<|a5 hss;let aeV:=s2 _ _ hpc;let ahb:=hPc.mv s2;refine%[17,.Â %[10,rb,_|aP.of dX],pc,ss,rb,%[_|aP.of aeV]|λM hM=>aeA (f:=eF [] 0) (tt:=gb) (KT:=K) (xs:=Z.Q V.C) (l:=ss) (by rw[aa,hcl,aha]) (λi zs B=>∃ds:Ĵ Ĺ,zs=ds.Q V.C/\ds.n=i/\B M=ĳ (.Ç zs)/\aA J B/\cY B ds ((d8 ts ss).Å i))
    %[15,[],rb,rb,au,aA.è hM|cY.Ü] (λi zs B _ h=>by let(_,_,_,_,zq,_):=h;show aP.of<|zq _ _ aeV) ?_ ?_]
   .intro i x c zs B T hx hc z hT;let(ds,rfl,G,jl,N,hB):=z;let(hi,hx):=rfg hx;subst hx;let(cc,ec,hcc):=ahb.get hi;obtain⟨t,et,rfl⟩:∃t,ts[i]?=ĳ t/\bM t=cc:=by
     rw[ba]at ec;show io.mp ec
    let D:aA B (upd B T<|HO.Ã [.C Z[i],.À (S [c])]):=aA.è hT;calc Tt rb (aM.of au) ?_;let aeW:=D _ _<|N _ _ hcc;let rZ:=D _ _ jl;let s7:=N.Z D;let hB7:=hB.mv D;generalize upd B T (HO.Ã [.C Z[i],.À (S [c])])=H7 at D aeW rZ s7 hB7 ⊢;let Od:=aM.of (K:=K) aeW;calc%[6,Z[i],_,_,_,rb,rb,Od,aQ (j:=0) rb|%[18,Z[i],_,_,_,rb,rb,Od,aQ (j:=1) rb,zsz 3|λg hg=>?_]];let k8:aA H7 (upd H7 g<|HO.Ã [.R ((bM t).1:ļ),.R ((bM t).2:ļ),.À (S [c])]):=aA.è hg;let ql:=k8 _ _ rZ;calc%[ql,by rw[aa,G];show aF ye|dz.mk (by rw[aa];show hi) %[15,ds++[g],yf,by simp[G],by rw[au],(s7.Z k8).bH hM|?_]];rw[Ux et hc];show((hB7.mv k8).snoc (t:=(t.1,t.2.1,c)) au).fG<|cO ql
   .intro zs B z;let(ds,rfl,G,jl,N,hB):=z;rw[cw (by rw[J3 ye,aa];lia)]at hB;calc%[3,M,_,rb|.Â %[aP.of jl|λT hT=>?_]];let D:aA B (upd B T<|HO.Ã<|ds.Q V.C):=aA.è hT;let hF7:=D _ _<|N _ _ dX;calc%[7,F,_,_,rb,rb,hF7,by rw[aa,gG];show aF ye|?_];calc%[27,_,bs++[T],rb,((s2.Z N).Z D).bH hF,by rw[bx nSF];show D _ _<|N _ _ hp2,by rw[au,bg];rfl,?_|by simp[gG]];rw[bu,hss,bg];show(((hY.mv N).mv D).app<|fZ.one (ts:=d8 ts ss) %[0,ds,au|hB.mv D]).fG<|cO hF7
  .intro I J z;let(v4,bs,rfl,s2,hp2,dX,hY,gG):=z;rw[aa,b9]at hY;calc(q F bs J (sc.Z s2) (sc.Ô hF) dX ?_);unfold dZ;rw[hTX];show hY
def Aw {aj:AA}{r w i j:ĵ}{l:Ĵ ĵ}(h:t∈cG aj r w i j l):∃k,k<l.n/\t=(i,j+k,l.Í k 0)/\atC aj r w i ((j+k:ĵ):ļ)=46:=by
 unfold cG at h;split at h
 .let(k,hk,e):=n0.mp h;unfold jB at e;split at e
  .rename_i q;show%[2,k,bS.mp hk,(bd e).Ù|q]
  .cases e
 .simp at h
def GK {aj:AA}{r w i j:ĵ}{l:Ĵ ĵ}(hi:i<r)(B:j<w+1-l.n)(h:t∈cG aj r w i j l):bM t∈q_ aj r w:=by let(k,hk,rfl,q):=Aw h;show uP.Û %[%[hi|by show j+k<w;(simp[cy,c6]at *;lia)]|q]
def Ax {aj:AA}{r w i j:ĵ}{l:Ĵ ĵ}(q:jo l)(h:t∈cG aj r w i j l):isLet t.2.2:=by let(k,hk,rfl,_):=Aw h;show isLet<|l.Í k 0;rw[ai,ae hk];show q.az _<|aI _
def oX (aj)(r w i j)(l):(cG aj r w i j l).n<=l.n:=by
 unfold cG;split;.show Ar ..
 .show b5 _
def nu (fit:ĵ×ĵ->Ĵ ĵ)(hk:Ĵ (ĵ×ĵ))(aj:AA)(r w:ĵ)(rk l:Ĵ ĵ)(c:ĵ×ĵ):Ĵ (Ĵ aR):=if ni fit hk (cG aj r w c.1 c.2 l)=ķ then dZ (cG aj r w c.1 c.2 l) rk else []
def vO (fit:ĵ×ĵ->Ĵ ĵ)(hk:Ĵ (ĵ×ĵ))(aj:AA)(r w:ĵ)(rk l:Ĵ ĵ):Ĵ (Ĵ aR):=(d_ r w l.n).ó (nu fit hk aj r w rk l)
def fH (ws:AA)(hk:Ĵ (ĵ×ĵ))(aj:AA)(r w:ĵ)(rk:Ĵ ĵ)(us:AA):Ĵ (Ĵ aR):=us.ó (vO (jJ ws aj) hk aj r w rk)
theorem xu {α β:Type}{f:α->Ĵ β}{b:ĵ}:∀{l:Ĵ α},(∀x∈l,(f x).n<=b)->(l.ó f).n<=l.n*b
 | [],_=>by simp
 | x::l,h=>by rw[List.flatMap_cons,ay,bX,oQ];have:=h x aS;have:=xu (l:=l) λy q=>h y<|aE _ q;lia
def aao {hk:Ĵ (ĵ×ĵ)}{aj:AA}{r w g:ĵ}{rk l:Ĵ ĵ}(q:∀ls:Ĵ ĵ,ls.n<=l.n->(fK ls rk).n<=g)(c:ĵ×ĵ):(nu fit hk aj r w rk l c).n<=g:=by
 unfold nu;split;.unfold dZ;rw[aa];show q _ (by unfold jM;rw[aa];show oX ..)
 .show b5 _
def J4 {hk:Ĵ (ĵ×ĵ)}{aj:AA}{r w g q:ĵ}{rk l:Ĵ ĵ}(B:∀ls:Ĵ ĵ,ls.n<=l.n->(fK ls rk).n<=g)(D:(d_ r w l.n).n<=q):(vO fit hk aj r w rk l).n<=q*g:=by calc aw (xu λc _=>aao B c) ?_;show ke _ D
def Ay {α β:Type}{f:α->Ĵ β}{l:Ĵ α}{n:ĵ}{x:α}(h:l[n]?=ĳ x):(l.Å<|n+1).ó f=(l.Å n).ó f++f x:=by rw[bu,h];simp
def aap (C B:Ĺ):Sp:=λvs H Q _=>∃(b k d:Addr) (ws:AA) (r w:Nat) (aj aH:AA) (bi bj q g:Nat) (rk:Ĵ ĵ),vs=[.C b,.C k,.À (S rk)]/\dj C H b r w aj aH bi bj/\j8 B H k d ws/\ws.n<64/\rk.n<=100/\(∀l∈ws,(d_ r w l.n).n<=q/\∀ls:Ĵ ĵ,ls.n<=l.n->(fK ls rk).n<=g)/\g<=900/\ws.n*(q*g)<=1999/\
 ∀(p:Ĺ) (as:Ĵ Ĺ) (us:AA) (H':Hp),aA H H'->H p=ĺ->H' p=ĳ (.Ç<|as.Q V.C)->us.ú ws->fZ H' as (fH ws (cD aj r w bi bj) aj r w rk us)->as.n<=1999->Q (.C p) H'
def su (G:GG K mg):DF P w K mg base lg 12 (aap G.b' G.d'):=by
 calc G.aw'.cQ eE ?_;(intro f bw A outer s H vs Q E hr h);let(b,k,d,ws,r,w,aj,aH,bi,bj,L,g,rk,rfl,B,BK,Iu,hrk,hg,hg9,hbd,q):=h;calc%[0,_,(aB (aZ (i:=3) eE.nd rb (Or.Â rb)<|aV (GJ G) hr.Ø rb<|ak aG<|ak aW aq)<|aB (aZ (i:=4) eE.nd rb (Or.Â rb)<|aV (aai G) hr.Ø rb<|ak aG aq)<|aB (aZ (i:=5) eE.nd rb (Or.Â rb)<|dN aq)<|aB (cW b4 rb (fJ<|xP aW G.g'.cl G.u'.m (Z9 G) hr.Ø G.u'.b .Ü f9) (bD (i:=6) eE.nd rb<|Or.Â rb)<|aD<|cW b4 rb (dh<|aV (XQ G) hr.Ø rb<|ak aG<|ak cM aq) (jV rb<|bO (bD (i:=7) eE.nd rb<|Or.Â rb)<|bO (bD (i:=8) eE.nd rb<|Or.Â rb) g_)<|aB (aZ (i:=9) eE.nd rb (Or.Â rb)<|aV (CP G) hr.Ø rb<|ak aG<|ak gO<|ak jO<|ak cM aq)<|aD<|cg (dw<|aV (Ir G) hr.Ø rb<|ak nQ<|ak bG<|ak bV aq) (aD<|dD<|dH c8 np nt rC cB<|ak (aV (Kw G) hr.Ø rb<|ak nQ<|ak bh aq) aq) bI)<|aD<|aY cB)|?_];calc%[36,b,k,d,ws,r,w,aj,aH,bi,bj,rb,B,BK|λpd kvs H1 s1 hn1 hd1 hkv=>?_];calc%[24,b,r,w,aj,aH,bi,bj,rb,B.mv s1|λpj js H2 s2 hj2 hJ2=>?_];let sj:=s1.Z s2;let hd2:=s2 _ _ hd1;calc%[zsz 0|λF hF=>?_];let s0:aA H2 (upd H2 F<|HO.Ç []):=aA.è hF;let uQ:upd H2 F (HO.Ç []) F=ĳ (.Ç []):=au;let BK0:=BK.same<|sj.Z s0;let(dk,ek):=BK0.ob;calc%[8,k,dk,_,rb,ek,rb|%[8,k,d,ws,rb,BK0,Iu|λpu us H3 s3 hnu hpu pm _=>?_]];let rY:=s3 _ _ uQ;let hul:us.n=ws.n:=pm.length_eq;let huw:∀l∈us,jo l:=λl hl=>BK.az l<|pm.õ.mp hl;let XS:∀l∈us,(d_ r w l.n).n<=L/\∀ls:Ĵ ĵ,ls.n<=l.n->(fK ls rk).n<=g:=λl hl=>hg l<|pm.õ.mp hl;let agc:4000<=Ń:=by decide
 refine%[2,pu,rb,%[_|aM.of hpu]|qp (K:=K) (a:=pu) (xs:=Ts us) (λn I H4=>∃(v6 v7 v8 v9:ĸ V) (as:Ĵ Ĺ),I=[ĳ (.C b),ĳ (.C k),ĳ (.À<|S rk),ĳ (.C pd),ĳ (.C pj),ĳ (.C F),v6,v7,v8,v9]/\aA H2 H4/\H4 pu=ĳ (.Ã<|Ts us)/\H4 F=ĳ (.Ç<|as.Q V.C)/\fZ H4 as ((us.Å n).ó<|vO (jJ ws aj) (cD aj r w bi bj) aj r w rk))
  %[32,ĺ,ĺ,ĺ,ĺ,[],rb,(s0.Z s3),hpu,rY|fZ.Ü] (λn I H4 _ h=>by let(_,_,_,_,_,_,_,h2,_):=h;show aM.of h2) ?_ ?_]
 .intro n x I H4 hx z;let(v6,v7,v8,v9,as,rfl,s4,hu4,nP,hY):=z;let(l,hl,rfl):=nO hx;let hnl:n<us.n:=(ap.mp hl).1;let hW:=huw l<|a5 hl;let hl9:=hW.hi;let Nk:=XS l<|a5 hl;let hal:as.n<=n*(L*g):=by
   rw[hY.len];calc aw (xu (b:=L*g) λx hx=>J4 (XS x<|eL hx).2 (XS x<|eL hx).1) ?_;show ke _ (by rw[a8];show on _ _)
  let hbig:(n+1)*(L*g)<=1999:=aw (ke _ ye) hbd;calc%[5,b,r|%[57,w,aj,aH,bi,bj,l,rb,(B.mv<|sj.Z s4),hl9|λps cs H5 s5 hn5 Xp RJ=>?_]];let hF5:=s5 _ _ nP;let nsF:ps≠F:=λz=>by rw[z,nP]at hn5;cases hn5
  let hcl:cs.n<=L:=by rw[RJ.len];show Nk.1
  refine%[2,ps,rb,%[_|aP.of Xp]|h_ (K:=K) (a:=ps) (xs:=cs.Q V.C) (λm I H6=>∃(v7 v8 v9:ĸ V) (bs:Ĵ Ĺ),I=[ĳ (.C b),ĳ (.C k),ĳ (.À<|S rk),ĳ (.C pd),ĳ (.C pj),ĳ (.C F),ĳ (.À<|S l),v7,v8,v9]/\aA H2 H6/\H6 pu=ĳ (.Ã<|Ts us)/\H6 ps=ĳ (.Ç<|cs.Q V.C)/\dJ H6 cs (d_ r w l.n)/\H6 F=ĳ (.Ç<|bs.Q V.C)/\
    fZ H6 bs ((us.Å n).ó (vO (jJ ws aj) (cD aj r w bi bj) aj r w rk)++((d_ r w l.n).Å m).ó (nu (jJ ws aj) (cD aj r w bi bj) aj r w rk l))/\bs.n<=as.n+m*g)
   %[35,v7,v8,v9,as,rb,(s4.Z s5),s5 _ _ hu4,Xp,RJ,hF5,by simpa using hY.mv s5|kc _ _] (λm I H6 _ h=>by let(_,_,_,_,_,_,_,h2,_):=h;show aP.of h2) ?_ ?_]
  .intro m x I H6 hx z;let(v7,v8,v9,bs,rfl,s6,M,Gf,zA,Du,GQ,hb6):=z;let(hi,hx):=rfg hx;subst hx;let(c,ec,hc):=zA.get hi;let(hc1,hc2):=lu.mp (a5 ec);let hmg:as.n+(m+1)*g<=1999:=by
    let h1:(m+1)*g<=L*g:=ke _ ye;lia
   calc%[46,cs[m],_,rb,aM.of hc,rb,_,_,rb,_,_,rb,rb|?_];calc%[9,b,r,w|%[56,aj,aH,bi,bj,c.1,c.2,l,rb,(B.mv<|sj.Z s6),by have:=(B.ok).w9;(simp[cy,c6]at *;lia),hl9|λpt ats H7 N RL Oa hT7=>?_]];let Y:=s6.Z N;let ntF:pt≠F:=λz=>by rw[z,Du]at RL;cases RL
   let htl:=oX aj r w c.1 c.2 l;let hfree:∀t∈cG aj r w c.1 c.2 l,bM t∈q_ aj r w:=λt ht=>GK hc1 hc2 ht;calc%[9,pt,pd,pj|%[58,ats,js,cG aj r w c.1 c.2 l,kvs,jJ ws aj,cD aj r w bi bj,rb,Oa,hT7,ye,Y _ _ hd2,λt ht=>hkv _<|hfree t ht,Y _ _ hj2,hJ2.mv Y|λH8 J=>(aU _ rb ?_)]];let s28:=Y.Z J;let hF8:=J _ _ (N _ _ Du);let keep:∀(H9:Hp) (cs':Ĵ Ĺ),aA H8 H9->fZ H9 cs' (nu (jJ ws aj) (cD aj r w bi bj) aj r w rk l c)->fZ H9 (bs++cs') ((us.Å n).ó (vO (jJ ws aj) (cD aj r w bi bj) aj r w rk)++((d_ r w l.n).Å<|m+1).ó (nu (jJ ws aj) (cD aj r w bi bj) aj r w rk l)):=λH9 cs' s9 hY'=>by rw[Ay ec,<-bt];show(((GQ.mv N).mv J).mv s9).app hY'
   by_cases D:ni (jJ ws aj) (cD aj r w bi bj) (cG aj r w c.1 c.2 l)=ķ
   .rw[D];let h7:(cG aj r w c.1 c.2 l).n<=7:=by
     unfold ni at D;simp only[df,dP]at D;show D.1.2
    let aaq:nu (jJ ws aj) (cD aj r w bi bj) aj r w rk l c=dZ (cG aj r w c.1 c.2 l) rk:=by unfold nu;rw[Ŀ D]
    calc bZ %[10,.Â %[10,rb,_|aP.of hF8],pt|%[60,ats,cG aj r w c.1 c.2 l,rk,rb,J _ _ Oa,hT7.mv J,h7,λt ht=>Ax hW ht,hrk,aw (Nk.2 _ (by unfold jM;rw[aa];show oX ..)) hg9|λpl ls H9 s9 hn9 hp9 Oe=>?_]];let Z:=s9 _ _ hF8;let hll:ls.n<=g:=by rw[Oe.len];unfold dZ;rw[aa];show Nk.2 _ (by unfold jM;rw[aa];show oX ..)
    calc%[18,F,pl,_,_,rb,rb,Z,hp9,by rw[aa,aa];lia|?_];calc%[35,_,_,_,bs++ls,rb,(s28.Z s9).bH hF,?_,by rw[bx nsF];show s9 _ _<|J _ _<|N _ _ Gf,?_,by rw[au,bg],?_|by rw[ay];lia];.show cO Z _ _<|s9 _ _<|J _ _<|N _ _ M
    .show(((zA.mv N).mv J).mv s9).fG<|cO Z
    .show(keep H9 ls s9 (by rw[aaq];show Oe)).fG<|cO Z
   .rw[kz.Û D];let aaq:nu (jJ ws aj) (cD aj r w bi bj) aj r w rk l c=[]:=by unfold nu;rw[ŀ D]
    calc bK %[35,_,_,_,bs,rb,s28,J _ _<|N _ _ M,J _ _<|N _ _ Gf,(zA.mv N).mv J,hF8,?_|ye];have:=keep H8 [] (aA.Ğ _) (by rw[aaq];show fZ.Ü);rw[dS]at this;show this
  .intro I H6 z;let(v7,v8,v9,bs,rfl,s6,M,Gf,zA,Du,GQ,hb6):=z;calc%[32,_,_,_,_,bs,rb,s6,M,Du|?_];rw[aa,zA.len,b9]at GQ;rw[Ay hl];show GQ
 .intro I H4 z;let(v6,v7,v8,v9,as,rfl,s4,hu4,nP,hY):=z;rw[aa,b9]at hY;let hal:as.n<=1999:=by
   rw[hY.len];calc aw (xu (b:=L*g) λx hx=>J4 (XS x hx).2 (XS x hx).1) ?_;rw[hul];show hbd
  show(q F as us H4 (sj.Z s4) (sj.Ô hF) nP pm hY hal)
def cell (R:AA)(i j:ĵ):ĵ:=(R.Í i []).Í j 0
def cell_eq {R:AA}(hi:i<R.n)(q:j<R[i].n):cell R i j=R[i][j]:=by unfold cell;rw[ai (l:=R),ae hi];show (R[i]).Í j 0=_;rw[ai,ae q];rfl
def oY {r w:ĵ}{aj:AA}(B:Blk r w aj){i j:ĵ}(hi:i<r)(D:j<w):cell (bC aj w) j i=cell aj i j:=by
 let q:i<aj.n:=by rw[B.len];show hi
 unfold cell;rw[show (bC aj w).Í j []=dI aj j by
  unfold bC;rw[ai,ba,gN D];rfl]
 unfold dI;rw[ai,ba,ae q,ai (l:=aj),ae q];rfl
def acQ {r w:ĵ}{aj:AA}(q:Blk r w aj){i j:ĵ}(hi:i<r)(B:j<w):atC (bC aj w) w r (j:ļ) (i:ļ)=atC aj r w (i:ļ) (j:ļ):=by unfold atC;rw[Ŀ %[ye,ye,ye|ye],Ŀ %[ye,ye,ye|ye]];show oY q hi B
def yM (aj):isFree aj=ķ↔∀l∈aj,∀c∈l,c=46:=by
 unfold isFree;rw[fE];constructor
 .intro h l q c D;simpa using h c (uA.Û %[0,l,q|D])
 .intro h c D;let(l,q,B):=uA.mp D;simpa using h l q c B
def J5 {r w:ĵ}{aj:AA}(q:Blk r w aj):isFree (bC aj w)=isFree aj:=by
 cases h1:isFree aj with
 | true=>show(yM _).Û<|yH q<|(yM _).mp h1
 | false=>
  cases B:isFree (bC aj w) with| false=>rfl| true=>have:=yH (jd q)<|(yM _).mp B;rw[Aq q]at this;rw[(yM _).Û this]at h1;cases h1
def qJ {r w:ĵ}{aj:AA}(q:Blk r w aj)(u v:ļ):atC (bC aj w) w r v u=atC aj r w u v:=by
 by_cases h:0<=u/\u<r/\0<=v/\v<w
 .obtain⟨i,rfl⟩:∃k:Nat,u=k:=%[u.Ö|ye]
  obtain⟨j,rfl⟩:∃k:Nat,v=k:=%[v.Ö|ye]
  show acQ q ye ye
 .rw[(show atC aj r w u v=46 from ŀ h),(show atC (bC aj w) w r v u=46 from ŀ λz=>h %[z.2.2.1,z.2.2.2,z.1|z.2.1])]
def acR {r w:ĵ}{aj:AA}(q:Blk r w aj)(u v:ļ):zp (bC aj w) w r v u=zp aj r w u v:=by unfold zp poss;simp only[oo,List.any_nil,si,qJ q];generalize (!ľ ([atC aj r w u (v-1)]=[46]))=a;generalize (!ľ ([atC aj r w u (v+1)]=[46]))=b;generalize (!ľ ([atC aj r w (u-1) v]=[46]))=c;generalize (!ľ ([atC aj r w (u+1) v]=[46]))=d;cases a <;> cases b <;> cases c <;> cases d <;> rfl
def Ep {aj:AA}{r w:ĵ}{c:ĵ×ĵ}:c∈qY aj r w↔(c.1<r/\c.2<w)/\frB aj r w c=ķ/\zu aj r w c=ķ:=by unfold qY;rw[f7,XM,df]
def J6 {r w:ĵ}{aj:AA}(q:Blk r w aj)(i j:ĵ):(j,i)∈qY (bC aj w) w r↔(i,j)∈qY aj r w:=by
 rw[Ep,Ep];let B:frB (bC aj w) w r (j,i)=frB aj r w (i,j):=by unfold frB;rw[qJ q]
 rw[B,(show zu (bC aj w) w r (j,i)=zu aj r w (i,j) from acR q _ _)];show%[λ⟨⟨a,b⟩,c⟩=>%[%[b|a]|c]|λ⟨⟨a,b⟩,c⟩=>%[%[b|a]|c]]
theorem Er:∀(ls rk:Ĵ ĵ) {t:Ĵ ĵ},(∀c∈ls,isLet c)->t∈fK ls rk->∀c∈t,vL c
 | [],_,t,_,h,c,q=>by rw[av.mp h]at q;simp at q
 | d::ls,rk,t,hl,h,c,q=>by
  let hd:=hl d aS;let B:∀c∈ls,isLet c:=λc q=>hl c<|aE _ q;unfold fK at h;rcases a7.mp h with z|z
  .split at z
   .let(u,D,rfl):=ar.mp z;rcases a_.mp q with e|e;.rw[e];show aeI hd
    .show Er ls _ B D c e
   .simp at z
  .split at z
   .let(u,D,rfl):=ar.mp z;rcases a_.mp q with e|e;.rw[e,(xr hd).1];show aeJ hd
    .show Er ls _ B D c e
   .simp at z
theorem Es:∀{ts:Ĵ aR} {ss:Ĵ ĵ},ts.n=ss.n->(d8 ts ss).Q bM=ts.Q bM/\jM (d8 ts ss)=ss
 | [],[],_=>%[rb|rb]
 | [],_::_,h=>by simp at h
 | _::_,[],h=>by simp at h
 | t::ts,c::ss,h=>by
  let q:=Es (ts:=ts) (ss:=ss) (by simpa using h);constructor
  .show bM t::(d8 ts ss).Q bM=bM t::ts.Q bM;rw[q.1]
  .show c::jM (d8 ts ss)=c::ss;rw[q.2]
theorem Az (aj)(r w i j)(l):∀n,((jC aj r w i j l n).Q λt=>t.2.1).Ä (·<·)/\∀t∈jC aj r w i j l n,t.1=i/\t.2.1<j+n
 | 0=>%[List.Ä.Ü|λt h=>by simp[jC]at h]
 | n+1=>by
  let(h1,B):=Az aj r w i j l n;rw[qe];cases e:jB aj r w i j l n with
  | none=>simp only[Option.toList_none,dS];show%[h1|λt q=>%[(B t q).1|hV (B t q).2]]
  | some u=>
   let F:u=(i,j+n,l.Í n 0):=by
    unfold jB at e;split at e;.show(bd e).Ù
    .cases e
   subst F;simp only[Option.toList_some];constructor
   .rw[bg,ik];calc%[h1,yf|λa ha b D=>?_];let(t,q,rfl):=ar.mp ha;simp only[b7,n9,av]at D;rw[D];show(B t q).2
   .intro t q;rcases a7.mp q with z|z;.show%[(B t z).1|hV (B t z).2]
    .rw[av.mp z];show%[rb|eQ _]
def A_ (aj)(r w i j)(l):((cG aj r w i j l).Q λt=>t.2.1).Ä (·<·)/\∀t∈cG aj r w i j l,t.1=i:=by
 unfold cG;split;.show%[(Az aj r w i j l _).1|λt q=>((Az aj r w i j l _).2 t q).1]
 .show%[List.Ä.Ü|λt h=>by simp at h]
structure fP (aj:AA)(r w:ĵ)(hk:Ĵ (ĵ×ĵ))(ts:Ĵ aR):Prop where
 ne:ts≠[]
 len:ts.n<=7
 cell:∀t∈ts,t.1<r/\t.2.1<w/\atC aj r w t.1 t.2.1=46/\vL t.2.2
 row:∃i,∀t∈ts,t.1=i
 col:(ts.Q λt=>t.2.1).Ä (·<·)
 hook:∃t∈ts,bM t∈hk
def mL {ws us:AA}{hk:Ĵ (ĵ×ĵ)}{aj:AA}{r w:ĵ}{rk:Ĵ ĵ}(hw:∀l∈us,jo l)(h:x∈fH ws hk aj r w rk us):fP aj r w hk x:=by
 let(l,hl,h):=cx.mp h;let(c,hc,h):=cx.mp h;let(J,M):=lu.mp hc;unfold nu at h;split at h
 .rename_i q;let(ss,G,rfl):=ar.mp h;let O:(cG aj r w c.1 c.2 l).n=ss.n:=by rw[tQ _ _ G];unfold jM;rw[aa]
  let(L,e2):=Es O;let N:=J3 O;unfold ni at q;simp only[df,dP]at q;let((n1,n7),_,F):=q;let(k1,Z):=A_ aj r w c.1 c.2 l;let Av:∀d∈jM (cG aj r w c.1 c.2 l),isLet d:=λd hd=>by let(t,B,rfl):=ar.mp hd;show Ax (hw l hl) B
  let back:∀t∈d8 (cG aj r w c.1 c.2 l) ss,∃t'∈cG aj r w c.1 c.2 l,bM t'=bM t:=λt B=>by
   have:bM t∈(cG aj r w c.1 c.2 l).Q bM:=by rw[<-L];show ci B
   let(t',h1,D):=ar.mp this;show%[0,t',h1|D]
  calc%[λz=>?_,ye,λt B=>?_,%[c.1|λt B=>?_],?_|?_];.rw[z]at N;simp at N;lia
  .let(t',h1,D):=back t B;let hf:=uP.mp<|GK J M h1;rw[D]at hf;show%[hf.1.1,hf.1.2,hf.2|Er _ _ Av G _ (by rw[<-e2];show ci (f:=λt:aR=>t.2.2) B)]
  .let(t',h1,D):=back t B;have:=Z t' h1;let Y:(bM t').1=(bM t).1:=by rw[D]
   let Y:t'.1=t.1:=Y;lia
  .let e3:(d8 (cG aj r w c.1 c.2 l) ss).Q (λt=>t.2.1)=(cG aj r w c.1 c.2 l).Q λt=>t.2.1:=by
    have:=Œ (List.Q Prod.snd) L;rw[cp,cp]at this;show this
   rw[e3];show k1
  .let(t',h1,D):=mw.mp F;have:bM t'∈(d8 (cG aj r w c.1 c.2 l) ss).Q bM:=by rw[L];show ci h1
   let(t,B,e):=ar.mp this;show%[0,t,B|by rw[e];show (fI D)]
 .simp at h
def fP.rk {aj:AA}{r w:ĵ}{hk:Ĵ (ĵ×ĵ)}(h:fP aj r w hk ts):(ts.Q My.rk).Ä (·<·):=by let(i,hi):=h.row;let q:=h.col;rw[c_]at q ⊢;calc kN (λ{a b} ha hb hab=>?_) q;unfold My.rk;rw[hi a ha,hi b hb];lia
def fP.X3 {aj:AA}{r w:ĵ}{hk:Ĵ (ĵ×ĵ)}(h:fP aj r w hk ts):((ts.Q sw).Q My.rk).Ä (·<·):=by let(i,hi):=h.row;let q:=h.col;rw[cp,c_];rw[c_]at q;calc kN (λ{a b} ha hb hab=>?_) q;show a.2.1*1000+a.1<b.2.1*1000+b.1;rw[hi a ha,hi b hb];lia
structure yN (aj:AA)(r w:ĵ)(hk:Ĵ (ĵ×ĵ))(ts:Ĵ aR):Prop where
 ne:ts≠[]
 len:ts.n<=7
 cell:∀t∈ts,t.1<r/\t.2.1<w/\atC aj r w t.1 t.2.1=46/\vL t.2.2
 rk:(ts.Q My.rk).Ä (·<·)
 hook:∃t∈ts,bM t∈hk
def Qh {r w bi bj:ĵ}{aj:AA}(q:Blk r w aj){c:ĵ×ĵ}(h:c∈cD (bC aj w) w r bj bi):(c.2,c.1)∈cD aj r w bi bj:=by
 unfold cD at h ⊢;rw[J5 q]at h;split at h
 .rename_i hf;rw[Ŀ hf];rw[av.mp h];show av.Û rfl
 .rename_i hf;rw[ŀ hf];show(J6 q c.2 c.1).mp h
def qg (ws:AA)(aj:AA)(r w bi bj:ĵ)(rk:Ĵ ĵ):Ĵ (Ĵ aR):=fH ws (cD aj r w bi bj) aj r w rk ws++(fH ws (cD (bC aj w) w r bj bi) (bC aj w) w r rk ws).Q λts=>ts.Q sw
def fP.ok {aj:AA}{r w:ĵ}{hk:Ĵ (ĵ×ĵ)}(h:fP aj r w hk ts):yN aj r w hk ts:=%[h.ne,h.Ċ,h.ñ,h.rk|h.hook]
def fP.down {aj:AA}{r w bi bj:ĵ}(B:Blk r w aj)(h:fP (bC aj w) w r (cD (bC aj w) w r bj bi) ts):yN aj r w (cD aj r w bi bj) (ts.Q sw):=by
 refine%[λz=>h.ne<|qh.mp z,by rw[aa];show h.Ċ,λt q=>?_,h.X3|?_]
 .let(u,F,rfl):=ar.mp q;let(a,b,c,d):=h.ñ u F;rw[qJ B]at c;show%[b,a,c|d]
 .let(t,q,D):=h.hook;show%[0,sw t,ci q|Qh B D]
def Iw {ws:AA}{aj:AA}{r w bi bj:ĵ}{rk:Ĵ ĵ}(q:Blk r w aj)(hw:∀l∈ws,jo l)(h:x∈qg ws aj r w bi bj rk):yN aj r w (cD aj r w bi bj) x:=by
 rcases a7.mp h with z|z;.show(mL hw z).ok
 .let(u,B,rfl):=ar.mp z;show(mL hw B).down q
theorem yN.Ao {aj:AA}{r w:ĵ}{hk:Ĵ (ĵ×ĵ)}(h:yN aj r w hk ts)(r9:r<=9)(w9:w<=9):∀t∈ts,Ao t:=λt q=>by let(a,b,_,d):=h.ñ t q;show%[ye,ye|d.lt]
def nj.lay (h:nj H a ts)(B:ts≠[])(ok:∀t∈ts,Ao t):uz K H a ts:=by
 let(bs,h1,D):=h;calc%[?_,B|λt G=>%[by have:=(ok t G).2.1;lia|(ok t G).2.2]];calc .Ã (aM.of h1) ?_;let F:∀bs:Ĵ Ĺ,(∀b∈bs,uN H b (tO H b)/\(tO H b).2.2<128)->fV K H 1 ((bs.Q<|tO H).Q mG) (bs.Q V.C):=by
  intro bs
  induction bs with| nil=>show λ_=>.Ü| cons b bs ih=>intro q;let(J,hz):=q b aS;show .Ð (.Ã (aM.of J)<|.Ð (.R _)<|.Ð (.R _)<|.Ð (.À _ λc L=>by rw[av.mp L];show hz) .Ü)<|ih λx hx=>q x<|aE _ hx
 have:=F bs λb q=>%[D.č b q|(ok _ (by rw[<-D.eq];show ci q)).2.2]
 rw[D.eq]at this;show this
theorem Uy:∀{as bs:Ĵ aR},(as.Q My.rk).Ä (·<·)->(bs.Q My.rk).Ä (·<·)->as.ú bs->as=bs
 | [],bs,_,_,p=>(List.nil_perm.mp p).Ù ▸ rfl
 | a::as,[],_,_,p=>ń p.length_eq yf
 | a::as,b::bs,ha,hb,p=>by
  let B:=gp.mp ha;let q:=gp.mp hb;let e:a=b:=by
   rcases a_.mp (p.õ.mp<|aS (a:=a) (l:=as)) with z|z;.show z
   .rcases a_.mp (p.õ.Û<|aS (a:=b) (l:=bs)) with y|y;.show y.Ù
    .let h1:=q.1 (My.rk a)<|ci z;let D:=B.1 (My.rk b)<|ci y;lia
  subst e;rw[Uy B.2 q.2 ((List.perm_cons _).mp p)]
def wk {ws us:AA}{hk:Ĵ (ĵ×ĵ)}{aj:AA}{r w:ĵ}{rk:Ĵ ĵ}(p:us.ú ws)(x:Ĵ aR):x∈fH ws hk aj r w rk us↔x∈fH ws hk aj r w rk ws:=by unfold fH;rw[cx,cx];show%[λzq=>by let(l,h1,q):=zq;exact %[0,l,p.õ.mp h1|q]|λ⟨l,h1,q⟩=>%[0,l,p.õ.Û h1|q]]
def agd (C B:Ĺ):Sp:=λvs H Q _=>∃(b k d:Addr) (ws:AA) (r w:Nat) (aj aH:AA) (bi bj q g:Nat) (rk:Ĵ ĵ),vs=[.C b,.C k,.À (S rk)]/\dj C H b r w aj aH bi bj/\j8 B H k d ws/\ws.n<64/\rk.n<=100/\(∀l∈ws,(d_ r w l.n).n<=q/\(d_ w r l.n).n<=q/\∀ls:Ĵ ĵ,ls.n<=l.n->(fK ls rk).n<=g)/\g<=900/\ws.n*(q*g)<=1999/\
 ∀(p:Ĺ) (as:Ĵ Ĺ) (L:Ĵ (Ĵ aR)) (H':Hp),aA H H'->H' p=ĳ (.Ã<|as.Q V.C)->fZ H' as L->JK L->L.Ý->L.n<=3998->(∀x,x∈L↔x∈qg ws aj r w bi bj rk)->Q (.C p) H'
def Iz (N:GG K mg):DF P w K mg base oG 13 (agd N.b' N.d'):=by
 calc N.ax'.cQ qF ?_;(intro f bw A outer s H vs Q E hr h);let(b,k,d,ws,r,w',aj,aH,bi,bj,mp,g,rk,rfl,B,BK,Iu,hrk,hg,hg9,hbd,q):=h;let O:=B.ok;let agc:4000<=Ń:=by decide
 calc%[0,_,(aB (aZ (i:=3) qF.nd rb (Or.Â rb)<|aV (su N) hr.Ø rb<|ak aG<|ak aW<|ak bh aq)<|aB (QM (ix:=4) (ns:=["laying"]) qF.nd rb (Or.Â rb) rb (fu.of ["board","book","rack","across","down"] [] ym) (dh<|aV (su N) hr.Ø rb<|ak (xP aG N.a'.cl N.s'.m (Xr N) hr.Ø N.s'.b .Ü f9)<|ak aW<|ak bh aq) (λ_ _ _ _ _=>(tE (show (["laying","board","book","rack","across","down"]:Ĵ Ŋ).Ý by decide +kernel) rb yk)) (λ_ _ _ _ _=>cF) λ_ _ _ _ _=>(aV (Eo N) hr.Ø rb<|ak aG aq))<|aD<|aY<|c7 dU yk N.e' di<|ak (aO (CK rb hr.Þ) yk N.l' fm<|ak (c7 (PB rb hr.Þ) yk N.y' u8<|ak (aN VB bG bV) aq) aq) aq)|?_];calc%[9,b,k,d|%[36,ws,r,w',aj,aH,bi,bj,mp,g,rk,rb,B,BK|%[Iu,hrk,λl hl=>%[(hg l hl).1|(hg l hl).2.2],hg9,hbd|λp1 G us1 H1 s1 hn1 hp1 pm1 X4 hl1=>?_]]];let B1:=B.mv s1;let(dx,_,_,_,ex,_):=id B1.ex;calc%[8,b,dx,_,rb,ex,rb|%[24,b,r,w',aj,aH,bi,bj,rb,B1|λpt Ht st Bt=>?_]];let s1t:=s1.Z st;calc%[9,pt,k,d|%[36,ws,w',r,bC aj w',bC aH w',bj,bi,mp,g,rk,rb,Bt,BK.same s1t|%[Iu,hrk,λl hl=>(hg l hl).2,hg9,hbd|λp2 as2 us2 H2 s2 hn2 hp2 Dg GR hl2=>?_]]];let ahd:=(X4.mv st).mv s2;let hw1:∀l∈us1,jo l:=λl hl=>BK.az l<|pm1.õ.mp hl;let hw2:∀l∈us2,jo l:=λl hl=>BK.az l<|Dg.õ.mp hl;let ok2:∀x∈fH ws (cD (bC aj w') w' r bj bi) (bC aj w') w' r rk us2,fP (bC aj w') w' r (cD (bC aj w') w' r bj bi) x:=λx hx=>mL hw2 hx;generalize hX:fH ws (cD (bC aj w') w' r bj bi) (bC aj w') w' r rk us2=X at GR ok2;refine%[2,p2,rb,%[_|aP.of hp2]|λL hL=>vU (f:=eF [] 0) (tt:=gb) (K:=K) (a:=p2) (xs:=as2.Q V.C) (λi ys Z=>∃ds:Ĵ Ĺ,ys=ds.Q V.C/\ds.n=i/\Z L=ĳ (.Ç ys)/\aA H2 Z/\fZ Z ds ((X.Å i).Q λts=>ts.Q sw))
  %[15,[],rb,rb,au,aA.è hL|fZ.Ü] (λi ys Z _ h=>by let(_,_,_,_,sm,_):=h;show aP.of<|sm _ _ hp2) ?_ ?_]
 .intro i x ys Z hx z;let(ds,rfl,hdl,lE,s6,GQ):=z;let(hi,hx):=rfg hx;subst hx;let(ts,et,(bs,hbs,hLb)):=GR.get hi;let hok:=ok2 ts<|a5 et;let hnd:(ts.Q λt=>My.rk<|sw t).Ý:=by
   have:=hok.X3;rw[cp]at this;show List.Ä.imp (λ{a b} hab=>bn hab) this
  calc aaY ?_;calc%[40,as2[i],bs,ts,rb,s6 _ _ hbs,hLb.mv s6,((hok.ok).Ao O.w9 O.r9),hnd,by have:=hok.Ċ;lia|λp7 bs7 ts7 F s7 Oa hL7 pm7 pw7=>?_];let e7:ts7=ts.Q sw:=Uy pw7 hok.X3 pm7;subst e7;let aeX:=s7 _ _ lE;calc%[aeX,by rw[aa,hdl];lia|dz.mk (by rw[aa];show hi) %[15,ds++[p7],yf,by simp[hdl],by rw[au],(s6.Z s7).bH hL|?_]];rw[bu,et,bg];show((GQ.mv s7).app<|fZ.one (ts:=ts.Q sw) %[0,bs7,Oa|hL7]).fG<|cO aeX
 .intro ys Z z;let(ds,rfl,hdl,lE,s6,GQ):=z;rw[aa]at hdl;rw[cw (by rw[aa];have:=GR.Ċ;lia)]at GQ;let ahf:=s6 _ _ (s2 _ _<|st _ _ hp1);calc%[18,p1,L,_,_,rb,rb,ahf,lE,by rw[aa,aa];lia|λpc hpc=>?_];let k7:aA Z (upd Z pc<|HO.Ç<|G.Q V.C++ds.Q V.C):=aA.è hpc;let aeY:upd Z pc (HO.Ç<|G.Q V.C++ds.Q V.C) pc=ĳ (.Ç<|(G++ds).Q V.C):=by rw[au,bg]
  let GX:=((ahd.mv s6).app GQ).mv k7;let sH7:=((s1t.Z s2).Z s6).Z k7;generalize upd Z pc (HO.Ç<|G.Q V.C++ds.Q V.C)=F at k7 aeY GX sH7 ⊢;let Y:∀x,x∈(fH ws (cD aj r w' bi bj) aj r w' rk us1++X.Q λts=>ts.Q sw)↔x∈qg ws aj r w' bi bj rk:=λx=>by
   unfold qg;rw[a7,a7,wk pm1,<-hX,ar,ar];constructor
   .rintro(z|⟨u,hu,rfl⟩);.show .Â z
    .show .Ó %[0,u,(wk Dg u).mp hu|rb]
   .rintro(z|⟨u,hu,rfl⟩);.show .Â z
    .show .Ó %[0,u,(wk Dg u).Û hu|rb]
  generalize hM:(fH ws (cD aj r w' bi bj) aj r w' rk us1++X.Q λts=>ts.Q sw)=M at GX Y;let hlay:∀a∈G++ds,uz K F a (lO F a):=λa ha=>by
   let hm:lO F a∈M:=by rw[<-GX.eq];show ci ha
   let hok:=Iw O.br BK.az<|(Y _).mp hm;show(GX.č a ha).lay hok.ne<|hok.Ao O.r9 O.w9
  calc%[7,pc,G++ds,lO F,rb,aP.of aeY,by rw[ay];lia,hlay|λps bs hps J hnd hall=>?_];let k8:aA F (upd F ps<|HO.ext<|qz w ps bs):=aA.è hps;let gG:bs.n<=G.n+ds.n:=by
   let h1:(bs.Q<|lO F).n<=M.n:=hnd.Ĩ (l₂:=M) λx hx=>by let(a,ha,rfl):=ar.mp hx;rw[<-GX.eq];show ci<|J a ha
   rw[aa]at h1;rw[<-GX.len,ay]at h1;show h1
  calc%[7,ps,bs,lO F,rb,au,ye,λa ha=>(hlay a<|J a ha).mv k8|λpq D hpq pmb up=>?_];let k9:=k8.bH (o:=HO.Ç (D.Q V.C))<|k8.Ô hpq;calc%[3,pq,_,rb|.Â %[aP.of au|λT hT=>?_]];let k10:=k9.bH (o:=HO.Ã (D.Q V.C))<|k9.Ô hT;calc q T D _ _ (sH7.Z k10) au ((fZ.mk (λa ha=>GX.č a<|J a<|pmb.õ.mp ha) rb).mv k10) up ((pmb.Q<|lO F).nodup_iff.Û hnd) (by rw[aa,pmb.length_eq];lia) λx=>?_;rw[<-Y x,(pmb.Q<|lO F).õ];constructor
  .intro hx;let(a,ha,rfl):=ar.mp hx;rw[<-GX.eq];show ci<|J a ha
  .intro hx;rw[<-GX.eq]at hx;let(a,ha,rfl):=ar.mp hx;show hall a ha
def KtH (H H':Hp):Prop:=∀a o,(∀ys,o≠.Ç ys)->H a=ĳ o->H' a=ĳ o
def acS (q:H M=ĳ (.Ç ys)):KtH H (upd H M<|.Ç zs):=λa o n e=>by
 let ne:a≠M:=λz=>by rw[z,q]at e;show n ys (bd e).Ù
 rw[bx ne];show e
def GZ (H:Hp)(a:Ĺ)(t:aR):Prop:=∃o,H a=ĳ (.jk o<|.Ã [.R t.1,.R t.2.1,.À (S [t.2.2])])
def tF (H:Hp)(a:Ĺ):aR:=match H a with| ĳ (.jk _<|.Ã [.R x,.R y,.À z])=>(x.Ö,y.Ö,z.ē.I.headD 0)| _=>(0,0,0)
def Uz (h:GZ H a t):tF H a=t:=by let(o,h):=h;unfold tF;rw[h];rfl
structure iy (H:Hp)(as:Ĵ Ĺ)(ts:Ĵ aR):Prop where
 at_:∀a∈as,GZ H a (tF H a)
 eq:as.Q (tF H)=ts
def iy.fG (k:KtH H H')(h:iy H as ts):iy H' as ts:=by
 let m:∀a∈as,GZ H' a (tF H a):=λa ha=>let %[o|z]:=h.č a ha;%[o|k a _ (λ_=>nofun) z]
 let e:∀a∈as,tF H' a=tF H a:=λa ha=>Uz<|m a ha;show%[λa ha=>by rw[e a ha];show m a ha|by rw[<-h.eq];show du e]
def iy.mv (k:aA H H')(h:iy H as ts):iy H' as ts:=h.fG λa o _ e=>k a o e
def iy.snoc (h:iy H as ts)(ha:GZ H a t):iy H (as++[a]) (ts++[t]):=by
 calc%[λb q=>?_|by rw[bg,h.eq,qV,Uz ha]];rcases a7.mp q with z|z;.show h.č b z
 .rw[av.mp z,Uz ha];show ha
def iy.nil:iy H [] []:=%[λa h=>by simp at h|rb]
def iy.len (h:iy H as ts):as.n=ts.n:=by rw[<-h.eq,aa]
def iy.get (h:iy H as ts)(hi:i<as.n):∃t,ts[i]?=ĳ t/\GZ H as[i] t:=%[0,tF H as[i],by rw[<-h.eq];simp[hi]|h.č _<|aI _]
def aeZ (ts:Ĵ aR):jM (ts.Q sw)=jM ts:=by unfold jM;rw[cp];rfl
def dB (aj:AA)(r w i j:ĵ)(l:Ĵ ĵ)(way:ĵ):Ĵ aR:=if way=0 then (if j+l.n<=w then cG aj r w i j l else []) else (if i+l.n<=r then (cG (bC aj w) w r j i l).Q sw else [])
def Og (ws aj:AA)(w way:ĵ)(c:ĵ×ĵ):Ĵ ĵ:=if way=0 then jJ ws aj c else jJ ws (bC aj w) (c.2,c.1)
def rA (ws aj:AA)(r w bi bj:ĵ)(rk:Ĵ ĵ)(way:ĵ)(ts:Ĵ aR):œ:=(ľ (0<ts.n)&&ľ (ts.n<=rk.n))&&(ts.đ (λt=>ľ<|bM t∈cD aj r w bi bj)&&ts.ė λt=>ľ (t.2.2∈Og ws aj w way (bM t)))
def je (ws aj:AA)(r w bi bj:ĵ)(rk l:Ĵ ĵ)(p:ĵ):Ĵ (Ĵ aR):=if rA ws aj r w bi bj rk (p%2) (dB aj r w (p/2%r) (p/2/r) l<|p%2)=ķ then dZ (dB aj r w (p/2%r) (p/2/r) l<|p%2) rk else []
def Et (ws aj:AA)(r w bi bj:ĵ)(rk:Ĵ ĵ):Ĵ (Ĵ aR):=ws.ó λl=>(List.æ<|2*r*w).ó (je ws aj r w bi bj rk l)
def X5 {aj:AA}{r w bi bj:ĵ}(q:Blk r w aj)(t:aR):bM (sw t)∈cD aj r w bi bj↔bM t∈cD (bC aj w) w r bj bi:=by
 unfold cD;rw[J5 q];by_cases f:isFree aj=ķ
 .rw[Ŀ f,Ŀ f,av,av];unfold bM sw;constructor
  .intro h;injection h with h1 h2;rw[h1,h2]
  .intro h;injection h with h1 h2;rw[h1,h2]
 .rw[ŀ f,ŀ f];show(J6 q t.2.1 t.1).Ù
def aar (ts:Ĵ aR)(ss):d8 (ts.Q sw) ss=(d8 ts ss).Q sw:=by unfold d8;rw[List.map_zipWith,List.zipWith_map_left];rfl
def J7 (ts:Ĵ aR)(rk):dZ (ts.Q sw) rk=(dZ ts rk).Q λx=>x.Q sw:=by unfold dZ;rw[aeZ,cp];show du λss _=>aar ts ss
theorem Ba:∀{ls rk ss:Ĵ ĵ},ss∈fK ls rk->ls.n<=rk.n
 | [],_,_,_=>b5 _
 | c::ls,rk,ss,h=>by
  unfold fK at h;rcases a7.mp h with z|z
  .split at z
   .rename_i q;let(u,B,_):=ar.mp z;have:=Ba B;rw[pE q]at this;have:=re q;simp;lia
   .simp at z
  .split at z
   .rename_i q;let(u,B,_):=ar.mp z;have:=Ba B;rw[pE q]at this;have:=re q;simp;lia
   .simp at z
def G3 {rk:Ĵ ĵ}(h:x∈dZ ts rk):ts.n<=rk.n:=by
 let(ss,hs,_):=ar.mp h;have:=Ba hs;unfold jM at this
 rwa [aa]at this
def uR {ws aj:AA}{r w bi bj:ĵ}{rk:Ĵ ĵ}(q:rk.n<=7):rA ws aj r w bi bj rk 0 T=ķ↔ni (jJ ws aj) (cD aj r w bi bj) T=ķ/\T.n<=rk.n:=by
 unfold rA ni Og;simp only[df,dP,if_true];constructor
 .rintro⟨⟨a,b⟩,c,d⟩;show%[%[%[a|aw b q],d|c]|b]
 .rintro⟨⟨⟨a,_⟩,d,c⟩,b⟩;show%[%[a|b],c|d]
def G_ {ws aj:AA}{r w bi bj:ĵ}{rk:Ĵ ĵ}{T:Ĵ aR}(q:Blk r w aj)(B:rk.n<=7):rA ws aj r w bi bj rk 1 (T.Q sw)=ķ↔ni (jJ ws<|bC aj w) (cD (bC aj w) w r bj bi) T=ķ/\T.n<=rk.n:=by rw[<-uR B];unfold rA Og;simp only[aa,x5,List.all_map,tN,X5 q,if_true,show ¬(1=0) by decide,if_false];rfl
def Oh {r w i j:ĵ}(hi:i<r)(B:j<w)(way:ĵ)(hw:way<2):2*(j*r+i)+way<2*r*w/\(2*(j*r+i)+way)%2=way/\(2*(j*r+i)+way)/2%r=i/\(2*(j*r+i)+way)/2/r=j:=by
 let q:(2*(j*r+i)+way)/2=j*r+i:=ye;let h:j*r+i<r*w:=by
  have:(j+1)*r<=w*r:=ke r B;rw[oQ,ge w r]at this
  (calc bq ?_ (by assumption);lia)
 calc%[by lia,by simp_all,?_|?_];.rw[q,Nat.add_comm,Nat.add_mul_mod_self_right,Nat.mod_eq_of_lt hi]
 .rw[q,Nat.add_comm,Nat.add_mul_div_right _ _ (fR (b5 _) hi),Nat.div_eq_of_lt hi,ki]
def Oi {ws aj:AA}{r w bi bj:ĵ}{rk:Ĵ ĵ}(F:Blk r w aj)(hw:∀l∈ws,0<l.n)(B:rk.n<=7)(x:Ĵ aR):x∈Et ws aj r w bi bj rk↔x∈qg ws aj r w bi bj rk:=by
 constructor
 .intro h;let(l,q,h):=cx.mp h;let(p,hp,h):=cx.mp h;let hp:=bS.mp hp;unfold je at h;let G:0<r:=Nat.pos_of_ne_zero λz=>by rw[z]at hp;simp at hp
  let hi:p/2%r<r:=mm _ G;let N:p/2/r<w:=by rw[Nat.div_lt_iff_lt_mul G];show mS ye
  split at h
  .rename_i ok;rcases Nat.mod_two_eq_zero_or_one p with e|e
   .rw[e]at ok h;unfold dB at ok h;simp only[if_true]at ok h;by_cases hs:p/2/r+l.n<=w
    .rw[Ŀ hs]at ok h;calc kQ _<|cx.Û %[0,l,q|cx.Û %[0,(p/2%r,p/2/r),lu.Û %[hi|by show v_ ye]|?_]];unfold nu;rw[Ŀ ((uR B).mp ok).1];show h
    .rw[ŀ hs]at ok;simp[rA]at ok
   .rw[e]at ok h;unfold dB at ok h;simp only[show ¬(1=0) by decide,if_false]at ok h;by_cases hs:p/2%r+l.n<=r
    .rw[Ŀ hs]at ok h;rw[J7]at h;let(y,M,rfl):=ar.mp h;calc cS _<|ar.Û %[0,y,cx.Û %[0,l,q|cx.Û %[0,(p/2/r,p/2%r),lu.Û %[N|by show v_ ye]|?_]]|rb];unfold nu;rw[Ŀ ((G_ F B).mp ok).1];show M
    .rw[ŀ hs]at ok;simp[rA]at ok
  .simp at h
 .intro h;rcases a7.mp h with z|z
  .let(l,q,z):=cx.mp z;let(c,D,z):=cx.mp z;let(h1,J):=lu.mp D;have:=hw l q;let(p1,p2,p3,p4):=Oh h1 (show c.2<w by lia) 0 yi;unfold nu at z;split at z
   .rename_i ok;calc cx.Û %[0,l,q|cx.Û %[0,_,bS.Û p1|?_]];unfold je dB;rw[p2,p3,p4];simp only[if_true];rw[Ŀ (show c.2+l.n<=w by lia),Ŀ ((uR B).Û %[ok|G3 z])];show z
   .simp at z
  .let(y,L,rfl):=ar.mp z;let(l,q,z):=cx.mp L;let(c,D,z):=cx.mp z;let(h1,J):=lu.mp D;have:=hw l q;let(p1,p2,p3,p4):=Oh (show c.2<r by lia) h1 1 yi;unfold nu at z;split at z
   .rename_i ok;calc cx.Û %[0,l,q|cx.Û %[0,_,bS.Û p1|?_]];unfold je dB;rw[p2,p3,p4];simp only[show ¬(1=0) by decide,if_false];rw[Ŀ (show c.2+l.n<=r by lia),Ŀ ((G_ F B).Û %[ok|G3 z]),J7];show ci z
   .simp at z
def X6 (h:isLet c):c∈AL:=by
 let q:=h.2;have:=(by decide:∀k:Fin 26,97+k.val∈AL) %[c-97|by simp_all +arith]
 rwa [show 97+(c-97)=c from ga h.1]at this
def J8 (q:isLet c):c∈mK ws l k↔(cZ l k c).n<=1\/cZ l k c∈ws:=by
 let e:(cZ l k c).n=(cZ l k 97).n:=by simp[cZ]
 let p:1<=(cZ l k c).n:=by unfold cZ;simp;lia
 unfold mK;by_cases h1:(cZ l k 97).n=1
 .rw[Ŀ h1];show%[λ_=>.Â (by simp[*])|λ_=>X6 q]
 .rw[ŀ h1,f7,dP];show%[λh=>.Ó h.2|λh=>%[X6 q|h.resolve_left ye]]
def X7 {r w:ĵ}{aj:AA}(q:Blk r w aj){i j:ĵ}(hi:i<r):lineOf (bC aj w) j i 1=lineOf aj i j 0:=by
 unfold lineOf;rw[ŀ yi,Ŀ rfl];have:(bC (bC aj w) r).Í i []=dI (bC aj w) i:=by unfold bC;rw[ai,ba,gN hi];rfl
 rw[<-this,Aq q]
def uT (ws aj:AA)(way:ĵ)(t:aR):œ:=ľ ((cZ (lineOf aj t.1 t.2.1<|1-(way:ļ)) (placeOf t.1 t.2.1<|1-(way:ļ)) t.2.2).n<=1)||ľ (cZ (lineOf aj t.1 t.2.1<|1-(way:ļ)) (placeOf t.1 t.2.1<|1-(way:ļ)) t.2.2∈ws)
def acT {ws aj:AA}{r w way:ĵ}(B:Blk r w aj)(hw:way<2){t:aR}(hi:t.1<r)(q:isLet t.2.2):uT ws aj way t=ľ (t.2.2∈Og ws aj w way (bM t)):=by
 unfold uT Og jJ bM;rw[iN,vy,dP,dP,dP];rcases(show way=0\/way=1 by lia) with e|e
 .subst e;rw[Ŀ rb,J8 q];rfl
 .subst e;rw[ŀ yi,J8 q,X7 B hi];rfl
def UG {aj:AA}{r w i j way:ĵ}{l:Ĵ ĵ}(F:Blk r w aj)(J:∀c∈l,isLet c)(hi:i<r)(M:j<w)(h:t∈dB aj r w i j l way):t.1<r/\t.2.1<w/\isLet t.2.2/\atC aj r w t.1 t.2.1=46:=by
 let q:∀(aj:AA) (r w i j:ĵ),i<r->j+l.n<=w->∀t∈cG aj r w i j l,t.1<r/\t.2.1<w/\isLet t.2.2/\atC aj r w t.1 t.2.1=46:=by
  intro aj r w i j hi D t B;unfold cG at B;split at B
  .let(k,hk,e):=n0.mp B;let hk:=bS.mp hk;unfold jB at e;split at e
   .rename_i G;cases e;calc%[hi,by show j+k<w;lia,?_|G];show isLet<|l.Í k 0;rw[ai,ae hk];show J _<|aI _
   .cases e
  .simp at B
 unfold dB at h;split at h
 .split at h;.show q aj r w i j hi ‹_› t h
  .simp at h
 .split at h
  .let(u,L,rfl):=ar.mp h;let(a,b,c,d):=q (bC aj w) w r j i M ‹_› u L;rw[qJ F]at d;show%[b,a,c|d]
  .simp at h
def wu (aj:AA)(r w:ĵ)(t:aR):Ĵ ĵ:=[atC aj r w ((t.1:ļ)-1) t.2.1,atC aj r w ((t.1:ļ)+1) t.2.1,atC aj r w t.1 ((t.2.1:ļ)-1),atC aj r w t.1 ((t.2.1:ļ)+1)]
def vP (aj:AA)(r w bi bj:ĵ)(ts:Ĵ aR):œ:=if isFree aj=ķ then ľ ((bi,bj)∈ts.Q bM) else ts.đ λt=>ľ (wu aj r w t≠[46,46,46,46])
def ae0 {aj:AA}{r w:ĵ}(t:aR):zu aj r w (bM t)=ľ (wu aj r w t≠[46,46,46,46]):=by
 unfold zu zp wu bM poss;simp only[oo,List.any_nil,si];rw[iN];simp only[vy,Bool.not_eq_true',decide_eq_false_iff_not,dP,x6,and_true,ne_eq];constructor
 .intro h z;simp_all
 .intro h;by_cases a:atC aj r w ((t.1:ļ)-1) t.2.1=46 <;> by_cases b:atC aj r w ((t.1:ļ)+1) t.2.1=46 <;> by_cases c:atC aj r w t.1 ((t.2.1:ļ)-1)=46 <;> simp_all
def aas {aj:AA}{r w bi bj:ĵ}(h:∀t∈ts,t.1<r/\t.2.1<w/\atC aj r w t.1 t.2.1=46):vP aj r w bi bj ts=ts.đ λt=>ľ (bM t∈cD aj r w bi bj):=by
 unfold vP cD;rw[iN];split
 .rw[dP,mw,ar];constructor
  .intro z;let(t,q,e):=z;show%[0,t,q|am<|av.Û e]
  .intro z;let(t,q,e):=z;show%[0,t,q|av.mp<|fI e]
 .rw[mw,mw];let B:∀t∈ts,(ľ (wu aj r w t≠[46,46,46,46])=ķ↔ľ (bM t∈qY aj r w)=ķ):=λt q=>by
   let(a,b,c):=h t q;rw[<-ae0,dP];unfold qY;rw[f7,df];let D:bM t∈cells r w:=(uP.Û %[%[a|b]|c] |> λz=>(f7.mp z).1)
   let hf:frB aj r w (bM t)=ķ:=(uP.Û %[%[a|b]|c] |> λz=>(f7.mp z).2)
   show%[λz=>%[D,hf|z]|λz=>z.2.2]
  show%[λ⟨t,q,z⟩=>%[0,t,q|(B t q).mp z]|λ⟨t,q,z⟩=>%[0,t,q|(B t q).Û z]]
def lZ (t:aR)(p:Ĵ aR×Ĵ ĵ):Ĵ (Ĵ aR×Ĵ ĵ):=(if t.2.2∈p.2 then [(p.1++[t],p.2.ý t.2.2)] else [])++(if 63∈p.2 then [(p.1++[(t.1,t.2.1,PyProof.â.up1 t.2.2)],p.2.ý 63)] else [])
def drs:Ĵ aR->Ĵ (Ĵ aR×Ĵ ĵ)->Ĵ (Ĵ aR×Ĵ ĵ)
 | [],F=>F
 | t::ts,F=>drs ts (F.ó<|lZ t)
theorem RN:∀(ts:Ĵ aR) (F G:Ĵ (Ĵ aR×Ĵ ĵ)),drs ts (F++G)=drs ts F++drs ts G
 | [],_,_=>rfl
 | t::ts,F,G=>by unfold drs;rw[lT,RN ts]
theorem IK:∀ts:Ĵ aR,drs ts []=[]
 | []=>rfl
 | t::ts=>IK ts
theorem Oj:∀(ts x:Ĵ aR) (rk:Ĵ ĵ),(drs ts [(x,rk)]).Q Prod.fst=(fK (jM ts) rk).Q λss=>x++d8 ts ss
 | [],x,rk=>by simp[drs,jM,fK,d8]
 | t::ts,x,rk=>by
  let e:jM (t::ts)=t.2.2::jM ts:=rfl;let d:drs (t::ts) [(x,rk)]=drs ts (lZ t (x,rk)):=by show drs ts ([(x,rk)].ó<|lZ t)=_;rw[List.flatMap_cons,List.flatMap_nil,dS]
  rw[e,d];unfold lZ fK;rw[RN,bg,bg];congr 1
  .show (drs ts<|if t.2.2∈rk then [(x++[t],rk.ý t.2.2)] else []).Q Prod.fst=_;split
   .rw[Oj ts,cp];calc du λss _=>?_;show x++[t]++d8 ts ss=x++d8 (t::ts) (t.2.2::ss);rw[bt];rfl
   .rw[IK];rfl
  .show (drs ts<|if 63∈rk then [(x++[(t.1,t.2.1,PyProof.â.up1 t.2.2)],rk.ý 63)] else []).Q Prod.fst=_;split
   .rw[Oj ts,cp];calc du λss _=>?_;show x++[(t.1,t.2.1,PyProof.â.up1 t.2.2)]++d8 ts ss=x++d8 (t::ts) (PyProof.â.up1 t.2.2::ss);rw[bt];rfl
   .rw[IK];rfl
def Ol (ts:Ĵ aR)(rk):(drs ts [([],rk)]).Q Prod.fst=dZ ts rk:=by rw[Oj];show du λss _=>List.nil_append _
theorem Eu:∀(ts:Ĵ aR) (t:aR) (F:Ĵ (Ĵ aR×Ĵ ĵ)),drs (ts++[t]) F=(drs ts F).ó (lZ t)
 | [],_,_=>rfl
 | _::ts,t,_=>Eu ts t _
def ae1 {r w i j way:ĵ}{aj:AA}(F:Blk r w aj)(hi:i<r)(G:j<w)(hw:way<2):∃(D:AA) (r' w' i' j':Nat) (T:aR->aR) (B q:ĵ->ĵ),(B 0=i/\q 0=j/\∀n,B (n+1)=B n+way/\q (n+1)+way=q n+1)/\
  (∀n,atC aj r w (B n) (q n)=atC D r' w' i' ((j'+n:ĵ):ļ))/\atC aj r w ((i:ļ)-way) ((j:ļ)-1+way)=atC D r' w' i' ((j':ļ)-1)/\(∀n,j'+n<w'↔B n<r/\q n<w)/\(∀n c,T (i',j'+n,c)=(B n,q n,c))/\∀l,dB aj r w i j l way=if j'+l.n<=w' then (cG D r' w' i' j' l).Q T else []:=by
 rcases(show way=0\/way=1 by lia) with e|e
 .subst e;calc%[5,aj,r|%[34,w,i,j,id,λ_=>i,λn=>j+n,%[rb,rb|λn=>%[rb|rb]],λn=>rfl,?_,λn=>%[λh=>%[hi|h]|λh=>h.2],λn c=>rfl|λl=>?_]];.rw[show (i:ļ)-((0:ĵ):ļ)=i from rb,show (j:ļ)-1+((0:ĵ):ļ)=j-1 by lia]
  .unfold dB;rw[Ŀ rb,me]
 .subst e;refine%[5,bC aj w,w|%[34,r,j,i,sw,λn=>i+n,λ_=>j,%[rb,rb|λn=>%[rb|rb]],λn=>(qJ F _ _).Ù,?_,λn=>%[λh=>%[h|G]|λh=>h.1],λn c=>rfl|λl=>?_]]
  .rw[qJ F,show (j:ļ)-1+((1:ĵ):ļ)=j by lia];rfl
  .unfold dB;rw[ŀ yi]
def Om {r w bi bj:ĵ}{aj aH:AA}(O:vM r w aj aH bi bj){i j:ĵ}(hi:i<r)(B:j<w):∃l,aj[i]?=ĳ l/\l.n=w/\l[j]?=ĳ (atC aj r w i j):=by
 let q:i<aj.n:=by rw[O.br.len];show hi
 let hw:aj[i].n=w:=O.br.gW _<|aI _;calc%[2,aj[i],ae q,hw|?_];rw[(show atC aj r w i j=(aj.Í (i:ļ).Ö []).Í (j:ļ).Ö 0 from Ŀ %[cz _,ie eJ hi,ye|ye]),b3,ai (l:=aj),ae q];show _=ĳ (aj[i].Í j 0);rw[ai,ae (by simp_all)];rfl
def acU:Sp:=λvs H Q _=>∃(p:Addr) (aj aH:AA) (r w bi bj i j way:Nat) (l:Ĵ ĵ),vs=[.C p,.À (S l),.R i,.R j,.R way]/\H p=ĳ (.Ã<|Ts aj)/\vM r w aj aH bi bj/\i<r/\j<w/\way<2/\jo l/\
 ∀(p':Ĺ) (as:Ĵ Ĺ) (H':Hp),aA H H'->H p'=ĺ->H' p'=ĳ (.Ç<|as.Q V.C)->iy H' as (dB aj r w i j l way)->Q (.C p') H'
def aat (Gz:GG K mg):DF P w K mg base s_fresh 2 acU:=by
 calc Gz.bi'.cQ uK ?_;(intro f bw A outer s H vs Q E hr h);let(p,aj,aH,r,w,bi,bj,i,j,way,l,rfl,hp,O,hi,hj,fY,hl,q):=h;let(B,r',w',i',j',T,Y,L,(f0,g0,fs),hat,ha0,hbd,hT,M):=ae1 O.br hi hj fY;let M:=M l;let hl9:=hl.hi;let iZ:(Ts aj).n=r:=by rw[aa,O.br.len]
 let r9:=O.r9;let w9:=O.w9;calc%[0,_,(aB (cg (bN mC (aV (iK Gz) hr.Ø rb<|ak aG<|ak (aN fD bh bV)<|ak (aN cT (aN fD bG aC) bV) aq) (b_ [46] yn)<|bR _) (aD<|aY<|dN aq) bI)<|aB (aZ (i:=5) uK.nd rb (Or.Â rb)<|dN aq)<|aB (aci b4 rb uK.nd (j:=6) rb (Or.Â rb) aW λ_=>(aB (cg (QW.qt<|qL (bN SJ bh (aO (yU K) yk Gz.c' bE<|ak aG aq)<|bR _)<|nC<|bN SJ bG (aO cP yk Gz.c' bE<|ak (bB (iV K) aG aC λ_ _=>rfl) aq)<|bR _) (aD<|aY<|dN aq) bI)<|aB (cg (bN uc (bB vR (bB (iV K) aG bh λ_ _=>rfl) bG λ_ _=>rfl) (b_ [46] yn)<|bR _) (aD<|dD<|V4 K c8 fh fk gQ cB<|ak (Z1<|ak bh<|ak bG<|ak cM aq) aq)<|aD<|cg (bN mC (Q6 K bv gr gt pH<|bB vR (bB (iV K) aG bh λ_ _=>rfl) bG λ_ _=>rfl) (K6 cM)<|bR _) (aD<|aY<|dN aq) bI)<|aB (aZ (i:=2) uK.nd rb (Or.Â rb)<|aN cT bh bV)<|aD<|aZ (i:=3) uK.nd rb (Or.Â rb)<|aN fD (aN cT bG aC) bV))<|aB (cg (bN mC (aV (iK Gz) hr.Ø rb<|ak aG<|ak bh<|ak bG aq) (b_ [46] yn)<|bR _) (aD<|aY<|dN aq) bI)<|aD<|aY cB)|?_];let D:dB aj r w i j l way=[]->∀(H':Hp),aA H H'->(0<=Ń)/\∀p,H' p=ĺ->Q (.C p) (upd H' p<|.Ç []):=λe H' G=>%[yi|λp hp=>q p [] _ (G.bH<|G.Ô hp) (G.Ô hp) au (by rw[e];show iy.Ü)]
 calc%[1,_,_,rb,rb|%[22,_,_,rb,rb,_,_,rb,rb|%[34,p,aj,r,w,_,_,rb,aM.of hp,O.br,O.r1,O.r9|%[17,O.w9,_,_,rb,rb|aU _ rb ?_]]]];rw[ha0];let ends:dB aj r w i j l way≠[]->m7 B r' w' i' j' l=ķ/\(List.æ l.n).ė (ji B r' w' i' j' l)=ķ/\j'+l.n<=w':=λh=>by
  rw[M]at h;split at h
  .unfold cG at h;split at h
   .rename_i h1 h2;rw[df]at h2;show%[h2.1,h2.2|h1]
   .show ń rb h
  .show ń rb h
 by_cases c1:atC B r' w' (i':ļ) ((j':ļ)-1)=46
 .rw[am (show [atC B r' w' (i':ļ) ((j':ļ)-1)]=[46] by rw[c1])];calc bK %[zsz 0|λF hF=>?_];let s0:aA H (upd H F<|HO.Ç []):=aA.è hF;refine%[l,λn I J=>∃(v6:ĸ V) (as:Ĵ Ĺ),I=[ĳ (.C p),ĳ (.À<|S l),ĳ (.R (Y n:ļ)),ĳ (.R (L n:ļ)),ĳ (.R way),ĳ (.C F),v6]/\aA H J/\J F=ĳ (.Ç<|as.Q V.C)/\iy J as ((jC B r' w' i' j' l n).Q T)/\(List.æ n).ė (ji B r' w' i' j' l)=true/\j'+n<=w',rb,λc hc=>(xr<|hl.az c hc).2.2.2.1,
   %[27,ĺ,[],by rw[f0,g0];rfl,s0,au,iy.Ü,rb|?_],?_|?_]
  .have:=(hbd 0).Û %[by rw[f0];show hi|by rw[g0];show hj];show ax this
  .intro n c I J k m hn z k0 km;let(v6,as,rfl,G,dX,hL,N,hjw):=z;let hnl:n<l.n:=(ap.mp hn).1;let ec:l.Í n 0=c:=by rw[ai,hn];rfl
   let Z:=G _ _ hp;let(fs1,fs2):=fs n;let h0:0<aj.n:=by rw[O.br.len];show O.r1
   let hw0:aj[0].n=w:=O.br.gW _<|aI _;calc%[22,p,_,rb,.Ó<|aM.of Z,_,_,rb,rb|aU _ rb ?_];rw[iZ];let ae2:¬(Y n<r/\L n<w)->dB aj r w i j l way=[]:=λz=>by rw[M,if_neg];intro y;show z<|(hbd n).mp ye
   by_cases c2:Y n<r
   .calc jF9 (show ¬(Y n:ļ)>=(r:ļ) by simp[*]) %[6,p,_,_,.À<|S aj[0],rb,rb,aM.of Z,aQ (j:=0)<|jh (by simp[h0])|%[33,_,rb,ax<|aF ye,_,_,rb,rb|aU _ rb ?_]];rw[hw0];by_cases c3:L n<w
    .calc jF9 (show ¬(L n:ļ)>=(w:ļ) by grind) ?_;let(lr,hlr,NP,hlc):=Om O c2 c3;rw[hat n]at hlc;calc%[6,p,_,_,_,rb,rb,aM.of Z,aQ<|jh hlr|%[31,_,_,_,rb,rb|%[19,ax<|aF ye,aQ hlc,_,_,rb,rb|aU _ rb ?_]]];let nxt:∀(as':Ĵ Ĺ) (H3:Hp),aA H H3->H3 F=ĳ (.Ç<|as'.Q V.C)->iy H3 as' ((jC B r' w' i' j' l<|n+1).Q T)->ji B r' w' i' j' l n=ķ->(∃(v6:ĸ V) (as:Ĵ Ĺ),[ĳ (.C p),ĳ (.À<|S l),ĳ (.R<|(Y n:ļ)+(way:ļ)),ĳ (.R<|(L n:ļ)+1-(way:ļ)),ĳ (.R way),ĳ (.C F),ĳ (.sx (S [c]) k)]=[ĳ (.C p),ĳ (.À<|S l),ĳ (.R (Y (n+1):ļ)),ĳ (.R (L (n+1):ļ)),ĳ (.R way),ĳ (.C F),v6]/\aA H H3/\H3 F=ĳ (.Ç<|as.Q V.C)/\iy H3 as ((jC B r' w' i' j' l<|n+1).Q T)/\(List.æ<|n+1).ė (ji B r' w' i' j' l)=true/\j'+(n+1)<=w'):=λas' H3 s3 h3 wY hft=>by
      calc%[27,ĳ<|.sx (S [c]) k,as',?_,s3,h3,wY,by rw[all_succ,N,hft];rfl|(hbd n).Û %[c2|c3]];rw[show (Y n:ļ)+(way:ļ)=(Y (n+1):ļ) by lia,show (L n:ļ)+1-(way:ļ)=(L (n+1):ļ) by lia]
     by_cases c4:atC B r' w' (i':ļ) ((j'+n:ĵ):ļ)=46
     .calc jT9 (show [atC B r' w' (i':ļ) ((j'+n:ĵ):ļ)]=[46] by rw[c4]) %[10,.Â %[10,rb,_|aP.of dX],_|%[31,_,_,_,rb,%[k0|km]|λg o hg=>?_]];let k4:aA J (upd J g<|HO.jk o<|.Ã [.R (Y n:ļ),.R (L n:ļ),.À (S [c])]):=aA.è hg;let nP:=k4 _ _ dX;let bW:=hL.Ċ;let htl:=Ar B r' w' i' j' l n;calc%[7,F,_,_,rb,rb,nP,by rw[aa];rw[aa]at bW;show aF ye|?_];calc%[1,_,_,rb,rb|?_];refine%[22,_,_,rb,rb,_,_,rb,rb|nxt (as++[g]) _ ((G.Z k4).bH hF) (by rw[au,bg];rfl) ?_ ?_]
      .rw[qe];let et:jB B r' w' i' j' l n=ĳ (i',j'+n,c):=by unfold jB;rw[Ŀ c4,ec]
       rw[et,bg];show iy _ (as++[g])<|_++[T (i',j'+n,c)];rw[hT];show((hL.mv k4).snoc (t:=(Y n,L n,c)) %[o|au]).fG<|acS nP
      .unfold ji;rw[am c4];rfl
     .rw[al (show ¬[atC B r' w' (i':ļ) ((j'+n:ĵ):ļ)]=[46] from λz=>c4 (by injection z))];let hlt:atC B r' w' (i':ļ) ((j'+n:ĵ):ļ)<128:=by rw[<-hat n];show XR O _ _
      calc bK %[6,p,_,_,_,rb,rb,aM.of Z,aQ<|jh hlr|%[7,_,_,_,rb,rb,ax<|aF ye,aQ hlc|%[23,rb,_,rb,rb|%[19,by show 1<=1000;decide,λe he=>by rw[av.mp he];show hlt,_,[c],rb,rb|aU _ rb ?_]]]];by_cases c5:PyProof.â.ě (atC B r' w' (i':ļ) ((j'+n:ĵ):ļ))=c
      .rw[am (show [atC B r' w' (i':ļ) ((j'+n:ĵ):ļ)].Q PyProof.â.ě=[c] by rw[<-c5];rfl)];calc bK ?_;calc%[1,_,_,rb,rb|?_];refine%[22,_,_,rb,rb,_,_,rb,rb|nxt as _ G dX ?_ ?_]
       .rw[qe];let et:jB B r' w' i' j' l n=ĺ:=by unfold jB;rw[ŀ c4]
        rw[et];simpa using hL
       .unfold ji;rw[ec,am c5,Bool.or_true]
      .rw[al (show ¬[atC B r' w' (i':ļ) ((j'+n:ĵ):ļ)].Q PyProof.â.ě=[c] from λz=>c5 (by injection z))];calc bZ<|D ?_ J G;calc fA λz=>?_;let z3:=(fE.mp (ends z).2.1) n<|bS.Û hnl;unfold ji at z3;rw[al c4,ec,al c5]at z3;show ń z3 yi
    .show jT9 (show (L n:ļ)>=(w:ļ) by grind)<|D (ae2 λz=>c3 z.2) J G
   .show jT9 (show (Y n:ļ)>=(r:ļ) by lia)<|bZ<|D (ae2 λz=>c2 z.1) J G
  .intro I J z;let(v6,as,rfl,G,dX,hL,N,hjw):=z;calc%[34,p,aj,r,w,_,_,rb,aM.of<|G _ _ hp,O.br,O.r1,O.r9|%[17,O.w9,_,_,rb,rb|aU _ rb ?_]];rw[hat l.n];by_cases c2:atC B r' w' (i':ļ) ((j'+l.n:ĵ):ļ)=46
   .rw[am (show [atC B r' w' (i':ļ) ((j'+l.n:ĵ):ļ)]=[46] by rw[c2])];calc bK<|q F as J G hF dX ?_;rw[M,Ŀ hjw];unfold cG m7;rw[am c1,N,am (show atC B r' w' (i':ļ) ((j':ļ)+(l.n:ļ))=46 from c2),Ŀ (show (ķ&&ķ&&ķ)=ķ from rb)];show hL
   .rw[al (show ¬[atC B r' w' (i':ļ) ((j'+l.n:ĵ):ļ)]=[46] from λz=>c2 (by injection z))];calc bZ<|D ?_ J G;calc fA λz=>?_;have:=(ends z).1;unfold m7 at this;rw[al (show ¬atC B r' w' (i':ļ) ((j':ļ)+(l.n:ļ))=46 from c2)]at this;show ń this yf
 .rw[al (show ¬[atC B r' w' (i':ļ) ((j':ļ)-1)]=[46] from λz=>c1 (by injection z))];calc bZ<|D ?_ H<|aA.Ğ _;calc fA λz=>?_;have:=(ends z).1;unfold m7 at this;rw[al c1]at this;show ń this yf
def ae3:Sp:=λvs H Q _=>∃(p b c:Addr) (aj aH:AA) (r w bi bj:Nat) (as:Ĵ Ĺ) (ts:Ĵ aR),vs=[.C p,.C b,.C c]/\H p=ĳ (.Ã<|Ts aj)/\vM r w aj aH bi bj/\H b=ĳ (.Ã [.R bi,.R bj])/\H c=ĳ (.Ç<|as.Q V.C)/\iy H as ts/\ts.n<=9/\
 ∀H',aA H H'->Q (.bl<|vP aj r w bi bj ts) H'
def aau {r w:ĵ}{aj:AA}(D:Blk r w aj):ľ (V.R ((aj.Ì.count 46:ĵ):ļ)=V.R ((r:ļ)*(w:ļ)))=isFree aj:=by
 let B:=oM D;unfold isFree;rw[iN,dP,fE];constructor
 .intro h c q;injection h with h;let h1:aj.Ì.count 46=aj.Ì.n:=by rw[B];exact_mod_cast h
  rw[<-List.count_eq_length.mp h1 c q];rfl
 .intro h;let h1:aj.Ì.count 46=aj.Ì.n:=List.count_eq_length.Û λc q=>by
   have:=fI<|h c q;injection this with e;show e.Ù
  rw[h1,B];congr 1
def X8 (J:GG K mg):DF P w K mg base yG 2 ae3:=by
 calc J.bk'.cQ oW λf bw A outer s H vs Q E Y h=>?_;let(p,b,c,aj,aH,r,w,bi,bj,as,ts,rfl,hp,O,hb,hc,hL,h9,q):=h;let iZ:(Ts aj).n=r:=by rw[aa,O.br.len]
 let w9:=O.w9;let h0:0<aj.n:=by rw[O.br.len];show O.r1
 let hw0:aj[0].n=w:=O.br.gW _<|aI _;calc%[0,_,(aB (cg (bN kE (dH bv PySem.F.slot_str_count PySem.F.type_str_count Wq (dH bv e_ fb xU (b_ [] yn)<|ak aG aq)<|ak (b_ [46] yn) aq) (aN gP (aO cu yk J.c' bE<|ak aG aq)<|aO cP yk J.c' bE<|ak (bB bY aG aC λ_ _=>rfl) aq)<|bR _) (aD<|aY<|gC (Q5 Y.Þ) aW (fU rb (fQ.of oW.nd ym) (dh bh) (λ_ _ _ _ _=>cF) λ_ _ _ _ _=>(iW (abA K) aG mR<|iQ aC)) rb) bI)<|aB (cW b4 rb (dh bh) (jV rb<|bO (bD (i:=3) oW.nd rb<|Or.Â rb)<|bO (bD (i:=4) oW.nd rb<|Or.Â rb)<|bO (bD (i:=5) oW.nd rb<|Or.Â rb) g_)<|aB (aZ (i:=6) oW.nd rb (Or.Â rb)<|aN lG (aV (iK J) Y.Ø rb<|ak aG<|ak (aN fD bG aC)<|ak bV aq)<|aV (iK J) Y.Ø rb<|ak aG<|ak (aN cT bG aC)<|ak bV aq)<|aD<|cg (bN mC (aN lG (aN lG cM<|aV (iK J) Y.Ø rb<|ak aG<|ak bG<|ak (aN fD bV aC) aq)<|aV (iK J) Y.Ø rb<|ak aG<|ak bG<|ak (aN cT bV aC) aq) (b_ [46,46,46,46] yn)<|bR _) (aD<|aY fL) bI)<|aD<|aY fL)|?_];refine%[10,rb,p|%[11,aj,rb,rb,aM.of hp|%[19,?_,rb,aj.Ì,46,rb,rb|?_]]]
 .rw[oM O.br];show aw (iE O.r9 w9) yi
 refine%[1,p,_,rb,.Ó<|aM.of hp|%[25,p,_,_,.À<|S aj[0],rb,rb,aM.of hp|%[23,aQ (j:=0)<|jh (by simp[h0]),_,rb,ax<|aF ye|%[12,_,_,rb,rb,?_,rb|aU _ rb ?_]]]]
 .rw[hw0];show .Ó %[cz _|ye]
 rw[iZ,hw0,aau O.br];let L:=hL.Ċ;by_cases N:isFree aj=ķ
 .rw[N];refine bZ %[2,c,rb,%[_|aP.of hc]|λM hM=>oU (K:=K) (a:=c) (xs:=as.Q V.C) (λi ys D=>∃bs:Ĵ Ĺ,ys=bs.Q V.C/\bs.n=i/\D M=ĳ (.Ç ys)/\aA H D/\dJ D bs ((ts.Å i).Q bM))
   %[15,[],rb,rb,au,aA.è hM|dJ.Ü] (λi ys D _ h=>by let(_,_,_,_,F,_):=h;show aP.of<|F _ _ hc) ?_ ?_]
  .intro i x ys D hx z;let(bs,rfl,gG,jl,F,Z):=z;let(hi,hx):=rfg hx;subst hx;let(t,et,ot,hT):=hL.get hi;calc%[0,_,rb|%[4,as[i],_,rb,.Â<|.Ó %[ot|F _ _ hT],λz=>ń z.2 (by show ¬(2=3);decide)|λg hg=>?_]];let rZ:upd D g (.Ã [.R t.1,.R t.2.1]) M=ĳ (.Ç<|bs.Q V.C):=by rw[bx (λz=>by rw[<-z,jl]at hg;cases hg)];show jl
   calc%[rZ,by rw[aa,gG];show aF ye|dz.mk (by rw[aa];show hi) %[15,bs++[g],yf,by simp[gG],by rw[au],(F.bH<|F.Ô hg).bH hM|?_]];rw[show (ts.Å<|i+1).Q bM=(ts.Å i).Q bM++[bM t] by rw[wS,et];simp];show dJ.app ((Z.mv<|aA.è hg).fG<|cO rZ)<|dJ.one (p:=bM t)<|cO rZ _ _ au
  .intro ys D z;let(bs,rfl,gG,jl,F,Z):=z;rw[aa,L,b9]at Z;refine%[8,2,xq (bi,bj),(ts.Q bM).Q xq,yi,.Ã (aM.of<|F _ _ hb)<|.Ð (.R _)<|.Ð (.R _) .Ü,?_|?_]
   .rw[<-Z.eq];show .Ç (aP.of jl)<|Cy Z.č
   .have:=q D F;unfold vP at this;rw[Ŀ N,<-ph.Û (Ip (c:=(bi,bj)) (hk:=ts.Q bM))]at this;show this
 .rw[kz.Û N];refine bK %[2,c,rb,%[_|aP.of hc]|h_ (K:=K) (a:=c) (xs:=as.Q V.C) (λn I G=>∃(v3 v4 v5 v6:ĸ V),I=[ĳ (.C p),ĳ (.C b),ĳ (.C c),v3,v4,v5,v6]/\G=H/\((ts.Å n).đ λt=>ľ<|wu aj r w t≠[46,46,46,46])=Ļ)
   %[21,ĺ,ĺ,ĺ,ĺ,rb,rb|rb] (λn I G _ h=>by let(_,_,_,_,_,e,_):=h;rw[e];show aP.of hc) ?_ ?_]
  .intro n x I G hx z;let(v3,v4,v5,v6,rfl,rfl,hn):=z;let(hi,hx):=rfg hx;subst hx;let(t,et,ot,hT):=hL.get hi;calc%[1,as[n],_,rb,.Â<|.Ó %[ot|hT]|%[16,rb,_,_,rb|%[5,_,_|%[17,rb,_,_,rb,rb|?_]]]];let B:aM K G p (Ts aj):=aM.of hp;calc%[1,_,_,rb,rb|%[29,p,aj,r,w,_,_,rb,B,O.br,O.r1,O.r9,O.w9|?_]];calc%[1,_,_,rb,rb|%[29,p,aj,r,w,_,_,rb,B,O.br,O.r1,O.r9,O.w9|%[4,_,_,rb,rb,ax<|aF (by show 2<=1000;decide)|?_]]];calc%[1,_,_,rb,rb|%[29,p,aj,r,w,_,_,rb,B,O.br,O.r1,O.r9,O.w9|%[4,_,_,rb,rb,ax<|aF (by show 3<=1000;decide)|?_]]];calc%[1,_,_,rb,rb|%[34,p,aj,r,w,_,_,rb,B,O.br,O.r1,O.r9|%[16,O.w9,_,_,rb|%[19,rb,ax<|aF (by show 4<=1000;decide),wu aj r w t,[46,46,46,46],rb,rb|aU _ rb ?_]]]];let hany:(ts.Å<|n+1).đ (λt=>ľ<|wu aj r w t≠[46,46,46,46])=ľ (wu aj r w t≠[46,46,46,46]):=by
    rw[bu,et,List.any_append,hn];simp
   by_cases cb:wu aj r w t=[46,46,46,46]
   .rw[am cb];calc bK %[21,_,_,_,_,rb,rb|?_];rw[hany];show al λz=>z cb
   .rw[al cb];calc bZ ?_;have:=q G<|aA.Ğ _;unfold vP at this;rw[ŀ N,show (ts.đ λt=>ľ<|wu aj r w t≠[46,46,46,46])=ķ from mw.Û %[0,t,a5 et|am cb]]at this;show this
  .intro I G z;let(v3,v4,v5,v6,rfl,rfl,hn):=z;rw[aa,L,b9]at hn;have:=q G<|aA.Ğ _;unfold vP at this;rw[ŀ N,hn]at this;show this
def X_:Sp:=λvs H Q _=>∃(p d c:Addr) (aj aH ws:AA) (r w bi bj way:Nat) (as:Ĵ Ĺ) (ts:Ĵ aR),vs=[.C p,.C d,.C c,.R way]/\H p=ĳ (.Ã<|Ts aj)/\vM r w aj aH bi bj/\H d=ĳ (.Ç<|Ts ws)/\H c=ĳ (.Ç<|as.Q V.C)/\iy H as ts/\way<2/\(∀t∈ts,t.1<r/\t.2.1<w)/\Q (.bl<|ts.ė<|uT ws aj way) H
def UJ (Gz:GG K mg):DF P w K mg base vH 3 X_:=by
 calc Gz.bl'.cQ pX ?_;intro f bw A outer s H vs Q E hr h;let(p,d,c,aj,aH,ws,r,w,bi,bj,way,as,ts,rfl,hp,O,hd,hc,hL,fY,cJ,q):=h;let r9:=O.r9;let w9:=O.w9;calc%[0,_,(aB (cW b4 rb (dh bh) (jV rb<|bO (bD (i:=4) pX.nd rb<|Or.Â rb)<|bO (bD (i:=5) pX.nd rb<|Or.Â rb)<|bO (bD (i:=6) pX.nd rb<|Or.Â rb) g_)<|aB (aZ (i:=7) pX.nd rb (Or.Â rb)<|aV (N5 Gz) hr.Ø rb<|ak aG<|ak bV<|ak cB<|ak (aN fD aC bG)<|ak cM aq)<|aD<|cg (QW.qt<|Ez (bN aaT (aO cP yk Gz.c' bE<|ak gO aq) aC<|bR _)<|Bj<|bN tZ gO aW rb) (aD<|aY fL) bI)<|aD<|aY fL)|?_];refine%[2,c,rb,%[_|aP.of hc]|h_ (K:=K) (a:=c) (xs:=as.Q V.C) (λn I G=>∃(Y v5 L M:ĸ V),I=[ĳ (.C p),ĳ (.C d),ĳ (.C c),ĳ (.R way),Y,v5,L,M]/\G=H/\(ts.Å n).ė (uT ws aj way)=ķ)
   %[21,ĺ,ĺ,ĺ,ĺ,rb,rb|rb] (λn I G _ h=>by let(_,_,_,_,_,e,_):=h;rw[e];show aP.of hc) ?_ ?_]
 .intro n x I G hx z;let(Y,v5,L,M,rfl,rfl,hn):=z;let(hi,hx):=rfg hx;subst hx;let(t,et,ot,hT):=hL.get hi;let F:=a5 et;let(h1,h2):=cJ t F;calc%[1,as[n],_,rb,.Â<|.Ó %[ot|hT]|%[16,rb,_,_,rb|%[5,_,_|%[17,rb,_,_,rb,rb|?_]]]];calc%[3,_,_,rb|%[10,rb,p|%[24,aj,r,w,t.1,t.2.1,t.2.2,1-(way:ļ),rb,hp|%[O.br,O.r1,O.r9,O.w9,O.cr,h1,h2,ye|?_]]]];let hcl:(cZ (lineOf aj t.1 t.2.1<|1-(way:ļ)) (placeOf t.1 t.2.1<|1-(way:ļ)) t.2.2).n<=100:=by
   have:=jA O.br h1 (j:=t.2.1) (way:=1-(way:ļ));have:(lineOf aj t.1 t.2.1<|1-(way:ļ)).n<=9:=by rw[this];split <;> assumption
   unfold cZ;rw[ay,aa,bX,aa];let a:=kj<|(lineOf aj t.1 t.2.1<|1-(way:ļ)).Å<|placeOf t.1 t.2.1<|1-(way:ļ);let b:=rJ<|(lineOf aj t.1 t.2.1<|1-(way:ļ)).Î<|placeOf t.1 t.2.1 (1-(way:ļ))+1;rw[a8]at a;rw[cn]at b;lia
  let D:(ts.Å<|n+1).ė (uT ws aj way)=uT ws aj way t:=by rw[bu,et,List.all_append,hn];simp
  let N:uT ws aj way t=Ļ->Q (.bl Ļ) G:=λe=>by rw[show ts.ė (uT ws aj way)=Ļ from List.all_eq_false.Û %[0,t,F|by rw[e];decide]]at q;show q
  let B:uT ws aj way t=(ľ ((cZ (lineOf aj t.1 t.2.1<|1-(way:ļ)) (placeOf t.1 t.2.1<|1-(way:ļ)) t.2.2).n<=1)||ľ (cZ (lineOf aj t.1 t.2.1<|1-(way:ļ)) (placeOf t.1 t.2.1<|1-(way:ļ)) t.2.2∈ws)):=rfl;generalize cZ (lineOf aj t.1 t.2.1<|1-(way:ļ)) (placeOf t.1 t.2.1<|1-(way:ļ)) t.2.2=cr at hcl B ⊢;calc%[33,cr,rb,ax<|aF ye,_,_,rb,rb|aU _ rb ?_];by_cases c1:cr.n<=1
  .calc jF9 (show ¬(1:ļ)<(cr.n:ļ) by lia)<|bK %[21,_,_,_,_,rb,rb|?_];rw[D,B,am c1];rfl
  .refine jT9 (show (1:ļ)<(cr.n:ļ) by lia) %[12,d,_,rb,.Â<|aP.of hd,rb,?_|aU _ rb ?_]
   .rw[fE];intro v hv;let(l,_,rfl):=ar.mp hv;rfl
   .rw[Xo];by_cases J:cr∈ws
    .rw[am J];calc bK %[21,_,_,_,_,rb,rb|?_];rw[D,B,am J,Bool.or_true]
    .rw[al J];calc bZ<|N ?_;rw[B,al c1,al J];rfl
 .intro I G z;let(Y,v5,L,M,rfl,rfl,hn):=z;rw[aa,hL.Ċ,b9]at hn;rw[hn]at q;show q
def Bb (H:Hp)(k:ĵ)(a:Ĺ)(x:Ĵ aR×Ĵ ĵ):Prop:=x.1.n=k/\x.2.n<=100/\∃(q:Addr) (bs:Ĵ Ĺ),H a=ĳ (.Ã [.C q,.À (S x.2)])/\H q=ĳ (.Ã<|bs.Q V.C)/\cY H bs x.1
def Bb.fG (m:∀a xs,H a=ĳ (.Ã xs)->H' a=ĳ (.Ã xs))(h:Bb H k a x):Bb H' k a x:=let %[h1,h2,la,bs,h3,h4|h5]:=h;%[19,h1,h2,la,bs,m _ _ h3,m _ _ h4|h5.fG m]
theorem Cz {α β:Type}{R:α->β->Prop}:∀{l:Ĵ α} {m:Ĵ β} {i:ĵ} {p:α},Ř R l m->l[i]?=ĳ p->∃q,m[i]?=ĳ q/\R p q
 | _,_,_,_,.Ü,h=>by simp at h
 | _,_,0,_,.Ð r _,h=>%[0,_,rb|by simp at h;rw[<-h];show r]
 | _,_,i+1,_,.Ð _ t,h=>Cz (i:=i) t (by simpa using h)
def Yb (t:aR)(p:Ĵ aR×Ĵ ĵ):(lZ t p).n<=2:=by unfold lZ;split <;> split <;> simp
theorem IV (ts:Ĵ aR)(rk):∀n,(drs (ts.Å n) [([],rk)]).n<=2^n
 | 0=>by simp[drs]
 | n+1=>by
  let q:=IV ts rk n;rw[kK,bu];cases e:ts[n]? with| none=>rw[Option.toList_none,dS];show aw q<|fz _ _| some t=>show (drs (ts.Å n++[t]) _).n<=_;rw[Eu];show aw (xu λx _=>Yb t x)<|ke 2 q
def IW {rk:Ĵ ĵ}(h:x∈dZ ts rk):x.Q bM=ts.Q bM:=by
 let(ss,hs,rfl):=ar.mp h;let q:ss.n=ts.n:=by rw[tQ _ _ hs];unfold jM;rw[aa]
 unfold d8;rw[List.map_zipWith];calc pi (by simp[q]) λi h1 B=>?_;simp[bM]
def acV {rk:Ĵ ĵ}(h:x∈dZ ts rk):x.Q My.rk=ts.Q My.rk:=by have:=Œ (List.Q λc:ĵ×ĵ=>c.1*1000+c.2)<|IW h;rw[cp,cp]at this;show this
def Yc:Sp:=λvs H Q _=>∃(c:Addr) (as:Ĵ Ĺ) (ts:Ĵ aR) (rk:Ĵ ĵ),vs=[.C c,.À (S rk)]/\H c=ĳ (.Ç<|as.Q V.C)/\iy H as ts/\ts.n<=7/\(∀t∈ts,t.2.1<1000/\isLet t.2.2)/\(ts.Q My.rk).Ä (·<·)/\rk.n<=100/\
 ∀(p':Ĺ) (ds:Ĵ Ĺ) (H':Hp),aA H H'->H p'=ĺ->H' p'=ĳ (.Ç<|ds.Q V.C)->Ř (nj H') ds (dZ ts rk)->ds.n<=128->Q (.C p') H'
def UL (Gz:GG K mg):DF P w K mg base vI 1 Yc:=by
 calc Gz.bm'.cQ iD ?_;intro f bw A outer s H vs Q E hr h;let(c,as,ts,rk,rfl,hc,hL,h7,Av,ae4,hrk,q):=h;let hal:=hL.Ċ;calc%[0,_,(aB (aZ (i:=2) iD.nd rb (Or.Â rb)<|dN<|ak (cI<|ak (cI aq)<|ak aW aq) aq)<|aB (cW b4 rb (dh aG) (ZX rb<|bO (bD (i:=3) iD.nd rb<|Or.Â rb)<|bO (bD (i:=4) iD.nd rb<|Or.Â rb)<|bO (bD (i:=5) iD.nd rb<|Or.Â rb) g_)<|aB (aZ (i:=6) iD.nd rb (Or.Â rb)<|dN aq)<|aB (cW b4 rb (dh bh) (jV rb<|bO (bD (i:=7) iD.nd rb<|Or.Â rb)<|bO (bD (i:=8) iD.nd rb<|Or.Â rb) g_)<|aB (rF<|cg (bN Fq (K6 cB) jO rb) (aD<|dD<|dH c8 fh fk gQ cM<|ak (cI<|ak (aN QX gO<|cI<|ak (cI<|ak bG<|ak bV<|ak (K6 cB) aq) aq)<|ak (dH bv sQ sR Nt jO<|ak cB<|ak (acg [] yn)<|ak aC aq) aq) aq) bI)<|aD<|rF<|cg (bN Fq (b_ [63] yn) jO rb) (aD<|dD<|dH c8 fh fk gQ cM<|ak (cI<|ak (aN QX gO<|cI<|ak (cI<|ak bG<|ak bV<|ak (pC bv PySem.F.slot_str_upper PySem.F.type_str_upper adU<|K6 cB) aq) aq)<|ak (dH bv sQ sR Nt jO<|acj [63] [] yn yn) aq) aq) bI)<|aD<|aZ (i:=2) iD.nd rb (Or.Â rb) cM)<|aD<|aY<|eX (ns:=["_law_laid","_law_left"]) rb (fu.of ["_law_cells","_law_rack","_law_found","_law_row","_law_column","_law_letter","_law_more",".7",".8"] [7,8] ym) (dh bh) (λ_ _ _ _ _=>(B_ K rb (show (["_law_laid","_law_left","_law_cells","_law_rack","_law_found","_law_row","_law_column","_law_letter","_law_more",".7",".8"]:Ĵ Ŋ).Ý by decide +kernel) rb rb yk yk)) (λ_ _ _ _ _=>cF) λ_ _ _ _ _=>(c7 (Hy K) yk Gz.e' di<|ak (aO (Ih K) yk Gz.l' fm<|ak aG aq) aq))|?_];calc%[zsz 0|λp1 hp1=>?_];let k1:aA H (upd H p1<|HO.Ã []):=aA.è hp1;let e1:upd H p1 (HO.Ã []) p1=ĳ (.Ã []):=au;generalize upd H p1 (HO.Ã [])=H1 at k1 e1 ⊢;calc%[zsz 2|λp2 hp2=>?_];let k2:aA H1 (upd H1 p2<|HO.Ã [.C p1,.À (S rk)]):=aA.è hp2;let e2:upd H1 p2 (HO.Ã [.C p1,.À (S rk)]) p2=ĳ (.Ã [.C p1,.À (S rk)]):=au;generalize upd H1 p2 (HO.Ã [.C p1,.À (S rk)])=H2 at k2 e2 ⊢;calc%[zsz 1|λF hF=>?_];let k3:aA H2 (upd H2 F<|HO.Ç [.C p2]):=aA.è hF;let e3:upd H2 F (HO.Ç [.C p2]) F=ĳ (.Ç [.C p2]):=au;let Oo:=(k1.Z k2).Z k3;refine%[2,c,rb,%[_|aP.of<|Oo _ _ hc]|h_ (K:=K) (a:=c) (xs:=as.Q V.C) (λn I G=>∃(v3 v4 v5 v6 v7 v8:ĸ V) (F:Addr) (ds:Ĵ Ĺ),I=[ĳ (.C c),ĳ (.À<|S rk),ĳ (.C F),v3,v4,v5,v6,v7,v8]/\aA H G/\H F=ĺ/\G F=ĳ (.Ç<|ds.Q V.C)/\Ř (Bb G n) ds (drs (ts.Å n) [([],rk)]))
  %[9,ĺ,ĺ,ĺ|%[32,ĺ,ĺ,ĺ,F,[p2],rb,Oo,((k1.Z k2).Ô hF),e3|?_]] (λn I G _ h=>by let(_,_,_,_,_,_,_,_,_,sm,_):=h;show aP.of<|sm _ _ hc) ?_ ?_]
 .show .Ð %[19,rb,hrk,p1,[],k3 _ _ e2,k3 _ _<|k2 _ _ e1|cY.Ü] .Ü
 .intro n x I G hx z;let(v3,v4,v5,v6,v7,v8,F,ds,rfl,sm,hFn,RP,hP):=z;let(hi,hx):=rfg hx;let(t,et,o,hT):=hL.get hi;let(ht1,zm):=Av t (a5 et);let RL:n<=6:=ye;let hdl:ds.n<=64:=by
   rw[mf hP];show aw (IV ts rk n)<|sf yi RL
  calc%[54,as[n],o,_,_,_,hx.Ù,sm _ _ hT|λk hk=>%[5,_,_|%[10,rb,_|%[38,_,rb,_,_,rb,rb|?_]]]];calc%[zsz 0|λM hM=>?_];let k4:aA G (upd G M<|HO.Ç []):=aA.è hM;let e4:upd G M (HO.Ç []) M=ĳ (.Ç []):=au;refine%[2,F,rb,%[_|aP.of<|k4 _ _ RP]|h_ (K:=K) (a:=F) (xs:=ds.Q V.C) (λm I G5=>∃(v7 v8:ĸ V) (es:Ĵ Ĺ),I=[ĳ (.C c),ĳ (.À<|S rk),ĳ (.C F),ĳ (.R (t.1:ļ)),ĳ (.R (t.2.1:ļ)),ĳ (.sx (S [t.2.2]) k),ĳ (.C M),v7,v8]/\aA G G5/\G5 F=ĳ (.Ç<|ds.Q V.C)/\G5 M=ĳ (.Ç<|es.Q V.C)/\Ř (Bb G5<|n+1) es (((drs (ts.Å n) [([],rk)]).Å m).ó<|lZ t)/\es.n<=2*m)
   %[42,_,_,[],rb,k4,k4 _ _ RP,e4,.Ü|b5 _] (λm I G5 _ h=>by let(_,_,_,_,_,h2,_):=h;show aP.of h2) ?_ ?_]
  .intro m x I G5 hx2 z;let(v7,v8,es,rfl,s5,hF5,hM5,hE,O):=z;let(hj,hx2):=rfg hx2;subst hx2;let(y,ey,hy1,hy2,la,bs,Rc,hy4,RQ):=Cz hP (ae hj);calc%[46,ds[m],_,rb,aM.of<|s5 _ _ Rc,rb,_,_,rb,_,_,rb,rb|?_];let inv:∀(zs:Ĵ (Ĵ aR×Ĵ ĵ)) (B:Hp) (Z:Ĵ Ĺ),aA G B->B F=ĳ (.Ç<|ds.Q V.C)->B M=ĳ (.Ç<|Z.Q V.C)->Z.n<=2*m+zs.n->zs.n<=1->Ř (Bb B<|n+1) Z (((drs (ts.Å n) [([],rk)]).Å m).ó (lZ t)++zs)->∀(Y D:Ĺ) (L:Hp) (d:ĵ) (left:Ĵ ĵ),aA B L->left.n<=100->L Y=ĳ (.Ã<|bs.Q V.C++[.C D])->L D=ĳ (.Ã [.R t.1,.R t.2.1,.À (S [d])])->∀J,L J=ĺ->
     ∃Oq:Ĵ Ĺ,Z.Q V.C++[V.C J]=Oq.Q V.C/\Oq.n<=2*m+(zs.n+1)/\upd L J (.Ã [.C Y,.À (S left)]) M=ĳ (.Ç<|Z.Q V.C)/\(Z.Q V.C).n<Ń/\aA G (upd (upd L J<|.Ã [.C Y,.À (S left)]) M<|.Ç<|Z.Q V.C++[V.C J])/\upd (upd L J<|.Ã [.C Y,.À (S left)]) M (.Ç<|Z.Q V.C++[V.C J]) F=ĳ (.Ç<|ds.Q V.C)/\upd (upd L J<|.Ã [.C Y,.À (S left)]) M (.Ç<|Z.Q V.C++[V.C J]) M=ĳ (.Ç<|Z.Q V.C++[V.C J])/\
      Ř (Bb (upd (upd L J<|.Ã [.C Y,.À (S left)]) M<|.Ç<|Z.Q V.C++[V.C J])<|n+1) Oq (((drs (ts.Å n) [([],rk)]).Å m).ó (lZ t)++(zs++[(y.1++[(t.1,t.2.1,d)],left)])):=by
    intro zs B Z N Du jl hl6 hz1 zA Y D L d left RM hleft hla hg1 J hg2;let k8:aA L (upd L J<|HO.Ã [.C Y,.À (S left)]):=aA.è hg2;let e8:upd L J (HO.Ã [.C Y,.À (S left)]) J=ĳ (.Ã [.C Y,.À (S left)]):=au;let ql:=k8 _ _<|RM _ _ jl;let Ot:=RM.Z k8;let nFM:F≠M:=λz=>by rw[<-z,RP]at hM;cases hM
    calc%[66,Z++[J],yf,by simp_all +arith,ql,?_,(N.Z Ot).bH hM,by rw[bx nFM];show Ot _ _ Du,au|?_];.rw[aa];show aF ye
    .rw[<-bt];calc Paired.snoc (Paired.Hr zA λa b z=>z.fG λa xs e=>cO ql _ _<|Ot _ _ e) ?_;calc%[19,by simp[hy1],hleft,Y,bs++[D],cO ql _ _ e8,?_|?_];.rw[bg];show cO ql _ _<|k8 _ _ hla
     .show((RQ.mv<|N.Z Ot).snoc (t:=(t.1,t.2.1,d))<|k8 _ _ hg1).fG<|cO ql
   refine%[λI B=>∃(zs:Ĵ (Ĵ aR×Ĵ ĵ)) (Z:Ĵ Ĺ),zs=(if t.2.2∈y.2 then [(y.1++[t],y.2.ý t.2.2)] else [])/\I=[ĳ (.C c),ĳ (.À<|S rk),ĳ (.C F),ĳ (.R (t.1:ļ)),ĳ (.R (t.2.1:ļ)),ĳ (.sx (S [t.2.2]) k),ĳ (.C M),ĳ (.C la),ĳ (.À<|S y.2)]/\aA G B/\B F=ĳ (.Ç<|ds.Q V.C)/\B M=ĳ (.Ç<|Z.Q V.C)/\Z.n<=2*m+zs.n/\Ř (Bb B<|n+1) Z (((drs (ts.Å n) [([],rk)]).Å m).ó (lZ t)++zs),?_|?_]
   .calc%[1,t.2.2,y.2,rb,rb|aU _ rb ?_];by_cases c1:t.2.2∈y.2
    .calc jT9 c1 %[.Â %[10,rb,_|aP.of hM5],zsz 3|λD hg1=>?_];let k6:aA G5 (upd G5 D<|HO.Ã [.R t.1,.R t.2.1,wB (.sx (S [t.2.2]) k)]):=aA.è hg1;let e6:upd G5 D (HO.Ã [.R t.1,.R t.2.1,wB (.sx (S [t.2.2]) k)]) D=ĳ (.Ã [.R t.1,.R t.2.1,.À (S [t.2.2])]):=au;show 1<=Ń/\_;generalize upd G5 D (HO.Ã [.R t.1,.R t.2.1,wB (.sx (S [t.2.2]) k)])=B at k6 e6 ⊢;calc%[yi|λg hg=>?_];let k7:aA B (upd B g<|HO.Ã [.C D]):=aA.è hg;let e7:upd B g (HO.Ã [.C D]) g=ĳ (.Ã [.C D]):=au;let Ou:=k6.Z k7;calc%[35,la,g,_,_,rb,rb,aM.of<|Ou _ _<|s5 _ _ hy4,aM.of e7,?_,λ_=>e7,λz=>ń z yf|λY G8 s8 h8=>?_];.rw[aa,RQ.len,hy1];show ax<|aF (by simp;show aw RL<|fz _ _)
     let s58:=Ou.Z s8;calc%[rb|λk2 Rb hlt=>?_];let(c0,c2):=hlt _ _ %[26,as[n],o,_,(s5.Z s58) _ _<|sm _ _ hT|hk];calc%[35,y.2,t.2.2,k,k2,rb,rb,c1,ye,c0,c2,zsz 2|λJ hg2=>?_];let(Oq,i1,i2,i3,i4,i5,i6,i7,i8):=inv [] G5 es s5 hF5 hM5 (by simpa using O) yi (by simpa using hE) Y D G8 t.2.2 (y.2.ý t.2.2) s58 (aw mP hy2) h8 (s8 _ _<|k7 _ _ e6) J hg2;calc%[7,M,_,_,rb,rb,i3,i4|%[28,_,Oq,rb,rb,i5,i6,by rw[i7,i1],?_|?_]];.rw[Ŀ c1];simpa using i2
     .rw[Ŀ c1];simpa using i8
    .calc jF9 c1 %[28,_,es,rb,rb,s5,hF5,hM5,?_|?_];.rw[ŀ c1];simpa using O
     .rw[ŀ c1];simpa using hE
   .intro σ' B z;let(zs,Z,hzs,rfl,N,Du,jl,hl6,zA):=z;let Ab:zs.n<=1:=by rw[hzs];split <;> simp
    let efl:(((drs (ts.Å n) [([],rk)]).Å<|m+1).ó<|lZ t)=((drs (ts.Å n) [([],rk)]).Å m).ó (lZ t)++(zs++(if 63∈y.2 then [(y.1++[(t.1,t.2.1,PyProof.â.up1 t.2.2)],y.2.ý 63)] else [])):=by rw[bu,ey,hzs];simp[lZ]
    rw[efl];calc%[0,_,?_|λσ' H' h=>h];calc%[1,63,y.2,rb,rb|aU _ rb ?_];by_cases c1:63∈y.2
    .rw[am c1,Ŀ c1];calc bZ %[.Â %[10,rb,_|aP.of jl],rb|%[30,[t.2.2],rb,rb,by show 1<=1000;decide,λe he=>by rw[av.mp he];show(xr zm).2.2.2.1,zsz 3|λD hg1=>?_]];let k6:aA B (upd B D<|HO.Ã [.R t.1,.R t.2.1,.À (S<|[t.2.2].Q PyProof.â.up1)]):=aA.è hg1;let e6:upd B D (HO.Ã [.R t.1,.R t.2.1,.À (S<|[t.2.2].Q PyProof.â.up1)]) D=ĳ (.Ã [.R t.1,.R t.2.1,.À (S [PyProof.â.up1 t.2.2])]):=au;show 1<=Ń/\_;generalize upd B D (HO.Ã [.R t.1,.R t.2.1,.À (S<|[t.2.2].Q PyProof.â.up1)])=L at k6 e6 ⊢;calc%[yi|λg hg=>?_];let k7:aA L (upd L g<|HO.Ã [.C D]):=aA.è hg;let e7:upd L g (HO.Ã [.C D]) g=ĳ (.Ã [.C D]):=au;let Ot:=k6.Z k7;calc%[35,la,g,_,_,rb,rb,aM.of<|Ot _ _<|N _ _ hy4,aM.of e7,?_,λ_=>e7,λz=>ń z yf|λY G9 s9 h9=>?_];.rw[aa,RQ.len,hy1];show ax<|aF (by simp;lia)
     calc%[rb|λk2 Rb=>?_];calc%[35,y.2,63,k2,k2+1,rb,rb,c1,ye,Rb,eQ _,zsz 2|λJ hg2=>?_];let(Oq,i1,i2,i3,i4,i5,i6,i7,i8):=inv zs B Z N Du jl hl6 Ab zA Y D G9 (PyProof.â.up1 t.2.2) (y.2.ý 63) (Ot.Z s9) (aw mP hy2) h9 (s9 _ _<|k7 _ _ e6) J hg2;show%[7,M,_,_,rb,rb,i3,i4|%[42,_,_,Oq,rb,i5,i6,by rw[i7,i1],i8|ye]]
    .rw[al c1,ŀ c1,dS];show bK %[42,_,_,Z,rb,N,Du,jl,zA|ye]
  .intro σ' B z;let(v7,v8,es,rfl,N,Du,jl,hE,O):=z;rw[aa,cw (mE (mf hP).Ù),<-Eu]at hE;calc%[9,_,_,_|%[32,_,_,_,M,es,rb,sm.Z N,(sm.Ô hM),jl|?_]];rw[bu,et];show hE
 .intro I G z;let(v3,v4,v5,v6,v7,v8,F,ds,rfl,sm,hFn,RP,hP):=z;rw[aa,hal,b9]at hP;let hdl:ds.n<=128:=by
   rw[mf hP];have:=IV ts rk ts.n;rw[b9]at this;show aw this<|sf yi h7
  refine%[2,F,rb,%[_|aP.of RP]|λM hM=>Pj (f:=eF [7,8] 0) (tt:=gb) (KT:=K) (xs:=ds.Q V.C) (λi ys B=>∃es:Ĵ Ĺ,ys=es.Q V.C/\es.n=i/\B M=ĳ (.Ç ys)/\aA G B/\Ř (nj B) es ((dZ ts rk).Å i))
   %[15,[],rb,rb,au,aA.è hM|.Ü] (λi ys B _ h=>by let(_,_,_,_,N,_):=h;show aP.of<|N _ _ RP) ?_ ?_]
  .intro i x ys B hx z;let(es,rfl,O,jl,N,hE):=z;let(hi,hx):=rfg hx;let(y,ey,hy1,hy2,la,bs,Rc,hy4,RQ):=Cz hP (ae hi);let eyl:(dZ ts rk)[i]?=ĳ y.1:=by rw[<-Ol,ba,ey];rfl
   let aav:=acV<|a5 eyl;calc Tt hx.Ù (aM.of<|N _ _ Rc) ?_;let hB:=RQ.mv N;let gG:bs.n<=7:=by have:=Œ List.n aav;rw[RQ.len];simp[*]
   let ecf:bs.Q (λa=>My.rk<|tO B a)=y.1.Q My.rk:=by rw[<-hB.eq,cp];rfl
   refine%[42,la,bs,λa=>My.rk<|tO B a,rb,.Ó<|aM.of<|N _ _ hy4,ye,λa ha=>?_,?_|λp1 as' hp1 pm pw=>?_]
   .let hm:tO B a∈y.1:=by rw[<-hB.eq];show ci ha
    have:bM (tO B a)∈ts.Q bM:=by rw[<-IW (a5 eyl)];show ci hm
    let(u,hu,eu):=ar.mp this;let h2:u.2.1=(tO B a).2.1:=Œ (λc:ĵ×ĵ=>c.2) eu;show%[8,(tO B a).1,(tO B a).2.1,[.À (S [(tO B a).2.2])],.Â<|hB.č a ha,by rw[<-h2];show(Av u hu).1,rb|.Ó %[_|rb]]
   .rw[ecf,aav];show List.Ä.imp (λ{a b} hab=>bn hab) ae4
   .let k7:aA B (upd B p1<|HO.Ç<|as'.Q V.C):=aA.è hp1;calc%[3,p1,_,rb|.Â %[aP.of au|λT hT=>?_]];let k8:=k7.bH (o:=HO.Ã (as'.Q V.C))<|k7.Ô hT;let e8:upd (upd B p1<|HO.Ç<|as'.Q V.C) T (HO.Ã<|as'.Q V.C) T=ĳ (.Ã<|as'.Q V.C):=au;generalize upd (upd B p1<|HO.Ç<|as'.Q V.C) T (HO.Ã<|as'.Q V.C)=G8 at k8 e8 ⊢;let ql:=k8 _ _ jl;let(hl',pG):=hB.perm pm;let e7:as'.Q (tO B)=y.1:=Uy (by rw[cp];show pw) (by rw[aav];show ae4) pG;rw[e7]at hl';calc%[ql,by rw[aa,O];show aF ye|dz.mk (by rw[aa];show hi) %[15,es++[T],yf,by simp[O],by rw[au],(N.Z k8).bH hM|?_]];rw[bu,eyl];show Paired.snoc (Paired.Hr hE λa b z=>z.fG λa xs e=>cO ql _ _<|k8 _ _ e) %[0,as',cO ql _ _ e8|(hl'.mv k8).fG<|cO ql]
  .intro ys B z;let(es,rfl,O,jl,N,hE):=z;rw[cw (by rw[<-Ol,aa,aa,mf hP];show ah _)]at hE;show q M es B (sm.Z N) (sm.Ô hM) jl hE (by rw[O,aa];show hdl)
theorem Yd:∀{a b:Ĵ (Ĵ aR)},JK a->JK b->a.Ý->b.Ý->(∀x∈a,∀t∈x,qy t)->(∀x,x∈a↔x∈b)->a=b
 | [],[],_,_,_,_,_,_=>rfl
 | [],y::b,_,_,_,_,_,h=>ń ((h y).Û aS) yf
 | x::a,[],_,_,_,_,_,h=>ń ((h x).mp aS) yf
 | x::a,y::b,ha,hb,na,nb,ok,h=>by
  let D:=gp.mp ha;let B:=gp.mp hb;let F:=gu.mp na;let G:=gu.mp nb;let e:x=y:=by
   rcases a_.mp ((h x).mp aS) with z|z;.show z
   .rcases a_.mp ((h y).Û aS) with z'|z';.show z'.Ù
    .let h1:=qE<|B.1 x z;let J:=qE<|D.1 y z';calc Ng (ok x aS) (ok y<|aE _ z') ?_;by_cases q:jm x=jm y;.show q
     .show ń (Xn h1 q) J
  subst e;rw[Yd D.2 B.2 F.2 G.2 (λz hz=>ok z<|aE _ hz) λz=>%[λhz=>?_|λhz=>?_]]
  .rcases a_.mp ((h z).mp<|aE _ hz) with e|e;.show ń (e ▸ hz) F.1
   .show e
  .rcases a_.mp ((h z).Û<|aE _ hz) with e|e;.show ń (e ▸ hz) G.1
   .show e
def fZ.has (h:fZ H as L)(hp:H p=ĳ (.Ã<|as.Q V.C))(ok:∀ts∈L,ts≠[]/\∀t∈ts,Ao t):fX K H 3 (.Ã<|L.Q uy) (.C p):=by
 calc .Ã (aM.of hp) ?_;let B:∀bs:Ĵ Ĺ,(∀b∈bs,uz K H b (lO H b))->fV K H 2 ((bs.Q<|lO H).Q uy) (bs.Q V.C):=by
  intro bs
  induction bs with| nil=>show λ_=>.Ü| cons b bs ih=>show λq=>.Ð (q b aS).1<|ih λx hx=>q x<|aE _ hx
 have:=B as λb q=>by
  let hm:lO H b∈L:=by rw[<-h.eq];show ci q
  show(h.č b q).lay (ok _ hm).1 (ok _ hm).2
 rw[h.eq]at this;show this
theorem Hf:∀{bs:Ĵ Ĺ},(∀b∈bs,uN H b (tO H b))->Ř (λ(p:Ĺ) (t:T3)=>H p=ĳ (.Ã [.R t.1,.R t.2.1,.À (S [t.2.2])])) bs (bs.Q<|tO H)
 | [],_=>.Ü
 | b::bs,h=>.Ð (h b aS) (Hf λx hx=>h x<|aE _ hx)
def nj.lyA (h:nj H a ts)(q:ts≠[]):Nr H a ts:=by let(bs,h1,B):=h;calc%[14,q,bs,h1|?_];have:=Hf B.č;rw[B.eq]at this;show this
theorem J9:∀{bs:Ĵ Ĺ} {ts:Ĵ T3},Ř (λ(p:Ĺ) (t:T3)=>H p=ĳ (.Ã [.R t.1,.R t.2.1,.À (S [t.2.2])])) bs ts->cY H bs ts
 | _,_,.Ü=>cY.nil
 | _,_,.Ð (a:=b) (b:=t) e r=>by
  let B:=J9 r;let q:uN H b t:=e;refine%[λx hx=>?_|?_]
  .rcases a_.mp hx with z|z;.rw[z,Gy q];show q
   .show B.č x z
  .rw[b7,Gy q,B.eq]
def Nr.at {H:Hp}{a:Ĺ}{ts:Ĵ aR}(h:Nr H a ts):nj H a ts:=by let(_,bs,h1,q):=h;show%[0,bs,h1|J9 q]
def aaw (q:H M=ĳ (.ext φ)):∀a xs,H a=ĳ (.Ã xs)->upd H M (.ext ψ) a=ĳ (.Ã xs):=λa xs e=>by
 let ne:a≠M:=λz=>by rw[z,q]at e;cases e
 rw[bx ne];show e
def yO (m:∀a xs,H a=ĳ (.Ã xs)->H' a=ĳ (.Ã xs))(h:qC H b k):qC H' b k:=by let(ts,e,q):=h;show%[0,ts,e|((Nr.at q).fG m).lyA q.1]
def aax {aj:AA}{r w i j way:ĵ}{l:Ĵ ĵ}:((dB aj r w i j l way).Q My.rk).Ä (·<·):=by
 unfold dB;split
 .split
  .let(B,q):=A_ aj r w i j l;rw[c_]at B ⊢;calc kN (λ{a b} ha hb hab=>?_) B;unfold My.rk;rw[q a ha,q b hb];show wq hab _
  .show List.Ä.Ü
 .split
  .let(B,q):=A_ (bC aj w) w r j i l;rw[cp,c_];rw[c_]at B;calc kN (λ{a b} ha hb hab=>?_) B;show a.2.1*1000+a.1<b.2.1*1000+b.1;rw[q a ha,q b hb];simp_all
  .show List.Ä.Ü
def Ye (aj)(r w i j)(l)(way):(dB aj r w i j l way).n<=l.n:=by
 unfold dB;split
 .split;.show oX ..
  .show b5 _
 .split;.rw[aa];show oX ..
  .show b5 _
theorem Hg {α:Type}{f g:α->œ}:∀{l:Ĵ α},(∀x∈l,f x=g x)->l.ė f=l.ė g
 | [],_=>rfl
 | x::l,h=>by rw[xa,xa,h x aS,Hg λy q=>h y (aE _ q)]
def wz (w:ŋ)(H:Hp)(Y:Ĺ)(n:ĵ)(X:Ĵ (Ĵ aR)):Prop:=∃ys:Ĵ (ux×Ĺ×V),H Y=ĳ (MD (sS w) Y ys)/\(∀y∈ys,qC H y.2.1 y.1)/\ys.n<=n/\∀q,q∈ys.Q (·.1)↔∃x∈X,q=iC x
def wz.mv (s:aA H H')(h:wz w H dY n X):wz w H' dY n X:=let %[ys,h1,h2,h3|h4]:=h;%[11,ys,s _ _ h1,λy q=>yO (λa xs e=>s a _ e)<|h2 y q,h3|h4]
def wz.up (k:n<=m)(h:wz w H dY n X):wz w H dY m X:=let %[ys,h1,h2,h3|h4]:=h;%[11,ys,h1,h2,aw h3 k|h4]
def aay:Sp:=λvs H Q _=>∃(p b d:Addr) (aj aH ws:AA) (r w bi bj:Nat) (rk:Ĵ ĵ) (L:Ĵ (Ĵ aR)),vs=[.C p,.C b,.C d,.À (S rk)]/\H p=ĳ (.Ã<|Ts aj)/\vM r w aj aH bi bj/\H b=ĳ (.Ã [.R bi,.R bj])/\H d=ĳ (.Ç<|Ts ws)/\(∀l∈ws,jo l)/\ws.n<64/\rk.n<=7/\L.n<=4000/\(∀x∈Et ws aj r w bi bj rk,x∈L)/\
 ∀(p':Ĺ) (as:Ĵ Ĺ) (M:Ĵ (Ĵ aR)) (H':Hp),aA H H'->H' p'=ĳ (.Ã<|as.Q V.C)->fZ H' as M->JK M->M.Ý->(∀x,x∈M↔x∈Et ws aj r w bi bj rk)->Q (.C p') H'
def ae5 (M:GG K mg):DF P w K mg base K7 4 aay:=by
 calc M.bn'.cQ uL ?_;(intro f bw A outer s H vs Q E hr h);let(p,b,d,aj,aH,ws,r,w',bi,bj,rk,L,rfl,hp,O,hb,hd,hW,Iu,hrk,hLl,hLs,q):=h;let iZ:(Ts aj).n=r:=by rw[aa,O.br.len]
 let r9:=O.r9;let w9:=O.w9;let h0:0<aj.n:=by rw[O.br.len];show O.r1
 let hw0:aj[0].n=w':=O.br.gW _<|aI _;let okX:∀x∈Et ws aj r w' bi bj rk,yN aj r w' (cD aj r w' bi bj) x:=λx hx=>Iw O.br hW<|(Oi O.br (λl hl=>by have:=(hW l hl).lo;show ax this) hrk x).mp hx;let hrw:2*r*w'<=162:=iE (Nat.mul_le_mul_left 2 r9) w9;calc%[0,_,(aB (aZ (i:=4) uL.nd rb (Or.Â rb)<|Xh w)<|aB (cW b4 rb (dh bh) (bD (i:=5) uL.nd rb<|Or.Â rb)<|aD<|cW b4 rb (jr yk M.h'<|ak (aN gP (aN gP aC<|aO cu yk M.c' bE<|ak aG aq)<|aO cP yk M.c' bE<|ak (bB bY aG aC λ_ _=>rfl) aq) aq) (bD (i:=6) uL.nd rb<|Or.Â rb)<|aB (aZ (i:=7) uL.nd rb (Or.Â rb)<|aN dM cM aC)<|aB (aZ (i:=8) uL.nd rb (Or.Â rb)<|aV (aat M) hr.Ø rb<|ak aG<|ak cB<|ak (aN dM (aN iM cM aC)<|aO cu yk M.c' bE<|ak aG aq)<|ak (aN iM (aN iM cM aC)<|aO cu yk M.c' bE<|ak aG aq)<|ak gO aq)<|aD<|cg (QW.qt<|Ez (oK Bm kI aC (aO cu yk M.c' bE<|ak jO aq)<|aO cP yk M.c' bE<|ak bG aq)<|Bj<|dw<|aV (X8 M) hr.Ø rb<|ak aG<|ak aW<|ak jO aq) (aD<|cg (dw<|aV (UJ M) hr.Ø rb<|ak aG<|ak bh<|ak jO<|ak gO aq) (aD<|cW b4 rb (dh<|aV (UL M) hr.Ø rb<|ak jO<|ak bG aq) (bD (i:=9) uL.nd rb<|Or.Â rb)<|aD<|Xi w hr.Þ bV nQ fL rb) bI) bI)<|aD<|aY<|c7 dU yk M.e' di<|ak (aO (Ia hr.Þ) yk M.l' fm<|ak (c7 (PN w rb) yk M.r' nV<|ak bV aq) aq) aq)|?_];intro Y hdY;let s0:aA H (upd H Y<|MD (sS w) Y []):=aA.è hdY;let e0:upd H Y (MD (sS w) Y []) Y=ĳ (MD (sS w) Y []):=au;generalize upd H Y (MD (sS w) Y [])=H0 at s0 e0 ⊢;refine%[2,d,rb,%[_|aP.of<|s0 _ _ hd]|h_ (K:=K) (a:=d) (xs:=Ts ws) (λn I H2=>∃(v5 v6 v7 v8 v9:ĸ V),I=[ĳ (.C p),ĳ (.C b),ĳ (.C d),ĳ (.À<|S rk),some (.C Y),v5,v6,v7,v8,v9]/\aA H H2/\wz w H2 Y (n*20736) ((ws.Å n).ó λl=>(List.æ<|2*r*w').ó<|je ws aj r w' bi bj rk l))
  %[54,ĺ,ĺ,ĺ,ĺ,ĺ,rb,s0|%[11,[],e0,λy hy=>by simp at hy,b5 _|λky=>by simp]] (λn I H2 _ h=>by let(_,_,_,_,_,_,sm,_):=h;show aP.of<|sm _ _ hd) ?_ ?_]
 .intro n x I H2 hx z;let(v5,v6,v7,v8,v9,rfl,sm,hK):=z;let(l,hl,rfl):=nO hx;let hlm:=a5 hl;let hWl:=hW l hlm;let hp2:=sm _ _ hp;calc%[1,p,_,rb,.Ó<|aM.of hp2|%[4,_,_,rb,rb,?_|%[25,p,_,_,.À<|S aj[0],rb,rb,aM.of hp2|%[23,aQ (j:=0)<|jh (by simp[h0]),_,rb,ax<|aF ye|%[4,_,_,rb,rb,?_|?_]]]]];.show .Â %[yi|yi]
  .rw[hw0];show .Ó %[cz _|ye]
  rw[iZ,hw0];calc%[11,((2*r*w':ĵ):ļ),by rfl,cz _,ye|?_];refine iH (lo:=0) (n:=2*r*w') (λm I H3=>∃(v6 v7 v8 v9:ĸ V),I=[ĳ (.C p),ĳ (.C b),ĳ (.C d),ĳ (.À<|S rk),ĳ (.C Y),ĳ (.À<|S l),v6,v7,v8,v9]/\aA H H3/\wz w H3 Y (n*20736+m*128) (((ws.Å n).ó λl=>(List.æ<|2*r*w').ó<|je ws aj r w' bi bj rk l)++(List.æ m).ó (je ws aj r w' bi bj rk l)))
   %[21,v6,v7,v8,v9,rb,sm|by simpa using hK] ?_ ?_
  .intro m I H3 hm z;let(v6,v7,v8,v9,rfl,sm3,hK3):=z;rw[ng];let J:=sm3 _ _ hp;let r1:0<r:=O.r1;let hi:m/2%r<r:=mm _ r1;let hj:m/2/r<w':=by
    rw[Nat.div_lt_iff_lt_mul r1,ge];rw[kP]at hm;show mS ye
   calc%[4,_,_,rb,rb,(by decide)|?_];let cd:∀x:ļ,ady x ((Ts aj).n:ļ):=λx=>by rw[iZ];show%[ie eJ r1|ye]
   calc%[4,_,_,rb,rb,%[yi|yi]|%[22,p,_,rb,.Ó<|aM.of J,_,_,rb,rb|%[16,(cd 0).1,_,_,rb|%[19,rb,%[yi|yi],p,_,rb,.Ó<|aM.of J|%[4,_,_,rb,rb,cd _|?_]]]]];calc%[5,p,aj|%[5,aH,r|%[61,w',bi,bj,m/2%r,m/2/r,m%2,l,by rw[iZ];rfl,J,O,hi,hj,mm _ yi,hWl|λpc as H4 s4 hn4 hc4 jL=>?_]]];let B:∀t∈dB aj r w' (m/2%r) (m/2/r) l (m%2),t.1<r/\t.2.1<w'/\isLet t.2.2/\atC aj r w' t.1 t.2.1=46:=λt F=>UG O.br hWl.az hi hj F;let hok:rA ws aj r w' bi bj rk (m%2) (dB aj r w' (m/2%r) (m/2/r) l<|m%2)=((ľ (0<(dB aj r w' (m/2%r) (m/2/r) l<|m%2).n)&&ľ ((dB aj r w' (m/2%r) (m/2/r) l<|m%2).n<=rk.n))&&(vP aj r w' bi bj (dB aj r w' (m/2%r) (m/2/r) l<|m%2)&&(dB aj r w' (m/2%r) (m/2/r) l<|m%2).ė (uT ws aj<|m%2))):=by unfold rA;rw[aas λt F=>%[(B t F).1,(B t F).2.1|(B t F).2.2.2]];congr 2;show(Hg λt F=>(acT O.br (mm _ yi) (B t F).1 (B t F).2.2.1).Ù)
   let D:je ws aj r w' bi bj rk l m=if rA ws aj r w' bi bj rk (m%2) (dB aj r w' (m/2%r) (m/2/r) l<|m%2)=ķ then dZ (dB aj r w' (m/2%r) (m/2/r) l<|m%2) rk else []:=rfl
   rw[hok]at D;let ae6:=aax (aj:=aj) (r:=r) (w:=w') (i:=m/2%r) (j:=m/2/r) (way:=m%2) (l:=l);let hfl:=Ye aj r w' (m/2%r) (m/2/r) l<|m%2;generalize dB aj r w' (m/2%r) (m/2/r) l (m%2)=ts at jL B D ae6 hfl;let hl9:=hWl.hi;let hal:=jL.Ċ;let Ov:=sm3.Z s4;let hK4:=hK3.mv s4;let efl:(List.æ<|m+1).ó (je ws aj r w' bi bj rk l)=(List.æ m).ó (je ws aj r w' bi bj rk l)++je ws aj r w' bi bj rk l m:=by rw[fw,lT];simp
   rw[efl,<-bt];generalize (((ws.Å n).ó λl=>(List.æ<|2*r*w').ó<|je ws aj r w' bi bj rk l)++(List.æ m).ó (je ws aj r w' bi bj rk l))=X at hK4 ⊢;let no:je ws aj r w' bi bj rk l m=[]->∀H5,aA H4 H5->wz w H5 Y (n*20736+(m+1)*128) (X++je ws aj r w' bi bj rk l m):=λe H5 Z=>by rw[e,dS];show(hK4.mv Z).up (by simp +arith)
   calc%[22,pc,_,rb,.Â<|aP.of hc4,_,_,rb,rb|aU _ rb ?_];rw[aa,hal];by_cases c0:0<ts.n
   .rw[am (show (0:ļ)<(ts.n:ļ) from ie eJ c0)];calc bZ %[33,rk,rb,ax<|aF ye,_,_,rb,rb|aU _ rb ?_];by_cases c1:ts.n<=rk.n
    .rw[am (show (ts.n:ļ)<=(rk.n:ļ) from ie sT c1)];calc bZ %[5,p,b|%[5,pc,aj|%[61,aH,r,w',bi,bj,as,ts,rb,s4 _ _ J,O,Ov _ _ hb,hc4,jL,ye|λH5 Z=>(aU _ rb ?_)]]];by_cases c2:vP aj r w' bi bj ts=ķ
     .rw[c2];calc bZ %[9,p,d,pc|%[36,aj,aH,ws,r,w',bi,bj,m%2,as,ts,rb,Z _ _<|s4 _ _ J,O|%[Z _ _<|Ov _ _ hd,Z _ _ hc4,jL.mv Z,mm _ yi,λt F=>%[(B t F).1|(B t F).2.1]|aU _ rb ?_]]];by_cases c3:ts.ė (uT ws aj<|m%2)=ķ
      .rw[c3];rw[am c0,am c1,c2,c3,Ŀ yk]at D;calc bZ %[35,pc,as,ts,rk,rb,Z _ _ hc4,jL.mv Z,aw c1 hrk,λt F=>%[by have:=(B t F).2.1;lia|(B t F).2.2.1],ae6,ye|λpd ds H6 s6 hn6 hd6 zA hl6=>?_];let s36:=(Ov.Z Z).Z s6;rw[D];refine%[2,pd,rb,%[_|aP.of hd6]|h_ (K:=K) (a:=pd) (xs:=ds.Q V.C) (λi I G=>∃(v9:ĸ V),I=[ĳ (.C p),ĳ (.C b),ĳ (.C d),ĳ (.À<|S rk),ĳ (.C Y),ĳ (.À<|S l),ĳ (.R (m:ļ)),ĳ (.R<|(m:ļ)%2),ĳ (.C pc),v9]/\aA H G/\G pd=ĳ (.Ç<|ds.Q V.C)/\Ř (nj G) ds (dZ ts rk)/\wz w G Y (n*20736+m*128+i) (X++(dZ ts rk).Å i))
        %[15,_,rb,s36,hd6,zA|by simpa using (hK4.mv Z).mv s6] (λi I G _ h=>by let(_,_,_,h2,_):=h;show aP.of h2) ?_ ?_]
       .intro i xx I G hx2 z;let(v9,rfl,sG,hdG,Yg,ys,X4,GR,hY3,hY4):=z;let(hi2,hx2):=rfg hx2;subst hx2;let(x,ex,hAt):=Cz Yg (ae hi2);let hne:x≠[]:=λz=>by
         have:=Œ List.n<|IW<|a5 ex;simp_all
        let hlt:qC G ds[i] (iC x):=%[0,x,rb|hAt.lyA hne]
        let hys:ys.n<Ń:=by
         have:64*20736+162*128+128<Ń:=by decide
         have:n<64:=by have:=(ap.mp hl).1;show mM this Iu
         lia
        calc%[47,Y,ys,ds[i],iC x,rb,X4,GR,rb,hlt,hys|?_];let kt:=aaw (ψ:=T9 (sS w) Y (uE ys (iC x) ds[i]<|V.bl ķ)) X4;let nd:pd≠Y:=λz=>by rw[z,X4]at hdG;cases hdG
        refine%[15,_,rb,sG.bH hdY,by rw[bx nd];show hdG,Paired.Hr Yg λa b z=>z.fG kt|%[11,uE ys (iC x) ds[i]<|V.bl true,au,λy hy=>?_,aw (Nq _ _ _ _) (by simp_all +arith)|λky=>?_]]
        .rcases ZS y hy with⟨z,hz,e1,e2⟩|⟨e1,e2⟩
         .have:=yO kt<|GR z hz;rw[e1,e2]at this;show this
         .rw[e1,e2];show yO kt hlt
        .rw[Xe,hY4,bu,ex];constructor
         .rintro(⟨t,F,e⟩|h);.show%[0,t,by rw[<-bt];show kQ _ F|e]
          .show%[0,x,yf|h]
         .intro z;let(t,F,e):=z;rw[<-bt]at F;rcases a7.mp F with z|z;.show .Â %[0,t,z|e]
          .have:t=x:=by simpa using z
           show .Ó (by rw[e,this])
       .intro I G z;let(v9,rfl,sG,hdG,Yg,hKG):=z;rw[aa,mf Yg,b9]at hKG;show%[21,_,_,_,_,rb,sG|hKG.up (by have:=mf Yg;simp_all +arith)]
      .rw[kz.Û c3];calc bK %[21,_,_,_,_,rb,Ov.Z Z|no ?_ H5 Z];rw[D,kz.Û c3,ko,ko];show ŀ yi
     .rw[kz.Û c2];calc bK %[21,_,_,_,_,rb,Ov.Z Z|no ?_ H5 Z];rw[D,kz.Û c2,iA,ko];show ŀ yi
    .rw[al (show ¬(ts.n:ļ)<=(rk.n:ļ) by simp[*])];calc bK<|bK %[21,_,_,_,_,rb,Ov|no ?_ H4<|aA.Ğ _];rw[D,al c1,ko,iA];show ŀ yi
   .rw[al (show ¬(0:ļ)<(ts.n:ļ) by simp[*])];calc bK %[21,_,_,_,_,rb,Ov|no ?_ H4<|aA.Ğ _];rw[D,al c0,iA,iA];show ŀ yi
  .intro I H3 z;let(v6,v7,v8,v9,rfl,sm3,hK3):=z;calc%[54,_,_,_,_,_,rb,sm3|?_];rw[Ay hl];show hK3.up (by have:=ke 128 hrw;simp_all +arith)
 .intro I H2 z;let(v5,v6,v7,v8,v9,rfl,sm,ys,hd2,hly,_,hky):=z;rw[aa,b9]at hky;let ahi:(ys.Q λy=>V.C y.2.1)=(ys.Q λy=>y.2.1).Q V.C:=by rw[cp];rfl
  calc%[1,Y,ys,rb,hd2|λndk pp hpp=>?_];rw[ahi];let k3:aA H2 (upd H2 pp<|HO.Ç<|(ys.Q λy=>y.2.1).Q V.C):=aA.è hpp;let J:upd H2 pp (HO.Ç<|(ys.Q λy=>y.2.1).Q V.C) pp=ĳ (.Ç<|(ys.Q λy=>y.2.1).Q V.C):=au;let ae7:∀y∈ys,qC (upd H2 pp<|HO.Ç<|(ys.Q λy=>y.2.1).Q V.C) y.2.1 y.1:=λy hy=>yO (λa xs e=>k3 a _ e)<|hly y hy;generalize upd H2 pp (HO.Ç<|(ys.Q λy=>y.2.1).Q V.C)=sE at k3 J ae7 ⊢;let UW:∀y∈ys,y.1=iC (lO sE y.2.1)/\nj sE y.2.1 (lO sE y.2.1):=λy hy=>by let(ts,e,hA):=ae7 y hy;let h1:=Nr.at hA;rw[K8 h1];show%[e|h1]
  let abb:((ys.Q λy=>y.2.1).Q<|lO sE).Q iC=ys.Q (·.1):=by rw[cp,cp];show du λy hy=>(UW y hy).1.Ù
  let ndM:((ys.Q λy=>y.2.1).Q<|lO sE).Ý:=by rw[<-abb]at ndk;show List.Ä.of_map iC (λa b hab z=>hab (by rw[z])) ndk
  let aaz:∀z,z∈(ys.Q λy=>y.2.1).Q (lO sE)↔z∈Et ws aj r w' bi bj rk:=λz=>by
   let h1:iC z∈ys.Q (·.1)↔z∈(ys.Q λy=>y.2.1).Q (lO sE):=by rw[<-abb,ar];show%[λ⟨u,hu,e⟩=>yq e ▸ hu|λh=>%[0,z,h|rb]]
   rw[<-h1,hky];show%[λ⟨ts,hts,e⟩=>by rw[yq e];show hts|λhz=>%[0,z,hz|rb]]
  let agf:(ys.Q λy=>y.2.1).n<=4000:=by have:=ndM.Ĩ (l₂:=L) λz hz'=>hLs z<|(aaz z).mp hz';rw[aa]at this;show aw this hLl
  let hlay:∀a'∈ys.Q λy=>y.2.1,uz K sE a' (lO sE a'):=λa' ha'=>by let(y,hy,rfl):=ar.mp ha';let hok:=okX _<|(aaz _).mp<|ci<|ci hy;show(UW y hy).2.lay hok.ne<|hok.Ao r9 w9
  calc%[7,pp,ys.Q λy=>y.2.1,lO sE,rb,aP.of J,agf,hlay|λp2 N hn2 Dg up2=>?_];let k4:aA sE (upd sE p2<|HO.Ç<|N.Q V.C):=aA.è hn2;calc%[3,p2,_,rb|.Â %[aP.of au|λT hT'=>?_]];let k5:=k4.bH (o:=HO.Ã (N.Q V.C))<|k4.Ô hT';let hYT:fZ (upd (upd sE p2<|HO.Ç<|N.Q V.C) T<|HO.Ã<|N.Q V.C) N (N.Q<|lO sE):=(fZ.mk (λa' ha'=>by let(y,hy,rfl):=ar.mp (Dg.õ.mp ha');show(UW y hy).2) rb).mv k5
  show q T N _ _ ((sm.Z k3).Z k5) au hYT up2 ((Dg.Q<|lO sE).nodup_iff.Û ndM) λx=>by rw[(Dg.Q<|lO sE).õ,aaz]
def Yh:Ĵ ĵ:=[46,46,46,46,46,50,98,51,99,52,100]
def acW (K:W.Ê)(C:Ĺ):Sp:=λvs H Q _=>∃(a:Addr) (ns:Ĵ ļ),vs=[.C a]/\aP K H a (ns.Q V.R)/\
 ∀(b:Ĺ) (r w:ĵ) (aj aH:AA) (bi bj:ĵ) (H':Hp),aA H H'->dj C H' b r w aj aH bi bj->r<=4->w<=5->Q (.C b) H'
def aaA (r w:ĵ):Ts (List.Ë r<|List.Ë w 46)=(List.Ë r [V.À (S<|List.Ë w 46)]).Ì:=by
 induction r with| zero=>rfl| succ r ih=>rw[gE,gE,gd,<-ih];rfl
def Ky (G:GG K mg):DF P w K mg base pY 8 (acW K G.b'):=by
 calc G.bo'.cQ iw ?_;(intro f bw A outer s H vs Q E hr h);let(a,ns,rfl,hS,q):=h;calc%[0,_,(aB (aZ (i:=1) iw.nd rb (Or.Â rb)<|aV (vJ G) hr.Ø rb<|ak aG<|ak aC aq)<|aB (aZ (i:=2) iw.nd rb (Or.Â rb)<|aN cT aC<|aN dM aW aC)<|aB (aZ (i:=3) iw.nd rb (Or.Â rb)<|aN cT aC<|aN dM (aN iM aW aC) aC)<|aB (aZ (i:=4) iw.nd rb (Or.Â rb)<|dN aq)<|aB (cW b4 rb (jr yk G.h'<|ak bh aq) (bD (i:=5) iw.nd rb<|Or.Â rb)<|aD<|dD<|dH c8 fh fk gQ bV<|ak (dH bv e_ fb oV (b_ [] yn)<|ak (fU rb (fQ.of iw.nd ym) (dh<|iW Bw (aV (vK G) hr.Ø rb<|ak aG<|ak (aN cT aC<|aN dM cB aC)<|ak aC<|ak aC aq) mR<|iQ bG) (λ_ _ _ _ _=>cF) λ_ _ _ _ _=>(bB vR (b_ [46,46,46,46,46,50,98,51,99,52,100] yn) aG λ_ _=>rfl)) aq) aq)<|aD<|aY<|Bq (G.m'.mks G.w') (rP G) hr.Ø rb G.v' G.m'.b .Ü f9<|ak (aN abH (cI<|ak (aN abx (b_ [46] yn) bG) aq) bh)<|ak (c7 dU yk G.e' di<|ak bV aq)<|ak (cI<|ak (aN dM (aN iM aW aC) bh)<|ak (aN dM (aN iM aW aC) bG) aq) aq)|?_];calc%[8,a,ns,8,rb,hS,yi|λx=>?_];obtain⟨r,er,r3,r4⟩:∃r:Nat,3+x%2=(r:ļ)/\3<=r/\r<=4:=%[2,(3+x%2).Ö,ye,ye|by simp_all;lia]
 obtain⟨w',ew,w3,w5⟩:∃w':Nat,3+x/2%3=(w':ļ)/\3<=w'/\w'<=5:=%[2,(3+x/2%3).Ö,by grind,by grind|by grind]
 calc%[3,_,_,rb|%[19,rb,(by show (0:ļ)<2;decide),3,x%2,rb,rb|?_]];dsimp only;rw[er];calc%[3,_,_,rb|%[19,rb,%[yi|yi],_,_,rb,rb|%[17,(by show (0:ļ)<3;decide),3,x/2%3,rb,rb|?_]]];dsimp only;rw[ew];calc%[zsz 0|λM hM=>?_];calc%[11,_,rb,cz _,by grind|?_];refine iH (lo:=0) (n:=r) (λi I J=>∃(v5:ĸ V) (aH:AA),I=[ĳ (.C a),ĳ (.R x),ĳ (.R r),ĳ (.R w'),ĳ (.C M),v5]/\
  aA H J/\J M=ĳ (.Ç<|Ts aH)/\aH.n=i/\∀l∈aH,l.n=w'/\∀c∈l,mkC c)
  %[12,ĺ,[],rb,(aA.è hM),au,rb|λl h=>by simp at h] ?_ ?_
 .intro i I J hi z;let(v5,aH,rfl,sm,xg,lm,F):=z;calc%[19,.Â %[10,rb,_|aP.of xg],rb,_,_,rb,rb|%[17,(by show (0:ļ)<3;decide),_,_,rb,rb|%[45,a,ns,9+i%3,11,6,by show [V.C a,V.R (9+(0+(i:ļ))%3),V.R 11,V.R 6]=_;rw[(show (9:ļ)+(0+(i:ļ))%3=((9+i%3:ĵ):ļ) from yf)];rfl,sm.ð hS,by grind,yi,yi,yi|λpe es H3 s3 ahA hpe hle hde=>?_]]];calc%[38,_,rb,pe,_,rb,aP.of hpe|λu hu'=>?_];let zZ:(lH (es.Q V.R) ĺ<|ĳ (w':ļ)).n=w':=by
   have:=Ij (ds:=es) (a:=0) (b:=w') (b5 _) (by grind);show this
  generalize hxs:lH (es.Q V.R) ĺ (ĳ (w':ļ))=xs at zZ ⊢;let Xl:∀v∈xs,∃d:Int,v=.R d/\0<=d/\d<11:=λv hv=>by rw[<-hxs]at hv;let(d,hd,e):=DQ hv;show%[0,d,e|hde d hd]
  let sU:∀o,aA H3 (upd H3 u o):=λo=>aA.è hu';refine%[2,u,rb,%[_|aP.of au]|λL hL=>oU (K:=K) (a:=u) (xs:=xs) (λj ys D=>∃Y:Ĵ ĵ,ys=Ts (ones Y)/\Y.n=j/\(∀c∈Y,mkC c)/\D L=ĳ (.Ç ys)/\D u=ĳ (.Ç xs)/\aA H3 D)
   %[30,[],rb,rb,λc hc=>by simp at hc,au,by rw[bx (bU au hL)];show au|(sU _).bH<|(sU _).Ô hL] (λj ys D _ zq=>by let(_,_,_,_,_,h2,_):=zq;exact aP.of h2) ?_ ?_]
  .intro j y ys D hj z;let(Y,rfl,Yi,aaB,hL2,hu2,pZ):=z;let hil:j<xs.n:=(ap.mp hj).1;let(d,rfl,d0,d1):=Xl y (a5 hj);obtain⟨n,rfl⟩:∃n:Nat,d=n:=%[d.Ö|ye]
   let hn:n<Yh.n:=by show Iff.mp eJ d1
   refine%[40,Yh,_,Yh[n],rb,rb,yi,aQ<|ae hn,hL2,?_|?_]
   .rw[aa,aa,Yi];show aF (by grind)
   .calc dz.mk hil %[30,Y++[Yh[n]],by rw[j7,rH],by simp[Yi],λc hc=>?_,au,by rw[bx (bU au hL)];show hu2|pZ.bH<|(sU _).Ô hL];rcases a7.mp hc with k|k;.show aaB c k
    .rw[av.mp k];have:∀x∈Yh,x∈MK:=by decide
     show this _<|aI _
  .intro ys D z;let(Y,rfl,Yi,aaB,hL2,hu2,pZ):=z;rw[zZ]at Yi;calc%[12,L,ones Y,rb,rb,aP.of hL2,by rw[lq];grind|?_];rw[lq];calc%[7,M,_,_,rb,rb,(pZ _ _<|s3 _ _ xg),by rw[aa];show aF (by grind)|?_];calc%[12,_,aH++[Y],rb,((sm.Z s3).Z pZ).bH hM,by rw[au,j7],by simp[lm]|λl hl'=>?_];rcases a7.mp hl' with k|k;.show F l k
   .rw[av.mp k];show%[Yi|aaB]
 .intro I J z;let(v5,aH,rfl,sm,xg,lm,F):=z;calc%[27,[46],w',rb,rb,aw (fz _ _) w3,by grind,by decide|?_];rw[List.flatten_replicate_singleton];calc%[zsz 1|λT hT=>?_];let k0:aA J (upd J T<|HO.Ã [V.À (S<|List.Ë w' 46)]):=aA.è hT;calc%[60,T,_,r,rb,rb,aM.of au,yf,ax r3,aw r4<|fz _ _,by show 1<=100;decide|λT1 hT1=>?_];rw[<-aaA];generalize upd J T (HO.Ã [V.À (S<|List.Ë w' 46)])=Ha at k0 hT1 ⊢;let k1:aA J (upd Ha T1<|HO.Ã<|Ts<|List.Ë r<|List.Ë w' 46):=k0.Z<|aA.è hT1;calc%[3,M,_,rb|.Â %[aP.of<|k1 _ _ xg|λT2 N=>?_]];let aaC:upd Ha T1 (HO.Ã<|Ts<|List.Ë r<|List.Ë w' 46) T1=ĳ (.Ã<|Ts<|List.Ë r<|List.Ë w' 46):=au;generalize upd Ha T1 (HO.Ã<|Ts<|List.Ë r<|List.Ë w' 46)=Hb at k1 aaC N ⊢;let k2:aA J (upd Hb T2<|HO.Ã<|Ts aH):=k1.bH<|k1.Ô N;let O:upd Hb T2 (HO.Ã<|Ts aH) T1=ĳ (.Ã<|Ts<|List.Ë r<|List.Ë w' 46):=by
   rw[bx (λz=>by rw[<-z,aaC]at N;cases N)];show aaC
  let Z:upd Hb T2 (HO.Ã<|Ts aH) T2=ĳ (.Ã<|Ts aH):=au;generalize upd Hb T2 (HO.Ã<|Ts aH)=H3 at k2 O Z ⊢;calc%[4,_,_,rb,rb,%[yi|yi]|%[4,_,_,rb,rb,(by lia)|%[4,_,_,rb,rb,%[yi|yi]|%[12,_,_,rb,rb,(by lia),zsz 2|λpb hpb=>?_]]]];obtain⟨bi,ebi,bi1⟩:∃bi:Nat,x/6%(r:ļ)=bi/\bi<r:=by let i0:=iP (x/6) (show (r:ļ)≠0 by lia);let i1:=fS (x/6) (show (0:ļ)<(r:ļ) by lia);show%[0,(x/6%(r:ļ)).Ö,ye|by simp_all]
  obtain⟨bj,ebj,bj1⟩:∃bj:Nat,x/24%(w':ļ)=bj/\bj<w':=by let j0:=iP (x/24) (show (w':ļ)≠0 by lia);let j1:=fS (x/24) (show (0:ļ)<(w':ļ) by lia);show%[0,(x/24%(w':ļ)).Ö,ye|by simp_all]
  dsimp only;rw[ebi,ebj];let k4:aA H3 (upd H3 pb<|HO.Ã [V.R bi,V.R bj]):=aA.è hpb;let aaD:upd H3 pb (HO.Ã [V.R bi,V.R bj]) pb=ĳ (.Ã [.R bi,.R bj]):=au;let aaE:=k4 _ _ O;let aaF:=k4 _ _ Z;let k5:aA H _:=(sm.Z k2).Z k4;generalize upd H3 pb (HO.Ã [V.R bi,V.R bj])=H4 at k5 aaD aaE aaF ⊢;let B:vM r w' (List.Ë r<|List.Ë w' 46) aH bi bj:=%[aw (fz _ _) r3,aw r4<|fz _ _,ye,aw w5<|fz _ _,%[yf|λl h=>by rw[tf h];simp],%[lm|λl h=>(F l h).1],λl h c hc=>by rw[tf h]at hc;show .Â<|tf hc,λl h=>(F l h).2,bi1|bj1]
  intro b dx nx ndx nex;let s2:aA H4 (upd (upd H4 dx<|HO.own b) b<|HO.ins G.b' dx []):=λc o e=>by rw[bx (bU e nx),bx (bU e ndx)];show e
  calc%[5,b,dx|%[9,T1,T2,pb|%[29,r,w',_,aH,bi,bj,rb,au,s2 _ _ aaE,s2 _ _ aaF,s2 _ _ aaD,B|λD kp hx5=>%[rb|?_]]]];let s3:aA H4 D:=λc o e=>kp c o (s2 c o e)<|bU e nx;show q b r w' _ aH bi bj D (k5.Z s3) %[%[25,dx,T1,T2,pb,hx5,s3 _ _ aaE,s3 _ _ aaF|s3 _ _ aaD]|B] r4 w5
theorem abd {i:ĵ}:∀{ts:Ĵ aR},(∀t∈ts,t.1=i)->ts.Ä (λa b=>a.1=b.1)
 | [],_=>.Ü
 | t::ts,h=>.Ð (λb q=>by rw[h t aS,h b (aE _ q)]) (abd λb q=>h b<|aE _ q)
def Hh (ts:Ĵ aR):Prop:=ts.Ä (λa b=>a.1=b.1)\/ts.Ä (λa b=>a.1<b.1)
def Hi (ts:Ĵ aR):Prop:=(∃i,(∀t∈ts,t.1=i)/\ts.Ä (λa b=>a.2.1<b.2.1))\/(∃j,(∀t∈ts,t.2.1=j)/\ts.Ä (λa b=>a.1<b.1))
def Hi.one {ts:Ĵ aR}(h:Hi ts):Hh ts:=by
 rcases h with⟨i,h,_⟩|⟨_,_,h⟩;.show .Â<|abd h
 .show .Ó h
def aaG {H:Hp}{M:Ĺ}{ys q:Ĵ V}(B:H M=ĳ (.Ç ys)):∀a xs,H a=ĳ (.Ã xs)->upd H M (.Ç q) a=ĳ (.Ã xs):=λa xs e=>by
 let ne:a≠M:=λz=>by rw[z,B]at e;cases e
 rw[bx ne];show e
def acX {l:Ĵ ĵ}{k low high:ĵ}(B:low<=k)(G:k<=high)(F:high<=l.n)(q:cC (l.Å k)=(l.Å k).Î low)(D:cN (l.Î k)=(l.Î k).Å (high-k)):cC (l.Å k)++cN (l.Î k)=(l.Î low).Å (high-low)/\(cC<|l.Å k).n=k-low:=by
 constructor;.rw[q,D,List.drop_take,show high-low=(k-low)+(high-k) by grind,List.take_add,List.drop_drop,show low+(k-low)=k from ga B]
 .rw[q,cn,a8];show gg ye
abbrev wA:=ĵ×ĵ×ĵ×Ĵ ĵ
def cH (R:AA)(i j wy:ĵ):wA:=(if wy=0 then i else i-(cC<|(lineOf R i j (wy:ļ)).Å i).n,if wy=0 then j-(cC<|(lineOf R i j (wy:ļ)).Å j).n else j,wy,cC ((lineOf R i j (wy:ļ)).Å<|placeOf i j (wy:ļ))++cN ((lineOf R i j (wy:ļ)).Î<|placeOf i j (wy:ļ)))
def rwo (wy i x:ĵ):ĵ:=if wy=0 then i else x
def clo (wy j x:ĵ):ĵ:=if wy=0 then x else j
def Yj {r w:ĵ}{R:AA}(B:Blk r w R){i j wy x:ĵ}(hi:i<r)(hx:x<(lineOf R i j (wy:ļ)).n):cell R (rwo wy i x) (clo wy j x)=(lineOf R i j (wy:ļ))[x]:=by
 unfold rwo clo;by_cases h:wy=0
 .subst h;let q:x<(R.Í i []).n:=hx;let h1:(R.Í i []).Í x 0=(R.Í i [])[x]:=by rw[ai (l:=R.Í i []),ae q];rfl
  show h1
 .rw[ŀ h,ŀ h];let e:lineOf R i j (wy:ļ)=dI R j:=ŀ ye;let q:x<(dI R j).n:=by rw[<-e];show hx
  have:(lineOf R i j (wy:ļ))[x]=(dI R j)[x]:=by simp only[e]
  rw[this];unfold dI at q ⊢;rw[aa]at q;rw[uv];unfold cell;rw[ai (l:=R),ae q];rfl
structure jf {α:Type}(enc:α->Ĵ V)(H:Hp)(as:Ĵ Ĺ)(xs:Ĵ α):Prop where
 len:as.n=xs.n
 at_:∀(i:ĵ) (a:Ĺ) (x:α),as[i]?=ĳ a->xs[i]?=ĳ x->H a=ĳ (.Ã<|enc x)
def jf.fG {α:Type}{enc:α->Ĵ V}{H H':Hp}{as:Ĵ Ĺ}{xs:Ĵ α}(k:∀a ys,H a=ĳ (.Ã ys)->H' a=ĳ (.Ã ys))(h:jf enc H as xs):jf enc H' as xs:=%[h.Ċ|λi a x h1 q=>k _ _<|h.č i a x h1 q]
def jf.mv {α:Type}{enc:α->Ĵ V}{H H':Hp}{as:Ĵ Ĺ}{xs:Ĵ α}(k:aA H H')(h:jf enc H as xs):jf enc H' as xs:=h.fG λa ys e=>k a _ e
def jf.nil {α:Type}{enc:α->Ĵ V}{H:Hp}:jf enc H [] []:=%[rb|λi a x h=>by simp at h]
def jf.one {α:Type}{enc:α->Ĵ V}{H:Hp}{a:Ĺ}{x:α}(h:H a=ĳ (.Ã<|enc x)):jf enc H [a] [x]:=%[rb|λi b y h1 q=>by
 match i,h1,q with
 | 0,h1,q=>have D:a=b:=bd h1;rw[<-D,<-(bd q)];show h
 | n+1,h1,q=>show ń h1 yf]
def jf.app {α:Type}{enc:α->Ĵ V}{H:Hp}{as bs:Ĵ Ĺ}{xs ys:Ĵ α}(h:jf enc H as xs)(g:jf enc H bs ys):jf enc H (as++bs) (xs++ys):=by
 calc%[by rw[ay,ay,h.len,g.len]|λi a x h1 q=>?_];by_cases c:i<as.n
 .rw[fc c]at h1;rw[fc (by rw[<-h.len];show c)]at q;show h.č i a x h1 q
 .rw[dC (kH c)]at h1;rw[dC (by rw[<-h.len];lia),<-h.len]at q;show g.č _ a x h1 q
def jf.get {α:Type}{enc:α->Ĵ V}{H:Hp}{as:Ĵ Ĺ}{xs:Ĵ α}(h:jf enc H as xs){i:ĵ}(hi:i<as.n):∃x,xs[i]?=ĳ x/\H as[i]=ĳ (.Ã<|enc x):=by
 let hx:i<xs.n:=by rw[<-h.len];show hi
 show%[0,xs[i],ae hx|h.č i _ _ (ae hi)<|ae hx]
abbrev QL:=jf (λq:wA=>[V.R q.1,V.R q.2.1,V.R q.2.2.1,V.À (S q.2.2.2)])
abbrev AL3:=jf (λq:ĵ×ĵ×ĵ=>[V.R q.1,V.R q.2.1,V.R q.2.2])
def gw (ts:Ĵ aR):ĵ:=if ts.head?.Q (·.1)=ts.getLast?.Q (·.1) then 0 else 1
def rQ (ts:Ĵ aR):Ĵ (ĵ×ĵ×ĵ):=(ts.Å 1).Q (λt=>(t.1,t.2.1,gw ts))++ts.Q λt=>(t.1,t.2.1,1-gw ts)
def qd (R:AA)(a:ĵ×ĵ×ĵ):wA:=cH R a.1 a.2.1 a.2.2
def Hj (q:wA):œ:=ľ (1<q.2.2.2.n)
def jD (aj:AA)(ts:Ĵ aR):Ĵ wA:=((rQ ts).Q<|qd<|bf aj ts).ą Hj
def ae8 (ts:Ĵ aR):gw ts<=1:=by unfold gw;split <;> decide
def Ow {r w:ĵ}{R:AA}(B:Blk r w R)(r9:r<=9)(w9:w<=9){i j wy:ĵ}(hi:i<r):(cH R i j wy).2.2.2.n<=20:=by
 let q:=jA B hi (j:=j) (way:=(wy:ļ));let G:(lineOf R i j (wy:ļ)).n<=9:=by rw[q];split <;> assumption
 show (cC _++cN _).n<=20;let D:=kj<|(lineOf R i j (wy:ļ)).Å<|placeOf i j (wy:ļ);let F:=rJ<|(lineOf R i j (wy:ļ)).Î<|placeOf i j (wy:ļ);rw[a8]at D;rw[cn]at F;rw[ay];grind
def Yk {ts:Ĵ aR}(h:0<ts.n):gw ts=if ts[0].1=ts[ts.n-1].1 then 0 else 1:=by unfold gw;rw[t7,xB,ae h,ae ye];simp only[lI,Option.some.injEq]
def jE {H:Hp}{as:Ĵ Ĺ}{ts:Ĵ aR}(L:cY H as ts){i:ĵ}(hi:i<ts.n):∃(h:i<as.n),H as[i]=ĳ (.Ã [.R ts[i].1,.R ts[i].2.1,.À (S [ts[i].2.2])]):=by
 let h:i<as.n:=by rw[L.len];show hi
 let(t,e,q):=L.get h;rw[ae hi]at e;rw[<-(bd e)]at q;show%[h|q]
def acY {as:Ĵ Ĺ}(h:0<as.n):ju (as.Q V.C) (-1)=ĳ (.C as[as.n-1]):=by
 let e:as.Q V.C=(as.Å<|as.n-1).Q V.C++[V.C as[as.n-1]]:=by rw[<-qV,<-bg];congr 1;have:=dm (as.n-1) as;rw[iq ye,show as.n-1+1=as.n by lia,xF]at this;show this.Ù
 rw[e];show YG _ _
def Yl {ts:Ĵ aR}(q:Hh ts)(F:0<ts.n):((ts.Q λt=>ľ<|V.R (t.1:ļ)=V.R (ts[0].1:ļ)).ė id)=ľ (gw ts=0):=by
 let hd:∀a b:ĵ,ľ (V.R (a:ļ)=V.R (b:ļ))=ľ (a=b):=λa b=>by
  by_cases h:a=b;.subst h;simp
  .have:¬V.R (a:ļ)=V.R (b:ļ):=λz=>h (by injection z with z;show nw z)
   simp[h,this]
 let B:(∀t∈ts,t.1=ts[0].1)↔ts[0].1=ts[ts.n-1].1:=by
  constructor
  .intro h;show(h _<|aI _).Ù
  .intro h t D;let(i,hi,rfl):=cE.mp D;rcases q with q|q
   .rw[gm]at q;rcases oj i with z|z;.subst z;rfl
    .show(q 0 i F hi z).Ù
   .rw[gm]at q;rcases oj (ts.n-1) with z|z
    .have:i=0:=by lia
     subst this;rfl
    .have:=q 0 (ts.n-1) F ye z;simp_all
 rw[Yk F,iN,fE,decide_eq_true_iff];constructor
 .intro h;rw[if_pos];calc B.mp λt D=>?_;have:=h _<|ar.Û %[0,t,D|rb];rw[hd]at this;show fI this
 .intro h x hx;let(t,D,rfl):=ar.mp hx;let G:ts[0].1=ts[ts.n-1].1:=by
   by_cases z:ts[0].1=ts[ts.n-1].1;.show z
   .rw[ŀ z]at h;cases h
  rw[hd];show am<|B.Û G t D
def acZ:Sp:=λvs H Q _=>∃(t:Addr) (as:Ĵ Ĺ) (ts:Ĵ aR),vs=[.C t]/\H t=ĳ (.Ã<|as.Q V.C)/\cY H as ts/\0<ts.n/\ts.n<=7/\Hh ts/\∀H',aA H H'->Q (.bl<|ľ<|gw ts=0) H'
def Bc (Y:GG K mg):DF P w K mg base qX 1 acZ:=by
 calc Y.ae'.cQ Nx ?_;intro f bw A outer s H vs Q E hr h;let(t,as,ts,rfl,M,L,Z,h7,hl,q):=h;let G:=L.Ċ;calc%[0,_,(aD<|aY<|aO (iY rb) yk Y.j' iJ<|ak (eX (ns:=["row","column","sign"]) rb (fu.of ["laying"] [] ym) (fJ aG) (λ_ _ _ _ _=>(mU K rb (show (["row","column","sign","laying"]:Ĵ Ŋ).Ý by decide +kernel) rb rb rb yk yk yk)) (λ_ _ _ _ _=>cF) λ_ _ _ _ _=>(gC kE aG (bB (iV K) (bB (iV K) bG aC λ_ _=>rfl) aC λ_ _=>rfl)<|bR _)) aq)|?_];refine%[2,t,rb,%[_|aM.of M]|λN O=>kO (K:=K) (KT:=K) (a:=t) (f:=eF [] 0) (tt:=gb) (xs:=as.Q V.C) (λn ys D=>ys=((ts.Å n).Q λt=>ľ<|V.R (t.1:ļ)=V.R (ts[0].1:ļ)).Q V.bl/\D N=ĳ (.Ç ys)/\aA H D)
  %[rb,au|aA.è O] (λn ys D _ h=>aM.of<|h.2.2 _ _ M) ?_ ?_]
 .intro n x ys D hx z;let(rfl,J,B):=z;let(hn,hx):=rfg hx;let F:n<ts.n:=ye
  let(_,en):=jE (L.mv B) F;let(g0,e0):=jE (L.mv B) Z;calc sJ hx.Ù (aM.of en) ?_;calc%[6,t,_,_,.C as[0],rb,rb,aM.of<|B _ _ M,aQ (j:=0) (by simp[g0])|%[35,as[0],_,_,_,rb,rb,aM.of e0,aQ (j:=0) rb,rb,J,?_|dz.mk (by rw[aa];show hn) %[?_,au|B.bH O]]];.rw[aa,aa,a8];show aF ye
  .rw[show ts.Å (n+1)=ts.Å n++(ĳ ts[n]).I by rw[bu,ae F],bg,bg];rfl
 .intro ys D z;let(rfl,J,B):=z;calc%[1,N,_,rb,aP.of J|?_];rw[aa,G,b9,Yl hl Z];show q D B
def Ym {r w:ĵ}{R:AA}{i j wy:ĵ}(B:wy<=1):El i j (wy:ļ) (lineOf R i j (wy:ļ))=[.R (cH R i j wy).1,.R (cH R i j wy).2.1,.À (S (cH R i j wy).2.2.2)]:=by
 unfold El cH placeOf;by_cases z:wy=0
 .subst z;let q:=kj<|(lineOf R i j ((0:ĵ):ļ)).Å j;show [V.R (i:ļ),V.R ((j:ļ)-_),_]=[V.R (i:ļ),V.R ((j-_:ĵ):ļ),_]
  rw[Int.ofNat_sub (by grind)];rfl
 .have:wy=1:=by lia
  subst this;let q:=kj<|(lineOf R i j ((1:ĵ):ļ)).Å i;show [V.R ((i:ļ)-_),V.R (j:ļ),_]=[V.R ((i-_:ĵ):ļ),V.R (j:ļ),_]
  rw[Int.ofNat_sub (by grind)];rfl
def aaH (C:Ĺ):Sp:=λvs H Q _=>∃(b t:Addr) (as:Ĵ Ĺ) (ts:Ĵ aR) (r w:Nat) (aj aH:AA) (bi bj:Nat),vs=[.C b,.C t]/\dj C H b r w aj aH bi bj/\H t=ĳ (.Ã<|as.Q V.C)/\cY H as ts/\(∀t∈ts,inB r w t)/\0<ts.n/\ts.n<=7/\Hh ts/\
 ∀(T:Ĺ) (bs:Ĵ Ĺ) (H':Hp),aA H H'->H' T=ĳ (.Ã<|bs.Q V.C)->QL H' bs (jD aj ts)->Q (.C T) H'
def J_ (G:GG K mg):DF P w K mg base yx 10 (aaH G.b'):=by
 calc G.ah'.cQ jz ?_;(intro f bw A outer s H vs Q E hr h);let(b,t,as,ts,r,w,aj,aH,bi,bj,rfl,BA,ht,hL,cJ,h0,h7,hl,q):=h;let(dx,_,_,_,ex,_):=id BA.ex;let hal:=hL.Ċ;let iZ:=ae8 ts;calc%[0,_,(aB (aZ (i:=2) jz.nd rb (Or.Â rb)<|gZ aG G.a'.cl G.k'.m (Cw G) hr.Ø G.k'.b .Ü f9<|ak aW aq)<|aB (rF<|aZ (i:=3) jz.nd rb (Or.Ó rb)<|oH (dw<|aV (Bc G) hr.Ø rb<|ak aW aq) aC aC)<|aB (aZ (i:=4) jz.nd rb (Or.Â rb)<|dN<|ak (cI<|ak (bB bY (bB bY aW aC λ_ _=>rfl) aC λ_ _=>rfl)<|ak (bB bY (bB bY aW aC λ_ _=>rfl) aC λ_ _=>rfl)<|ak bG aq) aq)<|aB (dD<|dH c8 np nt rC bV<|ak (eX (ns:=["row","column","sign"]) rb (fu.of ["board","laying","after","way","asked",".5",".6","words","along","run"] [5,6] ym) (fJ aW) (λ_ _ _ _ _=>(mU K rb (show (["row","column","sign","board","laying","after","way","asked",".5",".6","words","along","run"]:Ĵ Ŋ).Ý by decide +kernel) rb rb rb yk yk yk)) (λ_ _ _ _ _=>cF) λ_ _ _ _ _=>(cI<|ak aG<|ak aW<|ak (aN fD aC cM) aq)) aq)<|aB (aZ (i:=7) jz.nd rb (Or.Â rb)<|dN aq)<|aB (cW b4 rb (dh bV) (jV rb<|bO (bD (i:=5) jz.nd rb<|Or.Â rb)<|bO (bD (i:=6) jz.nd rb<|Or.Â rb)<|bO (bD (i:=8) jz.nd rb<|Or.Â rb) g_)<|aB (aZ (i:=9) jz.nd rb (Or.Â rb)<|gZ bh G.a'.cl G.p'.m (Xq G) hr.Ø G.p'.b .Ü f9<|ak cB<|ak cM<|ak jO aq)<|aD<|cg (bN SJ (aO cP yk G.c' bE<|ak (bB bY nQ aC λ_ _=>rfl) aq) aC<|bR _) (aD<|dD<|dH c8 fh fk gQ gO<|ak (cI<|ak (bB bY nQ aC λ_ _=>rfl)<|ak (bB bY nQ aC λ_ _=>rfl)<|ak jO<|ak (bB bY nQ aC λ_ _=>rfl) aq) aq) bI)<|aD<|aY<|c7 dU yk G.e' di<|ak gO aq)|?_];calc%[8,b,dx,_,rb,ex,rb|%[9,b,t,as|%[39,ts,r,w,aj,aH,bi,bj,rb,BA,ht,hL,cJ|λx1 H1 s1 B1=>?_]]];let hb':=gq BA.ok.br cJ;generalize hR:bf aj ts=R at B1 hb';refine%[0,λI H'=>aA H1 H'/\I=[ĳ (.C b),ĳ (.C t),ĳ (.C x1),ĳ (.R<|gw ts),ĺ,ĺ,ĺ,ĺ,ĺ,ĺ],?_|?_]
 .calc%[40,t,as,ts,rb,s1 _ _ ht,hL.mv s1,h0,h7,hl|λH2 s2=>(aU _ rb ?_)];by_cases z:gw ts=0
  .calc jT9 z %[s2|?_];rw[z];rfl
  .calc jF9 z %[s2|?_];rw[show gw ts=1 by lia];rfl
 rintro I H2 ⟨s2,rfl⟩;let s12:=s1.Z s2;let hL2:=hL.mv s12;let zm:=s12 _ _ ht;let(g0,e0):=jE hL2 h0;calc%[6,t,_,_,.C as[0],rb,rb,aM.of zm,aQ (j:=0) (by simp[g0])|%[6,as[0],_,_,_,rb,rb,aM.of e0,aQ (j:=0) rb|%[6,t,_,_,.C as[0],rb,rb,aM.of zm,aQ (j:=0) (by simp[g0])|%[18,as[0],_,_,_,rb,rb,aM.of e0,aQ (j:=1) rb,zsz 3|λB ht1=>%[zsz 1|λF M=>?_]]]]];let k3:aA H2 (upd H2 B<|HO.Ã [.R ts[0].1,.R ts[0].2.1,.R (gw ts)]):=aA.è ht1;let k4:=k3.bH (o:=HO.Ç [.C B])<|k3.Ô M;let hA0':=k3.Ô M;let n1A:B≠F:=λz=>by rw[<-z,au]at M;cases M
 let e1:upd (upd H2 B<|HO.Ã [.R ts[0].1,.R ts[0].2.1,.R (gw ts)]) F (HO.Ç [.C B]) B=ĳ (.Ã [.R ts[0].1,.R ts[0].2.1,.R (gw ts)]):=by rw[bx n1A,au]
 let eA:upd (upd H2 B<|HO.Ã [.R ts[0].1,.R ts[0].2.1,.R (gw ts)]) F (HO.Ç [.C B]) F=ĳ (.Ç [.C B]):=au;generalize upd (upd H2 B<|HO.Ã [.R ts[0].1,.R ts[0].2.1,.R (gw ts)]) F (HO.Ç [.C B])=H4 at k4 e1 eA ⊢;let Gj:=k4 _ _ zm;let e1l:(1:ļ)-(gw ts:ļ)=((1-gw ts:ĵ):ļ):=by grind
 refine%[23,.Â %[10,rb,_|aP.of eA],t,rb,%[_|aM.of Gj]|λN hN=>kO (K:=K) (KT:=K) (a:=t) (f:=eF [5,6] 0) (tt:=gb) (xs:=as.Q V.C) (λn ys J=>∃D:Ĵ Ĺ,ys=D.Q V.C/\D.n=n/\J N=ĳ (.Ç ys)/\aA H4 J/\AL3 J D ((ts.Å n).Q λt=>(t.1,t.2.1,1-gw ts)))
  %[15,[],rb,rb,au,aA.è hN|jf.Ü] (λn ys J _ h=>by let(_,_,_,_,L,_):=h;show aM.of<|L _ _ Gj) ?_ ?_]
 .intro n x ys J hx z;let(D,rfl,hcl,Ox,zE,Y):=z;let(hn,hx):=rfg hx;let hnt:n<ts.n:=ye;let(_,en):=jE ((hL2.mv k4).mv zE) hnt;calc sJ hx.Ù (aM.of en) ?_;calc%[4,_,_,rb,rb,zsz 3|λg hg=>?_];let kg:aA J (upd J g<|HO.Ã [.R ts[n].1,.R ts[n].2.1,.R (1-(gw ts:ļ))]):=aA.è hg;let hNg:=kg _ _ Ox;calc%[hNg,by rw[aa];show aF ye|dz.mk (by rw[aa];show hn) %[15,D++[g],yf,by simp[hcl],by rw[au],(zE.Z kg).bH hN|?_]];rw[show ts.Å (n+1)=ts.Å n++[ts[n]] by rw[bu,ae hnt];rfl,bg];calc((Y.mv kg).app<|jf.one (x:=(ts[n].1,ts[n].2.1,1-gw ts)) ?_).fG<|aaG hNg;rw[au,e1l]
 intro ys J z;let(D,rfl,hcl,Ox,zE,Y):=z;rw[aa,hal,b9]at Y;let eA5:=zE _ _ eA;calc%[18,F,N,_,_,rb,rb,eA5,Ox,by rw[aa,hcl];show ax<|aF (by simp;lia)|?_];let aaI:AL3 (upd J F<|HO.Ç<|[V.C B]++D.Q V.C) ([B]++D) (rQ ts):=by
  let hone:AL3 J [B] ((ts.Å 1).Q λt=>(t.1,t.2.1,gw ts)):=by rw[List.take_one,t7,ae h0];show jf.one (x:=(ts[0].1,ts[0].2.1,gw ts))<|zE _ _ e1
  show(hone.app Y).fG<|aaG eA5
 let O:aA H1 (upd J F<|HO.Ç<|[V.C B]++D.Q V.C):=λa o e=>by have:=(k4.Z zE) _ _<|s2 _ _ e;rw[bx (λz=>by rw[z]at e;have:=s2 _ _ e;rw[hA0']at this;cases this)];show this
 let Z:upd J F (HO.Ç<|[V.C B]++D.Q V.C) F=ĳ (.Ç<|([B]++D).Q V.C):=by rw[au];simp
 generalize upd J F (HO.Ç<|[V.C B]++D.Q V.C)=H6 at aaI O Z ⊢;let I_:=aaI.Ċ;let hak:(rQ ts).n=1+ts.n:=by unfold rQ;rw[ay,aa,aa,a8];lia
 let ahj:∀n (a:ĵ×ĵ×ĵ),(rQ ts)[n]?=ĳ a->a.1<r/\a.2.1<w/\a.2.2<=1:=λn a ha=>by
  rcases a7.mp (a5 ha) with z|z
  .let(u,hu,rfl):=ar.mp z;have:=cJ u<|eL hu;show%[this.1,this.2.1|iZ]
  .let(u,hu,rfl):=ar.mp z;have:=cJ u hu;show%[this.1,this.2.1|by show nS _ _]
 calc%[zsz 0|λW hW=>?_];let nWA:F≠W:=λz=>by rw[<-z,Z]at hW;cases hW
 let kW:aA H6 (upd H6 W<|HO.Ç []):=aA.è hW;refine%[2,F,rb,%[_|aP.of<|kW _ _ Z]|h_ (K:=K) (a:=F) (xs:=([B]++D).Q V.C) (λn I H'=>∃(v6 v7 v8 v9:ĸ V) (bs:Ĵ Ĺ),I=[ĳ (.C b),ĳ (.C t),ĳ (.C x1),ĳ (.R<|gw ts),ĳ (.C F),v6,v7,ĳ (.C W),v8,v9]/\aA H6 H'/\H' W=ĳ (.Ç<|bs.Q V.C)/\bs.n<=n/\QL H' bs ((((rQ ts).Å n).Q<|qd R).ą Hj))
  %[32,ĺ,ĺ,ĺ,ĺ,[],rb,kW,au,ah _|jf.Ü] (λn I H' _ h=>by let(_,_,_,_,_,_,L,_):=h;show aP.of<|L _ _ Z) ?_ ?_]
 .intro n x I H' hx z;let(v6,v7,v8,v9,bs,rfl,L,hWb,gG,hQ):=z;let hn:n<([B]++D).n:=by have:=(ap.mp hx).1;simpa using this
  rw[ba,ae hn]at hx;let hx:V.C ([B]++D)[n]=x:=bd hx;subst hx;let(a,ea,hat):=(aaI.mv L).get hn;let(c1,c2,c3):=ahj n a ea;let hn9:n<9:=by rw[I_,hak]at hn;(calc bq (by assumption) ?_;lia)
  calc%[1,([B]++D)[n],_,rb,aM.of hat|%[16,rb,_,_,rb|%[5,_,_|%[17,rb,_,_,rb,rb|?_]]]];let B2:=B1.mv<|O.Z L;let(N6,_,_,_,XC,_):=id B2.ex;calc%[8,x1,N6,_,rb,XC,rb|%[9,x1,r,w|%[39,R,aH,bi,bj,a.1,a.2.1,(a.2.2:ļ),rb,B2,c1,c2,ye|λt2 H7 s7 _ ht7=>?_]]];rw[Ym (r:=r) (w:=w) c3]at ht7;let bW:=Ow hb' BA.ok.r9 BA.ok.w9 c1 (j:=a.2.1) (wy:=a.2.2);let Od:=aM.of (K:=K) ht7;let aaJ:=s7 _ _ hWb;calc%[6,t2,_,_,_,rb,rb,Od,aQ (j:=2) rb|%[33,_,rb,ax<|aF<|aw bW<|fz _ _,_,_,rb,rb|aU _ rb ?_]];let abe:(rQ ts).Å (n+1)=(rQ ts).Å n++[a]:=by rw[bu,ea];rfl
  by_cases hc:Hj (qd R a)=ķ
  .have:ľ ((2:ļ)<=((cH R a.1 a.2.1 a.2.2).2.2.2.n:ļ))=ķ:=am (by have:=fI hc;show ie sT this);rw[this];calc bZ %[10,.Â %[10,rb,_|aP.of aaJ],t2|%[7,_,_,_,rb,rb,Od,aQ (j:=0) rb|%[6,t2,_,_,_,rb,rb,Od,aQ (j:=1) rb|%[18,t2,_,_,_,rb,rb,Od,aQ (j:=2) rb,zsz 4|λg hg=>?_]]]];let kg:aA H7 (upd H7 g<|HO.Ã [.R (cH R a.1 a.2.1 a.2.2).1,.R (cH R a.1 a.2.1 a.2.2).2.1,.R a.2.2,.À (S (cH R a.1 a.2.1 a.2.2).2.2.2)]):=aA.è hg;let hWg:=kg _ _ aaJ;calc%[7,W,_,_,rb,rb,hWg,by show aF (by simp[cy,c6]at *;lia)|?_];calc%[32,_,_,_,_,bs++[g],rb,((L.Z s7).Z kg).bH hW,by rw[au];simp,by simp;show gG|?_];rw[abe,bg,fT];let e2:([a].Q<|qd R).ą Hj=[qd R a]:=by simp[hc]
   rw[e2];show(((hQ.mv s7).mv kg).app<|jf.one (x:=qd R a) au).fG<|aaG hWg
  .have:ľ ((2:ļ)<=((cH R a.1 a.2.1 a.2.2).2.2.2.n:ļ))=Ļ:=al λz=>hc<|am (by show Iff.mp eJ z);rw[this];calc bK %[32,_,_,_,_,bs,rb,L.Z s7,aaJ,kr gG|?_];rw[abe,bg,fT];let e2:([a].Q<|qd R).ą Hj=[]:=by simp[hc]
   rw[e2,dS];show hQ.mv s7
 .intro I H' z;let(v6,v7,v8,v9,bs,rfl,L,hWb,gG,hQ):=z;rw[aa,I_,b9]at hQ;calc%[3,W,_,rb|.Â %[aP.of hWb|λT hT=>?_]];let k:aA H' (upd H' T<|HO.Ã<|bs.Q V.C):=aA.è hT;calc q T bs _ (((s1.Z O).Z L).Z k) au ?_;unfold jD;rw[hR];show hQ.mv k
structure Oz (C:Ĺ)(H:Hp)(b t:Ĺ)(as:Ĵ Ĺ)(ts:Ĵ aR)(r w:ĵ)(aj aH:AA)(bi bj:ĵ):Prop where
 B:dj C H b r w aj aH bi bj
 tp:H t=ĳ (.Ã<|as.Q V.C)
 L:cY H as ts
 pos:0<ts.n
 le:ts.n<=7
 qm:∀t∈ts,inB r w t
def Oz.mv {C:Ĺ}{H H':Hp}{b t:Ĺ}{as:Ĵ Ĺ}{ts:Ĵ aR}{r w:ĵ}{aj aH:AA}{bi bj:ĵ}(h:Oz C H b t as ts r w aj aH bi bj)(s:aA H H'):Oz C H' b t as ts r w aj aH bi bj:=%[h.B.mv s,s _ _ h.tp,h.L.mv s,h.pos,h.le|h.qm]
def U0 (C:Ĺ)(G:ĵ->ĵ->Ĵ (Ĵ ĵ)->ĵ->ĵ->Ĵ aR->Prop)(u:V):Sp:=λvs H Q _=>∃(b t:Addr) (as:Ĵ Ĺ) (ts:Ĵ aR) (r w:Nat) (aj aH:AA) (bi bj:Nat),vs=[.C b,.C t]/\Oz C H b t as ts r w aj aH bi bj/\G r w aj bi bj ts/\∀H',aA H H'->Q u H'
def agg (C:Ĺ):Sp:=λvs H Q _=>∃(b a:Addr) (t:aR) (r w:Nat) (aj aH:AA) (bi bj:Nat),vs=[.C b,.C a]/\dj C H b r w aj aH bi bj/\H a=ĳ (.Ã [.R t.1,.R t.2.1,.À (S [t.2.2])])/\inB r w t/\Q (.bl ķ) H
def OD (G:GG K mg):DF P w K mg base qU 3 (agg G.b'):=by calc G.ab'.cQ Nv λf bw A outer s H vs Q E F h=>?_;let(b,a,t,r,w,aj,aH,bi,bj,rfl,J,h,(N,Z,Y),q):=h;let((dx,pr,pm,pb,O,D,L,M),B):=J;calc%[0,_,(aB (cg (QW.qt<|qL (eV<|dw<|aO iI yk G.n' fF<|ak aW<|ak (oR (v:=.ty "tuple") yk G.e' di rb) aq)<|nC<|bN Fb (aO cu yk G.c' bE<|ak aW aq) aC<|bR _) (aD<|aY fL) bI)<|aD<|aY<|nD (aV (rO G) F.Ø rb<|ak (dF aG rb)<|ak (bB bY aW aC λ_ _=>rfl)<|ak (bB bY aW aC λ_ _=>rfl) aq)<|mj<|aV (Gv G) F.Ø rb<|ak (bB bY aW aC λ_ _=>rfl) aq)|?_];calc%[25,_,_,_,ķ,rb,.Ã h,ym|bK %[4,a,_,rb,.Ó<|aM.of h,rb|KQ rb ?_]];calc%[13,b,G.b',dx,_,_,rb,O,G.a'.cl,G.a'.nr,rb|%[6,a,_,_,_,rb,rb,aM.of h,aQ (j:=0) rb|%[6,a,_,_,_,rb,rb,aM.of h,aQ (j:=1) rb|%[29,pr,aj,r,w,_,_,rb,aM.of D,B.br,B.r1,B.r9,B.w9|aU _ rb ?_]]]];calc jT9 (show (0:ļ)<=t.1/\(t.1:ļ)<r/\(0:ļ)<=t.2.1/\(t.2.1:ļ)<w from %[cz _,ie eJ N,cz _|ie eJ Z]) %[6,a,_,_,_,rb,rb,aM.of h,aQ (j:=2) rb|.Ó %[2,_,rb,by show 1<=1000;decide|?_]];rw[show Gu [t.2.2]=ķ from Y];show q
def OJ (G:GG K mg):DF P w K mg base qW 4 (U0 G.b' (λ_ _ _ _ _ ts=>(ts.Q rk).Ä (·<·))<|.bl ķ):=by
 calc G.ac'.cQ uI ?_;(intro f bw A outer s H vs Q E hr h);let(b,p,as,ts,r,w,aj,aH,bi,bj,rfl,O,hrk,q):=h;let w9:=O.B.ok.w9;let bW:=O.L.Ċ;let h1:=O.pos;let h7:=O.le;let hp:=O.tp;calc%[0,_,(aB (cg (QW.qt<|qL (eV<|dw<|aO iI yk G.n' fF<|ak aW<|ak (oR (v:=.ty "tuple") yk G.e' di rb) aq)<|nC<|eV<|oK kI kI aC (aO cu yk G.c' bE<|ak aW aq)<|KY yk G.F') (aD<|aY fL) bI)<|aB (cg (eV<|dw<|aO (iY rb) yk G.j' iJ<|ak (fU rb (fQ.of uI.nd ym) (fJ aW) (λ_ _ _ _ _=>cF) λ_ _ _ _ _=>(aV (OD G) hr.Ø rb<|ak aW<|ak aG aq)) aq) (aD<|aY fL) bI)<|aB (aZ (i:=2) uI.nd rb (Or.Â rb)<|aV (qZ G) hr.Ø rb<|ak aW aq)<|aD<|aY<|aO (iY rb) yk G.j' iJ<|ak (eX (ns:=["cell","later"]) rb (fu.of ["board","thing","cells"] [] ym) (abI yk G.C'<|ak bh<|ak (iW Bw bh (iQ aC) mR) aq) (λ_ _ _ _ _=>(B_ K rb (show (["cell","later","board","thing","cells"]:Ĵ Ŋ).Ý by decide +kernel) rb rb yk yk)) (λ_ _ _ _ _=>cF) λ_ _ _ _ _=>(gC (aed hr.adA) aG aW<|bR _)) aq)|?_];calc%[25,_,_,_,ķ,rb,.Ã hp,ym|bK %[22,p,_,rb,.Ó<|aM.of hp,_,_,rb,rb|aU ķ (by simp;lia)<|bZ %[1,_,_,rb,rb|aU ķ (by simp;lia)<|bK ?_]]];refine%[2,p,rb,%[_|aM.of hp]|λL hL=>ud (xs:=as.Q V.C) (λi ys H2=>ys=(List.Ë i ķ).Q V.bl/\H2 L=ĳ (.Ç ys)/\aA H H2) %[rb,au|aA.è hL] (λi ys H2 _ h=>aM.of<|h.2.2 _ _ hp) ?_ ?_]
 .intro i x ys H2 hx z;let(rfl,Z,J):=z;let hil:i<(as.Q V.C).n:=(ap.mp hx).1;let hi:i<as.n:=by simpa using hil
  let hit:i<ts.n:=by simp_all
  rw[ba,ae hi]at hx;let hx:V.C as[i]=x:=bd hx;subst hx;let(_,en):=jE (O.L.mv J) hit;show%[9,b,as[i],ts[i]|%[29,r,w,aj,aH,bi,bj,rb,O.B.mv J,en,O.qm _<|aI hit,Z,by rw[aa,dL];show aF ye|dz.mk hil %[oO i,au|J.bH hL]]]
 .intro ys H2 z;let(rfl,Z,J):=z;calc%[1,L,_,rb,aP.of Z|?_];rw[qI];calc%[7,p,as,ts,rb,.Ó<|aM.of<|J _ _ hp,O.L.mv J,ye|λLc B H3 s3 nLc hLc hcs=>?_];let Oo:=J.Z s3;calc%[38,_,rb,Lc,_,rb,aP.of hLc|λM hM=>?_];let hcl:=hcs.Ċ;rw[aa]at hcl;let eM:lH (B.Q V.C) (ĳ 1) ĺ=(B.Î 1).Q V.C:=by
   unfold lH;rw[show (ĳ (1:ļ))=ĳ (((1:ĵ):ļ)) from rb,HT.wF,HT.YD,aa,sq (show 1<=B.n by lia),cw (by rw[cn,aa];lia),List.map_drop]
  rw[eM];let sM:aA H3 (upd H3 M<|HO.Ç<|(B.Î 1).Q V.C):=aA.è hM;let RT:upd H3 M (HO.Ç<|(B.Î 1).Q V.C) M=ĳ (.Ç<|(B.Î 1).Q V.C):=au;let F:=sM _ _ hLc;let Y:=hcs.mv sM;let s04:=Oo.Z sM;generalize upd H3 M (HO.Ç<|(B.Î 1).Q V.C)=H4 at sM RT F Y s04 ⊢;refine%[4,Lc,M,rb,%[_|aP.of F],%[_|aP.of RT]|λN hN=>aec (f:=eF [] 0) (K:=K) (KT:=K) (a:=Lc) (b:=M) (tt:=gb) (xs:=B.Q V.C) (ys:=(B.Î 1).Q V.C) (by rw[aa,aa,cn];lia)
   (λn zs D=>zs=(List.Ë n ķ).Q V.bl/\D N=ĳ (.Ç zs)/\aA H4 D)
   %[rb,au|aA.è hN] (λn zs D _ h=>%[aP.of<|h.2.2 _ _ F|aP.of<|h.2.2 _ _ RT]) ?_ ?_]
  .intro n x y zs D T hx hy z hT;let(rfl,Ox,zE):=z;let kT:aA D (upd D T<|HO.Ã [x,y]):=aA.è hT;rw[ba]at hx hy;let(a1,ha1,rfl):=io.mp hx;let(a2,ha2,rfl):=io.mp hy;rw[f6]at ha2;let(n1,ea1):=ap.mp ha1;let(n2,ea2):=ap.mp ha2;let(p1,g1,e1):=Y.get n1;let(p2,g2,e2):=Y.get n2;rw[ea1]at e1;rw[ea2]at e2;let m1:n<ts.n:=ye;let m2:1+n<ts.n:=by calc bq (by assumption) ?_;lia
   rw[ba,ae m1]at g1;rw[ba,ae m2]at g2;let g1:bM ts[n]=p1:=bd g1;let g2:bM ts[1+n]=p2:=bd g2;subst g1 g2;let b1:=(O.qm _<|aI m1).2.1;let b2:=(O.qm _<|aI m2).2.1;let hlt:rk ts[n]<rk ts[1+n]:=by have:=gm.mp hrk n (1+n) (by rw[aa];lia) (by rw[aa];lia) yf;simpa using this
   calc Tt rb (aM.of au) ?_;calc%[58,a1,a2,_,_,_,_,rb,rb,kT _ _<|zE _ _ e1,kT _ _<|zE _ _ e2,by show ts[n].2.1<1000;lia,by show ts[1+n].2.1<1000;(calc bq (by assumption) ?_;lia),kT _ _ Ox,by rw[aa,dL];show aF ye|dz.mk (by rw[aa,cn];show fg ye) %[?_,au|(zE.Z kT).bH hN]];rw[am (show (bM ts[n]).1*1000+(bM ts[n]).2<(bM ts[1+n]).1*1000+(bM ts[1+n]).2 from hlt)];show oO n
  .intro zs D z;let(rfl,Ox,zE):=z;calc%[1,N,_,rb,aP.of Ox|?_];rw[qI];show q D<|s04.Z zE
def ac0:Sp:=λvs H Q _=>∃(t:Addr) (as:Ĵ Ĺ) (ts:Ĵ aR),vs=[.C t]/\H t=ĳ (.Ã<|as.Q V.C)/\cY H as ts/\ts.n<=7/\(∃j,∀t∈ts,t.2.1=j)/\∀H',aA H H'->Q (.bl ķ) H'
def U3 (O:GG K mg):DF P w K mg base vA 1 ac0:=by
 calc O.af'.cQ Um ?_;intro f bw A outer s H vs Q E hr h;let(t,as,ts,rfl,J,L,h7,(j,Z),q):=h;let hal:=L.Ċ;calc%[0,_,(aD<|aY<|aO (iY rb) yk O.j' iJ<|ak (eX (ns:=["row","column","sign"]) rb (fu.of ["laying"] [] ym) (fJ aG) (λ_ _ _ _ _=>(mU K rb (show (["row","column","sign","laying"]:Ĵ Ŋ).Ý by decide +kernel) rb rb rb yk yk yk)) (λ_ _ _ _ _=>cF) λ_ _ _ _ _=>(gC kE aW (bB (iV K) (bB (iV K) bG aC λ_ _=>rfl) aC λ_ _=>rfl)<|bR _)) aq)|?_];refine%[2,t,rb,%[_|aM.of J]|λN M=>kO (K:=K) (KT:=K) (a:=t) (f:=eF [] 0) (tt:=gb) (xs:=as.Q V.C) (λn ys F=>ys=(List.Ë n ķ).Q V.bl/\F N=ĳ (.Ç ys)/\aA H F)
  %[rb,au|aA.è M] (λn ys F _ h=>aM.of<|h.2.2 _ _ J) ?_ ?_]
 .intro n x ys F hx z;let(rfl,G,B):=z;let(hn,hx):=rfg hx;let D:n<ts.n:=ye
  let Y:0<ts.n:=fR (b5 _) D;let(_,en):=jE (L.mv B) D;let(g0,e0):=jE (L.mv B) Y;calc sJ hx.Ù (aM.of en) ?_;calc%[6,t,_,_,.C as[0],rb,rb,aM.of<|B _ _ J,aQ (j:=0) (by simp[g0])|%[35,as[0],_,_,_,rb,rb,aM.of e0,aQ (j:=1) rb,rb,G,by rw[aa,dL];show aF ye|dz.mk (by rw[aa];show hn) %[?_,au|B.bH M]]];rw[Z _ (aI D),Z _ (aI Y),am rfl];show oO n
 .intro ys F z;let(rfl,G,B):=z;calc%[1,N,_,rb,aP.of G|?_];rw[qI];show q F B
def Ew {aj:AA}{r w i j:ĵ}(hi:i<r)(q:j<w):atC aj r w (i:ļ) (j:ļ)=cell aj i j:=by unfold atC cell;rw[Ŀ %[cz _,ie eJ hi,ye|ye],b3,b3]
def abf (r w:ĵ)(aj:AA)(_ _:ĵ)(ts:Ĵ aR):Prop:=∀t∈ts,atC aj r w t.1 t.2.1=46
def Kz (G:GG K mg):DF P w K mg base pN 5 (U0 G.b' abf .ć):=by
 calc G.ai'.cQ n6 ?_;intro f bw A outer s H vs Q E hr h;let(b,t,as,ts,r,w,aj,aH,bi,bj,rfl,O,Y,q):=h;let hal:=O.L.Ċ;calc%[0,_,(aD<|cW b4 rb (fJ aW) (jV rb<|bO (bD (i:=2) n6.nd rb<|Or.Â rb)<|bO (bD (i:=3) n6.nd rb<|Or.Â rb)<|bO (bD (i:=4) n6.nd rb<|Or.Â rb) g_)<|aD<|cg (bN mC (gZ aG G.a'.cl G.f'.m (Cv G) hr.Ø G.f'.b .Ü f9<|ak bh<|ak bG aq) (kJ yk G.i')<|bR _) iG bI)|?_];refine%[2,t,rb,%[_|aM.of O.tp]|qp (K:=K) (a:=t) (xs:=as.Q V.C) (λn I H'=>∃J M N:ĸ V,I=[ĳ (.C b),ĳ (.C t),J,M,N]/\aA H H')
  %[26,ĺ,ĺ,ĺ,rb|aA.Ğ _] (λn I H' _ h=>by let(_,_,_,_,B):=h;show aM.of<|B _ _ O.tp) ?_ ?_]
 .intro n x I H' hx z;let(J,M,N,rfl,B):=z;let(hn,hx):=rfg hx;let F:n<ts.n:=ye;subst hx;let(_,Z):=jE (O.L.mv B) F;let D:=O.B.mv B;let(L,_,_,_,ex,_):=id D.ex;calc%[1,as[n],_,rb,aM.of Z|%[16,rb,_,_,rb|%[5,_,_|%[17,rb,_,_,rb,rb|?_]]]];calc%[8,b,L,_,rb,ex,rb|%[5,b,r|%[24,w,aj,aH,bi,bj,_,_,rb,D|%[1,[_],[46],rb,rb|aU _ rb ?_]]]];rw[Y _ (aI F)];show bK %[26,_,_,_,rb|B]
 .intro I H' z;let(J,M,N,rfl,B):=z;show q H' B
def ac1 {ts:Ĵ aR}(h:Hi ts)(q:gw ts≠0):∃j,∀t∈ts,t.2.1=j:=by
 rcases h with⟨i,h,_⟩|⟨j,h,_⟩
 .calc ń ?_ q;unfold gw;rw[if_pos];cases ts with| nil=>rfl| cons a l=>rw[List.head?_cons,wf yf,lI,lI,h a aS,h _ (List.getLast_mem yf)]
 .show%[j|h]
def agh:Sp:=λvs H Q _=>∃(t:Addr) (as:Ĵ Ĺ) (ts:Ĵ aR),vs=[.C t]/\H t=ĳ (.Ã<|as.Q V.C)/\cY H as ts/\0<ts.n/\ts.n<=7/\Hi ts/\∀H',aA H H'->Q .ć H'
def CQ (G:GG K mg):DF P w K mg base kZ 3 agh:=by
 calc G.aj'.cQ CN λf bw A outer s H vs Q E D h=>?_;let(t,as,ts,rfl,J,L,N,B,F,q):=h;calc%[0,_,(aD<|cg (QW.qt<|Ez (eV<|dw<|aV (Bc G) D.Ø rb<|ak aG aq)<|Bj<|eV<|dw<|aV (U3 G) D.Ø rb<|ak aG aq) iG bI)|?_];calc%[40,t,as,ts,rb,J,L,N,B,F.one|λH1 s1=>(aU _ rb ?_)];by_cases ha:gw ts=0
 .rw[am ha];show bK<|bK<|q H1 s1
 .rw[al ha];show bZ %[42,t,as,ts,rb,s1 _ _ J,L.mv s1,B,ac1 F ha|λM s2=>(q M<|s1.Z s2)]
def ae9 (_ _:ĵ)(aj:AA)(_ _:ĵ)(ts:Ĵ aR):Prop:=∀a∈ts.head?,∀b∈ts.getLast?,∀i j,a.1<=i->i<=b.1->a.2.1<=j->j<=b.2.1->cell (bf aj ts) i j≠46
def KC (G:GG K mg):DF P w K mg base pP 10 (U0 G.b' ae9 .ć):=by
 calc G.ak'.cQ n8 ?_;(intro f bw A outer s H vs Q E hr h);let(b,t,as,ts,r,w,aj,aH,bi,bj,rfl,O,B,q):=h;let hal:=O.L.Ċ;let r9:=O.B.ok.r9;let w9:=O.B.ok.w9;let h0:=O.pos;let(dx,_,_,_,ex,_):=id O.B.ex;calc%[0,_,(aB (aZ (i:=2) n8.nd rb (Or.Â rb)<|gZ aG G.a'.cl G.k'.m (Cw G) hr.Ø G.k'.b .Ü f9<|ak aW aq)<|aD<|cW b4 rb (zK yk G.h'<|ak (bB bY (bB bY aW aC λ_ _=>rfl) aC λ_ _=>rfl)<|ak (aN cT (bB bY (bB bY aW (Sx Li aC) λ_ _=>rfl) aC λ_ _=>rfl) aC) aq) (bD (i:=3) n8.nd rb<|Or.Â rb)<|aD<|cW b4 rb (zK yk G.h'<|ak (bB bY (bB bY aW aC λ_ _=>rfl) aC λ_ _=>rfl)<|ak (aN cT (bB bY (bB bY aW (Sx Li aC) λ_ _=>rfl) aC λ_ _=>rfl) aC) aq) (bD (i:=4) n8.nd rb<|Or.Â rb)<|aD<|cg (bN uc (gZ bh G.a'.cl G.f'.m (Cv G) hr.Ø G.f'.b .Ü f9<|ak bG<|ak bV aq) (kJ yk G.i')<|bR _) iG bI)|?_];calc%[8,b,dx,_,rb,ex,rb|%[9,b,t,as|%[39,ts,r,w,aj,aH,bi,bj,rb,O.B,O.tp,O.L,O.qm|λx1 H1 s1 B1=>?_]]];let B:=B ts[0] (by rw[t7,ae h0];rfl) ts[ts.n-1] (by rw[xB,ae ye];rfl);let(a1,a2,_):=O.qm _ (aI h0);let(l1,l2,_):=O.qm _ (aI (show ts.n-1<ts.n by lia));let N:=O.L.mv s1;let F:=s1 _ _ O.tp;let(Y,e0):=jE N h0;let(gl,el):=jE N (show ts.n-1<ts.n by lia);let eal:as.n-1=ts.n-1:=by simp_all
 let K1:ju (as.Q V.C) (-1)=ĳ (.C as[ts.n-1]):=by rw[acY (show 0<as.n from Y)];simp only[eal]
 generalize hR:bf aj ts=R at B1 B;generalize ef:ts[0]=ff at e0 B a1 a2;generalize eg:ts[ts.n-1]=ll at el B l1 l2;calc%[6,t,_,_,.C as[0],rb,rb,aM.of F,aQ (j:=0) (by simp[Y])|%[21,as[0],_,_,_,rb,rb|%[20,aM.of e0,aQ (j:=0) rb,_,rb|%[6,t,_,_,.C as[ts.n-1],rb,rb,aM.of F,K1|%[6,as[ts.n-1],_,_,_,rb,rb,aM.of el,aQ (j:=0) rb|%[22,_,_,rb,rb,(ff.1:ļ),(ll.1:ļ)+1,rb,%[cz _,ye,ye|ye]|?_]]]]]];refine iH (lo:=(ff.1:ļ)) (λn I H'=>∃v3 D:ĸ V,I=[ĳ (.C b),ĳ (.C t),ĳ (.C x1),v3,D]/\aA H1 H')
  %[3,ĺ,ĺ,rb|aA.Ğ _] ?_ ?_
 .intro n I H' hn z;let(v3,D,rfl,J):=z;let M:ff.1+n<=ll.1:=by simp[cy,c6]at *;lia
  let en:(ff.1:ļ)+(n:ļ)=((ff.1+n:ĵ):ļ):=rfl;let zm:=J _ _ F;calc%[6,t,_,_,.C as[0],rb,rb,aM.of zm,aQ (j:=0) (by simp[Y])|%[21,as[0],_,_,_,rb,rb|%[20,aM.of<|J _ _ e0,aQ (j:=1) rb,_,rb|%[6,t,_,_,.C as[ts.n-1],rb,rb,aM.of zm,K1|%[6,as[ts.n-1],_,_,_,rb,rb,aM.of<|J _ _ el,aQ (j:=1) rb|%[22,_,_,rb,rb,(ff.2.1:ļ),(ll.2.1:ļ)+1,rb,%[cz _,ye,ye|ye]|?_]]]]]];refine iH (lo:=(ff.2.1:ļ)) (λm I H2=>∃D:ĸ V,I=[ĳ (.C b),ĳ (.C t),ĳ (.C x1),ĳ (.R ((ff.1+n:ĵ):ļ)),D]/\aA H1 H2)
   %[0,_,rb|J] ?_ ?_
  .intro m I H2 hm z;let(D,rfl,Z):=z;let L:ff.2.1+m<=ll.2.1:=by simp[cy,c6]at *;lia
   let em:(ff.2.1:ļ)+(m:ļ)=((ff.2.1+m:ĵ):ļ):=rfl;rw[em];let B2:=B1.mv Z;let(N6,_,_,_,XC,_):=id B2.ex;calc%[8,x1,N6,_,rb,XC,rb|%[5,x1,r|%[24,w,R,aH,bi,bj,_,_,rb,B2|%[1,[_],[46],rb,rb|aU _ rb ?_]]]];rw[Ew (show ff.1+n<r from fR M l1) (show ff.2.1+m<w from fR L l2),al (show ¬[cell R (ff.1+n) (ff.2.1+m)]=[46] from λz=>B _ _ (kc _ _) M (kc _ _) L (by injection z))];show bK %[0,_,rb|Z]
  .intro I H2 z;let(D,rfl,Z):=z;show%[3,_,_,rb|Z]
 .intro I H' z;let(v3,D,rfl,J):=z;show q H'<|s1.Z J
def abg (r w:ĵ)(aj:AA)(bi bj:ĵ)(ts:Ĵ aR):Prop:=∃t∈ts,bM t∈cD aj r w bi bj
open Classical in
def Hl (G:GG K mg):DF P w K mg base mW 7 (U0 G.b' abg .ć):=by
 calc G.al'.cQ pQ λf bw A outer s H vs Q E J h=>?_;let(b,t,as,ts,r,w,aj,aH,bi,bj,rfl,O,(u,hu,hk),q):=h;let Z:=O.L.Ċ;let h7:=O.le;let(dx,pr,pm,pb,ex,_,_,L):=id O.B.ex;calc%[0,_,(aB (rF<|cg (dw<|xP aG G.a'.cl G.o'.m (Gx G) J.Ø G.o'.b .Ü f9) (aD<|aZ (i:=2) pQ.nd rb (Or.Â rb)<|gC (Q5 J.Þ) (dF aG rb) (aV (qZ G) J.Ø rb<|ak aW aq) rb)<|aD<|aZ (i:=2) pQ.nd rb (Or.Â rb)<|aO (DW rb) yk G.x' zY<|ak (eX (ns:=["row","column","sign"]) rb (fu.of ["board","laying","joined"] [] ym) (fJ aW) (λ_ _ _ _ _=>(mU K rb (show (["row","column","sign","board","laying","joined"]:Ĵ Ŋ).Ý by decide +kernel) rb rb rb yk yk yk)) (λ_ _ _ _ _=>cF) λ_ _ _ _ _=>(aV (GF G) J.Ø rb<|ak bG<|ak aG<|ak aW aq)) aq)<|aD<|cg (eV<|dw bh) iG bI)|?_];unfold cD at hk;refine%[0,λI H'=>aA H H'/\I=[ĳ (.C b),ĳ (.C t),ĳ (.bl ķ)],?_|?_]
 .calc%[8,b,dx,_,rb,ex,rb|%[24,b,r,w,aj,aH,bi,bj,rb,O.B|λH1 s1=>(aU _ rb ?_)]];cases hf:isFree aj with
  | true=>
   rw[Ŀ hf]at hk;calc bZ %[13,b,G.b',dx,_,_,rb,s1 _ _ ex,G.a'.cl,G.a'.nb,rb|%[7,t,as,ts,rb,.Ó<|aM.of<|s1 _ _ O.tp,O.L.mv s1,ye|λLc cs H2 s2 nLc hLc M=>?_]];cases M.has (K:=K) hLc with| lst hq hs=>calc%[8,2,xq (bi,bj),(ts.Q bM).Q xq,yi,.Ã (aM.of (s2 _ _<|s1 _ _ L))<|.Ð (.R _)<|.Ð (.R _) .Ü,.Ç hq hs|?_];calc%[s1.Z s2|?_];rw[am (Ip.Û<|ar.Û %[0,u,hu|av.mp hk])];rfl
  | false=>
   rw[ŀ (by rw[hf];decide)]at hk;refine bK %[2,t,rb,%[_|aM.of<|s1 _ _ O.tp]|λN hN=>kO (K:=K) (KT:=K) (a:=t) (f:=eF [] 0) (tt:=gb) (xs:=as.Q V.C) (λn ys D=>ys=((ts.Å n).Q λt=>zp aj r w t.1 t.2.1).Q V.bl/\D N=ĳ (.Ç ys)/\aA H1 D)
    %[rb,au|aA.è hN] (λn ys D _ h=>aM.of<|h.2.2 _ _<|s1 _ _ O.tp) ?_ ?_]
   .intro n x ys D hx z;let(rfl,Bd,B):=z;let(hn,hx):=rfg hx;let F:n<ts.n:=ye;let Oo:=s1.Z B;let(_,en):=jE (O.L.mv Oo) F;calc sJ hx.Ù (aM.of en) ?_;calc%[5,b,r|%[24,w,aj,aH,bi,bj,_,_,rb,O.B.mv Oo|λH4 s4=>%[s4 _ _ Bd,?_|dz.mk (by rw[aa];show hn) %[?_,au|(B.Z s4).bH hN]]]];.rw[aa,aa,a8];show aF ye
    .rw[show ts.Å (n+1)=ts.Å n++[ts[n]] by rw[bu,ae F];rfl,bg,bg];rfl
   .intro ys D z;let(rfl,Bd,B):=z;calc%[4,N,_,rb,aP.of Bd,s1.Z B|?_];rw[aa,Z,b9,x5];rw[show ts.đ (id ∘ λt=>zp aj r w t.1 t.2.1)=ķ from mw.Û %[0,u,hu|(Ep.mp hk).2.2]];rfl
 .rintro I H' ⟨sm,rfl⟩;show(q H' sm)
def ae_:Sp:=λvs H Q _=>∃c:Nat,vs=[.À (S [c])]/\c<128/\Q (.À<|S [cR c]) H
def U4 (G:GG K mg):DF P w K mg base vo 1 ae_:=by
 calc G.G'.cQ Gk λf bw A outer s H vs Q E F h=>?_;let(c,rfl,D,q):=h;calc%[0,_,(aD<|aY<|oH (oK rE rE (b_ [65] yn) aG<|b_ [90] yn) (b_ [63] yn) aG)|?_];calc%[1,[65],[c],rb,rb|?_];rw[Ug];unfold cR at q;by_cases h1:65<=c
 .rw[am h1];calc%[1,[c],[90],rb,rb|?_];rw[Ug];by_cases B:c<=90
  .rw[Ŀ %[h1|B]]at q;rw[am B];show q
  .rw[ŀ λz=>B z.2]at q;rw[al B];show q
 .rw[ŀ λz=>h1 z.1]at q;rw[al h1];show q
def Ja (us:Ĵ ĵ):Ĵ ĵ->Prop
 | []=>True
 | c::cs=>cR c∈us/\Ja (us.ý<|cR c) cs
def U5 (us:Ĵ ĵ)(c:ĵ):(ones us).ý [c]=ones (us.ý c):=by
 induction us with
 | nil=>rfl
 | cons a l ih=>
  show ([a]::ones l).ý [c]=_;by_cases h:a=c;.subst h;simp
  .rw[r8 (by simpa using h),r8 (by simpa using h),ih];rfl
def afa:Sp:=λvs H Q _=>∃(jK q:Ĵ ĵ),vs=[.À (S jK),.À (S q)]/\jK.n<=63/\(∀c∈q,c<128)/\Ja jK q/\∀(l:Ĵ ĵ) (H':Hp),aA H H'->Q (.À<|S l) H'
def U6 (M:GG K mg):DF P w K mg base vp 3 afa:=by
 calc M.R'.cQ sW ?_;(intro f bw A outer s H vs Q E hr h);let(jK,B,rfl,N,hsg,F,q):=h;calc%[0,_,(aB (aZ (i:=2) sW.nd rb (Or.Â rb)<|c7 (xW rb) yk M.r' nV<|ak aG aq)<|aB (cW b4 rb (wI aW) (bD (i:=3) sW.nd rb<|Or.Â rb)<|aB (aZ (i:=4) sW.nd rb (Or.Â rb)<|aV (U4 M) hr.Ø rb<|ak bG aq)<|aB (cg (bN tZ bV bh rb) iG bI)<|aD<|dD<|dH c8 PySem.F.slot_list_remove PySem.F.type_list_remove V7 bh<|ak bV aq)<|aD<|aY<|dH bv e_ fb oV (b_ [] yn)<|ak (aO ug yk M.l' fm<|ak bh aq) aq)|?_];calc%[2,jK,rb,ye|λL hL=>?_];calc%[0,B,rb|?_];refine abz (λi I J=>∃(Y Z:ĸ V) (us:Ĵ ĵ),I=[ĳ (.À<|S jK),ĳ (.À<|S B),ĳ (.C L),Y,Z]/\aA H J/\J L=ĳ (.Ç<|Ts<|ones us)/\us.n<=63/\Ja us (B.Î i))
  %[7,ĺ,ĺ,jK,rb,aA.è hL,au,N|F] ?_ ?_
 .intro i c I J hc z;let(Y,Z,us,rfl,G,D,hul,hf):=z;let(hi,hci):=ap.mp hc;rw[iq hi,hci]at hf;let(hm,hf):=hf;calc%[2,c,rb,(hsg c<|a5 hc)|?_];calc%[12,L,Ts<|ones us,rb,.Â<|aP.of D,rb,by simp[Ts,pB]|?_];rw[Rz,am hm];calc%[10,.Â %[10,rb,_|aP.of D],L|%[27,ones us,[cR c],rb,rb,D,ci hm,by rw[aa];lia|?_]];rw[U5];calc%[7,_,_,us.ý<|cR c,rb,G.bH hL,au,?_|hf];have:=(List.erase_sublist (a:=cR c) (l:=us)).length_le;lia
 .intro I J z;let(Y,Z,us,rfl,G,D,hul,_):=z;calc%[10,rb,L|%[11,ones us,rb,aP.of D,by rw[aa];lia|λp ws hp pm _=>?_]];calc%[12,p,ws,rb,rb,aP.of au,?_|q _ _<|G.bH<|G.Ô hp];rw[pm.flatten.length_eq,lq];lia
def U7 {aj:AA}{ts:Ĵ aR}(h:ts.n<=7):(jD aj ts).n<=100:=by calc aw (iL _ _) ?_;rw[aa];unfold rQ;rw[ay,aa,aa,a8];lia
def dQ (q:wA):Dt:=.Ã [.R q.1,.R q.2.1,.R q.2.2.1,.À q.2.2.2]
theorem fV.ofQ {H:Hp}:∀{bs:Ĵ Ĺ} {B:Ĵ wA},QL H bs B->(∀q∈B,∀c∈q.2.2.2,c<128)->fV K H 1 (B.Q dQ) (bs.Q V.C)
 | [],[],_,_=>.Ü
 | [],_::_,h,_=>by have:=h.Ċ;simp at this
 | _::_,[],h,_=>by have:=h.Ċ;simp at this
 | a::cs,c::cc,h,g=>.Ð (.Ã (aM.of<|h.č 0 a c rb rb)<|.Ð (.R _)<|.Ð (.R _)<|.Ð (.R _)<|.Ð (.À _<|g c aS) .Ü) (fV.ofQ %[by have:=h.Ċ;simpa using this|λi a x h1 F=>h.č (i+1) a x h1 F] λq D=>g q<|aE _ D)
def abh {c:ĵ}(h:isLet (PyProof.â.ě c)):c<128:=by unfold PyProof.Rows.lo1 isLet at h;split at h <;> lia
structure aaM (aj ws:AA)(ts:Ĵ aR):Prop where
 ne:jD aj ts≠[]
 mem:∀q∈jD aj ts,q.2.2.2.Q PyProof.â.ě∈ws
def agi (C B:Ĺ):Sp:=λvs H Q _=>∃(b k d t:Addr) (ws:AA) (as:Ĵ Ĺ) (ts:Ĵ aR) (r w:Nat) (aj aH:AA) (bi bj:Nat),vs=[.C b,.C k,.C t]/\Oz C H b t as ts r w aj aH bi bj/\j8 B H k d ws/\Hh ts/\aaM aj ws ts/\∀H',aA H H'->Q .ć H'
open Classical in
def Jb (G:GG K mg):DF P w K mg base n_ 12 (agi G.b' G.d'):=by
 calc G.am'.cQ gH ?_;(intro f bw A outer s H vs Q E hr h);let(b,k,d,t,ws,as,ts,r,w,aj,aH,bi,bj,rfl,O,BK,hl1,(L,J),q):=h;let hwl:=U7 (aj:=aj) O.le;let RW:∀q∈jD aj ts,q.2.2.2.n<=9/\∀c∈q.2.2.2,c<128:=λq hq=>by have:=BK.az _<|J q hq;show%[by have:=this.hi;rwa [aa]at this|λc hc=>abh<|this.az _<|ci hc]
 calc%[0,_,(aB (aZ (i:=3) gH.nd rb (Or.Â rb)<|aV (J_ G) hr.Ø rb<|ak aG<|ak bh aq)<|aB (cg (bN (V3 hr.Þ) bG (cI aq)<|bR _) iG bI)<|aD<|cW b4 rb (fJ bG) (jV rb<|bO (bD (i:=4) gH.nd rb<|Or.Â rb)<|bO (bD (i:=5) gH.nd rb<|Or.Â rb)<|bO (bD (i:=6) gH.nd rb<|Or.Â rb)<|bO (bD (i:=7) gH.nd rb<|Or.Â rb) g_)<|aB (aZ (i:=8) gH.nd rb (Or.Â rb)<|pC bv gr gt pH gO)<|aD<|cg (eV<|dw<|gZ aW G.g'.cl G.q'.m (Xm G) hr.Ø G.q'.b .Ü f9<|ak jO aq) iG bI)|?_];calc%[36,b,t,as,ts,r,w,aj,aH,bi,bj,rb,O.B,O.tp|%[O.L,O.qm,O.pos,O.le,hl1|λT1 b1 H1 s1 hT1 RX=>?_]];generalize hW:jD aj ts=W at L J hwl RW RX;calc%[zsz 0|λZ hZ=>?_];let N:aA H1 (upd H1 Z<|HO.Ã []):=aA.è hZ;let eZ:upd H1 Z (HO.Ã []) Z=ĳ (.Ã []):=au;let D:=N _ _ hT1;let B:=RX.mv N;let RZ:=s1.Z N;generalize upd H1 Z (HO.Ã [])=H2 at N eZ D B RZ ⊢;calc%[8,2,.Ã<|W.Q dQ,.Ã [],yi,.Ã (aM.of D)<|fV.ofQ B λq hq=>(RW q hq).2,.Ã (aM.of eZ) .Ü|aU _ rb ?_];let gG:=B.Ċ;let hne:¬(Dt.Ã (W.Q dQ)=Dt.Ã []):=λz=>by injection z with z;show L<|qh.mp z
 refine jF9 hne %[2,T1,rb,%[_|aM.of D]|qp (K:=K) (a:=T1) (xs:=b1.Q V.C) (λn I H'=>∃Y v5 v6 v7 v8:ĸ V,I=[ĳ (.C b),ĳ (.C k),ĳ (.C t),ĳ (.C T1),Y,v5,v6,v7,v8]/\aA H2 H')
  %[62,ĺ,ĺ,ĺ,ĺ,ĺ,rb|aA.Ğ _] (λn I H' _ h=>by let(_,_,_,_,_,_,F):=h;show aM.of<|F _ _ D) ?_ ?_]
 .intro n x I H' hx z;let(Y,v5,v6,v7,v8,rfl,F):=z;let(hn,hx):=rfg hx;let R6:n<W.n:=ye
  subst hx;let hm:=aI R6;let(h9,hlt):=RW _ hm;calc%[1,b1[n],_,rb,aM.of ((B.mv F).č n _ _ (ae hn)<|ae R6)|%[16,rb,_,_,rb|%[5,_,_|%[10,rb,_|%[38,_,rb,_,_,rb,rb|?_]]]]];calc%[44,rb,W[n].2.2.2,rb,rb,aw h9<|fz _ _,hlt|?_];let M:=BK.same<|RZ.Z F;let(dk,ek):=M.ob;calc%[8,k,dk,_,rb,ek,rb|%[21,k,d,ws,_,rb,M|aU _ rb ?_]];rw[am (J _ hm)];show bK %[62,_,_,_,_,_,rb|F]
 .intro I H' z;let(Y,v5,v6,v7,v8,rfl,F):=z;show q H'<|RZ.Z F
structure Yn (r w:ĵ)(aj:AA)(bi bj:ĵ)(ws:AA)(jK:Ĵ ĵ)(ts:Ĵ aR):Prop where
 rk:(ts.Q My.rk).Ä (·<·)
 free:abf r w aj bi bj ts
 line:Hi ts
 gap:ae9 r w aj bi bj ts
 join:abg r w aj bi bj ts
 fit:Ja jK (ts.Q (·.2.2))
 wd:aaM aj ws ts
def ac2 (C B:Ĺ):Sp:=λvs H Q _=>∃(b k d t:Addr) (ws:AA) (jK:Ĵ ĵ) (as:Ĵ Ĺ) (ts:Ĵ aR) (r w:Nat) (aj aH:AA) (bi bj:Nat),vs=[.C b,.C k,.À (S jK),.C t]/\Oz C H b t as ts r w aj aH bi bj/\j8 B H k d ws/\jK.n<=63/\Yn r w aj bi bj ws jK ts/\∀H',aA H H'->Q .ć H'
def Ho (G:GG K mg):DF P w K mg base mX 14 (ac2 G.b' G.d'):=by
 calc G.an'.cQ Gm λf bw A outer s H vs Q E D h=>?_;let(b,k,d,t,ws,jK,as,ts,r,w,aj,aH,bi,bj,rfl,O,BK,h63,N,q):=h;let Y:=O.L.Ċ;let h7:=O.le;let hft:=N.fit;let hl1:=N.line.one;let hwd:=N.wd;calc%[0,_,(aB (cg (eV<|dw<|aV (OJ G) D.Ø rb<|ak aG<|ak bG aq) iG bI)<|aB (dD<|aV (Kz G) D.Ø rb<|ak aG<|ak bG aq)<|aB (dD<|aV (CQ G) D.Ø rb<|ak bG aq)<|aB (dD<|aV (KC G) D.Ø rb<|ak aG<|ak bG aq)<|aB (dD<|aV (Hl G) D.Ø rb<|ak aG<|ak bG aq)<|aB (dD<|aV (U6 G) D.Ø rb<|ak bh<|ak (dH bv e_ fb oV (b_ [] yn)<|ak (eX (ns:=["row","column","sign"]) rb (fu.of ["board","book","rack","laying"] [] ym) (fJ bG) (λ_ _ _ _ _=>(mU K rb (show (["row","column","sign","board","book","rack","laying"]:Ĵ Ŋ).Ý by decide +kernel) rb rb rb yk yk yk)) (λ_ _ _ _ _=>cF) λ_ _ _ _ _=>bh) aq) aq)<|aD<|dD<|aV (Jb G) D.Ø rb<|ak aG<|ak aW<|ak bG aq)|?_];calc%[36,b,t,as,ts,r,w,aj,aH,bi,bj,rb,O,N.rk|λH1 s1=>(aU _ rb<|bK ?_)];calc%[36,b,t,as,ts,r,w,aj,aH,bi,bj,rb,O.mv s1,N.Ô|λH2 s2=>?_];let O2:=(O.mv s1).mv s2;calc%[40,t,as,ts,rb,O2.tp,O2.L,O.pos,h7,N.line|λH3 s3=>?_];let O3:=O2.mv s3;calc%[36,b,t,as,ts,r,w,aj,aH,bi,bj,rb,O3,N.gap|λH4 s4=>?_];let O4:=O3.mv s4;calc%[36,b,t,as,ts,r,w,aj,aH,bi,bj,rb,O4,N.join|λH5 s5=>?_];let O5:=O4.mv s5;let Z:=(((s1.Z s2).Z s3).Z s4).Z s5;refine%[23,rb,t,rb,%[_|aM.of O5.tp]|λN hN=>kO (K:=K) (KT:=K) (a:=t) (f:=eF [] 0) (tt:=gb) (xs:=as.Q V.C) (λn ys F=>ys=Ts (ones ((ts.Å n).Q (·.2.2)))/\F N=ĳ (.Ç ys)/\aA H5 F)
  %[rb,au|aA.è hN] (λn ys F _ h=>aM.of<|h.2.2 _ _ O5.tp) ?_ ?_]
 .intro n x ys F hx z;let(rfl,B,L):=z;let(hn,hx):=rfg hx;let J:n<ts.n:=ye
  let(_,en):=jE (O5.L.mv L) J;calc sJ hx.Ù (aM.of en) ?_;calc%[B,?_|dz.mk (by rw[aa];show hn) %[?_,au|L.bH hN]];.rw[aa,aa,aa,a8];show aF ye
  .rw[show ts.Å (n+1)=ts.Å n++[ts[n]] by rw[bu,ae J];rfl];simp only[Ts,ones,bg];rfl
 .intro ys F z;let(rfl,B,L):=z;rw[aa,Y,b9]at B;calc%[12,N,ones (ts.Q (·.2.2)),rb,rb,aP.of B,by rw[lq,aa];lia|?_];rw[lq];refine%[12,jK,ts.Q (·.2.2),rb,h63,λc hc=>?_,hft|λl H7 s7=>?_]
  .let(u,hu,rfl):=ar.mp hc;show(O.qm u hu).2.2.lt
  let M:=(Z.Z L).Z s7;show%[9,b,k,d|%[9,t,ws,as|%[39,ts,r,w,aj,aH,bi,bj,rb,O.mv M,BK.same M,hl1,hwd|λH8 s8=>q H8<|M.Z s8]]]
def R8 {r w:ĵ}{A B:AA}(ha:Blk r w A)(q:Blk r w B)(h:∀i j,i<r->j<w->cell A i j=cell B i j):A=B:=by
 apply pi;.rw[ha.len,q.len]
 .intro i h1 J;let F:=q.gW B[i]<|aI _;let G:i<r:=by rw[<-ha.len];show h1
  apply pi;.rw[(ha.gW A[i]<|aI _),F]
  .intro j M L;have:=h i j G (by simp_all);rw[cell_eq h1 M,cell_eq J L]at this;show this
def set_same {r w:ĵ}{R:AA}(B:Blk r w R){i j z:ĵ}(hi:i<r)(D:j<w):cell (setAt R i j z) i j=z:=by
 let q:i<R.n:=by rw[B.len];show hi
 let hw:(R.Í i []).n=w:=by rw[ai,ae q];show B.gW _<|aI _
 unfold cell setAt;rw[ai (l:=R.Ď _ _),l_ q];show ((R.Í i []).Ď j z).Í j 0=z;rw[ai,l_ (by rw[hw];show D)];rfl
def Ka {R:AA}{i j z i' j':ĵ}(h:¬(i=i'/\j=j')):cell (setAt R i j z) i' j'=cell R i' j':=by
 unfold cell setAt;by_cases e:i=i'
 .subst e;rw[ai (l:=R.Ď _ _)];by_cases hi:i<R.n
  .rw[l_ hi];show ((R.Í i []).Ď j z).Í j' 0=_;rw[ai,oz (λy=>h %[rb|y]),<-ai]
  .rw[s_ (kH hi),<-ai]
 .rw[ai (l:=R.Ď _ _),oz e,<-ai]
theorem lC {i j:ĵ}:∀{ts:Ĵ aR} {R:AA},(∀t∈ts,¬(t.1=i/\t.2.1=j))->cell (bf R ts) i j=cell R i j
 | [],_,_=>rfl
 | t::ts,R,h=>(lC (ts:=ts) λx hx=>h x<|aE _ hx).Z (Ka<|h t aS)
theorem tR {r w:ĵ}:∀{ts:Ĵ aR} {R:AA} {t:aR},Blk r w R->(∀t∈ts,inB r w t)->ts.Ä (λa b=>¬(a.1=b.1/\a.2.1=b.2.1))->t∈ts->cell (bf R ts) t.1 t.2.1=t.2.2
 | u::ts,R,t,hb,cJ,pw,hm=>by
  let(p1,p2):=gp.mp pw;let q:=cJ u aS;rcases a_.mp hm with z|z
  .subst z;show(lC λx hx y=>p1 x hx %[y.1.Ù|y.2.Ù]).Z<|set_same hb q.1 q.2.1
  .show tR (ts:=ts) (R:=setAt R u.1 u.2.1 u.2.2) (Io hb q.1) (λx hx=>cJ x<|aE _ hx) p2 z
def xG {ts:Ĵ aR}(q:(ts.Q rk).Ä (·<·)):ts.Ä (λa b=>¬(a.1=b.1/\a.2.1=b.2.1)):=by
 rw[c_]at q;calc q.imp λ{a b} h z=>?_;unfold rk at h
 simp_all
def Kc {r w:ĵ}{aj:AA}{ts q:Ĵ aR}(D:Blk r w aj)(J:∀t∈ts,inB r w t)(pw:(ts.Q rk).Ä (·<·))(pm:q.ú (ts.Q sw))(L:(q.Q rk).Ä (·<·)):bC (bf aj ts) w=bf (bC aj w) q:=by
 let F:∀t∈q,inB w r t:=λt B=>by let(u,M,e):=ar.mp (pm.õ.mp B);have:=J u M;rw[<-e];show%[this.2.1,this.1|this.2.2]
 calc R8 (jd<|gq D J) (gq (jd D) F) λj i Y hi=>?_;rw[oY (gq D J) hi Y];by_cases h:∃t∈ts,t.1=i/\t.2.1=j
 .let(t,B,Z,O):=h;let h1:=tR D J (xG pw) B;let h2:=tR (jd D) F (xG L) (pm.õ.Û<|ci B);rw[Z,O]at h1;let G:cell (bf (bC aj w) q) t.2.1 t.1=t.2.2:=h2;rw[Z,O]at G;rw[h1,G]
 .let N:∀t∈ts,¬(t.1=i/\t.2.1=j):=λt B z=>h %[0,t,B|z]
  let n2:∀t∈q,¬(t.1=j/\t.2.1=i):=λt B z=>by let(u,M,e):=ar.mp (pm.õ.mp B);rw[<-e]at z;show N u M %[z.2|z.1]
  rw[lC N,lC n2,oY D hi Y]
def U8 {r w:ĵ}{aj:AA}(q:Blk r w aj){i j:ĵ}(hi:i<r):lineOf (bC aj w) j i 1=lineOf aj i j 0:=by
 unfold lineOf;rw[ŀ yi,Ŀ rfl];have:(bC (bC aj w) r).Í i []=dI (bC aj w) i:=by unfold bC;rw[ai,ba,gN hi];rfl
 rw[<-this,(Aq q)]
def U9 {w:ĵ}{aj:AA}{i j:ĵ}(q:j<w):lineOf (bC aj w) j i 0=lineOf aj i j 1:=by unfold lineOf;unfold bC;rw[ai,ba,gN q];rfl
def R9 (q:wA):wA:=(q.2.1,q.1,1-q.2.2.1,q.2.2.2)
def Bf {r w:ĵ}{R:AA}(q:Blk r w R){i j wy:ĵ}(hi:i<r)(B:j<w)(D:wy<=1):cH (bC R w) j i (1-wy)=R9 (cH R i j wy):=by
 rcases(show wy=0\/wy=1 by lia) with z|z
 .subst z;let e:lineOf (bC R w) j i ((1:ĵ):ļ)=lineOf R i j ((0:ĵ):ļ):=U8 q hi;unfold cH R9;rw[e];rfl
 .subst z;let e:lineOf (bC R w) j i ((0:ĵ):ļ)=lineOf R i j ((1:ĵ):ļ):=U9 B;unfold cH R9;rw[e];rfl
def Yo {r w:ĵ}{aj:AA}(q:Blk r w aj):bC (bC aj w) r=aj:=R8 (jd<|jd q) q λi j hi B=>by rw[oY (jd q) B hi,oY q hi B]
def U_ (t:aR):aR:=(t.1,t.2.1,PyProof.â.ě t.2.2)
theorem R_:∀{ts:Ĵ aR} {ss:Ĵ ĵ},ss.Q PyProof.â.ě=jM ts->(d8 ts ss).Q U_=ts
 | [],[],_=>rfl
 | [],_::_,h=>by cases h
 | _::_,[],h=>by cases h
 | t::ts,c::ss,h=>by injection h with h1 h2;show (t.1,t.2.1,PyProof.â.ě c)::(d8 ts ss).Q U_=t::ts;rw[R_ h2,h1]
theorem O6:∀{ls rk t:Ĵ ĵ},(∀c∈ls,isLet c)->t∈fK ls rk->Ja rk t/\t.Q PyProof.â.ě=ls
 | [],_,t,_,h=>by rw[av.mp h];show%[trivial|rb]
 | d::ls,rk,t,hl,h=>by
  let hd:=hl d aS;let(J,D,F,_):=xr hd;let q:∀c∈ls,isLet c:=λc G=>hl c<|aE _ G;unfold isLet at hd;unfold fK at h;rcases a7.mp h with z|z
  .split at z
   .let(u,B,rfl):=ar.mp z;let(f,e):=O6 q B;calc%[%[by rw[F];assumption|by rw[F];show f]|?_];rw[b7,e,show PyProof.â.ě d=d from ŀ ye]
   .simp at z
  .split at z
   .let(u,B,rfl):=ar.mp z;let(f,e):=O6 q B;calc%[%[by rw[D];assumption|by rw[D];show f]|?_];rw[b7,e,J,show PyProof.â.ě (d-32)=d by unfold PyProof.Rows.lo1;rw[Ŀ (by simp_all;lia)];lia]
   .simp at z
structure qK (ws aj:AA)(r w:ĵ)(rk l:Ĵ ĵ)(i j:ĵ)(x:Ĵ aR):Prop where
 li:i<r
 lj:j+l.n<=w
 ends:m7 aj r w i j l=ķ
 fit:∀k,k<l.n->ji aj r w i j l k=ķ
 laid:∀k,k<l.n->atC aj r w i ((j+k:ĵ):ļ)=46->∃t∈x,t.1=i/\t.2.1=j+k/\PyProof.â.ě t.2.2=l.Í k 0
 back:∀t∈x,∃k,k<l.n/\t.1=i/\t.2.1=j+k/\PyProof.â.ě t.2.2∈jJ ws aj (i,t.2.1)
 tiles:Ja rk (x.Q (·.2.2))
def yP {ws us:AA}{hk:Ĵ (ĵ×ĵ)}{aj:AA}{r w:ĵ}{rk:Ĵ ĵ}(hw:∀l∈us,jo l){x:Ĵ aR}(h:x∈fH ws hk aj r w rk us):∃l∈us,∃i j,qK ws aj r w rk l i j x:=by
 let(l,N,h):=cx.mp h;let(c,hc,h):=cx.mp h;let(O,hc2):=lu.mp hc;unfold nu at h;split at h
 .rename_i q;let(ss,Y,rfl):=ar.mp h;let Av:∀d∈jM (cG aj r w c.1 c.2 l),isLet d:=λd hd=>by
   let(t,G,rfl):=ar.mp hd;show Ax (hw l N) G
  let(ft,D):=O6 Av Y;let L:=R_ D;unfold ni at q;simp only[df,dP,fE]at q;let((M,n7),J,_):=q;let B:(m7 aj r w c.1 c.2 l&&(List.æ l.n).ė (ji aj r w c.1 c.2 l))=ķ:=by
   by_cases z:(m7 aj r w c.1 c.2 l&&(List.æ l.n).ė (ji aj r w c.1 c.2 l))=ķ;.show z
   .unfold cG at M;rw[ŀ z]at M;simp at M
  let hT:cG aj r w c.1 c.2 l=jC aj r w c.1 c.2 l l.n:=Ŀ B;let(Z,hf):=Bool.and_eq_true_iff.mp B;let F:(d8 (cG aj r w c.1 c.2 l) ss).Q (·.2.2)=ss:=(Es (by rw[<-aa (f:=PyProof.Rows.lo1) (as:=ss),D];unfold jM;rw[aa])).2;refine%[0,l,N|%[5,c.1,c.2|%[O,by simp[cy,c6]at *;lia,Z,λk hk=>fE.mp hf k<|bS.Û hk,λk hk hz=>?_,λt G=>?_|by rw[F];show ft]]]
  .have:(c.1,c.2+k,l.Í k 0)∈(d8 (cG aj r w c.1 c.2 l) ss).Q U_:=by
    rw[L,hT];show n0.Û %[0,k,bS.Û hk|Ŀ hz]
   let(t,G,e):=ar.mp this;injection e with e1 e;injection e with F e3;show%[11,t,G,e1,F|e3]
  .let hm:U_ t∈cG aj r w c.1 c.2 l:=by rw[<-L];show ci G
   let(k,hk,e,_):=Aw hm;injection e with e1 e;injection e with F e3;have:=J _ hm;show%[11,k,hk,e1,F|by rw[<-e1];show this]
 .simp at h
def ac3 {L:Ĵ ĵ}{j n p:ĵ}(q:j<=p)(B:p<j+n)(hn:j+n<=L.n)(h1:∀c,j<=c->c<j+n->L[c]?≠ĳ 46)(F:0<j->L[j-1]?=ĳ 46)(G:j+n<L.n->L[j+n]?=ĳ 46):cC (L.Å p)++cN (L.Î p)=(L.Î j).Å n:=by
 let J:cC (L.Å p)=(L.Å p).Î j:=by
  rcases oj j with z|z
  .subst z;calc u9 λz=>?_;let(c,D,e):=List.mem_take_iff_getElem.mp z;show h1 c (b5 _) (by grind) (by rw[ae (by calc bq ?_ (by assumption);lia),e])
  .have:=DR (l:=L.Å p) (i:=j-1) (by rw[oP (b6 ye ye)];show F z) λk hk=>by
    rw[kM];split;.show h1 k ye ye
    .simp
   rwa [show j-1+1=j by lia]at this
 let M:cN (L.Î p)=(L.Î p).Å (j+n-p):=by
  rcases fv (j+n) L.n with z|z
  .refine uf (by rw[f6,show p+(j+n-p)=j+n from ga (ax B)];show G z) λk hk=>?_
   rw[f6];show h1 _ (aw q<|kc _ _) (by simp[cy,c6]at *;lia)
  .rw[cw (by rw[cn];show se z _)];calc uZ λz'=>?_;let(c,D,e):=cE.mp z';rw[cn]at D;show h1 (p+c) ye (by simp[cy,c6]at *;lia) (by rw[<-f6,ae (by rw[cn];show D),e])
 have:=(acX (low:=j) (high:=j+n) q (ax B) hn J M).1
 rwa [show j+n-j=n by simp]at this
def uU {r w:ĵ}{R:AA}(q:Blk r w R){i c:ĵ}(hi:i<r)(D:c<w):(R.Í i [])[c]?=ĳ (cell R i c):=by
 let B:(R.Í i []).n=w:=by rw[ai,ae (by rw[q.len];show hi)];show q.gW _<|aI _
 unfold cell;rw[ai (l:=R.Í i []),ae (by simp_all)];rfl
def Yp {r w:ĵ}{R:AA}(q:Blk r w R){m c:ĵ}(hm:m<r):(dI R c)[m]?=ĳ (cell R m c):=by unfold dI cell;rw[ba,ai (l:=R),ae (by rw[q.len];show hm)];rfl
structure K9 (R ws:AA)(ts:Ĵ aR):Prop where
 mem:∀t∈ts,∀wy,wy<=1->1<(cH R t.1 t.2.1 wy).2.2.2.n->(cH R t.1 t.2.1 wy).2.2.2.Q PyProof.â.ě∈ws
 long:∃wy,wy<=1/\∀t∈ts,1<(cH R t.1 t.2.1 wy).2.2.2.n
def Sd (ts:Ĵ aR):gw ts<=1:=by unfold gw;split <;> decide
def K9.wd {aj ws:AA}{ts:Ĵ aR}(h:K9 (bf aj ts) ws ts)(ne:ts≠[]):aaM aj ws ts:=by
 let G:=Sd ts;constructor
 .let(wy,J,B):=h.long;cases ts with
  | nil=>show ń rb ne
  | cons a l=>
   calc List.ne_nil_of_mem (a:=qd (bf aj<|a::l) (a.1,a.2.1,wy))<|f7.Û %[ci ?_|am<|B a aS];by_cases z:wy=gw (a::l);.rw[z];show kQ _<|ar.Û %[0,a,yf|rb]
   .rw[show wy=1-gw (a::l) by grind];show cS _<|ar.Û %[0,a,aS|rb]
 .intro q D;let(D,B):=f7.mp D;let(a,ha,rfl):=ar.mp D;let B:=fI B;rcases a7.mp ha with z|z
  .let(t,F,rfl):=ar.mp z;show h.mem t (eL F) _ G B
  .let(t,F,rfl):=ar.mp z;show h.mem t F _ (nS _ _) B
section
variable {ws aj:AA}{r w:ĵ}{rk l:Ĵ ĵ}{i j:ĵ}{x:Ĵ aR}{hk:Ĵ (ĵ×ĵ)}
theorem qK.cell (A:qK ws aj r w rk l i j x)(D:Blk r w aj)(O:fP aj r w hk x){k:ĵ}(hk:k<l.n):PyProof.â.ě (cell (bf aj x) i<|j+k)=l.Í k 0:=by
 let J:∀t∈x,inB r w t:=λt q=>let %[a,b,_|d]:=O.ñ t q;%[a,b|d]
 let lj:=A.lj;by_cases z:atC aj r w i ((j+k:ĵ):ļ)=46
 .let(t,q,G,F,B):=A.Ĝ k hk z;have:=tR D J (xG O.rk) q;rw[G,F]at this;rw[this,B]
 .let hf:=A.fit k hk;unfold ji at hf;rw[al z,Bool.false_or,dP]at hf;rw[lC,<-Ew A.li (show j+k<w by lia)];.show hf
  .intro t q e;have:=(O.ñ t q).2.2.1;rw[e.1,e.2]at this;show z this
def qK.edge (A:qK ws aj r w rk l i j x){c:ĵ}(B:c<w)(h:c+1=j\/c=j+l.n):My.ñ (bf aj x) i c=46:=by
 let q:=A.ends;unfold m7 at q;simp only[df,dP]at q;rw[lC,<-Ew A.li B]
 .rcases h with h|h;.rw[<-q.1,show ((j:ĵ):ļ)-1=(c:ļ) by lia]
  .rw[<-q.2,show ((j:ĵ):ļ)+(l.n:ļ)=(c:ļ) by simp_all]
 .intro t D e;let(k,G,_,F,_):=A.back t D;lia
def qK.row (A:qK ws aj r w rk l i j x)(q:Blk r w aj)(O:fP aj r w hk x)(G:jo l){p:ĵ}(h1:j<=p)(D:p<j+l.n):(cH (bf aj x) i p 0).2.2.2.Q PyProof.â.ě=l:=by
 let L:∀t∈x,inB r w t:=λt J=>let %[a,b,_|d]:=O.ñ t J;%[a,b|d]
 let B:=gq q L;let lj:=A.lj;let Y:((bf aj x).Í i []).n=w:=by rw[ai,ae (by rw[B.len];show A.li)];show B.gW _<|aI _
 let e:(cH (bf aj x) i p 0).2.2.2=(((bf aj x).Í i []).Î j).Å l.n:=by
  show cC (((bf aj x).Í i []).Å p)++cN (((bf aj x).Í i []).Î p)=_;refine ac3 h1 D (by simp_all) (λc F M=>?_) (λz=>?_) λz=>?_
  .rw[uU B A.li (bq M lj)];intro z;have:=A.ñ q O (k:=c-j)<|b6 ye ye;rw[show j+(c-j)=c from ga F,bd z]at this;have:=G.az (l.Í (c-j) 0) (by rw[ai,ae ye];show aI _);unfold isLet at this;let N:PyProof.â.ě 46=46:=rfl;lia
  .rw[uU B A.li (jS ye),A.edge ye (.Â ye)]
  .rw[uU B A.li (by simp_all),A.edge ye (.Ó rb)]
 rw[e];apply ic;intro k;rw[ba,kM];split
 .rename_i hk;rw[f6,uU B A.li ye,lI,A.ñ q O hk,ai,ae hk];rfl
 .rw[c9 (by simp_all)];rfl
def ac4 {l:Ĵ ĵ}{k z:ĵ}(hk:k<l.n)(hz:z≠46):cC ((l.Ď k z).Å k)++cN ((l.Ď k z).Î k)=cC (l.Å k)++z::cN (l.Î<|k+1):=by
 let q:k<(l.Ď k z).n:=by rw[qr];show hk
 rw[List.take_set,s_ (by rw[a8];show on _ _),iq q,List.getElem_set_self,List.drop_set_of_lt (eQ _)];unfold cN;rw[List.takeWhile_cons,Ŀ (by simpa using hz)]
def qK.col (A:qK ws aj r w rk l i j x)(B:Blk r w aj)(O:fP aj r w hk x){t:aR}(q:t∈x)(D:1<(cH (bf aj x) t.1 t.2.1 1).2.2.2.n):(cH (bf aj x) t.1 t.2.1 1).2.2.2.Q PyProof.â.ě∈ws:=by
 let L:∀t∈x,inB r w t:=λt q=>let %[a,b,_|d]:=O.ñ t q;%[a,b|d]
 let J:=gq B L;let(k,k1,M,k3,k4):=A.back t q;let(c1,c2,_,G):=O.ñ t q;let N:(dI aj t.2.1).n=r:=by unfold dI;rw[aa,B.len]
 let Z:dI (bf aj x) t.2.1=(dI aj t.2.1).Ď t.1 t.2.2:=by
  apply ic;intro m;rw[rL];rcases fv m r with z|z
  .rw[Yp J z,Yp B z];split
   .rename_i e;subst e;rw[Ŀ (by simp_all),tR B L (xG O.rk) q]
   .rename_i e;rw[lC λu Y z=>e (by let(_,_,u2,_):=A.back u Y;simp_all)]
  .rw[c9 (by unfold dI;rw[aa,J.len];show z),ŀ ye,c9 (by simp_all)]
 let F:t.2.2≠46:=λz=>by rw[z]at G;show ń G (by unfold vL;decide)
 let e:(cH (bf aj x) t.1 t.2.1 1).2.2.2=cC ((dI aj t.2.1).Å t.1)++t.2.2::cN ((dI aj t.2.1).Î<|t.1+1):=by show cC ((dI (bf aj x) t.2.1).Å t.1)++cN ((dI (bf aj x) t.2.1).Î t.1)=_;rw[Z,ac4 ye F]
 let hm:PyProof.â.ě t.2.2∈mK ws (dI aj t.2.1) t.1:=by rw[M];show k4
 rw[e]at D ⊢;unfold mK at hm;rw[ŀ (by unfold cZ;rw[ay,bX]at D ⊢;rw[aa,aa];show ii D)]at hm;have:=fI (f7.mp hm).2;unfold cZ at this
 rwa [bg,b7]
def qK.run (A:qK ws aj r w rk l i j x)(D:Blk r w aj)(O:fP aj r w hk x)(hw:jo l)(J:l∈ws):K9 (bf aj x) ws x:=by
 let q:∀t∈x,(cH (bf aj x) t.1 t.2.1 0).2.2.2.Q PyProof.â.ě=l:=λt B=>by let(k,N,G,M,_):=A.back t B;rw[G];show A.row D O hw (by simp_all) (by simp_all)
 refine%[λt B wy L F=>?_,(0),yi|λt B=>?_]
 .rcases(show wy=0\/wy=1 by lia) with z|z;.subst z;rw[q t B];show J
  .subst z;show A.col D O B F
 .have:=Œ List.n<|q t B;have:=hw.lo;simp_all +arith
def qK.gap (A:qK ws aj r w rk l i j x)(D:Blk r w aj)(O:fP aj r w hk x)(hw:jo l){a b:aR}(ha:a∈x)(B:b∈x){p q:ĵ}(h1:a.1<=p)(J:p<=b.1)(M:a.2.1<=q)(L:q<=b.2.1):My.ñ (bf aj x) p q≠46:=by let(k,Z,Y,k3,_):=A.back a ha;let(m,N,m2,m3,_):=A.back b B;have:=A.ñ D O (k:=q-j)<|b6 ye ye;rw[show p=i by lia];intro z;rw[show j+(q-j)=q from ga ye,z]at this;let F:=hw.az (l.Í (q-j) 0) (by rw[ai,ae ye];show aI _);unfold isLet at F;let G:PyProof.â.ě 46=46:=rfl;lia
end
def Va {ws aj:AA}{r w bi bj:ĵ}{rk:Ĵ ĵ}(Z:Blk r w aj)(hw:∀l∈ws,jo l){x:Ĵ aR}(h:x∈qg ws aj r w bi bj rk):Yn r w aj bi bj ws rk x:=by
 rcases a7.mp h with z|z
 .let O:=mL hw z;let(l,J,i,j,A):=yP hw z;show%[O.rk,λt B=>(O.ñ t B).2.2.1,.Â<|let %[i|hi]:=O.row;%[0,i,hi|c_.mp O.col],λa ha b L p q h1 N h3 Y=>A.gap Z O (hw l J) (ve ha) (we L) h1 N h3 Y,O.hook,A.tiles|(A.run Z O (hw l J) J).wd O.ne]
 .let(y,hy,rfl):=ar.mp z;let G:=jd Z;let O:=mL hw hy;let(l,J,i,j,A):=yP hw hy;let D:=O.down Z;let M:∀t∈y,inB w r t:=λt B=>let %[a,b,_|d]:=O.ñ t B;%[a,b|d]
  let hB:=gq G M;let eT:bC (bf (bC aj w) y) r=bf aj (y.Q sw):=by
   have:=Kc G M O.rk (wP _) O.X3
   rwa [Yo Z]at this
  let R:=A.run G O (hw l J) J;refine%[D.rk,λt B=>(D.ñ t B).2.2.1,.Ó ?_,λa ha b L p q h1 N h3 Y=>?_,D.hook,by rw[cp];show A.tiles|K9.wd %[λt B wy zB m9=>?_|?_] D.ne]
  .let(i,hi):=O.row;calc%[0,i,λt B=>?_|c_.Û<|c_.mp O.col];let(u,F,rfl):=ar.mp B;show hi u F
  .let(u,F,rfl):=ar.mp (ve ha);let(v,hv,rfl):=ar.mp (we L);let c2:=(M v hv)
   rw[<-eT,oY hB (show q<w by have:=c2.1;show fR Y this) (show p<r by have:=c2.2.1;show fR N this)];show A.gap G O (hw l J) F hv h3 Y h1 N
  .let(u,F,rfl):=ar.mp B;let e:=Bf hB (M u F).1 (M u F).2.1<|nS 1 wy;rw[show 1-(1-wy)=wy from jn zB,eT]at e;let e:cH (bf aj<|y.Q sw) (sw u).1 (sw u).2.1 wy=R9 (cH (bf (bC aj w) y) u.1 u.2.1<|1-wy):=e;rw[e]at m9 ⊢;show R.mem u F _ (nS 1 wy) m9
  .let(wy,zB,m9):=R.long;calc%[0,1-wy,nS 1 wy|λt B=>?_];let(u,F,rfl):=ar.mp B;let e:=Bf hB (M u F).1 (M u F).2.1 zB;rw[eT]at e;rw[(show cH (bf aj<|y.Q sw) (sw u).1 (sw u).2.1 (1-wy)=R9 (cH (bf (bC aj w) y) u.1 u.2.1 wy) from e)];show m9 u F
def Vb {r w:ĵ}{R:AA}(q:Blk r w R){i j wy:ĵ}(hi:i<r)(G:j<w)(F:wy<=1)(B:cell R i j≠46):cZ (lineOf R i j (wy:ļ)) (placeOf i j (wy:ļ)) (PyProof.â.ě<|cell R i j)=(cH R i j wy).2.2.2.Q PyProof.â.ě:=by
 let hx:placeOf i j (wy:ļ)<(lineOf R i j (wy:ļ)).n:=by rw[jA q hi];rcases(show wy=0\/wy=1 by lia) with e|e <;> subst e <;> simpa [placeOf]
 let e:=Yj q (j:=j) hi hx;let D:cell R (rwo wy i<|placeOf i j (wy:ļ)) (clo wy j<|placeOf i j (wy:ļ))=cell R i j:=by rcases(show wy=0\/wy=1 by lia) with e|e <;> subst e <;> rfl
 rw[D]at e;show cZ _ _ _=(cC ((lineOf R i j (wy:ļ)).Å<|placeOf i j (wy:ļ))++cN ((lineOf R i j (wy:ļ)).Î<|placeOf i j (wy:ļ))).Q PyProof.â.ě;rw[iq hx,<-e];unfold cZ cN;rw[sk (by simpa using B),bg,b7]
def ac5 {ts:Ĵ aR}{i:ĵ}(ne:ts≠[])(h:∀t∈ts,t.1=i):gw ts=0:=by
 let g:∀o:ĸ aR,(∀t,o=ĳ t->t∈ts)->o≠ĺ->o.Q (·.1)=ĳ i:=λo m n=>by
  cases o with| none=>show ń rb n| some t=>show Œ ĳ<|h t<|m t rb
 unfold gw;rw[g _ (λt e=>ve<|Option.mem_def.Û e) (λe=>ne<|List.head?_eq_none_iff.mp e),g _ (λt e=>we e) (λe=>ne<|List.getLast?_eq_none_iff.mp e),Ŀ rfl]
theorem afd {α:Type}{f:α->ĵ}:∀{l:Ĵ α},l.Ä (λa b=>f a<f b)->l.head?.Q f=l.getLast?.Q f->∀a∈l,∀b∈l,a=b
 | [],_,_,a,ha,_,_=>by simp at ha
 | [c],_,_,a,ha,b,hb=>by rw[av.mp ha,av.mp hb]
 | c::d::l,hp,e,_,_,_,_=>by rw[List.getLast?_cons_cons]at e;let q:(d::l).getLast?=ĳ ((d::l).getLast yf):=wf yf;have:=(gp.mp hp).1 _<|List.getLast_mem (l:=d::l) yf;simp_all
def aaN {ws aj:AA}{r w bi bj:ĵ}{rk:Ĵ ĵ}(L:Blk r w aj)(hw:∀l∈ws,jo l){x:Ĵ aR}(h:x∈qg ws aj r w bi bj rk){t u:aR}(B:t∈x)(F:u∈x):(cH (bf aj x) t.1 t.2.1<|gw x).2.2.2.Q PyProof.â.ě=(cH (bf aj x) u.1 u.2.1<|gw x).2.2.2.Q PyProof.â.ě:=by
 rcases a7.mp h with z|z
 .let O:=mL hw z;let(l,M,i,j,A):=yP hw z;let q:∀t∈x,(cH (bf aj x) t.1 t.2.1 0).2.2.2.Q PyProof.â.ě=l:=λt B=>by
   let(k,Z,G,k3,_):=A.back t B;rw[G];show A.row L O (hw l M) (by simp_all) (by simp_all)
  let(i',hi):=O.row;rw[ac5 O.ne hi,q t B,q u F]
 .let(y,N,rfl):=ar.mp z;let D:=jd L;let O:=mL hw N;let(l,M,i,j,A):=yP hw N;let J:∀t∈y,inB w r t:=λt B=>let %[a,b,_|d]:=O.ñ t B;%[a,b|d]
  let eT:bC (bf (bC aj w) y) r=bf aj (y.Q sw):=by
   have:=Kc D J O.rk (wP _) O.X3
   rwa [Yo L]at this
  let q:∀t∈y,(cH (bf (bC aj w) y) t.1 t.2.1 0).2.2.2.Q PyProof.â.ě=l:=λt B=>by let(k,Z,G,k3,_):=A.back t B;rw[G];show A.row D O (hw l M) ye ye
  let Y:∀t∈y.Q sw,(cH (bf aj<|y.Q sw) t.1 t.2.1 1).2.2.2.Q PyProof.â.ě=l:=λt B=>by let(u,F,rfl):=ar.mp B;let e:=Bf (gq D J) (J u F).1 (J u F).2.1<|b5 1;rw[eT]at e;rw[(show cH (bf aj<|y.Q sw) (sw u).1 (sw u).2.1 1=R9 (cH (bf (bC aj w) y) u.1 u.2.1 0) from e)];show q u F
  by_cases c:(y.Q sw).head?.Q (·.1)=(y.Q sw).getLast?.Q (·.1)
  .rw[afd (show (y.Q sw).Ä (λa b=>a.1<b.1) from c_.Û<|c_.mp O.col) c t B u F]
  .rw[show gw (y.Q sw)=1 from ŀ c,Y t B,Y u F]
def Yq {ws aj:AA}{r w bi bj:ĵ}{rk:Ĵ ĵ}(L:Blk r w aj)(hw:∀l∈ws,jo l){x:Ĵ aR}(h:x∈qg ws aj r w bi bj rk)(s:Ĵ ĵ):(∃t∈x,∃wy,wy<=1/\1<(cH (bf aj x) t.1 t.2.1 wy).2.2.2.n/\s=(cH (bf aj x) t.1 t.2.1 wy).2.2.2.Q PyProof.â.ě)↔s∈(jD aj x).Q λq=>q.2.2.2.Q PyProof.â.ě:=by
 let F:=Sd x;let put:∀a∈rQ x,1<(qd (bf aj x) a).2.2.2.n->(qd (bf aj x) a).2.2.2.Q PyProof.â.ě∈(jD aj x).Q λq=>q.2.2.2.Q PyProof.â.ě:=λa ha G=>ar.Û %[0,_,f7.Û %[ci ha|am G]|rb];constructor
 .intro z;let(t,B,wy,M,G,rfl):=z;by_cases c:wy=gw x
  .cases hx:x with
   | nil=>rw[hx]at B;simp at B
   | cons a l=>
    let ha:a∈x:=by rw[hx];show aS
    let e:=aaN L hw h B ha;rw[<-c]at e;let el:=Œ List.n e;rw[aa,aa]at el;rw[<-hx,e];calc put (a.1,a.2.1,wy) (kQ _<|ar.Û %[0,a,by rw[hx];simp|by rw[c]]) ?_;show 1<(cH (bf aj x) a.1 a.2.1 wy).2.2.2.n;lia
  .show put (t.1,t.2.1,wy) (cS _<|ar.Û %[0,t,B|by rw[show wy=1-gw x by grind]]) G
 .intro z;let(q,J,rfl):=ar.mp z;let(J,D):=f7.mp J;let(a,ha,rfl):=ar.mp J;let D:=fI D;rcases a7.mp ha with z|z
  .let(t,B,rfl):=ar.mp z;show%[52,t,eL B,_,F,D|rb]
  .let(t,B,rfl):=ar.mp z;show%[52,t,B,_,nS _ _,D|rb]
def j9 (q:wA):Ĵ ĵ:=q.2.2.2.Q PyProof.â.ě
def gF (R:AA)(ts:Ĵ aR)(wy:ĵ):Ĵ (Ĵ ĵ):=(ts.Q λt=>j9<|cH R t.1 t.2.1 wy).ą λs=>ľ (1<s.n)
def Hq {R:AA}{ts:Ĵ aR}{wy n:ĵ}(hn:n<ts.n):gF R (ts.Å<|n+1) wy=gF R (ts.Å n) wy++if 1<(j9<|cH R ts[n].1 ts[n].2.1 wy).n then [j9 (cH R ts[n].1 ts[n].2.1 wy)] else []:=by
 unfold gF;rw[bu,ae hn,bg,fT];calc Œ _ ?_;show List.ą (λs=>ľ<|1<s.n) [j9 (cH R ts[n].1 ts[n].2.1 wy)]=_;by_cases c:1<(j9<|cH R ts[n].1 ts[n].2.1 wy).n;.simp[List.filter,c]
 .simp[List.filter,c]
def Bg (R:AA)(ts:Ĵ aR)(wy:ĵ):(gF R ts wy).n<=ts.n:=by
 have:=iL (λs:Ĵ ĵ=>ľ<|1<s.n)<|ts.Q λt=>j9<|cH R t.1 t.2.1 wy
 rwa [aa]at this
def afe:Sp:=λvs H Q _=>∃(p t:Addr) (as:Ĵ Ĺ) (ts:Ĵ aR) (R:AA) (r w wy:Nat),vs=[.C p,.C t,.R wy]/\H p=ĳ (.Ã<|Ts R)/\Blk r w R/\1<=r/\r<=9/\w<=9/\(∀l∈R,∀c∈l,zf c)/\H t=ĳ (.Ã<|as.Q V.C)/\cY H as ts/\ts.n<=7/\wy<=1/\
 (∀t∈ts,t.1<r/\t.2.1<w/\cell R t.1 t.2.1=t.2.2/\t.2.2≠46/\t.2.2<128)/\
 ∀(p':Ĺ) (H':Hp),aA H H'->H' p'=ĳ (.Ç<|Ts<|gF R ts wy)->Q (.C p') H'
def Sg (Gz:GG K mg):DF P w K mg base Gq 3 afe:=by
 calc Gz.bp'.cQ tH ?_;intro f bw A outer s H vs Q E hr h;let(p,t,as,ts,R,r,w,wy,rfl,hp,Y,r1,r9,w9,ro,ht,hL,h7,zB,cJ,q):=h;let O:=hL.Ċ;calc%[0,_,(aB (aZ (i:=3) tH.nd rb (Or.Â rb)<|dN aq)<|aB (cW b4 rb (fJ aW) (jV rb<|bO (bD (i:=4) tH.nd rb<|Or.Â rb)<|bO (bD (i:=5) tH.nd rb<|Or.Â rb)<|bO (bD (i:=6) tH.nd rb<|Or.Â rb) g_)<|aB (aZ (i:=7) tH.nd rb (Or.Â rb)<|aV (N5 Gz) hr.Ø rb<|ak aG<|ak bV<|ak cB<|ak bh<|ak (pC bv gr gt pH cM) aq)<|aD<|cg (bN aaT (aO cP yk Gz.c' bE<|ak gO aq) aC<|bR _) (aD<|dD<|dH c8 fh fk gQ bG<|ak gO aq) bI)<|aD<|aY bG)|?_];calc%[zsz 0|λF hF=>?_];refine%[2,t,rb,%[_|aM.of<|aA.è hF _ _ ht]|qp (K:=K) (a:=t) (xs:=as.Q V.C) (λn I H'=>∃N Z L M:ĸ V,I=[ĳ (.C p),ĳ (.C t),ĳ (.R wy),ĳ (.C F),N,Z,L,M]/\aA H H'/\H' F=ĳ (.Ç<|Ts<|gF R (ts.Å n) wy))
  %[21,ĺ,ĺ,ĺ,ĺ,rb,aA.è hF|au] (λn I H' _ h=>by let(_,_,_,_,_,D,_):=h;show aM.of<|D _ _ ht) ?_ ?_]
 .intro n x I H' hx z;let(N,Z,L,M,rfl,D,G):=z;let(hn,hx):=rfg hx;let B:n<ts.n:=ye
  subst hx;let(_,en):=jE (hL.mv D) B;let(h1,h2,h3,h4,J1):=cJ _ (aI B);calc%[1,as[n],_,rb,aM.of en|%[16,rb,_,_,rb|%[5,_,_|%[17,rb,_,_,rb,rb|?_]]]];calc%[44,rb,[ts[n].2.2],rb,rb,by show 1<=1000;decide,λe he=>by rw[av.mp he];show J1|%[5,p,R|%[57,r,w,ts[n].1,ts[n].2.1,PyProof.â.ě ts[n].2.2,wy,rb,D _ _ hp,Y|%[r1,r9,w9,ro,h1,h2,ye|?_]]]];let J:=Vb Y h1 h2 zB (by rw[h3];show h4);rw[h3]at J;rw[J];let hlq:(j9<|cH R ts[n].1 ts[n].2.1 wy).n<=20:=by unfold j9;rw[aa];show (Ow Y r9 w9 (j:=ts[n].2.1) (wy:=wy) h1)
  refine%[33,_,rb,ax<|aF<|show (j9<|cH R ts[n].1 ts[n].2.1 wy).n<=1000 from aw hlq (fz _ _),_,_,rb,rb|DK (λc=>?_) λc=>?_]
  .let c:1<(j9<|cH R ts[n].1 ts[n].2.1 wy).n:=by exact_mod_cast fI c
   let hrl:=Bg R (ts.Å n) wy;rw[a8]at hrl;calc%[10,.Â %[10,rb,_|aP.of G],F|%[12,_,_,rb,rb,G,by rw[aa];show aF ye|?_]];calc%[21,_,_,_,_,rb,D.bH hF|?_];rw[au,Hq B,Ŀ c,j7];rfl
  .let c:¬1<(j9<|cH R ts[n].1 ts[n].2.1 wy).n:=λz=>c<|am (by exact_mod_cast z)
   calc%[21,_,_,_,_,rb,D|?_];rw[Hq B,ŀ c,dS];show G
 .intro I H' z;let(N,Z,L,M,rfl,D,G):=z;rw[show (as.Q V.C).n=ts.n by rw[aa,O],b9]at G;show(q F H' D G)
def CG {r w:ĵ}{R:AA}(q:Blk r w R){i:ĵ}(hi:i<r):R[i]?=ĳ (R.Í i [])/\(R.Í i []).n=w:=by
 let h:i<R.n:=by rw[q.len];show hi
 rw[ai,ae h];show%[rb|q.gW _<|aI h]
def ac6 {r w:ĵ}{R:AA}(q:Blk r w R)(B:∀l∈R,∀c∈l,zf c){i j:ĵ}(hi:i<r)(D:j<w):zf (cell R i j):=B _ (a5 (CG q hi).1) _ (a5<|uU q hi D)
def afg:Sp:=λvs H Q _=>∃(p p2 t:Addr) (as:Ĵ Ĺ) (ts:Ĵ aR) (aj:AA) (r w:Nat),vs=[.C p,.C p2,.C t]/\H p=ĳ (.Ã<|Ts aj)/\H p2=ĳ (.Ã<|Ts<|bf aj ts)/\Blk r w aj/\1<=r/\r<=9/\w<=9/\(∀l∈aj,∀c∈l,zf c)/\H t=ĳ (.Ã<|as.Q V.C)/\cY H as ts/\ts.n<=7/\(∀t∈ts,inB r w t)/\
 ∀H',aA H H'->Q (.bl ķ) H'
open Classical in
def ac7 (Gz:GG K mg):DF P w K mg base Gr 3 afg:=by
 calc Gz.bq'.cQ qH ?_;intro f bw A outer s H vs Q E hr h;let(p,p2,t,as,ts,aj,r,w',rfl,hp,hp2,M,r1,r9,w9,ro,ht,hL,h7,cJ,q):=h;let hal:=hL.Ċ;let hu:=BR hr;let hB:=gq M cJ;let roB:=yI M cJ ro;calc%[0,_,(aB (aZ (i:=3) qH.nd rb (Or.Â rb) Mf)<|aB (cW b4 rb (fJ bh) (jV rb<|bO (bD (i:=4) qH.nd rb<|Or.Â rb)<|bO (bD (i:=5) qH.nd rb<|Or.Â rb)<|bO (bD (i:=6) qH.nd rb<|Or.Â rb) g_)<|aD<|BP hu bG (cI<|ak bV<|ak cB aq) cM rb)<|aB (cW b4 rb (jr yk Gz.h'<|ak (aO cu yk Gz.c' bE<|ak aG aq) aq) (bD (i:=4) qH.nd rb<|Or.Â rb)<|aD<|cW b4 rb (jr yk Gz.h'<|ak (aO cP yk Gz.c' bE<|ak (bB bY aG aC λ_ _=>rfl) aq) aq) (bD (i:=5) qH.nd rb<|Or.Â rb)<|aD<|cg (bN (Fx hr.Þ) (bB vR (bB bY aW bV λ_ _=>rfl) cB λ_ _=>rfl) (Zm hu bG (cI<|ak bV<|ak cB aq) (bB vR (bB bY aG bV λ_ _=>rfl) cB λ_ _=>rfl) %[rb,rb,rb|rb])<|bR _) (aD<|aY fL) bI)<|aD<|aY fL)|?_];intro F hF;refine%[2,t,rb,%[_|aM.of<|aA.è hF _ _ ht]|qp (K:=K) (a:=t) (xs:=as.Q V.C) (λn I H'=>∃(L B D:ĸ V) (kvs:Ĵ (Ĵ Key×V)),I=[ĳ (.C p),ĳ (.C p2),ĳ (.C t),ĳ (.C F),L,B,D]/\aA H H'/\H' F=ĳ (.dT kvs)/\kvs.n<=n/\∀i j,i<r->j<w'->(fO kvs<|lK (i,j)).Í (.À<|S [cell aj i j])=.À (S [cell (bf aj<|ts.Å n) i j]))
  %[6,ĺ,ĺ,ĺ,[],rb,aA.è hF,au,ah _|λi j _ _=>rfl] (λn I H' _ h=>by let(_,_,_,_,_,G,_):=h;show aM.of<|G _ _ ht) ?_ ?_]
 .intro n x I H' hx z;let(L,B,D,kvs,rfl,G,dX,hkl,J):=z;let(hn,hx):=rfg hx;let O:n<ts.n:=ye
  subst hx;let(_,en):=jE (hL.mv G) O;calc%[1,as[n],_,rb,aM.of en|%[16,rb,_,_,rb|%[5,_,_|%[17,rb,_,_,rb,rb|?_]]]];calc%[zsz 2|λg hg=>?_];let Z:aA H' (upd H' g<|HO.Ã [.R (ts[n].1:ļ),.R (ts[n].2.1:ļ)]):=aA.è hg;calc%[1,F,_,rb,t_.t (k:=lK (bM ts[n])) (Z _ _ dX) au<|aF ye|?_];calc%[6,_,_,_,putK kvs (lK<|bM ts[n]) _,rb,(G.Z Z).bH hF,au,aw (RK _ _ _)<|ja hkl|λi j hi Y=>?_];let hb3:=gq M λy hy=>cJ y<|eL (i:=n) hy;let(i1,i2,_):=cJ _ (aI O);rw[Lx,bu,ae O];show (if _ then _ else _:ĸ V).Í _=V.À (S [cell (bf aj<|ts.Å n++[ts[n]]) i j]);rw[J0];by_cases z:ts[n].1=i/\ts[n].2.1=j
  .let(rfl,rfl):=z;rw[Ŀ (show lK (ts[n].1,ts[n].2.1)=lK (bM ts[n]) from rb),set_same hb3 i1 i2];rfl
  .rw[ŀ (λe=>z (by let e:=N_ e;show%[(Œ Prod.fst e).Ù|(Œ Prod.snd e).Ù])),Ka z];show J i j hi Y
 .intro I H' z;let(L,B,D,kvs,rfl,G,dX,hkl,J):=z;rw[show (as.Q V.C).n=ts.n by rw[aa,hal],b9]at J;let iZ:(Ts aj).n=r:=by rw[aa,M.len]
  let(g0,l0):=CG M (show 0<r from r1);let at0:ju (Ts aj) 0=ĳ (.À<|S<|aj.Í 0 []):=aQ (j:=0)<|jh g0;calc%[1,p,_,rb,.Ó<|aM.of<|G _ _ hp|%[11,_,rb,by rw[iZ];show cz _,by rw[iZ];lia|?_]];rw[iZ,b3];refine iH (lo:=0) (n:=r) (λi I H2=>∃L B D:ĸ V,I=[ĳ (.C p),ĳ (.C p2),ĳ (.C t),ĳ (.C F),L,B,D]/\aA H' H2) %[26,_,_,_,rb|aA.Ğ _] ?_ ?_
  .intro i I H2 hi z;let(L,B,D,rfl,s2):=z;calc%[25,p,_,_,_,rb,rb,aM.of<|s2 _ _<|G _ _ hp|%[23,at0,_,rb,ax<|aF (by rw[l0];lia)|%[11,_,rb,by rw[l0];show cz _,by rw[l0];lia|?_]]];rw[l0,b3];refine iH (lo:=0) (n:=w') (λj I H3=>∃B D:ĸ V,I=[ĳ (.C p),ĳ (.C p2),ĳ (.C t),ĳ (.C F),ĳ (.R<|0+(i:ļ)),B,D]/\aA H' H3) %[3,_,_,rb|s2] ?_ ?_
   .intro j I H3 Y z;let(B,D,rfl,N):=z;let(gA,lA):=CG hB hi;let(gB,lB):=CG M hi;let atA:ju (Ts<|bf aj ts) (0+(i:ļ))=ĳ (.À<|S<|(bf aj ts).Í i []):=by rw[ng];show aQ<|jh gA
    let atB:ju (Ts aj) (0+(i:ļ))=ĳ (.À<|S<|aj.Í i []):=by rw[ng];show aQ<|jh gB
    let acA:ju ((bf aj ts).Í i []) (0+(j:ļ))=ĳ (cell (bf aj ts) i j):=by rw[ng];show aQ<|uU hB hi Y
    let acB:ju (aj.Í i []) (0+(j:ļ))=ĳ (cell aj i j):=by rw[ng];show aQ<|uU M hi Y
    calc%[6,p2,_,_,_,rb,rb,aM.of<|N _ _<|G _ _ hp2,atA|%[7,_,_,_,rb,rb,ax<|aF (by rw[lA];lia),acA|?_]];calc%[11,F,rb,.Ó %[kvs|.Â<|N _ _ dX],zsz 2|λg hg=>?_];let Z:aA H3 (upd H3 g<|HO.Ã [.R (0+(i:ļ)),.R (0+(j:ļ))]):=aA.è hg;calc%[6,p,_,_,_,rb,rb,aM.of<|Z _ _<|N _ _<|G _ _ hp,atB|%[7,_,_,_,rb,rb,ax<|aF (by rw[lB];lia),acB|?_]];calc%[0,_,pD.t (k:=lK (i,j)) (Z _ _<|N _ _ dX) (by rw[au,ng,ng];rfl)|?_];rw[J i j hi Y];let c1:=GC<|ac6 hB roB hi Y;calc%[8,0,_,_,yi,fX.À _ (λc hc=>by rw[av.mp hc];show c1),fX.À _ (λc hc=>by rw[av.mp hc];show c1)|aU _ rb ?_];rw[Ŀ rb,am rfl];show bK %[3,_,_,rb|N.Z Z]
   .intro I H3 z;let(B,D,rfl,N):=z;show%[26,_,_,_,rb|N]
  .intro I H2 z;let(L,B,D,rfl,s2):=z;show q H2<|G.Z s2
theorem fV.ofT {H:Hp}:∀{ls:AA},(∀l∈ls,∀c∈l,c<128)->fV K H 0 (ls.Q Dt.À) (Ts ls)
 | [],_=>.Ü
 | l::ls,h=>.Ð (.À l<|h l aS) (fV.ofT λx hx=>h x<|aE _ hx)
theorem O9 {α:Type} [Ŏ α]:∀{us ws:Ĵ α},us.Ý->(∀l∈us,l∈ws)->us.n<=ws.n
 | [],_,_,_=>b5 _
 | a::us,ws,nd,h=>by let ha:=h a aS;have:=O9 (us:=us) (ws:=ws.ý a) (gu.mp nd).2 λl q=>(List.mem_erase_of_ne λe=>(gu.mp nd).1 (by rw[<-e];show q)).Û<|h l<|aE _ q;rw[pE ha]at this;have:=re ha;rw[bX];lia
def take_snoc {α:Type}{l:Ĵ α}{i:ĵ}{x:α}(h:l[i]?=ĳ x):l.Å (i+1)=l.Å i++[x]:=by rw[bu,h];rfl
def ac8 (C D:Ĺ):Sp:=λvs H Q _=>∃(b q k d B t:Addr) (us ws:AA) (jK:Ĵ ĵ) (as:Ĵ Ĺ) (ts:Ĵ aR) (r w:Nat) (aj aH:AA) (bi bj:Nat),vs=[.C b,.C q,.C k,.C B,.À (S jK),.C t]/\Oz C H b t as ts r w aj aH bi bj/\dj C H q r w (bf aj ts) aH bi bj/\j8 D H k d us/\H B=ĳ (.Ç<|Ts ws)/\(∀x,x∈us↔x∈ws)/\jK.n<=63/\ts∈qg us aj r w bi bj jK/\
 ∀H',aA H H'->Q (.bl ķ) H'
open Classical in
def aaO (G:GG K mg):DF P w K mg base Cu 16 (ac8 G.b' G.d'):=by
 calc G.br'.cQ Eh ?_;(intro f bw A outer s H vs Q E hr h);let(b,b2,k,d,pw,t,us,ws,jK,as,ts,r,w',aj,aH,bi,bj,rfl,O,B2,BK,hpw,hmem,h63,hx,q):=h;let J:=O.B.ok;let hb:=J.br;let N:=Va hb BK.az hx;let hB:=gq hb O.qm;let roB:=yI hb O.qm J.cr;let rt:=Yq hb BK.az hx;calc%[0,_,(aB (cg (QW.qt<|qL (bN abk (aV (Ho G) hr.Ø rb<|ak aG<|ak bh<|ak bV<|ak cB aq) adh<|bR _)<|nC<|eV<|dw<|aV (ac7 G) hr.Ø rb<|ak (dF aG rb)<|ak (dF aW rb)<|ak cB aq) (aD<|aY fL) bI)<|aB (aZ (i:=6) Eh.nd rb (Or.Â rb)<|aO ug yk G.l' fm<|ak (eX (ns:=["_law_row","_law_column","_law_way","_law_signs"]) rb (fu.of ["_law_board","_law_after","_law_book","_law_words_here","_law_rack","_law_laying","_law_told","_law_runs_here"] [] ym) (fJ<|aV (J_ G) hr.Ø rb<|ak aG<|ak cB aq) (λ_ _ _ _ _=>(abK K rb (show (["_law_row","_law_column","_law_way","_law_signs","_law_board","_law_after","_law_book","_law_words_here","_law_rack","_law_laying","_law_told","_law_runs_here"]:Ĵ Ŋ).Ý by decide +kernel) rb rb rb rb yk yk yk yk)) (λ_ _ _ _ _=>cF) λ_ _ _ _ _=>(Q6 K bv gr gt pH bG)) aq)<|aB (cg (bN (Fx hr.Þ) (eX (ns:=["_law_word"]) rb (fu.of ["_law_board","_law_after","_law_book","_law_words_here","_law_rack","_law_laying","_law_told","_law_runs_here"] [] ym) (dh cM) (λ_ _ _ _ _=>(tE (show (["_law_word","_law_board","_law_after","_law_book","_law_words_here","_law_rack","_law_laying","_law_told","_law_runs_here"]:Ĵ Ŋ).Ý by decide +kernel) rb yk)) (λ_ _ _ _ _=>(BW<|bN (Kg K) aG bV rb)) λ_ _ _ _ _=>aG) (dN aq)<|bR _) (aD<|aY fL) bI)<|aB (aZ (i:=7) Eh.nd rb (Or.Â rb)<|aN VB (aV (Sg G) hr.Ø rb<|ak (dF aW rb)<|ak cB<|ak aC aq)<|aV (Sg G) hr.Ø rb<|ak (dF aW rb)<|ak cB<|ak aC aq)<|aD<|aY<|gC (V3 hr.Þ) (aO (vg w rb) yk G.l' fm<|ak (c7 (Dh w rb) yk G.y' u8<|ak gO aq) aq) (aO (vg w rb) yk G.l' fm<|ak (c7 (Dh w rb) yk G.y' u8<|ak cM aq) aq)<|bR _)|?_];calc%[5,b,k|%[5,d,t|%[9,us,jK,as|%[39,ts,r,w',aj,aH,bi,bj,rb,O,BK,h63,N|λH1 s1=>%[rb|aU _ rb<|bK ?_]]]]];let O1:=O.mv s1;let B21:=B2.mv s1;let(dx,pr,pm,pb,ex,err,_,_):=id O1.B.ex;let(dx2,pr2,Dg,pb2,Rw,aaP,_,_):=id B21.ex;calc%[13,b,G.b',dx,_,_,rb,ex,G.a'.cl,G.a'.nr,rb|%[32,b2,G.b',dx2,_,_,rb,Rw,G.a'.cl,G.a'.nr|%[10,rb,pr|%[24,pr2,t,as,ts,aj,r,w',rb,err|%[aaP,hb,J.r1,J.r9,J.w9,J.cr,O1.tp,O1.L,O.le,O.qm|λH2 s2=>?_]]]]];calc(aU _ rb<|bK ?_);let RZ:=s1.Z s2;let O2:=O.mv RZ;let RW:∀q∈jD aj ts,q.2.2.2.n<=9/\∀c∈q.2.2.2,c<128:=λq hq=>by have:=BK.az _<|N.wd.mem q hq;show%[by have:=this.hi;rwa [aa]at this|λc hc=>abh<|this.az _<|ci hc]
 let hW8:(jD aj ts).n<=8:=by calc aw (iL ..) ?_;rw[aa];unfold rQ;rw[ay,aa,aa,a8];have:=O.le;lia
 let hWs:∀q∈jD aj ts,j9 q∈us:=N.wd.mem;calc%[36,b,t,as,ts,r,w',aj,aH,bi,bj,rb,O2.B,O2.tp|%[O2.L,O2.qm,O2.pos,O2.le,N.line.one|λT1 b1 H3 s3 hT1 RX=>?_]];let rt:∀s,(∃t∈ts,∃wy,wy<=1/\1<(cH (bf aj ts) t.1 t.2.1 wy).2.2.2.n/\s=j9 (cH (bf aj ts) t.1 t.2.1 wy))↔s∈(jD aj ts).Q j9:=rt;generalize hW:jD aj ts=W at RX RW hW8 hWs rt;let gG:=RX.Ċ;refine%[2,T1,rb,%[_|aM.of hT1]|λM hM=>TQ (K:=K) (KT:=K) (a:=T1) (f:=eF [] 0) (tt:=gb) (te:=YH K "str" adV (eG 3)) (xs:=b1.Q V.C) (λn ys H'=>ys=Ts ((W.Å n).Q j9)/\H' M=ĳ (.Ç ys)/\aA H3 H')
  %[rb,au|aA.è hM] (λn ys H' _ h=>aM.of<|h.2.2 _ _ hT1) ?_ ?_]
 .intro n x ys H' D z;let(rfl,hM',sm):=z;let(hn,D):=rfg D;let R6:n<W.n:=ye;let(h9,hlt):=RW _ (aI R6);calc afL D.Ù (aM.of ((RX.mv sm).č n _ _ (ae hn)<|ae R6)) ?_;calc%[10,rb,W[n].2.2.2|%[rb,rb,aw h9<|fz _ _,hlt,hM',?_|dz.mk (by rw[aa];show hn) %[?_,au|sm.bH hM]]];.rw[aa,aa,a8];show aF ye
  .rw[take_snoc (ae R6),bg,j7];rfl
 .intro ys H4 z;let(rfl,RT,s4):=z;rw[aa,gG,b9]at RT;calc%[4,M,W.Q j9,rb,aP.of RT,by rw[aa];lia|λpt tl hpt pm so=>?_];let s24:=s3.Z s4;let k5:aA H4 (upd H4 pt<|HO.Ç<|Ts tl):=aA.è hpt;let e5:upd H4 pt (HO.Ç<|Ts tl) pt=ĳ (.Ç<|Ts tl):=au;generalize upd H4 pt (HO.Ç<|Ts tl)=H5 at k5 e5 ⊢;let s05:=RZ.Z<|s24.Z k5;let htl:∀l∈tl,l∈us:=λl B=>by
   let(q0,hq0,rfl):=ar.mp (pm.õ.mp B);show hWs q0 hq0
  let htn:tl.n<=8:=by rw[pm.length_eq,aa];show hW8
  let flW:(Ts ws).ė pB=ķ:=by rw[fE];intro v hv;let(l,_,rfl):=ar.mp hv;rfl
  refine%[2,pt,rb,%[_|aP.of e5]|λL hL=>vU (K:=K) (a:=pt) (f:=eF [] 0) (tt:=SM (wD (rIn K ķ) (eG 0)<|eG 4)) (te:=eG 0) (xs:=Ts tl) (λn ys H'=>ys=[]/\H' L=ĳ (.Ç [])/\aA H5 H')
   %[rb,au|aA.è hL] (λn ys H' _ h=>aP.of<|h.2.2 _ _ e5) ?_ ?_]
  .intro n x ys H' D z;let(rfl,hL',sm):=z;let(l,B,rfl):=nO D;calc%[12,pw,Ts ws,rb,.Â<|aP.of<|sm _ _<|s05 _ _ hpw,rb,flW|aU _ rb ?_];rw[Xo,am ((hmem l).mp<|htl l<|a5 B)];show bK<|dz.mk ((ap.mp D).1) %[rb,hL'|sm]
  .intro ys H6 z;let(rfl,lE,s6):=z;calc%[zsz 0|λZ hZ=>?_];let k7:aA H6 (upd H6 Z<|HO.Ç []):=aA.è hZ;calc%[8,2,.Ç [],.Ç [],yi,.Ç (aP.of<|k7 _ _ lE) .Ü,.Ç (aP.of au) .Ü|aU _ rb ?_];rw[am rfl];calc bK ?_;let Ou:=s6.Z k7;generalize upd H6 Z (HO.Ç [])=H7 at k7 Ou ⊢;let R7:=s05.Z Ou;let cJ:∀t∈ts,t.1<r/\t.2.1<w'/\cell (bf aj ts) t.1 t.2.1=t.2.2/\t.2.2≠46/\t.2.2<128:=λt F=>by
    let(i1,i2,i3):=O.qm t F;let Dq:t.2.2≠46:=λz=>by rw[z]at i3;show ń i3 (by unfold vL;decide)
    show%[i1,i2,tR hb O.qm (xG N.rk) F,Dq|i3.lt]
   let x2:aA H1 H7:=s2.Z<|(s24.Z k5).Z Ou;let O7:=O.mv R7;calc%[32,b2,G.b',dx2,_,_,rb,x2 _ _ Rw,G.a'.cl,G.a'.nr|%[10,rb,pr2|%[24,t,as,ts,bf aj ts,r,w',0,rb,x2 _ _ aaP|%[hB,J.r1,J.r9,J.w9,roB,O7.tp,O7.L,O.le,yi,cJ|λp1 H8 s8 hp1=>?_]]]];let O8:=O7.mv s8;calc%[32,b2,G.b',dx2,_,_,rb,s8 _ _<|x2 _ _ Rw,G.a'.cl,G.a'.nr|%[10,rb,pr2|%[24,t,as,ts,bf aj ts,r,w',1,rb,s8 _ _<|x2 _ _ aaP|%[hB,J.r1,J.r9,J.w9,roB,O8.tp,O8.L,O.le,yi,cJ|λp2 H9 s9 hp2=>?_]]]];let le0:=Bg (bf aj ts) ts 0;let le1:=Bg (bf aj ts) ts 1;let h7:=O.le;calc%[18,p1,p2,_,_,rb,rb,s9 _ _ hp1,hp2,by rw[aa,aa];show ax<|aF ye|λp3 hp3=>?_];let kA:aA H9 (upd H9 p3<|HO.Ç<|Ts (gF (bf aj ts) ts 0)++Ts (gF (bf aj ts) ts 1)):=aA.è hp3;let eA:upd H9 p3 (HO.Ç<|Ts (gF (bf aj ts) ts 0)++Ts (gF (bf aj ts) ts 1)) p3=ĳ (.Ç<|Ts<|gF (bf aj ts) ts 0++gF (bf aj ts) ts 1):=by rw[au];unfold Ts;rw[bg]
   generalize upd H9 p3 (HO.Ç<|Ts (gF (bf aj ts) ts 0)++Ts (gF (bf aj ts) ts 1))=HA at kA eA ⊢;let hRl:(gF (bf aj ts) ts 0++gF (bf aj ts) ts 1).n<=14:=by rw[ay];lia
   let hRm:∀s,s∈gF (bf aj ts) ts 0++gF (bf aj ts) ts 1↔s∈W.Q j9:=λs=>by
    rw[<-rt s,a7];let g:∀wy,s∈gF (bf aj ts) ts wy↔∃t∈ts,1<(cH (bf aj ts) t.1 t.2.1 wy).2.2.2.n/\s=j9 (cH (bf aj ts) t.1 t.2.1 wy):=λwy=>by
     unfold gF;rw[f7,ar,decide_eq_true_iff];constructor
     .rintro⟨⟨t,F,rfl⟩,B⟩;unfold j9 at B;rw[aa]at B;show%[2,t,F,B|rb]
     .intro z;let(t,F,B,rfl):=z;calc%[%[0,t,F|rb]|?_];unfold j9;rw[aa];show B
    rw[g 0,g 1];constructor
    .rintro(⟨t,F,B,e⟩|⟨t,F,B,e⟩);.show%[52,t,F,0,yi,B|e]
     .show%[52,t,F,1,yi,B|e]
    .intro z;let(t,F,wy,zB,B,e):=z;rcases(show wy=0\/wy=1 by lia) with z|z;.subst z;show .Â %[2,t,F,B|e]
     .subst z;show .Ó %[2,t,F,B|e]
   generalize gF (bf aj ts) ts 0++gF (bf aj ts) ts 1=R2 at eA hRl hRm;let s7A:=(s8.Z s9).Z kA;let eT:=s7A _ _ (Ou _ _ e5);calc%[4,p3,R2,rb,aP.of eA,ye|λS1 hS1=>%[7,S1,R2,_,rb,au,ye,λvs nd hv=>by have:=O9 nd hv;lia|λq1 w1 hq1 n1 m1 o1=>?_]];let kB:aA HA (upd (upd HA S1<|.ext<|iB w S1 R2 R2.n) q1<|HO.Ç<|Ts w1):=(aA.è hS1).Z<|aA.è hq1;let eB:upd (upd HA S1<|.ext<|iB w S1 R2 R2.n) q1 (HO.Ç<|Ts w1) q1=ĳ (.Ç<|Ts w1):=au;generalize upd (upd HA S1<|.ext<|iB w S1 R2 R2.n) q1 (HO.Ç<|Ts w1)=HB at kB eB ⊢;calc%[4,pt,tl,rb,aP.of<|kB _ _ eT,ye|λY hS2=>%[7,Y,tl,_,rb,au,ye,λvs nd hv=>by have:=O9 nd hv;lia|λq2 w2 hq2 n2 m2 o2=>?_]];let kC:aA HB (upd (upd HB Y<|.ext<|iB w Y tl tl.n) q2<|HO.Ç<|Ts w2):=(aA.è hS2).Z<|aA.è hq2;let eC:upd (upd HB Y<|.ext<|iB w Y tl tl.n) q2 (HO.Ç<|Ts w2) q2=ĳ (.Ç<|Ts w2):=au;generalize upd (upd HB Y<|.ext<|iB w Y tl tl.n) q2 (HO.Ç<|Ts w2)=HC at kC eC ⊢;let e12:w1=w2:=up_eq (RB o1 n1) (RB o2 n2) λx=>by rw[m1,m2,hRm,pm.mem_iff]
   let Jy:∀l∈w2,∀c∈l,c<128:=λl B c hc=>by have:=BK.az _<|htl l<|(m2 l).mp B;have:=this.az c hc;unfold isLet at this;lia
   subst e12;calc%[8,1,.Ç<|w1.Q Dt.À,.Ç<|w1.Q Dt.À,yi,.Ç (aP.of<|kC _ _ eB)<|fV.ofT Jy,.Ç (aP.of eC)<|fV.ofT Jy|?_];rw[ŀ yi,am rfl];show q HC<|R7.Z<|s7A.Z<|kB.Z kC
theorem Yr:∀(ls rk:Ĵ ĵ),(fK ls rk).n<=2^rk.n
 | [],rk=>Nat.one_le_two_pow
 | c::ls,rk=>by
  let g:∀d∈rk,(fK ls<|rk.ý d).n*2<=2^rk.n:=λd hd=>by
   let h1:=Yr ls<|rk.ý d;rw[pE hd]at h1;let q:=re hd;obtain⟨n,e⟩:∃n,rk.n=n+1:=%[rk.n-1|ye]
   rw[e,kK];rw[e]at h1;show ke 2 h1
  let h1:=g c;let q:=g 63;generalize 2^rk.n=P at h1 q ⊢;unfold fK;rw[ay];split
  .rename_i a;have:=h1 a;split
   .rename_i b;have:=q b;simp only[aa];lia
   .simp only[aa,om];lia
  .split
   .rename_i b;have:=q b;simp only[aa,om];lia
   .simp
def all_congr {ws us aj:AA}{r w bi bj:ĵ}{rk:Ĵ ĵ}(h:∀x,x∈us↔x∈ws)(x:Ĵ aR):x∈qg us aj r w bi bj rk↔x∈qg ws aj r w bi bj rk:=by
 let D:∀l k,mK us l k=mK ws l k:=λl k=>by
  unfold mK;split;.rfl
  .show Œ (λf=>AL.ą f)<|funext λc=>ph.Û<|h _
 let F:∀aj,jJ us aj=jJ ws aj:=λaj=>funext λc=>D _ _;let B:∀(hk:Ĵ (ĵ×ĵ)) (aj:AA) (r w:ĵ) (x:Ĵ aR),x∈fH us hk aj r w rk us↔x∈fH ws hk aj r w rk ws:=λhk aj r w x=>by unfold fH;rw[F,cx,cx];show%[λzq=>by let(l,h1,q):=zq;exact %[0,l,(h l).mp h1|q]|λ⟨l,h1,q⟩=>%[0,l,(h l).Û h1|q]]
 unfold qg;rw[a7,a7,B,ar,ar];simp only[B]
def ahl (l:Ĵ ĵ):(mD l (ĳ<|-3) ĺ).n<=3/\∀c∈mD l (ĳ<|-3) ĺ,c∈l:=by
 calc%[?_|λc h=>kR<|eL h];let e:=HT.Br (n:=l.length) (-3) 0;unfold mD;have:((HT.cL l.n 0 (ĳ<|-3):ĵ):ļ)=max 0 (min (-3+(l.n:ļ)) l.n):=by rw[<-e];split <;> grind
 (simp[cy,c6]at *;lia)
def Ys (b:œ)(c:ĵ):ju [V.À (S [c]),V.À (S [63])] (if b=ķ then 1 else 0)=ĳ (.À<|S [if b=ķ then 63 else c]):=by
 cases b;.show aQ (j:=0) rfl
 .show aQ (j:=1) rfl
open Classical in
def afh (D:GG K mg)(F:rD K "law" "law" Ur f fd):qM P w K mg base qj 18 f fd ["_law_script"] (Tn K):=by
 refine F.agI jc rb (λvs H Q E h=>?_) λbw A outer s H vs Q E J h=>?_
 .let(a,ns,rfl,_):=h;rfl
 .let(a,ns,rfl,hS,hn,q):=h;let hz:∀n,n<=100->n<=Ń:=λn h=>ax<|aF ye;calc%[0,_,(aB (aZ (i:=1) jc.nd rb (Or.Â rb)<|aV (Ut D) J.Ø rb<|ak aG<|ak aC aq)<|aB (aZ (i:=2) jc.nd rb (Or.Â rb)<|aV (Qd D) J.Ø rb<|ak aW<|ak aG<|ak aC<|ak (aN cT aC<|aN dM (aV (vJ D) J.Ø rb<|ak aG<|ak aC aq) aC) aq)<|aB (aZ (i:=3) jc.nd rb (Or.Â rb)<|Bq (D.t'.mks D.J') (acs D) J.Ø rb D.I' D.t'.b .Ü f9<|ak bh aq)<|aB (aZ (i:=4) jc.nd rb (Or.Â rb)<|aV (Ky D) J.Ø rb<|ak aG aq)<|aB (aZ (i:=5) jc.nd rb (Or.Â rb)<|b_ [] yn)<|aB (cW b4 rb (zK yk D.h'<|ak aC<|ak (aO (Vo rb) yk D.L' PyProof.â.boot_min<|ak (aO (Vn rb) yk D.M' PyProof.â.boot_max<|ak (aO cu yk D.c' bE<|ak aG aq)<|ak aC aq)<|ak aC aq) aq) (bD (i:=6) jc.nd rb<|Or.Â rb)<|aB (aZ (i:=7) jc.nd rb (Or.Â rb)<|aV (vK D) J.Ø rb<|ak aG<|ak cM<|ak aC<|ak aC aq)<|aB (rF<|aZ (i:=8) jc.nd rb (Or.Â rb)<|bB iR (dN<|ak (bB iR aW (aN dM (aN iM (bB iR gO aC λ_ _=>rfl) aC)<|aO cu yk D.c' bE<|ak aW aq) λ_ _=>rfl)<|ak (b_ [63] yn) aq) (c7 Vp yk D.A' PyProof.â.boot_int<|ak (nD (gC kE (aN dM (bB iR gO aC λ_ _=>rfl) aC) aC<|bR _)<|mj<|gC Wr (b_ [63] yn) cB rb) aq) λ_ _=>rfl)<|aB (aZ (i:=5) jc.nd rb (Or.Â rb)<|iW Hw (aN lG cB jO) (iQ<|Sx Li aC) mR)<|aD<|cg (bN kE (aN dM cM aC) aC<|bR _) (aB (aZ (i:=9) jc.nd rb (Or.Â rb)<|aV (Iz D) J.Ø rb<|ak bV<|ak bG<|ak cB aq)<|aB (cg (bN (Fx J.Þ) nQ (aV (ae5 D) J.Ø rb<|ak (dF bV rb)<|ak (dF bV rb)<|ak bh<|ak cB aq)<|bR _) (aD<|aY fL) bI)<|aD<|cg (bN (Fx J.Þ) nQ (cI aq)<|bR _) (aB (aZ (i:=10) jc.nd rb (Or.Â rb)<|bB bY nQ (aN dM (aN iM (aV (vJ D) J.Ø rb<|ak aG<|ak cM aq) aC)<|aO cu yk D.c' bE<|ak nQ aq) λ_ _=>rfl)<|aB (aZ (i:=11) jc.nd rb (Or.Â rb)<|gZ bV D.a'.cl D.k'.m (Cw D) J.Ø D.k'.b .Ü f9<|ak (qv 10) aq)<|aB (cg (eV<|dw<|aV (aaO D) J.Ø rb<|ak bV<|ak (qv 11)<|ak bG<|ak bh<|ak cB<|ak (qv 10) aq) (aD<|aY fL) bI)<|aB (aZ (i:=4) jc.nd rb (Or.Â rb)<|qv 11)<|aD<|aZ (i:=5) jc.nd rb (Or.Â rb)<|b_ [] yn) bI) bI)<|aD<|aY fL)|?_];calc%[8,a,ns,0,rb,hS,yi|λpl ls H1 s1 hpl hA=>?_];let hlo:(Ts<|ones ls).n=ls.n:=by rw[aa,aa]
  calc%[8,a,ns,1,rb,s1.ð hS,yi|λx=>?_];obtain⟨m,hm,hm6⟩:∃m:Nat,3+x%4=(m:ļ)/\m<=6:=%[0,(3+x%4).Ö,ye|by simp_all;lia]
  calc%[3,_,_,rb|%[19,rb,(by show (0:ļ)<4;decide),_,_,rb,rb|%[29,pl,a,ls,ns,2,m,by show [V.C pl,V.C a,V.R 2,V.R (3+x%4)]=_;rw[hm];rfl,hpl,hA,s1.ð hS,by grind,aw hm6<|fz _ _|λpw ws H2 s2 hpw nd az rs bW=>?_]]];calc(λk dk nk ndk nek=>?_);let t3:aA H2 (upd (upd H2 dk<|HO.own k) k<|HO.ins D.d' dk []):=λc o e=>by rw[bx (bU e nk),bx (bU e ndk)];show e
  calc%[18,k,dk,pw,ws,rb,au,.Â<|aP.of<|t3 _ _ hpw,az,by grind|λd us H3 hd BK hmem hlen2 kp=>%[rb|?_]];let s3:aA H2 H3:=λc o e=>kp c o (t3 c o e)<|bU e nk;let zy:=(s1.Z s2).Z s3;calc%[1,a,ns,rb,zy.ð hS|λb r w' aj aH bi bj H4 s4 B r4 w5=>?_];let aho:=s4 _ _ (s3 _ _<|s2 _ _ hpl);let afi:=s4 _ _ (s3 _ _ hpw);let BK4:=BK.same s4;let Dl:=zy.Z s4;obtain⟨N,eN,hN⟩:∃N:Nat,((if (63:ļ)<(if (20:ļ) > (ns.n:ļ) then 20 else (ns.n:ļ)) then 63 else (if (20:ļ) > (ns.n:ļ) then 20 else (ns.n:ļ))):ļ)=((12+N:ĵ):ļ)/\N<=51:=by calc%[0,((if (63:ļ)<(if (20:ļ) > (ns.n:ļ) then 20 else (ns.n:ļ)) then 63 else (if (20:ļ) > (ns.n:ļ) then 20 else (ns.n:ļ)))-12).Ö,?_|?_] <;> (repeat' split) <;> lia
  calc%[3,a,_,rb|%[16,.Â<|Dl.ð hS,_,_,rb|%[3,_,_,rb|?_]]];refine%[1,12,((12+N:ĵ):ļ),?_,%[yi,yi,cz _|ye]|?_]
  .rw[(aa _),eN]
  rw[show (((12+N:ĵ):ļ)-12).Ö=N by simp +arith];refine iH (lo:=12) (n:=N) (λi I G=>∃(v6 v7 v8 v9 v10 v11:ĸ V) (b:Addr) (r w:Nat) (aj aH:AA) (bi bj:Nat) (rk:Ĵ ĵ),I=[ĳ (.C a),ĳ (.C pl),ĳ (.C pw),ĳ (.C k),ĳ (.C b),ĳ (.À<|S rk),v6,v7,v8,v9,v10,v11]/\aA H4 G/\dj D.b' G b r w aj aH bi bj/\r<=4/\w<=5/\rk.n<=3/\∀c∈rk,c<128)
   %[5,ĺ,ĺ|%[9,ĺ,ĺ,ĺ|%[9,ĺ,b,r|%[29,w',aj,aH,bi,bj,[],rb,aA.Ğ _,B,r4,w5,b5 _|λc hc=>by simp at hc]]]] ?_ ?_
  .intro i I G hi z;let(v6,v7,v8,v9,v10,v11,b,r,w',aj,aH,bi,bj,rk,rfl,sG,B,r4,w5,hrk,hrc):=z;calc%[45,a,ns,12+i,208,2,rb,(Dl.Z sG).ð hS,ye,yi,yi,yi|λpd ds H5 s5 hn5 hd5 hdl hdd=>?_];let at0:ju (ds.Q V.R) 0=ĳ (.R ds[0]):=aQ (j:=0) (by simp[hdl]);let sG5:=sG.Z s5;let afj:=sG5 _ _ aho;let(v,hv,W_):=QJ (xs:=Ts (ones ls)) (n:=ls.length) hlo (by have:=hA.lo;show ax this) (ds[0]/8);let(l1,ahp,rfl):=ar.mp W_;let(c,hcm,rfl):=ar.mp ahp;let hc:=hA.az c hcm;refine%[λσ' G'=>aA H5 G'/\∃e:Nat,e<128/\σ'=[ĳ (.C a),ĳ (.C pl),ĳ (.C pw),ĳ (.C k),ĳ (.C b),ĳ (.À<|S rk),ĳ (.R ((12+i:ĵ):ļ)),ĳ (.C pd),ĳ (.À<|S [e]),v9,v10,v11],?_|?_]
   .calc%[41,pd,_,0,_,rb,rb,aP.of hd5,at0,_,_,rb,rb,%[yi|yi]|%[1,pl,_,rb,.Â<|aP.of afj|%[4,_,_,rb,rb,by rw[hlo];have:=hA.lo;lia|%[18,pl,_,_,.À<|S [c],rb,rb,aP.of afj,by rw[hlo];show hv,zsz 2|λt ht=>?_]]]];let k6:aA H5 (upd H5 t<|HO.Ç [V.À (S [c]),V.À (S [63])]):=aA.è ht;let e6:upd H5 t (HO.Ç [V.À (S [c]),V.À (S [63])]) t=ĳ (.Ç [V.À (S [c]),V.À (S [63])]):=au;let key:∀bb:œ,(if bb=ķ then 63 else c)<128:=λbb=>by
     have:c<=122:=hc.2;cases bb;.show c<128;lia
     .show 63<128;decide
    calc%[6,pd,_,0,_,rb,rb,aP.of<|k6 _ _ hd5,at0|%[12,_,_,rb,rb,(by decide),rb|DK (λ_=>?_) λ_=>?_]];.show%[1,63,rk,rb,rb|.Ó %[0,_,rb|%[55,t,_,_,_,rb|%[48,rb,aP.of e6,Ys _ _,k6,_,key _|rb]]]]
    .show .Ó %[0,_,rb|%[55,t,_,_,_,rb|%[48,rb,aP.of e6,Ys _ _,k6,_,key _|rb]]]
   .intro σ' G' z;let(k6,e,he,rfl):=z;let s4G:=sG5.Z k6;calc%[3,rk,[e],rb|%[20,rb,hz _ (by simp;lia),_,rb|%[52,_,rb,rk++[e],rb,hz _ (by simp;lia)|?_]]];let(c3,cm):=ahl (rk++[e]);generalize mD (rk++[e]) (ĳ<|-3) ĺ=Ke at c3 cm ⊢;let afk:∀c∈Ke,c<128:=λc h=>by
     rcases a7.mp (cm c h) with z|z;.show hrc c z
     .rw[av.mp z];show he
    let B6:=(B.mv s5).mv k6;calc%[12,_,_,rb,rb,(by decide),rb|DK (λ_=>?_) λ_=>%[5,_,_|%[9,_,_,_|%[9,_,b,r|%[29,w',aj,aH,bi,bj,Ke,rb,s4G,B6,r4,w5,c3|afk]]]]];let O:=B6.ok;let hst:∀l∈us,(d_ r w' l.n).n<=20/\(d_ w' r l.n).n<=20:=λl hl=>by have:=(BK.az l hl).lo;rw[yK,yK];show%[aw (iE r4<|show w'+1-l.n<=5 from jI ye) yi|aw (iE w5<|show r+1-l.n<=4 from jI ye) yi]
    calc%[9,b,k,d|%[36,us,r,w',aj,aH,bi,bj,20,8,Ke,rb,B6,(BK4.same s4G)|%[by grind,ye,λl hl=>%[(hst l hl).1,(hst l hl).2|λls _=>aw (Yr ls Ke)<|aw (sf yi c3) yi],yi,ye|λpf as L H7 s7 hpf hY up ndL ahv hmL=>?_]]];let VP:∀ts∈L,yN aj r w' (cD aj r w' bi bj) ts:=λts h=>Iw O.br BK.az<|(hmL ts).mp h;let Y:∀ts∈L,ts≠[]/\∀t∈ts,Ao t:=λts h=>%[(VP ts h).ne|(VP ts h).Ao O.r9 O.w9]
    let agj:∀ts∈L,∀t∈ts,qy t:=λts h t ht=>by have:=(Y ts h).2 t ht;show%[by have:=this.2.1;show bq this<|fz _ _|this.2.2]
    let hml:∀y,y∈Et ws aj r w' bi bj Ke↔y∈L:=λy=>by rw[Oi O.br (λl hl=>by have:=(az l hl).lo;lia) ye,hmL,all_congr hmem]
    let B7:=B6.mv s7;let(dx,pr,pm0,pb0,hb7,ahr,_,ahs):=id B7.ex;calc%[13,b,D.b',dx,_,_,rb,hb7,D.a'.cl,D.a'.nr,rb|%[13,b,D.b',dx,_,_,rb,hb7,D.a'.cl,D.a'.nb,rb|%[5,pr,pb0|%[36,pw,aj,aH,ws,r,w',bi,bj,Ke,L,rb,ahr,O|%[ahs,s7 _ _ (s4G _ _ afi),az,by grind,ye,ye,λy hy=>(hml y).mp hy|λp2 as2 M H8 s8 hp2 GR up2 M6 hm2=>?_]]]]];rw[((Yd up up2 ndL M6 agj λz=>by rw[hm2,hml]).Ù)]at GR;let hY8:=hY.mv s8;let afl:=s8 _ _ hpf;calc%[8,3,.Ã<|L.Q uy,.Ã<|L.Q uy,yi,hY8.has afl Y,GR.has hp2 Y|aU _ rb ?_];rw[am rfl];calc bK ?_;calc%[zsz 0|λZ hZ=>?_];let k9:aA H8 (upd H8 Z<|HO.Ã []):=aA.è hZ;let e9:upd H8 Z (HO.Ã []) Z=ĳ (.Ã []):=au;generalize upd H8 Z (HO.Ã [])=H9 at k9 e9 ⊢;let Yt:=(s4G.Z<|s7.Z s8).Z k9;let Oe:=hY8.mv k9;let aaQ:=k9 _ _ afl;calc%[8,3,.Ã<|L.Q uy,.Ã [],yi,Oe.has aaQ Y,.Ã (aM.of e9) .Ü|aU _ rb ?_];let B9:=B7.mv<|s8.Z k9;by_cases hL0:L=[]
    .rw[am (show Dt.Ã (L.Q uy)=Dt.Ã [] by rw[hL0];rfl)];show bK %[5,_,_|%[9,_,_,_|%[9,_,b,r|%[29,w',aj,aH,bi,bj,Ke,rb,Yt,B9,r4,w5,c3|afk]]]]
    .rw[al (λz=>hL0<|qh.mp (by injection z))];calc bZ ?_;let hal:=Oe.Ċ;let hpos:0<as.n:=by rw[hal];show qf.Û hL0
     let I_:(as.Q V.C).n=as.n:=aa _;calc%[8,a,ns,12+i,rb,(Dl.Z Yt).ð hS,by grind|λy=>?_];let(v,hv,W_):=QJ (xs:=as.Q V.C) (n:=as.length) I_ hpos (y/208);let(la,hla,rfl):=ar.mp W_;let hat:=Oe.č la hla;let hm:lO H9 la∈L:=by rw[<-Oe.eq];show ci hla
     generalize lO H9 la=ts at hat hm;let hok:=VP ts hm;let(bs,hbs,hLb):=id hat;let pos:0<ts.n:=qf.Û hok.ne;let qm:∀t∈ts,inB r w' t:=λt ht=>let %[c1,c2,_|c4]:=hok.ñ t ht;%[c1,c2|c4]
     calc%[3,_,_,rb|%[19,rb,%[yi|yi],pf,_,rb,.Ó<|aM.of aaQ|%[4,_,_,rb,rb,by rw[I_];show ie eJ hpos|%[6,pf,_,_,.C la,rb,rb,aM.of aaQ,by rw[I_];show hv|?_]]]];let(dx9,_,_,_,hb9,_,_,_):=id B9.ex;calc%[8,b,dx9,_,rb,hb9,rb|%[9,b,la,bs|%[39,ts,r,w',aj,aH,bi,bj,rb,B9,hbs,hLb,qm|λb2 HA sA B2=>?_]]];calc%[5,b,b2|%[9,k,d,pw|%[9,la,us,ws|%[9,Ke,bs,ts|%[58,r,w',aj,aH,bi,bj,rb,%[B9.mv sA,sA _ _ hbs,hLb.mv sA,pos,hok.Ċ|qm],B2,(BK4.same Yt).same sA,sA _ _<|Yt _ _ afi,hmem,ye,(hmL ts).mp hm|λHB sB=>(aU _ rb<|bK ?_)]]]]];show%[5,_,_|%[9,_,_,_|%[9,_,b2,r|%[29,w',bf aj ts,aH,bi,bj,[],rb,(Yt.Z sA).Z sB,B2.mv sB,r4,w5,b5 _|λc hc=>by simp at hc]]]]
  .intro I G z;let(v6,v7,v8,v9,v10,v11,b,r,w',aj,aH,bi,bj,rk,rfl,sG,B,r4,w5,hrk,hrc):=z;show q _
end
end My
end
namespace My
open PySem L2
end My
namespace PySem.W.Fast
abbrev U:=True
local macro_rules|`(universe $x*)=>do return Lean.mkNullNode (<-x.mapM λi=>`(def $(Lean.mkIdent (.mkSimple s!"tw{i.getId.toString.foldl (λn c=>n*52+(c.Ö-if c.Ö<91 then 65 else 71)) 0}")):ident := U))
universe GXaVhRAKtJF BEIFOpFLEgHK KmEcJTxBwLq BXbEsGOqUOQE BSFkScOvhZZV CLGLwjLHIPJX CTyXJtcGoPlv CEZmiqsYXuUQ RUtBEdCJVnk CSOxmXJPIJsN CEUBAspHiskz rVtGilqEgQd CKumZTsKUwRD BvlgKduIclbp fBhPinKtUpP BDDddvsIGuMX BvKssZOGfkAf CAkVHLDYqBwZ CWDEshbmdCpI BhDaWSHznyDq qiMOELiDDnJ rOGkqvurSBI CNSOZAigVfHZ BITSwgYLSnIY YUMcsYXbLYj BUAQQlNbgLMu knMfgTsXVwH LzLAPxMaUED YOAotJQugya BlEjqPpnojYG BfFQNSnaooiV fGYUFeWQghs CQyvSaTCEUkz wHQsKbjjrJi SfvmYOcERuM CQFYMnEipuna BIrgaYPghbeA dpIozNvWvnj BVlJvKubopKH XnTGQxZgFoq BjnNfVQsoZnX BnUYQmtjDGxP IZyNeLvJoU IXApKZurBge BVjfSyKVUGSp BbQmkZbBYFBF zKlvxtkNCjP POUPPaonVko pJJkrLMMVoQ CCeJVNdbmKbl tGUeWpbHdlU BVxtmSlThxVs BvLxjpVxBIL wFOhaQsnVog tAJEUtyKBC BJnxizTkkbkR BQoshiebkPcm CWxijPiUcFtR pZmCqIVOlgU BqAmWBwWJzmK BLZkuLgCtHGQ BZBDGlakBiWi BmsYjSXdxsBn CNoKhqDvVpCQ ndabxtaqMrA iRlOaBlNqWA CTjMxqDjDXTH BmPYROLPcPDn BbkJMNNdRaxg WYtwdSajIMv CHLsuSVCPOXK XjwCntJUHLN zfsRjAcwMWH BKbueUmyGGNJ BilIaNTtLQrk CLtWQirIsbDj BUblMHFftLtC TlQwjdptrQm CRHLtFFqawa CJFYpaRmQTPW TrEOUIMAhvz CWGpBXXTVIpR CHCGaRRsAyOC BpIVbWPDxUjl CKTbHBkZrK BxrNlRWPxKhA BoghnYYniDDq BJoJkSytolmz BVLxDKKpotKD BSDBEYUPnQlU BCXxazRxRUde HoisByKmaXy KlNCMaxmXbY BMRaloIglzaF BXvtwSdDUKAr BgSZUcpDbHWW XvWSkArmyip CFBnGJnbStLz BQmpJuzPAEXS mRcqgONnYpJ BQyzDzUAppnG CXeLByfBpAhD CIvczLjWwOHK BvprmZVFIYac BPMjpLGYAUNK CAlFUyXxnnBE JrjvdngfDFI BSGySUZfYqck ManQsrVioeF oBSmRLBBoYG CJWmGWygUhjl BcRwgBWejLpp IFtWLIPJSsO BeDKFDxAIxvh BFAOHfrVBOLD BZafLrZwkFiQ CDJBZpPFohqT DXwXKAUiBsF BrKoeizyVqbv IBAhrQshPOS ZgHvaQTIlZG BAOTyBvubXYC OGGCKnFJqoL CTDQpXbEtGkW BgPnoiHINcRu BQAolTNgBDJR BDQYHPMlxJHm tGWHUxvhZBw NYwuvvQnawD CFhxfqBlJLqq BzWohJbTtDxT BoPGVlpxQCkj XYxjcebjnbG CSLPlVjvblju cvCanoqRPmP WdFAexdQFBH CSdDegJzvLDo CKgsHyrBgmYF CTlcMxIESFGS ltJFRbDZuBu CBgolBfARXga gXTNtAROGCo BwUWCmcDIXAm BPXcrXgoDKD yItbJcsyrMd ctuxHoHmjFf yYANzOfQodG CFEjyeOCUoCO BqeZCiMOQlMS BIlJHSEgguYE CSqOdQnOMpvp oToLwrPRpwt adbgmLsIVON CjfAHDvzGWF BMEiFpRkvDuf BqKIguUOepiK BYCUrQgQtCQi BHvbKtYPaFVj BtQanaNvcPZC heuIZvCDPtN RUkIsRBiudp BAobhAnXdYzt VSQyalzBGjy CVSBupBOcuuA BHZCxLblNmtg BJbPMyPXwAr CQCVoAGtGCFO xKDnjrnUpUP CLxruOBgaMGc CLMuKHLmtzZJ azZVnawRzCI CQlttYGItXbt BFHWyctQXBlh CMJYOTFmVYoU ZBBgjQnPQJZ BgZAJlKaCvjy BTbwzjdHVNRR BAVKpBUKeIbe COBqjyyVoZsI BtdxOmcUoTkp BtaNKxQCmYuF CUxUvKsjtoCD BDjxeXCMvJNr ZEfeyeziGYz nJTAIwAnoee BXvvJexLxRST BaClHWCkASig CHlJPAGfLlGm CJlrHwojApPW SQbvtDYfytT CMKwTnFSaLon CNAlIImHJkXX aqfjymVPxUV CSZhDbIONrVx CAnTkIhAeJbu FyHaSDFDnIg btLlTpYWOEP fjzddjjOSox CPvAuuMSCCZA WnVlHSwfYZd CRwfkcFqwFIw hbJhkHBKhA BTywVDdHfatL tEfiFkUUSQh CFqqNsRoApau BSLHGNCUZklA CLFAMzEsGbdb qrorLcKLUXL WqAgmAWGqVc XBJvfrzMRde WHqsmgndGsr eUZcOprlezI qDASWcIhjrh mrRyFnEiBkH CAAiKixEDmuT BZPnoKqElpTa BEsasdfGnRXm BabooeXJwqsj BtQTJdNTGrHJ BfWlYzgtwapA BAwcYIVCXocn CDyPVlNGXAs CDQdXklNDQCh BNxaUCdxIKkP BfmhUymMNNo dPBkCCJDBhN BYSoQxBhbBgi IPDWDTKEHMO BCSmiueLffOH CRAJJVIvsXWF BPEVOGFUiYAD CPVLKOxXtgOt BlaPFJSJzMbx iXedBMtPLTX pCJPMSqPLst ByPYUIhLnKou uzleJeNljVS mCuVbLzsTfx GmoZnXcdrLX iRwouQjIYsu xpfyheVIkAq CPMNqrIHjONH cElGJaZcPQW BxRTKxZmXSxE bguOQYunoqc shWmPUqGtEg BIgPEaLKNJsQ BsMQLHaKxbmS eGqvIPUOxiQ GAczIseFQjm CVsVAEVKiBql BEMkjQxDvTWn CHBJHnYXFBCa BTZDJGoIFMfg cbiurnBtGpi WtbLbFfXts INfXGKzSrPX sifoNyEFtSG LPwFlrIeXak CItGlSTOWKar BWPmFxkTiIgQ swrEDEOWmNV COeYBnMBtCMt CBzLFVRZOmQx BISziQUuGWUx dStrkwtnvoz CSVYdZPvhYsl cyyZgLFbZPI psrBbVFdQYJ qyItuFJeiQh JWPQnnwssuw BrKBRuIcmORR NWdfSVJxhrE BsUCqTFjkUtK EjitCBupesT QSBGqIunPoT BsmawOfkrEak BsqmCInSIWbF BpmfxgdvJNaQ QJohDrPSrIr HdRzkHoBRsL CSkWUjPXBbzc BgHsNdkvZtLr mtvNMiJpRIf btGUuniqVws QuZYUHxkRgi BaKdJiFoZjhQ TSXddYRDnGD nbCZMeknJbN BRxIGNvbDlwf BjQiDyKxeZYS otvpDQeURsL BhkpEUbXfXkS KxXZDDXDYgk DrzGyvvTnrW tfvCqAAHMFK ZGMazAMPaTG hLeUXFqwvWW yxCBkvQMCKr BQbKLoOAMrST xJyskrBYgVM uajgpVpRTSR BSQlGNzbyEBL BCBcqmxabSJE mDMkKtUMdKs BIOuXARbRFPv BihuYOeuGJtZ CQchZAgqqRum BsCJQwAakKSz ksHkkGEqaqN BruBckZZwhHP QooAHoFvHGD BwFmKsWnDHWy BQrJVDlkCEYa BiiAHeHofIIz BFzaxzEnBYhb HSLHByVTBWi CVchuMCyPXHc CTZFMZeKpshL qNlJhLKXAsq KwUQvEmkHFe BDlNREHFSZWs BAhWaPvvFLKD BFZXmrWliPJX CFwwoITPbZcJ CMLuivqRgvVi BjEabTltuSDy BxuoxfIcwQAd CUPhtqMmnQvQ QwCCKhgWwTf BBFTiHiqyaiq PRNUCTgipYd BKrYxjhEFpIf hiyHXjvYODI ehdhTMBmfgS BUwfKAyKwrtu CPNNNswCSrrz BevlVRfqEgMx CAKxNjqUVBBF wTSIayTxyYT jXXcBalDzS KYbUztiYUHQ rVXdfbZuZKn tsknirRwMpF BdQOcMEtjKNF CHKSWORnUqbt YZVROnXYfkj BmgApdDICRQt BfvgesNpZXOh BqFVLUsdWgiG FQPiEkVBOGo BuulXYPpsvDr CEIejQnpoGMI BRTtgISCurpD ybHNjZVNDlW oYZgwkAcnno KuKrOxVtZPk zUJwnZgjtEJ COpruwWlcUwO BNfWYVqyOenn CDaNSpTBSPBm BczgvhOkVuhX CNdiZxhGtaJH wSxlfDgDszb BqPPzAMmquKS BRUZscurkwrx BdJtNUQXMuTV BYIqtHEmWIhL CBAYJscMgNGJ IxQRxQaDhqL BfaugeNSVAkZ BYLdlOwboZHF CUWEkckyfIxW CNUGQygBdFnM CDPvJTsWZMBy CRDSthcQqLeX cvysLgICgJf bcGDFAJIumY nVUsUshmbOW BxzcbVOYUgPx CGHjbUmzCjSl xvfcQqYbBNo OgdjcYdlPfU BpDSrrQyHws dFQhAPrbIxG IvFWpmzeaxS CEiqmacjdatz uiDrEcuaxVV LifqVSOlEGA HcuGzCMQZag jTuygxGZKaY BlWOZyxPuPsi CXPUJdJhqNDV qHZjDfFmFWK BSUYcWuqjsuW BPYBUZnXLZpf BqZvoROZKTvU BuuUukHSDIwA BKsHEMfRCKVe VojZpORomFS tvkzIAxjZwc CKRIFTFhxsWD BKlTLmmABMPQ CEGiZybzUlAz CNEfUmYunMjd COsdDxTzfTbM BxmlWmjRniPd fmAVQVjJUNz BPDZSVisYUnk BenCCUVuMqnN BjYZASMqsgWo BfkdNdnSZPvq FqTQAbFqpD CQEfqOEdWrYF BpbKDzDRoSCs msIBYdMiRCq TEIHMMuUMVI CEngefnHDsRf oXiGOCavvHH LbmkWLHSJap BawtQoQrrtvJ GGMbrDjyWdL FThZbqZBYrB troJplLXIKP CAFaaqYcSdAq TfjZmtTuWry KRpTiGPTRED wVGfSceoVLD BoYRaZvmzPLH BeQZvOeCrAvW BfWdqbDSzqaC WFGmaczOoTg eyxiJsaVBMR BIhQeGpdWhfL BNyaXxfuCffO JiLNahWOanK CVuQIChjIQeV kjPRZrcbmkD CHCcdHpYeoaJ BbujFwXpilEY mklfuxoXnye KJRQVhbGxRN MlvSkqUAwcN BdIzLJmbhEYd vGKLnPpgAOb dQKoFISAKHM CycPbHdhIDM BphDSXWbkoRj CHdfmfQsMmpB PKZjBbhOmnI CEcuHTjLINbf ucStfakFORB BbXamalpBbjl BjrmHFJSfbQi BYQPUKKWuPow CBvKEoRzrzXn ByQZzRSwfqFq qUbHDTChYYL BVbGMeameWqu ByNUtPeIOsTM BavwvwpfHUWq BRehsEkWzkRy MTlPZUvRWVY BvwlFYEHuByv fFpHVlTxzSp dCcuRxGlnOw CRuhSTReSdWm BbWaPsEvtdme mobEfUTMWfe yfVVPNtChNe BtmswTsfaUeK BrDlqMpdXngA BOReDwRPuvoD QEFqiJGWOIN CIaiqcKfGIdZ yggdMNULuwI BJnpNdDLEEhZ BPIMPFVbolLi BKelOEQFWjNz BbqaKgUrNdYw BXpQGXmGMmVZ obtZkGVGplW FKqtobFwYGM BXqYHNcyXuwc BYcQbKlQgnyB CJCZMEYqyCqU EjDylvGwzDU VDNyoOTWSEZ CSswvEiaqRsg UFgtrqgZagu CLjlSmMysFzg ULoLcIRLLFk BorZFJTEpOGc BlUVYZHUbthF BmHnuSnjYcWj CwAALzeHFYU CGynoORaKOfI CWmpFfyDKKMD BMLvKmLRLOsA CcsGWHaNuTq BbInlYnnYnDf vjiCqdCHtPZ CEdnqJjKcZXH BygvtzLUfCxU FfqnvHpLFlI CWFpfbHTsruL vyOEBMCpEEz DfwvsMWKQNc CEJQTGPDrJFB BwSvYkRUCZnv CMylGcSWPCJz CGuYwKbkcpCX BdNkwwGXycXf BVYkQIDfiOCB BZPTtmUAxFya gpSAhWKVQCJ OqOaqpbTqJC BAMlCbICSUYq BHsVSxLOQCfL TbpXBadqlyE CRshtaWZFJXP CKKWoblMEmAc WEbdsehHMFl BRyxBqkUKznT BWeJBCYCddEM BQoQeXXnufOB CDfoTujNUbvt siEBMjwmVgk BOCsQynDvIue comaffjmsos LioqAiesHuC oVZLtYVuLCD VcTaKUDbBSW gaEyAkaeCkl BAfvnsPLJAFy BSCwIwfOMXPK CVueMoerVhGF fCKoMbKXGGA HoMlPFGQpAR CKXGSQCOuRBa BknouusAltIg LHArJwIhiYD COGQAagWMBEf JSGjylRCmKj BITbArOTbAFx BTORiWKVJmtk BEOisvEvVKiF lXSRGNiivQl COApnDjvjFHD BiQoHbJDQAiQ deoVgqeCURi bpuzNHNmuIo BfjtxiOPHmkU BuchOxTOhmKC BdxKCwpZdaij CESInDDTiagM jdinZhiuTov BacNJSvMGTHK BAZGSgwsJXSl BnCqvxEQBEsJ CQXzlfEqyHsa BFmprTmeCeDd BaIrMZsNaxKC BkoeJYSSOibw RiudLCaHNSL BMyExhQABVoW DqvpZbKylRf BXxZVwEeUGuS jqZHSbaeDue PuiQagjLrbF BsTeIYmIfviq GZWrTlAWvc CQNuFVFAUPYL BDFYXqNoWxJQ BBZtBDUqwiOc BVSRNDLbCRgv dEpDBmVZDwJ jQosPzQPFgy BoQddrDdDxFT jhgyxbXemMx CVSIVghpumhi qfZuLVDNihw RQOqEaDJmvZ kJWTBWxXBCQ BHsLAMvjvZFw BWkMOXJZihiO BjTfRxyhEyNk ROCSJkAgDYG dikYtAvCoOf CQZRutawXkyO BXHWcmAjKvBm yRLhmftMHrO BoSJAsvuYBLr WKJvwTyQbJE LYKfTIJSHDt BaLjeDXLHQlM tqAUqAbeJrm WCmQNDlZpCA BXlYGCxHXUUK BuHkgaMQPjtZ BSWsKfhrOabH BgEQSwJDAuYt qNuECoXvAJQ lKzegnnYkii BrgLTrKtVBVH BcuhZBqyElow niklzSOvecl
end PySem.W.Fast
open PySem PySem.W PyProof.Rows
def L2.cK {K:W.Ê}{h:Ō}{mg:Ŋ->ĸ Ķ}{x:Ŋ}{C:Ĺ}(X:K.In h)(G:h.Ns mainGlobals mg)(z:Ž (W.nsIn K mainGlobals x=ĳ (ĳ<|.C C)) γ):mg x=ĳ (.C C):=W.mg_of X G z
def L2.tK {K:W.Ê}{h:Ō}{C:Ĺ}(X:K.In h)(pg:Ž (W.plainGet K C Str.empty=ķ) γ)(hd:Ž (W.hasDictIn K C=ķ) γ)(po:Ž (W.plainOver K C=ķ) γ)(sa:Ž (W.findIn K (.C C) "__setattr__"=ĳ (ĳ<|.Õ "object.__setattr__")) γ):L2.Cls (L2.KOf X) C:=%[pg,hd,po|sa]
def L2.aK {K:W.Ê}{h:Ō}{C:Ĺ}{x:Ŋ}(X:K.In h)(z:Ž (W.findIn K (.C C) x=ĳ ĺ) γ):L2.mz (L2.KOf X) C x:=z
def L2.mA {K:W.Ê}{h:Ō}{C f:Ĺ}{x q:Ŋ}{st:ŏ}{oc:Ķ}{od an:ĸ Ĺ}{osl:Ņ (ĸ Ķ)}{kV doc pm bw ct:Ķ}(X:K.In h)(a:Ž (W.findIn K (.C C) x=ĳ (ĳ<|.C f)) γ)(i:Ž (W.isFn K (.C f)=ķ) γ)
  (l:Ž (K.Æ f=ĳ %[oc,od,.func<|W.fnOf x q (L2.iT st) (L2.eU st) (L2.aJ st) .ß kV doc pm an bw ct|osl]) γ) (c:Ž (W.codeIn K bw q=ķ) γ) (k:Ž (W.Ī K (.C f)=ķ) γ)
  (D:Ž (∀(kV doc pm:Ķ) (an:ĸ Ĺ) (bw ct:Ķ) (us:Ĵ Ķ),us.n=(My.bQ st).n->bindArgs (W.fnOf x q (L2.iT st) (L2.eU st) (L2.aJ st) .ß kV doc pm an bw ct) %[us|[]]=pure ((My.bQ st).zip us)) ν):My.MA (L2.KOf X) C x q st:=%[f,_,L2.zR l c k,(L2.zR l c k).binds D|%[a,i|k]]
def L2.MK {K:W.Ê}{h:Ō}{C:Ĺ}(X:K.In h)(a:Ž (W.makesIn K C=ķ) γ)(b:Ž (W.Ī K (.C C)=ķ) γ):W.makesIn (L2.KOf X) C=ķ/\W.Ī (L2.KOf X) (.C C)=ķ:=%[a|b]
def L2.dK {K:W.Ê}{h:Ō}{mg:Ŋ->ĸ Ķ}{name:Ŋ}{st:ŏ}{f:Ĺ}{oc:Ķ}{od an:ĸ Ĺ}{osl:Ņ (ĸ Ķ)}{kV doc pm bw ct:Ķ}(X:K.In h)(G:h.Ns mainGlobals mg)(a:Ž (W.nsIn K mainGlobals name=ĳ (ĳ<|.C f)) γ)(l:Ž (K.Æ f=ĳ %[oc,od,.func<|W.fnOf name name (L2.iT st) (L2.eU st) (L2.aJ st) .ß kV doc pm an bw ct|osl]) γ)(c:Ž (W.codeIn K bw name=ķ) γ)(k:Ž (W.Ī K (.C f)=ķ) γ)(B:Ž (∀(kV doc pm:Ķ) (an:ĸ Ĺ) (bw ct:Ķ) (us:Ĵ Ķ),us.n=(My.bQ st).n->bindArgs (W.fnOf name name (L2.iT st) (L2.eU st) (L2.aJ st) .ß kV doc pm an bw ct) %[us|[]]=pure ((My.bQ st).zip us)) ν):L2.sI (L2.KOf X) mg name st (My.bQ st):=L2.Y4 X G a l c k B
def L2.nK {K:W.Ê}{h:Ō}{mg:Ŋ->ĸ Ķ}{x:Ŋ}(X:K.In h)(G:h.Ns mainGlobals mg)(z:Ž (W.nsIn K mainGlobals x=ĳ ĺ) γ):mg x=ĺ:=W.mg_none_of X G z
def L2.gS {K:W.Ê}{h:Ō}{mg:Ŋ->ĸ Ķ}{x:Ŋ}{l:Ĵ ĵ}{t:Tok}(X:K.In h)(G:h.Ns mainGlobals mg)(z:Ž (W.nsIn K mainGlobals x=ĳ (ĳ<|.À (L2.S l) t)) γ):∃t,mg x=ĳ (.À (L2.S l) t):=L2.Y7 X G z
def L2.gI {K:W.Ê}{h:Ō}{mg:Ŋ->ĸ Ķ}{x:Ŋ}{i:ļ}{t:Tok}(X:K.In h)(G:h.Ns mainGlobals mg)(z:Ž (W.nsIn K mainGlobals x=ĳ (ĳ<|.R i t)) γ):∃t,mg x=ĳ (.R i t):=L2.Y8 X G z
set_option maxRecDepth 100000 in
set_option maxHeartbeats 0 in
theorem PySem.Challenge.cw_letterrack_k47_whole_boards_that_grow_holds : PySem.Challenge.rw_letterrack_k47_whole_boards_that_grow.Holds := by
 w_on;o_law;k_head;(case hw=>w_witness2)
 k_fill
 refine L2.aby (x:="_law_script") (l:=PySem.Challenge.rw_letterrack_k47_whole_boards_that_grow) rfl rfl (λw h Y=>W.kIn_of Y) ?F
 case F=>
  intro w mg fa h KX G hmg;have lw:∃fd:FuncData,L2.rD (L2.KOf KX) "law" "law" My.Ur fa fd/\∀(s:Shared) (v:Value),BindsTo s fd ⟨[v],[]⟩ [("_law_script",v)]:=by
   dsimp only[L2.KOf];refine' L2.adT KX G hmg ?a ?l ?c ?k ?b
   case a|l|c|k=>k_is
   (case b=>exact λ_ _ _ _ _ _ _=>rfl)
  obtain⟨fd,F,hb⟩:=lw;exact⟨fd,hb,λbase _ _=>(My.afh ⟨_,(L2.cK KX G),⟨L2.tK KX,L2.aK KX,L2.aK KX,L2.aK KX⟩,(L2.mA KX),(L2.MK KX),(L2.mA KX),(L2.mA KX),(L2.mA KX),(L2.mA KX),(L2.mA KX),_,(L2.cK KX G),⟨L2.tK KX,L2.aK KX⟩,(L2.mA KX),(L2.MK KX),(L2.mA KX),(L2.mA KX),(L2.nK KX G),(L2.nK KX G),(L2.nK KX G),(L2.nK KX G),(L2.nK KX G),(L2.nK KX G),(L2.nK KX G),(L2.nK KX G),(L2.nK KX G),(L2.nK KX G),(L2.nK KX G),(L2.nK KX G),(L2.nK KX G),(L2.nK KX G),(L2.nK KX G),(L2.nK KX G),(L2.gS KX G),(L2.gS KX G),(L2.gI KX G),(L2.gS KX G),(L2.gI KX G),(L2.dK KX G),(L2.dK KX G),(L2.dK KX G),(L2.dK KX G),(L2.dK KX G),(L2.dK KX G),(L2.dK KX G),(L2.dK KX G),(L2.dK KX G),(L2.dK KX G),(L2.dK KX G),(L2.dK KX G),(L2.dK KX G),(L2.dK KX G),(L2.dK KX G),(L2.dK KX G),(L2.dK KX G),(L2.dK KX G),(L2.dK KX G),(L2.dK KX G),(L2.dK KX G),(L2.dK KX G),(L2.dK KX G),(L2.dK KX G),(L2.dK KX G),(L2.dK KX G),(L2.dK KX G),(L2.dK KX G),(L2.dK KX G),(L2.dK KX G),(L2.dK KX G),(L2.dK KX G),(L2.dK KX G),(L2.dK KX G),(L2.dK KX G),(L2.dK KX G),(L2.dK KX G),(L2.dK KX G),(L2.dK KX G),(L2.dK KX G),(L2.dK KX G),(L2.dK KX G),(L2.dK KX G),(L2.dK KX G),(L2.dK KX G),(L2.dK KX G),(L2.dK KX G),(L2.dK KX G),(L2.dK KX G),(L2.dK KX G),(L2.dK KX G),(L2.dK KX G),(L2.dK KX G),(L2.dK KX G),(L2.dK KX G),(L2.dK KX G),(L2.dK KX G),(L2.dK KX G)⟩ F).mono yi⟩
