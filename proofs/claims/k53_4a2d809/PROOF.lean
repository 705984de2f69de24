import PyProof.Rows.All
import Wide.All
import OpenK.AllK
import PySem.Challenge.RW_letterrack_k53_ranked
set_option compiler.extract_closed false
def ID2:=" dheap.objs.size nlength vref Cheap Esize HtoList Iint Qmap RtoArray Xtrans Yobjs Àstr Áget? Âinl Ãtake ÄPairwise Ålookup Ætup Çenv Ètype Élst Êflatten ËFrag Ìdrop Ípush ÎgetD Ïprog Ðinr Ñreplicate Òsymm Óbuiltin Ômono Õfree ÖNodup Ønone Ùplace Únames Ûout ÜtoNat Ýtoks Þcons ßfresh àmem_iff ámpr âextBut ãunits äfields åupd æPerm çmask èparams éfollowText ênil ëName ìhok íelim îextract ïofString ðbase ñrange òmapSeq ósetIfInBounds ôfilterMap õhandled öreverse øcell ùupdate úseq ûlocal üisList ýkind þhash ÿprobeStart ĀAttribute āfindIn ĂRows ănon Ąfilter ąConstant Ćat_ ćerase ĈSameBut ĉbool ĊkeepIn ċTypeIs Čcount čscope Ďdata ďget Đlocals đlen Ēlength_eq ēset Ĕcps ĕbelow Ėlength_le_of_subset ėSubscript Ęrefl ęin1 ĚisSome ěkept Ĝappend_right ĝstack Ğkeeps ğlist ĠIsStrIter ġany Ģtuple ģTuple ĤkeyOf ĥKeyKind Ħturned ħIsTupleIter Ĩzip ĩcodeIn ĪSmallTypes īcalm Ĭlaid ĭCall ĮkindOf"
def ID3:=" įsome İList ıNat Ĳnone ĳValue Ĵtrue ĵOption ĶAddr ķfalse ĸInt Ĺif_neg ĺif_pos ĻShared ļwpAny Ľmodel ľdecide ĿsizeLine ŀArray Łabsurd łSortSt ŃKeyed ńProgram ŅstarEach ņStr ŇHeap ňAround ŉWorld ŊStmt ŋExpr ŌSetTable ōDecidableEq Ŏeval ŏBool ŐcongrArg őKeysOf ŒScope œrawInt ŔFuncData ŕString ŖIsPair ŗFalse ŘIntsAre řNameKind ŚAllBare śKeyword ŜArguments ŝSortKind ŞUnit şisInstance ŠStateT šIsZip ŢIsRangeIter ţReadsAll ŤBindsTo ťDecidable ŦStrsAre ŧSubscript_ ŨIsEnum ũReads ŪPassesOwn ūPyData ŬForInStep ŭforIn Ůfield ůPaired ŰPlainAttrs űResult ŲDraws ųMeets ŴWalks ŵautoParam ŶA_0_._auto_1 ŷA_1_._auto_1 ŸA_2_._auto_1 ŹA_3_._auto_1 źA_4_._auto_1 ŻA_5_._auto_1 żA_6_._auto_1 ŽA_7_._auto_1"
def ID1(b:Bool)(x:Lean.Syntax):Option Lean.Syntax:=
 let n:=x.getId
 if n.hasMacroScopes then none else
 let f:=λ(l:String)(a c:Lean.Name)=>a++if c.toString.length>1 then c else match l.splitOn (" "++c.toString) with|_::r::_=>((r.splitOn " ").headD "").toName|_=>c
 let m:=match b,n.components with|false,[c]=>f ID3 .anonymous c|false,c::r=>r.foldl (f ID2) c|_,r=>r.foldl (f ID2) .anonymous
 if m==n then none else some (Lean.mkIdentFrom x m)
def ID0(x:Lean.Syntax):Option Lean.Syntax:=if x.isIdent then ID1 false x else if x.isOfKind ``Lean.Parser.Term.proj then (ID1 true x[2]).map (x.setArg 2 ·)else if x.isOfKind ``Lean.Parser.Term.dotIdent then (ID1 true x[1]).map (x.setArg 1 ·)else none
local macro_rules(kind:=ident)|x=>match ID0 x with|some y=>return y|_=>Lean.Macro.throwUnsupported
local macro_rules(kind:=Lean.Parser.Term.proj)|x=>match ID0 x with|some y=>return y|_=>Lean.Macro.throwUnsupported
local macro_rules(kind:=Lean.Parser.Term.dotIdent)|x=>match ID0 x with|some y=>return y|_=>Lean.Macro.throwUnsupported
local macro_rules(kind:=Lean.Parser.Term.app)|x=>match ID0 x[0] with|some y=>return x.setArg 0 y|_=>Lean.Macro.throwUnsupported
set_option Elab.async false
set_option linter.all false
set_option maxRecDepth 100000
set_option maxHeartbeats 4000000

set_option bootstrap.genMatcherCode false
open Lean in
local macro_rules|`(universe $x*)=>return mkNullNode (<-x.mapIdxM λj i=>do
 let f s (n:ı):=mkIdent<|.mkSimple s!"{s}{n}"
 let mut (b,c,e,w,g,h):=(#[],#[],#[],#[],(pure:Term→MacroM Term),`(True))
 for k in (i.getId.toString++"A").H do
  let m:=e.E
  let v:=f "v" m
  let T:=f "T" m
  let d:=g
  e:=e.Í v
  if k='E' then
   b:=b.Í (<-`(bracketedBinder|{$T:ident:Sort _}))
   c:=c.Í (<-`(bracketedBinder|($v:ident:$T)))
   w:=w.Í (v,T)
   g:=λt=>do d (<-`(∃$v:ident,$t))
  else
   let q:Term<-if w.isEmpty then pure ⟨T⟩ else `($T $(w.Q (·.1))*)
   b:=b.Í (<-`(bracketedBinder|{$T:ident:$(<-w.foldrM (λa b=>`($(a.2)→$b)) (<-`(Prop)))}))
   c:=c.Í (<-`(bracketedBinder|($v:ident:$q)))
   h:=d q
   g:=λt=>do d (<-`($q∧$t))
 let r<-h
 let y:=b++c
 `(theorem $(f "zz" j):ident $y:bracketedBinder* : $r := ⟨$e,*⟩))
universe EA EEAA EAA EEEEAAAA EEA EEE EE EEAAAA AE EAAAA EEEAAAA EEEAAA AEA EEAAA EEEEAAAAA EEEEAAA EEEEEAAAAA AEEAA EAAA AEEA AAEA EEEEEEEAA EEAAAAA EEAAEEAA EEAAAEEAAA EEAAAEEAA AEAA EEEAA EEAAAAAA EEEEEAAAA EAAEEAA EEEA AEEAAA EEAAEEAAA EAAE EEEAAAAAA EEEEAAAAAAA EEEAAAAA EAAAAA EEEEAAAAEEAAA EEEEEEAAAAA EEEEEEEAAAAA EEEEEAAAAAAAAA AAAAEA EEAAAEEAEEAA EEEEAAAAEA EAEAAA EEEEEAAAAAA EEEEEEEAAAAAA EAAAAAA EEEEEAAAAAEEAA EAAEAAA EAEEAA EEEEAAAAAAAA EEEEEA AEEEAAAAA EEEEA EAEA EEEEEEEAAAA EEEEAA EEAAAAAAA EEEEAAAAAA EEEEEEAAAAAAAA EAAEEEAAAAEA EEEEEEAAA EEEEEEAAAAAA EEEEEEEAAA EEEEEEEAAAAAAA EEEEEEAAAA EEEEEEEA
local macro_rules|`(⟨$n:num,$x,*⟩)=>`($(Lean.mkIdent (.mkSimple s!"zz{n.getNat}")) $(x.getElems)*)
theorem ZzN {G:Prop}(h:¬¬G):G:=Classical.byContradiction h
theorem rb {α:Sort _}{a:α}:a=a:=rfl
theorem Zzx2{q:A->B->Prop}{G:Prop}(h:∃a b,q a b)(f:∀a b,q a b->G):G:=Exists.í h λa h=>Exists.í h (f a)
theorem Zzx3{q:A->B->C->Prop}{G:Prop}(h:∃a b c,q a b c)(f:∀a b c,q a b c->G):G:=Exists.í h λa h=>Zzx2 h (f a)
theorem Zzx4{q:A->B->C->D->Prop}{G:Prop}(h:∃a b c d,q a b c d)(f:∀a b c d,q a b c d->G):G:=Exists.í h λa h=>Zzx3 h (f a)
theorem Zzx5{q:A->B->C->D->E->Prop}{G:Prop}(h:∃a b c d e,q a b c d e)(f:∀a b c d e,q a b c d e->G):G:=Exists.í h λa h=>Zzx4 h (f a)
theorem Zzx7{q:A->B->C->D->E->I->J->Prop}{G:Prop}(h:∃a b c d e i j,q a b c d e i j)(f:∀a b c d e i j,q a b c d e i j->G):G:=Exists.í h λa h=>Exists.í h λb h=>Zzx5 h (f a b)
theorem Zzx10{q:A->B->C->D->E->I->J->K->L->M->Prop}{G:Prop}(h:∃a b c d e i j k l m,q a b c d e i j k l m)(f:∀a b c d e i j k l m,q a b c d e i j k l m->G):G:=Exists.í h λa h=>Exists.í h λb h=>Exists.í h λc h=>Zzx7 h (f a b c)
theorem Zzx14{q:A->B->C->D->E->I->J->K->L->M->N->O->P->R->Prop}{G:Prop}(h:∃a b c d e i j k l m n o p r,q a b c d e i j k l m n o p r)(f:∀a b c d e i j k l m n o p r,q a b c d e i j k l m n o p r->G):G:=Exists.í h λa h=>Exists.í h λb h=>Exists.í h λc h=>Exists.í h λd h=>Zzx10 h (f a b c d)
local macro_rules|`(tactic|show $e)=>`(tactic|first|exact $e|change $e)
local macro_rules|`(tactic|calc $e:term)=>`(tactic|refine $e)
local macro_rules|`(tactic|let $x:ident := $e)=>`(tactic|have $x:ident := $e)|`(tactic|let $x:ident : $t := $e)=>`(tactic|have $x:ident : $t := $e)
local macro_rules|`(%[$as,*|$a])=>`(⟨$as,*,$a⟩)
open Lean in
local macro_rules|`(tactic|let ($t0,$ts,*) := $h)=>do
 let a:=#[t0]++ts.getElems
 if let į i:=a.findIdx? (·.raw.isOfKind `Lean.Parser.Term.tuple) then
  let b:=a.set! i<|<-`(z)
  return<-`(tactic|(let ($(b[0]!),$(b[1:].R),*) := $h;let $(a[i]!):term := z))
 let ps<-a.mapM λt=>if t.raw.isIdent then `(Parser.Tactic.rcasesPatLo|$(⟨t⟩):ident) else `(Parser.Tactic.rcasesPatLo|_)
 let n:=(a.pop.H.takeWhile λt=>t.raw.getId != `rfl).n
 let mut t<-`(tactic|rcases $h:term with ⟨$ps,*⟩)
 for k in [2, 3, 4, 5, 7, 10, 14] do
  if k<=n then
   let m<-if k+1==a.E&&a.back!.raw.getId != `rfl then `(tactic|intro $a*) else `(tactic|(intro $(a[:k].R)* z;rcases z with ⟨$(ps[k:].R),*⟩))
   t<-`(tactic|first|(refine $(mkIdent (.mkSimple s!"Zzx{k}")) $h ?_;(try clear $(⟨h⟩));$m:tactic)|$t:tactic)
 `(tactic|(refine ZzN λn=>?_;$t:tactic<;>refine n ?_<;>clear n))
open Lean Parser Command in
local macro_rules(kind:=Lean.Parser.Command.declaration)|x=>if x.getPos?.isNone then Macro.throwUnsupported else
 let y:=x.rewriteBottomUp (·.setInfo .none)
 return if y[0].getArgs.any (·.getNumArgs>0)||![``definition,``«abbrev»,``«instance»].contains y[1].getKind then y else y.setArg 0 (y[0].setArg 4 (mkNullNode #[mkNode ``«noncomputable» #[mkAtom "noncomputable"]]))
section
variable{p:Prop}
def zo(h:p:=by lia):p:=h
def zr(h:p:=by simp):p:=h
def A_0_(_:True:=by rfl):=True
def A_1_(_:True:=by decide):=True
def A_2_(_:True:=by intro _;rfl):=True
def A_3_(_:True:=by first|show .Â rfl|show .Ð rfl|assumption):=True
def A_4_(_:True:=by k_is):=True
def A_5_(_:True:=by with_unfolding_all rfl):=True
def A_6_(_:True:=by first|show Or.Â rfl|show Or.Ð<|Or.Â rb|show Or.Ð<|Or.Ð rb):=True
def A_7_(_:True:=by intro _ _ _ _ h;repeat (first|(let(rfl,_):=h;rfl)|let(_,h):=h)):=True
def zt(h:ŵ (p) ŷ):p:=h
def zw(h:ŵ (p) Ŷ):p:=h
def zC(h:p:=by kernel_rfl):p:=h
def zD(h:p:=by decide +kernel):p:=h
def zI(h:p:=by first | lia | ((try dsimp only);lia)):p:=h
def zS(h:p:=by size_fits):p:=h
end
def zsz (n:ı)(h:ŵ (n<=1000) ŷ):n<=PySem.sizeLine:=Nat.le_trans h zt
local macro_rules|`(universe $x*)=>return Lean.mkNullNode (<-(Array.ñ<|x.E/2).mapM λi=>`(abbrev $(x[2*i]!):ident:=@$(x[2*i+1]!)))
open PySem PyProof PyProof.Rows List in
universe aa length_map ab wpAny_bind ae getElem?_eq_getElem af Heap.get?_push_of_some ag Nat.le_refl ah wpAny_pure ai decide_eq_false al mem_singleton am List.getElem?_eq_some_iff ap getD_eq_getElem?_getD ar Nat.le_of_lt av Nat.le_trans aw decide_eq_true ax length_append ay mem_cons_of_mem aE mem_cons_self aI mem_map aS getElem_mem a6 Heap.get?_push_size a7 mem_of_getElem? a8 mem_append a9 Heap.lt_size a_ mem_cons ba length_take bb Nat.ne_of_lt be Bool.false_eq_true bg Option.some.inj bo map_append bq Nat.lt_of_lt_of_le bt wpS_bind bu Array.length_toList bv take_add_one bz getElem?_map bE boot_len bP wpS_pure bS size_toArray bX map_cons b7 append_assoc b8 length_cons b9 F.plainAttrs_str ci Nat.zero_le ck PassesOwn.never cn take_of_length_le cp Array.getElem?_eq_getElem cq Int.toNat_natCast cw Bool.false_ne_true cx Array.getElem?_toList cy mem_iff_getElem cz mem_range cK take_length cS length_drop c_ take_append_drop de mem_append_right df boot_tuple di F.plainAttrs_list dm map_map dq mem_of_mem_take du getElem?_append_right dv getElem?_eq_none dA Int.ofNat_nonneg dC Int.ofNat_lt dE length_replicate dL Nat.sub_le_iff_le_add dP Nat.le_of_lt_succ dQ Nat.lt_or_ge dS map_congr_left d6 boot_isinstance ed Nat.sub_lt_left_of_lt_add ee Nat.lt_sub_iff_add_lt ef length_range eB mem_map_of_mem eC wpAny_holding eD Bool.and_eq_true eI wpAny_call_entry eJ Nat.le_succ_of_le eK of_decide_eq_true eL pairwise_map eM Heap.size_push eP F.slot_str_join eQ F.type_str_join eW getElem?_append_left e8 pairwise_iff_getElem e9 Heap.SameBut.update e_ Nat.add_sub_cancel' fb Nat.sub_eq_of_eq_add fc pairwise_append fe wpAny_truthy_bool ff Nat.lt_succ_of_lt fg filter_append fh pairwise_cons fi append_nil fm Nat.lt_succ_self fo flatten_cons fq wpAny_mono fw Obj.data_mapFields fz range_succ fA Nat.le_succ fE sum_cons fF Nat.sub_sub_self fI not_mem_nil fN KeyOrd.kle_trans fR Bool.not_true fS wpAny_callSpecial?_slot fT wpAny_setState_of f6 Array.toList_push f7 Nat.le_sub_of_add_le f8 mem_of_mem_drop f_ Calls.spliced_cons gd Nat.lt_of_le_of_lt gg Nat.succ_le_succ gh F.called_set gm wpS_forRange gp Array.toList_append gr Heap.get?_update_self gt Array.getD_eq_getD_getElem? gu cons_lt_cons_iff gv wpAny_passesOwn gx Nat.le_of_eq gy Nat.mul_comm gE wpAny_rule gL Nat.succ_pos gN Option.map_eq_some_iff g6 mem_flatMap hG wpAny_newObj_type hV ext_getElem? ib Nat.ne_of_gt ic wpAny_seqItems ie KeyOrd.klt_of_klt_of_kle ii boot_sorted ij F.slot_list_append ik F.type_list_append im W.kia_one io nodup_cons ip PyProof.Rows.callWith_type1 iq getElem?_drop iA Nat.add_sub_cancel_left iE F.plain_set_update_loop iF Nat.le_add_right iL Nat.le_sub_one_of_lt iN codeAny_mono iO Nat.zero_add iP StrLaws.subAt_one iS codeAny_builtin iX Nat.sub_le i6 Classical.byContradiction i7 mem_or_eq_of_mem_set i8 Iff.mpr i9 Perm.append_left ja Nat.lt_trans jn Nat.ge_of_not_lt jv getElem?_take jI Nat.sub_lt_of_lt jS Pairwise.imp_of_mem ke map_id ki wpAny_field km Nat.mul_le_mul ko Around.under_plainId kq getElem?_of_mem ku pairwise_singleton kC wpS_mono kD drop_sublist kF forIn_cons kG Nat.le_add_left kH Nat.not_lt_zero kK replicate_succ kM Heap.get?_update_other kN Calls.callWith_builtin kP Nat.lt_irrefl kQ Int.ofNat.inj kR all_eq_true kU lookup_cons kX Array.toList_inj lh wpAny_isInstance ly wpAny_Call_Name_kw lI Int.emod_lt_of_pos lL mem_iff_getElem? lS wpAny_setField lT length_filter_le l_ drop_eq_getElem_cons md wpAny_execs_nil mf length_set mh find?_cons ml map_nil mr Nat.sub_self mw KeyOrd.klt_of_kle_of_klt mx Nat.pow_succ my F.slot_list_extend mB F.type_list_extend mE Nat.mul_le_mul_right mI Ne.symm mM Nat.lt_trichotomy mN W.mg_of mP wpAny_attempt mS Nat.add_assoc ng length_eq_zero_iff nk filterMap_cons np Nat.add_le_add_left nt getElem?_range nw Bool.false_and ny Nat.succ_lt_succ nB Bool.not_false nE boot_list nI Nat.eq_or_lt_of_le nL Nat.eq_zero_or_pos nN Array.forIn_toList nS map_singleton nV Int.zero_add n5 Bool.eq_iff_iff n9 F.slot_dict_get og Int.emod_nonneg oj Obj.isFreed_of_fields om boot_int on F.slot_tuple_iterator_next oo Nat.mul_assoc oq wpAny_pyIter_list ox Calls.spliced_nil oy decide_eq_true_eq oz Bool.and_false oB nodup_nil oC wpAny_execs_cons oI wpAny_askSetting oP wpAny_forIn_list oQ Array.toList_map oS getElem_map oT PySem.mem_of_lookup o0 wpAny_setEntries_of o6 length_pos_iff ph flatten_append pi F.entry_set_update_loop pE any_cons pM Calls.Constant_str pT wpAny_pyIter_tuple pV SeqAt.EqAt.int_int p_ wpAny_specialOf qf Nat.le_antisymm qh Nat.mod_lt qi KeyOrd.kle_refl qk wpAny_tupleItemsOf qo of_decide_eq_false qr wpAny_setField_rec qA wpAny_of_eq qB Array.getElem?_eq_none qE Nat.le_of_add_right_le qS Nat.eq_zero_of_not_pos qV F.slot_str_lower q0 F.type_str_lower rc nodup_append re wpAny_pyIter_strU rg wpAny_pyIter_enum rh F.slot_tuple_hash rj Nat.lt_succ_of_le rl Heap.get?_push_ne rn perm_append_comm rq takeWhile_prefix rL boot_sum rS idxOf_lt_length_of_mem rV mem_append_left rX Calls.evalArgs_plain r0 Array.toArray_toList r8 erase_cons_tail r_ codeAny_call_builtin sd drop_length se Array.toList_reverse sf Nat.div_lt_of_lt_mul si mem_flatten sk Heap.size_update sn wpAny_newFunctionEnv_cells sq Array.perm_iff_toList_perm sr Nat.sub_lt_sub_left sv Nat.add_lt_add_left sK Nat.sub_le_sub_left sN Heap.get?_update_ne sP flatMap_append sQ mem_filter sT of_mem_zip s_ foldl_cons tj Option.map_some tm length_nil tq Nat.min_eq_left tw extract_eq_take_drop tz mem_filterMap tI Int.le_of_lt tJ W.callWith_K tN getElem?_take_of_lt tP Nat.succ_mul tS F.called_enumerate tT Nat.sub_right_comm t9 F.slot_list_remove ue F.type_list_remove ui count_pos_iff uj eq_of_mem_replicate uk wpAny_Name ul wpAny_call uu drop_zero uv wpS_get uA Nat.sub_lt uB F.args_dict_get_3 uC getElem?_cons_succ uS eraseIdx_cons_succ u7 take_sublist u8 Obj.cls_mapFields vi count_append vj Bool.eq_false_iff vn getElem?_set vv idxOf_append vw Sum.inr.inj vx getElem?_set_self vy W.cellsFrom_some vz F.entry_dict_get vE drop_of_length_le vF head?_eq_getElem? vS wpAny_standAt vT Bool.or_false v0 wpAny_newList v_ Nat.min_le_right wa Nat.min_eq_right wb Nat.lt_of_not_le wc nodup_range wd decide_eq_decide we KeyOrd.not_klt_of_kle wm getElem?_set_ne wn wpAny_loadName_local wo Array.mem_toList_iff wq reverse_reverse wt length_erase_le ww wpAny_loadPart' wx codeAny_of_tree wE Nat.sub_le_of_le_add wP wpS_modify wS Nat.sub_lt_sub_right wT Nat.min_le_left w_ Array.toList_extract xa Nat.pow_le_pow_right xb F.slot_zip_next xc replicate_succ' xf Int.mul_le_mul_of_nonneg_right xh eq_nil_of_length_eq_zero xi W.plainGet_of xj take_succ_cons xk reverse_append xl map_eq_nil_iff xm wpAny_fieldsOf xo wpAny_newTuple xp Prod.ext xt Int.mul_le_mul xv wpAny_Constant_int xw getElem_idxOf xy Code.quiet_builtin xz Around.under_plain xF isSubtype_tuple_tuple xI erase_sublist xL Int.fdiv_eq_ediv_of_nonneg xN takeWhile_cons_of_pos xS Array.toList_setIfInBounds x_ wpAny_assign_Name ya wpAny_Assign_Name yb Function.comp_def ye F.entry_type_call yf Nat.le_pred_of_lt yi F.plain_extend_loop yk Nat.not_lt ym perm_append_left_iff yn mem_of_find?_eq_some yo Nat.succ_ne_self yv any_eq_true yz filter_cons yT mem_reverse yY zipIdx_cons y7 Nat.add_zero y8 Nat.pow_zero y9 Option.getD_some y_ Array.toList_zip zb ext_getElem zd Perm.of_eq ze Array.size_push zg Nat.mul_add zh Nat.mul_one zi P.le_str zk Perm.refl zl take_succ zn Nat.add_le_add
abbrev AA:=İ (İ ı)
abbrev AB:=PySem.Value->PySem.Shared->Prop
abbrev AC:=İ (PySem.Addr×PySem.Obj)
noncomputable section
namespace L2
open PySem
def Ak (h:Runs M Γ p t fs s e s'):s.Ý<=s'.Ý:=by
 induction h with| done|raise|yield=>show ag _| fresh _ ih=>show av (fA _) ih| again _ _ ih|rule _ ih|«at» _ ih|load _ _ ih|update _ _ ih|loadIfAlive _ ih|point _ ih|alloc _ ih|ask _ ih|choose _ _ ih|os _ ih|handled _ ih|genState _ _ ih|stack _ ih|thread _ ih|newGen _ ih=>show ih| call _ _ ih1 ih2=>show av ih1 ih2| callSusp _ ih=>show ih| resumeFresh _ _ _ _ ih1 ih2=>show av ih1 ih2| resumeSuspended _ _ _ _ ih1 ih2=>show av ih1 ih2| resumeJustStarted _ _ _ ih=>show ih| resumeThrowFresh _ _ ih=>show ih| resumeRunning _ _ ih=>show ih| resumeFinished _ _ ih=>show ih| segRet _ _ ih1 ih2=>show av ih1 ih2| segGen _ _ ih1 ih2=>show av ih1 ih2| segSuspOut _ _ ih=>show ih| segSuspGen _ _ _ _ ih1 ih2=>show av ih1 ih2
def Wa (h:Wakes M Γ p g r s res s'):s.Ý<=s'.Ý:=by
 unfold Wakes at h;split at h;.show h.í
 .split at h
  .let(e,s1,j,_,_,rfl):=h;let z:=Ak j;show z
  .let(_,rfl):=h;show ag _
  .let(_,rfl):=h;show ag _
 .let(e,s1,j,_,_,rfl):=h;let z:=Ak j;show z
 .let(_,rfl):=h;show ag _
 .let(_,rfl):=h;show ag _
def ahZ {I:Type}{M:Model}{Γ:Ctx}(t:Sem I)(n:ı){Q:I->Pos->Ļ->Prop}{E:ĳ->Pos->Ļ->Prop}(p:Pos)(s:Ļ)(hn:n<=s.Ý)(h:Sem.wp M Γ t (λa p s=>n<=s.Ý->Q a p s) (λe p s=>n<=s.Ý->E e p s) p s):Sem.wp M Γ t Q E p s:=by
 revert h
 induction t generalizing p s with| pure x=>show λh=>h hn| raise v=>show λh=>h hn| unsupported|finish|yield|fork|await|register=>show id| fresh k ih=>show ih _ _ _<|av hn<|fA _| rule _ k ih|«at» _ k ih|alloc _ k ih|loadIfAlive _ k ih|point _ k ih|ask k ih|os _ _ k ih|handled _ k ih|newGen _ k ih|stack k ih|thread k ih=>show ih _ _ _ hn| load a _ k ih|genState a k ih=>show λ⟨o,B,h⟩=>%[0,o,B|ih _ _ _ hn h]| update a _ f k ih|choose _ _ k ih=>show λ⟨ha,h⟩=>%[ha|ih _ _ _ hn h]| call c h g l k ih=>show λ⟨r,s',j,D⟩=>%[4,r,s',j|ih _ _ _ (av hn<|Ak j) D]| resume g r l k ih=>show λ⟨res,s',hw,h⟩=>%[4,res,s',hw|ih _ _ _ (av hn<|Wa hw) h]
def qp {I:Type}{t:Sem I}{Q:I->Ļ->Prop}{s:Ļ}(h:ļ M A t (λa s'=>s.Ý<=s'.Ý->Q a s') (λe s'=>s.Ý<=s'.Ý->E e s') s):ļ M A t Q E s:=λΓ p hΓ=>ahZ t s.Ý p s (ag _) (h Γ p hΓ)
end L2
namespace L2
open PySem PySem.Spec PyProof.Rows
abbrev Key:=Sum ĸ ņ
def lu:Key->ĳ->ŏ
 | .Â k,v=>Value.isInt k v
 | .Ð x,v=>Value.isStrOf x v
def aiK (w:ŉ):Key->ĸ
 | .Â k=>hashInt k
 | .Ð x=>hashStr w x
def eO:∀{k:Key} {v:ĳ},lu k v=Ĵ->(∃i t,k=Sum.Â i/\v=Value.I i t)\/(∃x t,k=Sum.Ð x/\v=Value.À x t):=by
 intro k v h;cases k with
 | inl i=>let(t,e):=Value.isInt_shape (k:=i) (v:=v) h;show .Â %[4,i,t,rb|e]
 | inr x=>let(t,e):=Value.isStrOf_shape (x:=x) (v:=v) h;show .Ð %[4,x,t,rb|e]
def Kl (i)(t:Tok):lu (.Â i) (.I i t)=Ĵ:=by simp[lu,Value.isInt]
def Km (x)(t:Tok):lu (.Ð x) (.À x t)=Ĵ:=by simp[lu,Value.isStrOf]
def afK (a b):ľ ((Sum.Â a:Key)=Sum.Â b)=(a==b):=by
 by_cases e:a=b;.subst e;simp
 .let h:¬(Sum.Â a:Key)=Sum.Â b:=λq=>e<|Sum.Â.inj q
  rw[ai h];show(beq_eq_false_iff_ne.á e).Ò
def afL (a b):ľ ((Sum.Ð a:Key)=Sum.Ð b)=ľ (a=b):=by
 by_cases e:a=b;.subst e;simp
 .let h:¬(Sum.Ð a:Key)=Sum.Ð b:=λq=>e<|vw q
  rw[ai h,ai e]
def afM (a)(b):ľ ((Sum.Â a:Key)=Sum.Ð b)=ķ:=ai (λq=>nomatch q)
def afN (a)(b):ľ ((Sum.Ð a:Key)=Sum.Â b)=ķ:=ai (λq=>nomatch q)
def cZ (prog:ń)(w:ŉ):PySem.ĥ prog w Key where
 is:=lu
 hash:=aiK w
 inj:=λv a b ha g=>by
  rcases eO ha with⟨i,t,rfl,rfl⟩|⟨x,t,rfl,rfl⟩
  .rcases eO g with⟨j,u,rfl,e⟩|⟨y,u,rfl,e⟩
   .injection e with e1 _;rw[e1]
   .show nomatch e
  .rcases eO g with⟨j,u,rfl,e⟩|⟨y,u,rfl,e⟩;.show nomatch e
   .injection e with e1 _;rw[e1]
 byValue:=λk v h=>by rcases eO h with⟨i,t,rfl,rfl⟩|⟨x,t,rfl,rfl⟩ <;> rfl
 pyHash:=λhv h=>by
  rcases eO hv with⟨i,t,rfl,rfl⟩|⟨x,t,rfl,rfl⟩;.show wpAny_pyHash_int h
  .show wpAny_pyHash_str h
 eqBool:=λB hv h=>by
  rcases eO B with⟨i,t,rfl,rfl⟩|⟨x,t,rfl,rfl⟩
  .rcases eO hv with⟨j,u,rfl,rfl⟩|⟨y,u,rfl,rfl⟩;.rw[afK]at h;show wpAny_eqBool_int h
   .rw[afM]at h;show SeqAt.EqAt.int_str i t y u _ _ _ _ h
  .rcases eO hv with⟨j,u,rfl,rfl⟩|⟨y,u,rfl,rfl⟩;.rw[afN]at h;show SeqAt.EqAt.str_int x t j u _ _ _ _ h
   .rw[afL]at h;show wpAny_eqBool_str h
 «strs»:=λk x t v h=>by
  rcases eO h with⟨i,u,rfl,e⟩|⟨y,u,rfl,e⟩;.show nomatch e
  .injection e with e1 _;subst e1;cases v <;> rfl
def SM (prog)(w)(i)(t:Tok):(cZ prog w).is (.Â i) (.I i t)=Ĵ:=Kl i t
def jU (prog)(w)(x)(t:Tok):(cZ prog w).is (.Ð x) (.À x t)=Ĵ:=Km x t
inductive V where
 | non|bl (b:ŏ)|int (i:ĸ)|str (x:ņ)|zZ (b:ŀ UInt8)|flt (b:UInt64)|ref (a:Ķ)|ty (n:ŕ)
 deriving DecidableEq
def bQ:V->ĳ->Prop
 | .ă,u=>u=Value.Ø
 | .bl b,u=>u=Value.ĉ b
 | .I i,u=>∃t,u=Value.I i t
 | .À x,u=>∃t,u=Value.À x t
 | .zZ b,u=>∃t,u=Value.bytes b t
 | .flt b,u=>∃t,u=Value.float b t
 | .v a,u=>u=Value.v a
 | .ty n,u=>u=Value.È n
abbrev Vals:İ V->İ ĳ->Prop:=ů bQ
def Vals.length (r:Vals xs us):xs.n=us.n:=Paired.n r
def Vals.get:∀{xs:İ V} {us:İ ĳ} {i:ı} {x:V},Vals xs us->xs[i]?=į x->∃u,us[i]?=į u/\bQ x u:=by
 intro _ _ i x h e
 induction h generalizing i with
 | nil=>simp at e
 | cons r t ih=>
  cases i with| zero=>simp at e;subst e;show%[0,_,rb|r]| succ i=>let(u,h1,g):=ih (by simpa using e);show%[0,u,by simpa using h1|g]
def Vals.set (r:bQ x u):∀{xs:İ V} {us:İ ĳ} (i:ı),Vals xs us->Vals (xs.ē i x) (us.ē i u):=by
 intro _ _ i h
 induction h generalizing i with
 | nil=>show .ê
 | cons q t ih=>
  cases i with| zero=>show .Þ r t| succ i=>show .Þ q<|ih i
def Vals.append:∀{xs ys:İ V} {us ws:İ ĳ},Vals xs us->Vals ys ws->Vals (xs++ys) (us++ws):=by
 intro _ _ _ _ h s
 induction h with| nil=>show s| cons r _ ih=>show .Þ r ih
def Vals.take:∀{xs:İ V} {us:İ ĳ} (n:ı),Vals xs us->Vals (xs.Ã n) (us.Ã n):=by
 intro _ _ n h
 induction h generalizing n with
 | nil=>cases n <;> show .ê
 | cons r t ih=>
  cases n with| zero=>show .ê| succ n=>show .Þ r<|ih n
def Vals.drop:∀{xs:İ V} {us:İ ĳ} (n:ı),Vals xs us->Vals (xs.Ì n) (us.Ì n):=by
 intro _ _ n h
 induction h generalizing n with
 | nil=>cases n <;> show .ê
 | cons r t ih=>
  cases n with| zero=>show .Þ r t| succ n=>show ih n
def lZ:ĵ V->ĵ ĳ->Prop
 | some v,some u=>bQ v u
 | none,none=>True
 | _,_=>False
def KV {I:Type}:İ (I×V)->İ (I×ĳ)->Prop:=ů λ(p:I×V) (q:I×ĳ)=>p.1=q.1/\bQ p.2 q.2
def kV:Key->V
 | .Â i=>.I i
 | .Ð x=>.À x
inductive HO where
 | lst (xs:İ V)
 | tup (xs:İ V)
 | dK (kvs:İ (Key×V))|dT (kvs:İ (İ Key×V))
 | set (S:ĸ->ŏ) (n:ı)
 | ins (C dx:Ķ) (fs:İ (ņ×V))
 | own (x:Ķ)
 | xd (fs:İ (ņ×V))
 | met (f x:Ķ)
 | rng (lo hi:ĸ)
 | ql (o:Obj) (u:HO)
 | o7 (ps:ŀ ĳ)
 | ext (φ:Ň->Prop)
abbrev Hp:=Ķ->ĵ HO
def upd (H:Hp)(a:Ķ)(o:HO):Hp:=λb=>if b=a then į o else H b
def au:upd H a o a=į o:=by unfold upd;rw[ĺ rfl]
def aU (h:b≠a):upd H a o b=H b:=by unfold upd;rw[Ĺ h]
def ah0 {H:Hp}{a b:Ķ}{o u:HO}(h:H a=į o)(h':H b=į u)(d:o≠u):a≠b:=by intro e;subst e;rw[h]at h';show d<|bg h'
def bI {H:Hp}{a b:Ķ}{o:HO}(h:H a=į o)(h':H b=Ĳ):a≠b:=by intro e;subst e;rw[h]at h';cases h'
section
variable (P:ń)(w:ŉ)
def dD (H:Hp)(h:Ň)(a:Ķ):HO->Prop
 | .É xs=>xs.n<=Ŀ/\∃(its:İ ĳ) (n:Nat),Vals xs its/\h.Á a=į {cls:=.È "list",data:=.ú its.R n}
 | .Æ xs=>xs.n<=Ŀ/\∃its:İ ĳ,Vals xs its/\IsTup h a its.R
 | .dK kvs=>kvs.n<=Ŀ/\(a==sysModules)=ķ/\∃vs,KV kvs vs/\h.DictOf (cZ P w) a vs
 | .dT kvs=>kvs.n<=Ŀ/\(a==sysModules)=ķ/\∃xs:İ (İ Key×Ķ×ĳ),
   ů (λ(p:İ Key×V) (q:İ Key×Ķ×ĳ)=>p.1=q.1/\H q.2.1=į (.Æ<|p.1.Q kV)/\bQ p.2 q.2.2) kvs xs/\
   ∃o es ep,h.Á a=į o/\o.ExactDict/\o.Ď=.dict es ep/\es.H=xs.Q (entryOfKey<|tupleKind<|cZ P w)/\(xs.Q (·.1)).Ö
 | .ē S n=>h.SetOf (intKind P w) a S n
 | .ins C dx fs=>H dx=į (.own a)/\fs.n<=1000/\dx≠a/\h.Á a=į (W.instObj C dx)/\
   ∃mA,h.Ns1 dx mA/\(∀f,lZ (fs.Å f) (mA f))/\PySem.Within mA (fs.Q (·.1))
 | .own _=>∃o,h.Á a=į o
 | .xd fs=>∃mA,h.Ns1 a mA/\∀f,lZ (fs.Å f) (mA f)
 | .rng lo hi=>∃t u v,h.Á a=į {cls:=.È "range",data:=.ä #[.I lo t,.I hi u,.I 1 v]}
 | .ql o u=>h.Á a=į o/\dD H h a u
 | .o7 ps=>h.Á a=į {cls:=.Ø,data:=.ä ps}
 | .met f x=>h.Á a=į (W.methodObj (.v f)<|.v x)
 | .ext φ=>φ h/\(∃o,h.Á a=į o)/\∀h1 g:Ň,φ h1->(∀o,h1.Á a=į o->g.Á a=į o)->φ g
def jK (H:Hp)(h:Ň):Prop:=∀a o,H a=į o->dD P w H h a o
end
section
variable {P:ń}{w:ŉ}{H H':Hp}{h h':Ň}{a:Ķ}{o:HO}
def dD.lt (x:dD P w H h a o):a<h.Y.E:=by
 cases o with
 | lst xs=>let(_,_,_,_,e):=x;show a9 e
 | tup xs=>let(_,_,_,p):=x;show p.lt
 | dK kvs=>let(_,_,_,_,o,_,_,e,_):=x;show a9 e
 | dT kvs=>let(_,_,_,_,o,_,_,e,_):=x;show a9 e
 | set S n=>let(o,_,_,_,e,_):=x;show a9 e
 | ins C dx fs=>let(_,_,_,e,_):=x;show a9 e
 | own y=>let(_,e):=x;show a9 e
 | xd fs=>let(_,(_,_,_,e,_),_):=x;show a9 e
 | rng lo hi=>let(_,_,_,e):=x;show a9 e
 | ql ob u=>let(e,_):=x;show a9 e
 | o7 ps=>show a9<|show h.Á a=į _ from x
 | met f y=>show a9<|show h.Á a=į _ from x
 | ext φ=>let(_,(_,e),_):=x;show a9 e
def Paired.afO {I T:Type}{F G:I->T->Prop}:∀{l₁:İ I} {l₂:İ T},ů F l₁ l₂->(∀a b,F a b->G a b)->ů G l₁ l₂:=by
 intro _ _ h f
 induction h with| nil=>show .ê| cons r _ ih=>show .Þ (f _ _ r) ih
def dD.stay (x:dD P w H h a o)(k:∀b u,(b=a\/H b=į (.own a))->h.Á b=į u->h'.Á b=į u)(g:∀b,H b=į (.own a)->H' b=į (.own a))(j:∀b xs,H b=į (.Æ xs)->H' b=į (.Æ xs)):dD P w H' h' a o:=by
 induction o with
 | lst xs=>let(z,its,n,r,e):=x;show%[19,z,its,n,r|k _ _ (.Â rb) e]
 | tup xs=>let(z,its,r,ob,e,c):=x;show%[8,z,its|%[12,r,ob,k _ _ (.Â rb) e|c]]
 | dK kvs=>let(z,y,vs,r,ob,es,ep,e,c):=x;show%[20,z,y,vs,r|%[31,ob,es,ep,k _ _ (.Â rb) e|c]]
 | dT kvs=>let(z,y,xs,r,ob,es,ep,e,c):=x;show%[20,z,y,xs,Paired.afO r λp q z=>%[z.1,j _ _ z.2.1|z.2.2]|%[31,ob,es,ep,k _ _ (.Â rb) e|c]]
 | set S n=>let(ob,es,ep,t,e,c):=x;show%[56,ob,es,ep,t,k _ _ (.Â rb) e|c]
 | ins C dx fs=>let(d,z,ne,e,mA,(od,es,ep,e2,c),r):=x;show%[43,g _ d,z,ne,k _ _ (.Â rb) e,mA,%[31,od,es,ep,k _ _ (.Ð d) e2|c]|r]
 | own y=>let(ob,e):=x;show%[ob|k _ _ (.Â rb) e]
 | xd fs=>let(mA,(od,es,ep,e,c),r):=x;show%[0,mA,%[31,od,es,ep,k _ _ (.Â rb) e|c]|r]
 | rng lo hi=>let(t,u,v,e):=x;show%[5,t,u,v|k _ _ (.Â rb) e]
 | ql ob u ih=>let(e,q):=x;show%[k _ _ (.Â rb) e|ih q]
 | o7 ps=>have e:h.Á a=į {cls:=.Ø,data:=.ä ps}:=x;show h'.Á a=į {cls:=.Ø,data:=.ä ps};show k a _ (.Â rb) e
 | met f y=>have e:h.Á a=į (W.methodObj (.v f)<|.v y):=x;show h'.Á a=į (W.methodObj (.v f)<|.v y);show k a _ (.Â rb) e
 | ext φ=>let(p,(o,e),st):=x;show%[st _ _ p λo q=>k _ _ (.Â rb) q,%[o|k _ _ (.Â rb) e]|st]
def jK.lt (x:jK P w H h)(e:H a=į o):a<h.Y.E:=(x a o e).lt
def jK.fresh (x:jK P w H h)(e:h.Y.E<=a):H a=Ĳ:=by
 cases q:H a with| none=>rfl| some u=>show Ł (bq (x.lt q) e)<|kP _
def jK.kept (x:jK P w H h)(k:∀b u,h.Á b=į u->h'.Á b=į u):jK P w H h':=λa o e=>(x a o e).stay (λb u _ q=>k b u q) (λ_ q=>q) λ_ _ q=>q
def jK.laid (x:jK P w H h)(k:∀b u,h.Á b=į u->h'.Á b=į u)(hp:h.Y.E<=a)(g:dD P w (upd H a o) h' a o):jK P w (upd H a o) h':=λb u e=>by
 let hn:=x.ß hp;by_cases j:b=a;.subst j;rw[au]at e;cases e;show g
 .rw[aU j]at e;show(x b u e).stay (λc v _ q=>k c v q) (λc q=>by rw[aU (bI q hn)];show q) λc xs q=>by rw[aU (bI q hn)];show q
end
def Rd (H:Hp)(a:Ķ)(u:HO):Prop:=H a=į u\/∃o,H a=į (.ql o u)
def Rd.ok (r:Rd H a u)(x:jK P w H h):dD P w H h a u:=by
 rcases r with r|⟨o,r⟩;.show x a u r
 .let(_,q):=x a _ r;show q
def Yo:ĵ HO->Prop
 | some (.É _)=>True
 | some (.dK _)=>True
 | some (.dT _)=>True
 | some (.ē _ _)=>True
 | some (.ins _ _ _)=>True
 | some (.ext _)=>True
 | _=>False
section
variable {P:ń}{w:ŉ}{H:Hp}{h h':Ň}{x e:Ķ}{o':HO}
def jK.write (ok:jK P w H h)(B:Yo (H x))(M:e=x\/H e=į (.own x))(k:∀b u,b≠e->h.Á b=į u->h'.Á b=į u)(J:∃u,h'.Á e=į u)(G:dD P w (upd H x o') h' x o'):jK P w (upd H x o') h':=λb u q=>by
 let j:∀c y,H c=į (.own y)->c≠x:=λc y r z=>by subst z;rw[r]at B;show B
 let L:∀c xs,H c=į (.Æ xs)->c≠x:=λc xs r z=>by subst z;rw[r]at B;show B
 by_cases F:b=x;.subst F;rw[au]at q;cases q;show G
 .rw[aU F]at q;by_cases g:b=e
  .let N:H b=į (.own x):=by
    rcases M with z|z;.show Ł (g.X z) F
    .rw[g];show z
   rw[q]at N;cases N;let(v,hv):=J;show%[v|by rw[g];show hv]
  .refine(ok b u q).stay (λc v D r=>k c v ?_ r) (λc r=>by rw[aU (j c b r)];show r) λc xs r=>by rw[aU (L c xs r)];show r
   rcases D with rfl|D;.show g
   .rintro rfl;rcases M with z|z;.show j c b D z
    .rw[D]at z;cases z;show F rfl
end
structure Un (fs ex:İ Ķ)(H H':Hp)(h h':Ň):Prop where
 keep:∀b o,h.Á b=į o->H b=Ĳ->b∉fs->b∉ex->h'.Á b=į o
 slot:∀b o,h.Á b=į o->H b=Ĳ->b∈fs->b∉ex->∃sl,h'.Á b=į {o with slots:=sl}
 free:∀b o,h.Á b=į o->H b=Ĳ->b∉ex->H' b=Ĳ
 there:∀b o,h.Á b=į o->b∉ex->∃o',h'.Á b=į o'
 tups:∀b xs,H b=į (.Æ xs)->H' b=į (.Æ xs)
 wD:∀b o u,H b=į (.ql o u)->H' b=į (.ql o u)
 wF:∀b ps,H b=į (.o7 ps)->∃more,H' b=į (.o7<|ps++more)
section
variable {fs ex:İ Ķ}{H H1:Hp}{h h1 h':Ň}{a x e:Ķ}{o:HO}
def Un.any (u:Un fs ex H H1 h h1)(q:h.Á b=į ob)(n:H b=Ĳ)(hx:b∉ex):∃sl,h1.Á b=į {ob with slots:=sl}:=by
 by_cases g:b∈fs;.show u.slot b ob q n g hx
 .show%[ob.slots|u.keep b ob q n g hx]
def Un.kept (k:∀b u,h.Á b=į u->h'.Á b=į u):Un fs ex H H h h':=%[λb ob q _ _ _=>k b ob q,λb ob q _ _ _=>%[ob.slots|k b ob q],λ_ _ _ n _=>n,λb ob q _=>%[ob|k b ob q],λ_ _ q=>q,λ_ _ _ q=>q|λ_ ps q=>%[#[]|by rw[q];simp]]
def Un.refl:Un fs ex H H h h:=Un.ě λ_ _ q=>q
def Un.laid (k:∀b u,h.Á b=į u->h'.Á b=į u)(hp:h.Y.E<=a)(hn:H a=Ĳ):Un fs ex H (upd H a o) h h' where
 keep:=λb u q _ _ _=>k b u q
 slot:=λb u q _ _ _=>%[u.slots|k b u q]
 free:=λb u q n _=>by rw[aU (bb<|bq (a9 q) hp)];show n
 there:=λb u q _=>%[u|k b u q]
 tups:=λb xs q=>by rw[aU (bI q hn)];show q
 wD:=λb u xs q=>by rw[aU (bI q hn)];show q
 wF:=λb ps q=>%[#[]|by rw[aU (bI q hn),q];simp]
def Un.write (j:Yo (H x))(F:e=x\/H e=į (.own x))(k:∀b u,b≠e->h.Á b=į u->h'.Á b=į u)(B:∃u,h'.Á e=į u):Un fs ex H (upd H x o) h h':=by
 let hx:∀b,H b=Ĳ->b≠x:=λb n z=>by subst z;rw[n]at j;show j
 let D:∀b,H b=Ĳ->b≠e:=λb n z=>by
  subst z;rcases F with r|r;.show hx b n r
  .rw[n]at r;cases r
 let hm:∀b u,H b=į u->¬Yo (į u)->b≠x:=λb u q nm z=>by subst z;rw[q]at j;show nm j
 refine%[λb u q n _ _=>k b u (D b n) q,λb u q n _ _=>%[u.slots|k b u (D b n) q],λb u q n _=>by rw[aU (hx b n)];show n,λb u q _=>?_,
  λb xs q=>by rw[aU (hm b _ q λz=>z)];show q,λb u xs q=>by rw[aU (hm b _ q λz=>z)];show q|λb ps q=>%[#[]|by rw[aU (hm b _ q λz=>z),q];simp]]
 by_cases g:b=e;.subst g;show B
 .show%[u|k b u g q]
end
def trk (h:Ň)(H:Hp):İ Ķ:=(List.ñ h.Y.E).Ą λa=>(H a).Ě
def wG (h:Ň)(H:Hp):Ň:=W.hideAll h (trk h H)
def Yp (h)(H):(wG h H).Y.E=h.Y.E:=W.hideAll_size _ _
def abo {h:Ň}(e:h.Á b=į o)(n:H b=Ĳ):(wG h H).Á b=į o:=
 W.hideAll_get _ e λhm=>by let q:(H b).Ě=Ĵ:=(sQ.mp hm).2;rw[n]at q;simp at q
def ad2 (e:(wG h H).Á b=į o):h.Á b=į o/\H b=Ĳ:=by
 let g:h.Á b=į o:=W.of_hideAll (trk h H) e;calc%[g|?_];cases q:H b with| none=>rfl| some x=>have hm:b∈trk h H:=sQ.á %[cz.á<|a9 g|by simp[q]];let z:(wG h H).Á b=Ĳ:=W.hideAll_none (trk h H) hm;rw[z]at e;cases e
structure Mod (K:W.Ë)(mg:ņ->ĵ ĳ)(base:Ň):Prop where
 N7:K.In base
 glob:base.Ns mainGlobals mg
 blt:∃mb,base.Ns builtinsNs mb/\∀x:ņ,x≠"__name__"->mb x=bootBuiltins x
 nolimit:base.NoLimit
structure Cx where
 prog:ń
 w:ŉ
 K:W.Ë
 mg:ņ->ĵ ĳ
 base:Ň
 A:ň
 N:İ ņ
 s₀:Ļ
 H₀:Hp
 env:Env
 outer:İ Env
 stack:İ Env
 ex:İ Ķ
 fn:ņ->ŏ
 calm:ŏ
 pn:İ (Ķ×Obj)
 xe:ĳ->Ļ->Prop
def frs (l:İ Env):İ Ķ:=l.ô (·.frame)
abbrev Cx.fs (X:Cx):İ Ķ:=frs X.outer
def Yq (sc:Œ)(x:ņ):Prop:=sc.Ú.Å x=į .û\/sc.Ú.Å x=į .ø\/sc.Ú.Å x=į .Õ
def Loc (sc:Œ)(x:ņ):Prop:=sc.Ú.Å x=į .û\/sc.Ú.Å x=į .ø
def Look (env:Env)(h:Ň)(m:ņ->ĵ ĳ)(x:ņ)(u:ĳ):Prop:=(env.Į x=į .û/\m x=į u)\/((env.Į x=į .ø\/env.Į x=į .Õ)/\∃c,env.cells.Å x=į c/\h.IsCell c (į u))
structure Cx.Ok (X:Cx):Prop where
 mod:Mod X.K X.mg X.ð
 kind:X.Ç.č.ý=.function
 glob:X.Ç.globals=mainGlobals
 blt:X.Ç.builtins=builtinsNs
 above:X.s₀.d<=X.Ç.Đ
 inj:∀x y c,X.Ç.cells.Å x=į c->X.Ç.cells.Å y=į c->x=y
 has:∀x,(X.Ç.Į x=į .ø\/X.Ç.Į x=į .Õ)->∃c,X.Ç.cells.Å x=į c
 cab:∀x c,X.fn x=Ĵ->X.Ç.cells.Å x=į c->X.s₀.d<=c
 hd:X.ī=Ĵ->X.A.õ=Ĳ
 frames:X.A.frames=į X.ĝ
 stk:X.ĝ=X.outer\/(X.ĝ=X.Ç::X.outer/\X.Ç.frame=į X.Ç.Đ)
 exf:∀b∈X.ex,b≠X.Ç.Đ/\∀x c,X.Ç.cells.Å x=į c->c≠b
 bs:∀b o,X.ð.Á b=į o->X.s₀.C.Á b=į o/\X.H₀ b=Ĳ
 DY:X.ð.Y.E<=X.s₀.d
 N8:∀b o,X.ð.Á b=į o->b∉X.ex
 Wb:∀b∈X.ex,b∉X.fs
 qu:X.s₀.C.FunFrames X.ð X.outer
 Ko:∀b∈X.fs,X.H₀ b=Ĳ
structure aM (X:Cx)(ao:AC)(σ:İ (ĵ V))(H:Hp)(s:Ļ):Prop where
 ok:X.Ok
 os:s.os=X.s₀.os
 bare:Ś s.gens
 base:Un X.fs X.ex X.H₀ H X.s₀.C s.C
 loc:∃m,s.C.Ns X.Ç.Đ m/\∀(i:ı) (x:ņ) (v:V),X.N[i]?=į x->σ[i]?=į (į v)->Yq X.Ç.č x->∃u,bQ v u/\Look X.Ç s.C m x u
 cell:∀x c,X.Ç.cells.Å x=į c->∃v,s.C.IsCell c v
 free:H X.Ç.Đ=Ĳ
 pB:∀x c,X.Ç.cells.Å x=į c->H c=Ĳ
 pin:∀p∈X.pn++ao,s.C.Á p.1=į p.2/\H p.1=Ĳ/\p.1≠X.Ç.Đ/\p.1∉X.fs/\∀v,p.2.Ď≠.ø v
 hok:jK X.Ï X.w H s.C
 len:σ.n=X.N.n
section
variable {X:Cx}{ao:AC}{T:İ (ĵ V)}{H H':Hp}{s:Ļ}{h':Ň}
def Cx.Ok.aiM (ok:X.Ok)(e:X.ð.Á b=į o):b∉X.fs:=λg=>by have:=(ok.qu.mem g).1;rw[e]at this;cases this
def aM.bs (I:aM X ao T H s):∀b o,X.ð.Á b=į o->s.C.Á b=į o/\H b=Ĳ:=λb o e=>%[I.ð.keep b o (I.ok.bs b o e).1 (I.ok.bs b o e).2 (I.ok.aiM e)<|I.ok.N8 b o e|I.ð.Õ b o (I.ok.bs b o e).1 (I.ok.bs b o e).2<|I.ok.N8 b o e]
def aM.bk (I:aM X ao T H s):∀b o,X.ð.Á b=į o->s.C.Á b=į o:=λb o e=>(I.bs b o e).1
def aM.mod (I:aM X ao T H s):Mod X.K X.mg X.ð:=I.ok.mod
def aM.j7 (I:aM X ao T H s):X.K.In s.C:=I.ok.mod.N7.Ğ I.bk
def aM.nolimit (I:aM X ao T H s):s.C.NoLimit:=I.ok.mod.nolimit.Ğ I.bk
def aM.lt (I:aM X ao T H s):X.Ç.Đ<s.d:=let %[_,hn|_]:=I.loc;hn.lt
def aM.sz (I:aM X ao T H s):X.s₀.d<=s.d:=av I.ok.above (ar I.lt)
def aM.aiN (I:aM X ao T H s){a:Ķ}(h:s.d<=a):a∉X.fs:=λj=>by let(_,o,g,_):=I.ok.qu.mem j;show Ł (bq (a9 g)<|av I.sz h)<|kP _
def aM.Kp (I:aM X ao T H s):∀x c,X.Ç.cells.Å x=į c->c≠X.Ç.Đ:=λx c e z=>by let(v,o,B,hd):=I.ø x c e;let(m,(o',es,ep,j,g,_),_):=I.loc;rw[z,j]at B;cases B;rw[g]at hd;cases hd
def aM.qu (I:aM X ao T H s):s.C.FunFrames X.ð X.outer:=by
 let all:∀(l:İ Env),(∀b∈frs l,b∈X.fs)->X.s₀.C.FunFrames X.ð l->s.C.FunFrames X.ð l:=by
  intro l
  induction l with| nil=>intro _ _;trivial| cons env r ih=>intro hs D;let(hk,(L,o,g,hn,F,hd),G):=D;let j:L∈X.fs:=hs L (by unfold frs;rw[nk,g];show aE);let(sl,e):=I.ð.slot L o F (I.ok.Ko L j) j λz=>I.ok.Wb L z j;show%[hk,%[13,L,_,g,hn,e|hd]|ih (λb B=>hs b (by unfold frs;rw[nk,g];show ay _ B)) G]
 show all X.outer (λ_ B=>B) I.ok.qu
def aM.stack (I:aM X ao T H s):s.C.FunFrames X.ð X.ĝ:=by
 rcases I.ok.stk with e|⟨e,g⟩;.rw[e];show I.qu
 .rw[e];let(m,hn,_):=I.loc;calc .Þ (by rw[I.ok.kind];decide) g hn ?_ I.qu;show Heap.get?_none_of_le<|av I.ok.DY I.ok.above
def aM.N_ (I:aM X ao T H s):∀b∈frs X.ĝ,b∈X.Ç.Đ::X.fs:=λb g=>by
 rcases I.ok.stk with e|⟨e,j⟩;.rw[e]at g;show ay _ g
 .rw[e]at g;unfold frs at g;rw[nk,j]at g;show g
def aM.Ug (I:aM X ao T H s):∀b∈frs X.ĝ,H b=Ĳ:=λb g=>by
 rcases a_.mp (I.N_ b g) with e|g;.rw[e];show I.Õ
 .let(_,o,j,_):=I.ok.qu.mem g;show I.ð.Õ b o j (I.ok.Ko b g) λz=>I.ok.Wb b z g
def aM.step {g':ŀ GenState}{t':ı}{d':Drawn}{ch:İ Ķ}(I:aM X ao T H s)(g:∀b∈ch,(b∈X.ex\/X.s₀.d<=b)/\b≠X.Ç.Đ/\(∀x c,X.Ç.cells.Å x=į c->c≠b)/\∀p∈X.pn++ao,p.1≠b)(keep:∀b o,b≠X.Ç.Đ->b∉X.fs->b∉ch->s.C.Á b=į o->H b=Ĳ->h'.Á b=į o)(slot:∀b o,b≠X.Ç.Đ->b∈X.fs->b∉ch->s.C.Á b=į o->H b=Ĳ->∃sl,h'.Á b=į {o with slots:=sl})(free:∀b o,b∉ch->s.C.Á b=į o->H b=Ĳ->H' b=Ĳ)(there:∀b o,b∉ch->s.C.Á b=į o->∃o',h'.Á b=į o')(tups:∀b xs,H b=į (.Æ xs)->H' b=į (.Æ xs))(wD:∀b o u,H b=į (.ql o u)->H' b=į (.ql o u))(wF:∀b ps,H b=į (.o7 ps)->∃more,H' b=į (.o7<|ps++more))(ns:∀m,s.C.Ns X.Ç.Đ m->h'.Ns X.Ç.Đ m)(hok:jK X.Ï X.w H' h')(O:Ś g'):aM X ao T H' {s with heap:=h',gens:=g',drawn:=d',toks:=t' }:=by
 let L:∀b o,X.s₀.C.Á b=į o->b≠X.Ç.Đ:=λb o e=>bb<|bq (a9 e) I.ok.above;let F:∀b o,X.s₀.C.Á b=į o->b∉X.ex->b∉ch:=λb o e hx B=>by
  rcases(g b B).1 with z|z;.show hx z
  .show Ł (bq (a9 e) z)<|kP _
 let j:∀x c,X.Ç.cells.Å x=į c->∀v,s.C.IsCell c v->h'.IsCell c v:=λx c e v ⟨o,D,hd⟩=>by
  let Y:c∉ch:=λz=>(g c z).2.2.1 x c e rfl;by_cases J:c∈X.fs
  .let(sl,q):=slot c o (I.Kp x c e) J Y D (I.pB x c e);show%[0,_,q|hd]
  .show%[0,o,keep c o (I.Kp x c e) J Y D<|I.pB x c e|hd]
 calc%[I.ok,I.os,O,%[λb o e n B hx=>?_,λb o e n B hx=>?_,λb o e n hx=>?_,λb o e hx=>?_,λb xs e=>tups b xs<|I.ð.tups b xs e,λb o xs e=>wD b o xs<|I.ð.wD b o xs e|λb ps e=>?_],?_,λx c e=>?_,?_,λx c e=>?_,λp hp=>?_,hok|I.đ];.show keep b o (L b o e) B (F b o e hx) (I.ð.keep b o e n B hx)<|I.ð.Õ b o e n hx
 .let(sl,e1):=I.ð.slot b o e n B hx;let(G,e2):=slot b _ (L b o e) B (F b o e hx) e1 (I.ð.Õ b o e n hx);show%[G|e2]
 .let(o',e1):=I.ð.there b o e hx;show free b o' (F b o e hx) e1<|I.ð.Õ b o e n hx
 .let(o',e1):=I.ð.there b o e hx;show there b o' (F b o e hx) e1
 .let(m1,e1):=I.ð.wF b ps e;let(m2,e2):=wF b _ e1;show%[m1++m2|by rw[e2,Array.append_assoc]]
 .let(m,hn,N):=I.loc;calc%[0,m,ns m hn|λi x v e1 e2 e3=>?_];let(u,r,l):=N i x v e1 e2 e3;calc%[0,u,r|?_];rcases l with l|⟨k,c,e,z⟩;.show .Â l
  .show .Ð %[12,k,c,e|j x c e _ z]
 .let(v,z):=I.ø x c e;show%[v|j x c e v z]
 .let(m,(o,_,_,D,_),_):=I.loc;show free _ o (λz=>(g _ z).2.1 rb) D I.Õ
 .let(v,o,D,hd):=I.ø x c e;show free c o (λz=>(g c z).2.2.1 x c e rb) D<|I.pB x c e
 .let(e,n,ne,M,d):=I.pin p hp;let Y:p.1∉ch:=λz=>(g p.1 z).2.2.2 p hp rfl;show%[keep p.1 p.2 ne M Y e n,free p.1 p.2 Y e n,ne,M|d]
def aM.un (I:aM X ao T H s)(u:Un X.fs [] H H' s.C h')(hok:jK X.Ï X.w H' h'):aM X ao T H' {s with heap:=h',toks:=t' }:=by
 let(m,(o,es,ep,F,r),_):=id I.loc;let(sl,L):=u.ġ F I.Õ zr;show I.step (g':=s.gens) (d':=s.drawn) (ch:=[]) (λ_ z=>nomatch z) (λb o _ B _ e n=>u.keep b o e n B zr) (λb o _ B _ e n=>u.slot b o e n B zr) (λb o _ e n=>u.Õ b o e n zr) (λb o _ e=>u.there b o e zr) u.tups u.wD u.wF (λJ hm=>by let(o',D,j,g,G):=hm;rw[F]at g;cases g;show%[31,_,D,j,L|G]) hok I.bare
def aM.call (I:aM X ao T H s)(u:Un (frs X.ĝ) ch H H' s.C h')(hok:jK X.Ï X.w H' h')(N:Ś g')(j:∀b∈ch,(b∈X.ex\/X.s₀.d<=b)/\b≠X.Ç.Đ/\(∀x c,X.Ç.cells.Å x=į c->c≠b)/\∀p∈X.pn++ao,p.1≠b):aM X ao T H' {s with heap:=h',gens:=g',drawn:=d',toks:=t' }:=by
 let(m,(o,es,ep,G,r),_):=id I.loc;let(sl,L):=u.ġ G I.Õ λz=>(j _ z).2.1 rfl;show I.step (ch:=ch) j (λb o L M g e n=>u.keep b o e n (λz=>(a_.mp<|I.N_ b z).í L M) g) (λb o _ _ g e n=>u.ġ e n g) (λb o g e n=>u.Õ b o e n g) (λb o g e=>u.there b o e g) u.tups u.wD u.wF (λO hm=>by let(o',F,D,B,J):=hm;rw[G]at B;cases B;show%[31,_,F,D,L|J]) hok N
def aM.turned (I:aM X ao T H s)(k:∀b o,b≠it->s.C.Á b=į o->h'.Á b=į o)(hn:H it=Ĳ)(L:it≠X.Ç.Đ)(h1:it∈X.ex\/X.s₀.d<=it)(G:∀x c,X.Ç.cells.Å x=į c->c≠it)(D:∀p∈X.pn++ao,p.1≠it):aM X ao T H {s with heap:=h',toks:=t' }:=by
 let j:∀b u,H b=į u->b≠it:=λb u e z=>by rw[z,hn]at e;cases e
 refine I.step (g':=s.gens) (d':=s.drawn) (ch:=[it]) (λb F=>?_) (λb o _ _ g e _=>k b o (λz=>g (by simp[z])) e) (λb o _ _ g e _=>%[o.slots|k b o (λz=>g (by simp[z])) e]) (λ_ _ _ _ n=>n)
  (λb o g e=>%[o|k b o (λz=>g (by simp[z])) e]) (λ_ _ e=>e) (λ_ _ _ e=>e) (λb ps e=>%[#[]|by rw[e];simp]) (λm hm=>?_) (λb u e=>?_) I.bare
 .let e:b=it:=by simpa using F
  subst e;show%[h1,L,G|D]
 .let(o,es,ep,B,r):=hm;show%[31,o,es,ep,k _ o (mI L) B|r]
 .refine(I.ì b u e).stay (λc v g q=>k c v ?_ q) (λ_ q=>q) λ_ _ q=>q
  rcases g with z|z;.rw[z];show j b u e
  .show j c _ z
def aM.tok (I:aM X ao T H s)(t):aM X ao T H {s with toks:=t}:=I.un (h':=s.heap) (t':=t) Un.Ę I.ì
def aM.kept (I:aM X ao T H s)(k:∀b u,s.C.Á b=į u->h'.Á b=į u):aM X ao T H {s with heap:=h',toks:=t' }:=I.un (Un.ě k) (I.ì.ě k)
def aM.laid {a:Ķ}{o:HO}{t':ı}(I:aM X ao T H s)(k:∀b u,s.C.Á b=į u->h'.Á b=į u)(hp:s.d<=a)(g:dD X.Ï X.w (upd H a o) h' a o):aM X ao T (upd H a o) {s with heap:=h',toks:=t' }:=I.un (Un.Ĭ k hp<|I.ì.ß hp) (I.ì.Ĭ k hp g)
def aM.write (I:aM X ao T H s)(D:Yo (H x))(B:e=x\/H e=į (.own x))(k:∀b u,b≠e->s.C.Á b=į u->h'.Á b=į u)(g:∃u,h'.Á e=į u)(j:dD X.Ï X.w (upd H x o) h' x o):aM X ao T (upd H x o) {s with heap:=h',toks:=t' }:=I.un (Un.write D B k g) (I.ì.write D B k g j)
def aM.Uh (I:aM X ao T H s)(h:∀p∈adA,s.C.Á p.1=į p.2/\H p.1=Ĳ/\p.1≠X.Ç.Đ/\p.1∉X.fs/\∀v,p.2.Ď≠.ø v):aM X adA T H s:=%[I.ok,I.os,I.bare,I.ð,I.loc,I.ø,I.Õ,I.pB,λp hp=>(a8.mp hp).í (λz=>I.pin p<|rV _ z)<|h p,I.ì|I.đ]
def Oa {N:İ ņ}(g:N.Ö){i j:ı}{x:ņ}(a:N[i]?=į x)(b:N[j]?=į x):i=j:=by let(h1,e1):=am.mp a;let(B,e2):=am.mp b;show(List.getElem_inj g).mp<|e1.X e2.Ò
def vD (I:aM X ao T H s)(hN:X.N.Ö)(hi:X.N[i]?=į x)(hx:Loc X.Ç.č x)(r:bQ v u)(h:∀s',aM X ao (T.ē i<|į v) H s'->(∃a,Heap.Ĉ a s.C s'.C/\(a=X.Ç.Đ\/X.Ç.cells.Å x=į a))->(∃m,s'.C.Ns X.Ç.Đ m/\Look X.Ç s'.C m x u)->Q () s')(hf:ŵ (X.fn x=Ĵ\/X.Ç.č.Ú.Å x=į .û) Ź):ļ M A (storeName X.Ç x u) Q E s:=by
 let(m,hn,hl):=id I.loc;let Y:(X.Ç.č.ý == .class||(X.Ç.č.ý == .module&&X.Ç.Đ != X.Ç.globals))=ķ:=by rw[I.ok.kind];rfl
 let Z:i<T.n:=by rw[I.len];show(am.mp hi).1
 let Kp:=I.Kp;let B:∀{a:Ķ} {h':Ň},(∃o,s.C.Á a=į o/\H a=Ĳ)->Heap.Ĉ a s.C h'->jK X.Ï X.w H h':=λ{a h'} ha hs b ob e=>by
  let(_,_,D):=ha;calc(I.ì b ob e).stay (λc w' g q=>(hs.2 c ?_).X q) (λ_ q=>q) λ_ _ q=>q;rintro rfl;rcases g with rfl|g
  .rw[D]at e;cases e
  .rw[D]at g;cases g
 rcases hx with hk|hk
 .calc wpAny_storeName_local hk hn (λh' hn' hs=>?_) Y;let(oL,_,_,hoL,_):=id hn;calc h _ %[I.ok,I.os,I.bare,%[λb o e n G hx=>?_,λb o e n G hx=>?_,I.ð.Õ,λb o e hx=>?_,I.ð.tups,I.ð.wD|I.ð.wF],%[0,_,hn'|λj y v' e1 e2 e3=>?_],λy c e=>?_,I.Õ,I.pB,λp hp=>?_,B %[0,oL,hoL|I.Õ] hs|by simpa using I.len] %[0,_,hs|.Â rb] %[0,_,hn'|.Â %[hk|zr]];.show(hs.2 b<|bb<|bq (a9 e) I.ok.above).X<|I.ð.keep b o e n G hx
  .let(sl,e1):=I.ð.slot b o e n G hx;show%[sl|(hs.2 b<|bb<|bq (a9 e) I.ok.above).X e1]
  .let(o',e1):=I.ð.there b o e hx;show%[o'|(hs.2 b<|bb<|bq (a9 e) I.ok.above).X e1]
  .by_cases F:j=i
   .subst F;rw[hi]at e1;cases e1;rw[vx Z]at e2;cases e2;show%[0,u,r|.Â %[hk|zr]]
   .rw[wm (mI F)]at e2;let(u',r',q):=hl j y v' e1 e2 e3;calc%[0,u',r'|?_];rcases q with⟨k,e⟩|⟨k,c,e,z⟩
    .calc .Â %[k|?_];have:y≠x:=λe=>F<|Oa hN e1<|e ▸ hi;simp[this,e]
    .show .Ð %[12,k,c,e|z.sameBut hs<|Kp y c e]
  .let(w',z):=I.ø y c e;show%[w'|z.sameBut hs<|Kp y c e]
  .let(e,n,ne,nf,d):=I.pin p hp;show%[(hs.2 p.1 ne).X e,n,ne,nf|d]
 .let J:X.fn x=Ĵ:=by
   rcases hf with z|z;.show z
   .rw[z]at hk;cases hk
  let(c,g):=I.ok.has x (.Â hk);let(w',z):=I.ø x c g;calc wpAny_storeName_cell I.ok.ý hk g z λh' L hs=>?_;let(oc,N,aiO):=id z;calc h {s with heap:=h' } %[I.ok,I.os,I.bare,%[λb o e n G hx=>?_,λb o e n G hx=>?_,I.ð.Õ,λb o e hx=>?_,I.ð.tups,I.ð.wD|I.ð.wF],%[0,m,hn.sameBut hs<|mI<|Kp x c g|λj y v' e1 e2 e3=>?_],λy c' e=>?_,I.Õ,I.pB,λp hp=>?_,B %[0,oc,N|I.pB x c g] hs|by simpa using I.len] %[0,c,hs|.Ð g] %[0,m,hn.sameBut hs<|mI<|Kp x c g|.Ð %[12,.Â hk,c,g|L]];.show(hs.2 b<|bb<|bq (a9 e)<|I.ok.cab x c J g).X<|I.ð.keep b o e n G hx
  .let(sl,e1):=I.ð.slot b o e n G hx;show%[sl|(hs.2 b<|bb<|bq (a9 e)<|I.ok.cab x c J g).X e1]
  .let(o',e1):=I.ð.there b o e hx;show%[o'|(hs.2 b<|bb<|bq (a9 e)<|I.ok.cab x c J g).X e1]
  .by_cases F:j=i
   .subst F;rw[hi]at e1;cases e1;rw[vx Z]at e2;cases e2;show%[0,u,r|.Ð %[12,.Â hk,c,g|L]]
   .rw[wm (mI F)]at e2;let(u',r',q):=hl j y v' e1 e2 e3;calc%[0,u',r'|?_];rcases q with q|⟨k,c',e,z'⟩;.show .Â q
    .calc .Ð %[12,k,c',e|z'.sameBut hs ?_];rintro rfl;show F<|Oa hN e1<|I.ok.inj _ _ _ e g ▸ hi
  .by_cases O:c'=c;.subst O;show%[_|L]
   .let(w2,z2):=I.ø y c' e;show%[w2|z2.sameBut hs O]
  .let(e,n,ne,nf,d):=I.pin p hp;calc%[(hs.2 p.1 ?_).X e,n,ne,nf|d];intro q;rw[q,N]at e;let q':oc=p.2:=bg e;show d w' (by rw[<-q'];show aiO)
def Eu (I:aM X ao T H s)(N:X.N.Ö)(hi:X.N[i]?=į x)(hx:Loc X.Ç.č x)(r:bQ v u)(h:∀s',aM X ao (T.ē i<|į v) H s'->Q () s')(j:ŵ (X.fn x=Ĵ\/X.Ç.č.Ú.Å x=į .û) Ź):wpAny M A (storeName X.Ç x u) Q E s:=vD I N hi hx r (λs' g _ _=>h s' g) j
def aM.call' {s':Ļ}(I:aM X ao T H s)(B:s'.os=s.os)(u:Un (frs X.ĝ) ch H H' s.C s'.C)(hok:jK X.Ï X.w H' s'.C)(j:Ś s'.gens)(g:∀b∈ch,(b∈X.ex\/X.s₀.d<=b)/\b≠X.Ç.Đ/\(∀x c,X.Ç.cells.Å x=į c->c≠b)/\∀p∈X.pn++ao,p.1≠b):aM X ao T H' s':=by let(h',g',d',t',o'):=s';let e:o'=s.os:=B;subst e;show I.call (g':=g') (t':=t') (d':=d') u hok j g
end
abbrev XK:=ĳ->ĵ Ķ->Hp->Prop
abbrev St:=İ (ĵ V)
abbrev VK:=V->Hp->Prop
abbrev TE:=St->Hp->VK->Prop
abbrev TT:=St->Hp->(ŏ->Hp->Prop)->Prop
abbrev TA:=St->Hp->(İ V->Hp->Prop)->Prop
structure Ends where
 nx:St->Hp->Prop
 rt:VK
 bk:St->Hp->Prop:=λ_ _=>ŗ
 ct:St->Hp->Prop:=λ_ _=>ŗ
abbrev TS:=Ends->St->Hp->Prop
def EP (X:Cx)(ao:AC)(I:St)(Q:VK)(u:ĳ)(s':Ļ):Prop:=∃v H',aM X ao I H' s'/\bQ v u/\Q v H'
def TP (X:Cx)(ao:AC)(I:St)(Q:ŏ->Hp->Prop)(b:ŏ)(s':Ļ):Prop:=∃H',aM X ao I H' s'/\Q b H'
def AP (X:Cx)(ao:AC)(I:St)(Q:İ V->Hp->Prop)(us:İ ĳ)(s':Ļ):Prop:=∃vs H',aM X ao I H' s'/\Vals vs us/\Q vs H'
def SP (X:Cx)(ao:AC)(D:Ends)(f:Flow)(s':Ļ):Prop:=match f with| .next=>∃g H',aM X ao g H' s'/\D.nx g H'| .brk=>∃g H',aM X ao g H' s'/\D.bk g H'| .cont=>∃g H',aM X ao g H' s'/\D.ct g H'| .ret u=>∃v g H',aM X ao g H' s'/\bQ v u/\D.rt v H'
def PE (X:Cx)(e:ŋ)(t:TE):Prop:=∀(ao:AC) (s:Ļ) (I:St) (H:Hp) (Q:VK),aM X ao I H s->t I H Q->ļ (Ľ X.Ï X.w) X.A (Ŏ e X.Ç) (EP X ao I Q) X.xe s
structure QE (X:Cx)(e:ŋ)(t:TE):Prop where
 out:PE X e t
def PT (X:Cx)(e:ŋ)(t:TT):Prop:=∀(ao:AC) (s:Ļ) (I:St) (H:Hp) (Q:ŏ->Hp->Prop),aM X ao I H s->t I H Q->ļ (Ľ X.Ï X.w) X.A (isTrue e X.Ç<|Ŏ e X.Ç) (TP X ao I Q) X.xe s
structure QT (X:Cx)(e:ŋ)(t:TT):Prop where
 out:PT X e t
def PW (X:Cx)(e:ŋ)(t:TT):Prop:=∀(g:Sem ĳ) (ao:AC) (s:Ļ) (I:St) (H:Hp) (Q:ŏ->Hp->Prop),aM X ao I H s->t I H Q->ļ (Ľ X.Ï X.w) X.A (isTrue e X.Ç g) (TP X ao I Q) X.xe s
structure QW (X:Cx)(e:ŋ)(t:TT):Prop where
 out:PW X e t
def PW.pt (h:PW X e t):PT X e t:=h _
def PA (X:Cx)(es:İ ŋ)(t:TA):Prop:=∀(pos:Pos) (ao:AC) (s:Ļ) (I:St) (H:Hp) (Q:İ V->Hp->Prop),aM X ao I H s->t I H Q->ļ (Ľ X.Ï X.w) X.A (spliced<|backTo pos<|Ņ es X.Ç) (AP X ao I Q) X.xe s
structure QA (X:Cx)(es:İ ŋ)(t:TA):Prop where
 out:PA X es t
def PS (X:Cx)(st:Ŋ)(t:TS):Prop:=∀(ao:AC) (s:Ļ) (I:St) (H:Hp) (D:Ends),aM X ao I H s->t D I H->ļ (Ľ X.Ï X.w) X.A (exec st X.Ç) (SP X ao D) X.xe s
structure QS (X:Cx)(st:Ŋ)(t:TS):Prop where
 out:PS X st t
def Kr (X:Cx)(st:İ Ŋ)(t:TS):Prop:=∀(ao:AC) (s:Ļ) (I:St) (H:Hp) (D:Ends),aM X ao I H s->t D I H->ļ (Ľ X.Ï X.w) X.A (execs st X.Ç) (SP X ao D) X.xe s
structure vG (X:Cx)(st:İ Ŋ)(t:TS):Prop where
 out:Kr X st t
def bM {I:Type}{t:Sem I}{Q g:I->Ļ->Prop}(h:ļ M A t Q E s)(j:∀a s,Q a s->g a s):ļ M A t g E s:=fq h j λ_ _ x=>x
section
variable {X:Cx}
abbrev gV (o:ĵ (ĵ V))(f:V->Prop):Prop:=match o with|some (some v)=>f v|_=>False
theorem ah1:∀{o:ĵ (ĵ V)},gV o f->∃v,o=į (į v)/\f v
 | some (some v),h=>%[0,v,rb|h]
def ajR (v)(e:o=į (į v))(h:f v):gV o f:=by subst e;show h
abbrev Ks (x:V)(f:ŏ->Prop):Prop:=match x with|.bl c=>f c|_=>False
theorem pC:∀{x:V},Ks x f->∃c,x=.bl c/\f c
 | .bl c,h=>%[0,c,rb|h]
def bB (c)(e:x=.bl c)(h:f c):Ks x f:=by subst e;show h
def fO (i:ı):TE:=λT H Q=>gV T[i]? λv=>Q v H
def tC (v:V):TE:=λ_ H Q=>Q v H
def Ys {i:ı}{x:ņ}{pos:Pos}(N:X.N[i]?=į x)(hv:Yq X.Ç.č x)(hd:ŵ ((x==("__debug__":ņ))=ķ) ŷ)(B:ŵ ((x==("__classdict__":ņ))=ķ) ŷ):PE X (.ë x pos) (fO i):=by
 intro ao s T H Q I h;let(v,e,h):=ah1 h;let(m,hn,F):=I.loc;let(u,r,l):=F i x v N e hv;let j:EP X ao T Q u s:=%[1,v,H,I,r|h]
 rcases l with⟨hk,hm⟩|⟨hk,c,D,g⟩;.show uk (wn I.ok.ý hk hn hm j) hd
 .rcases hk with hk|hk;.show uk (wpAny_loadName_cell I.ok.ý hk D g j) hd
  .show uk (wpAny_loadName_free I.ok.ý hk D g j B) hd
def aB {i j pos}:QE X (.ą (.I i) j pos) (tC<|.I i):=⟨λ_ _ _ H _ I h=>xv %[1,.I i,H,I.tok _,%[_|rb]|h]⟩
def mz {b j pos}:QE X (.ą (.ĉ b) j pos) (tC<|.bl b):=⟨λ_ _ _ H _ I h=>Constant_bool %[1,.bl b,H,I,rb|h]⟩
def Yt {j pos}:QE X (.ą .Ø j pos) (tC .ă):=⟨λ_ _ _ H _ I h=>Constant_none %[1,.ă,H,I,rb|h]⟩
def afQ {x j pos}:PE X (.ą (.À x) j pos) (tC<|.À x):=λ_ _ _ H _ I h=>pM %[1,.À x,H,I.tok _,%[_|rb]|h]
def Gl (X:Cx)(x:ņ):Prop:=X.Ç.Į x=į .globalImplicit
def CQ {E:AB}{ao:AC}{s:Ļ}{T:St}{H:Hp}{x:ņ}{u:ĳ}{pos:Pos}{Q:AB}(I:aM X ao T H s)(g:Gl X x)(hm:X.mg x=į u)(h:Q u s)(hd:ŵ ((x==("__debug__":ņ))=ķ) ŷ):ļ (Ľ X.Ï X.w) X.A (Ŏ (.ë x pos) X.Ç) Q E s:=Calls.Name_function_global I.ok.ý g (Calls.loadGlobal_global (by rw[I.ok.glob];show I.mod.glob.Ğ I.bk) hm h) hd
def nO {E:AB}{ao:AC}{s:Ļ}{T:St}{H:Hp}{x:ņ}{u:ĳ}{pos:Pos}{Q:AB}(I:aM X ao T H s)(g:Gl X x)(hm:X.mg x=Ĳ)(hv:bootBuiltins x=į u)(h:Q u s)(hn:ŵ (x≠"__name__") ŷ)(hd:ŵ ((x==("__debug__":ņ))=ķ) ŷ):ļ (Ľ X.Ï X.w) X.A (Ŏ (.ë x pos) X.Ç) Q E s:=by let(mb,h1,j):=I.mod.blt;show Calls.Name_function_global I.ok.ý g (Calls.loadGlobal_builtin (by rw[I.ok.glob];show I.mod.glob.Ğ I.bk) hm (by rw[I.ok.blt];show h1.Ğ I.bk) ((j x hn).X hv) h) hd
def CT (g:Gl X x)(hm:X.mg x=į u)(r:bQ v u)(hd:ŵ ((x==("__debug__":ņ))=ķ) ŷ):QE X (.ë x pos) (tC v):=⟨λ_ _ _ H _ I h=>CQ I g hm %[1,v,H,I,r|h] hd⟩
def lR {x:ņ}{v:V}{u:ĳ}{pos:Pos}(g:Gl X x)(hm:X.mg x=Ĳ)(hv:bootBuiltins x=į u)(r:bQ v u)(hn:ŵ (x≠"__name__") ŷ)(hd:ŵ ((x==("__debug__":ņ))=ķ) ŷ):QE X (.ë x pos) (tC v):=⟨λ_ _ _ H _ I h=>nO I g hm hv %[1,v,H,I,r|h] hn hd⟩
variable {a b:ŋ}{ta tb:TE}{pos:Pos}
def PC (X:Cx)(op:CmpOp)(a b:ŋ)(t:TE):Prop:=∀(ao:AC) (s:Ļ) (T:St) (H:Hp) (Q:VK),aM X ao T H s->t T H Q->
  ļ (Ľ X.Ï X.w) X.A (Ŏ a X.Ç) (λv j=>ļ (Ľ X.Ï X.w) X.A (Ŏ b X.Ç) (λu g=>ļ (Ľ X.Ï X.w) X.A (compareOp op v u) (EP X ao T Q) X.xe g) X.xe j) X.xe s
structure QC (X:Cx)(op:CmpOp)(a b:ŋ)(t:TE):Prop where
 out:PC X op a b t
def tB (t:TE):TT:=λT H Q=>t T H λx H1=>Ks x λc=>Q c H1
def afR (h:QC X op a b t)(h1:behindInMarks op b=ķ:=by first|show aiP _ zt zt|rfl):QE X (.Compare a [op] [b] pos) t:=⟨λao s T H Q I hw=>wpAny_Compare1 (h.Û ao s T H Q I hw) h1⟩
def f9 (h:QE X e t)(j:ŵ (∀g,isTrue e X.Ç g=(do let v <- g;standAt e.pos;holding [v] (truthy v))) Ÿ):QT X e (tB t):=⟨by
 intro ao s T H Q I hw;calc isTrue_plain (bM (h.Û ao s T H _ I hw) λv s1 ⟨x,H1,I1,r1,q1⟩=>?_)<|j _;let(d,rfl,q):=pC q1;cases r1;show fe %[0,H1,I1|q]⟩
variable {tA tB':TT}{rest:İ ŋ}
def aiQ (t u:TT):TT:=λT H Q=>t T H λc H1=>if c=Ĵ then u T H1 Q else Q ķ H1
def tOr (t u:TT):TT:=λT H Q=>t T H λc H1=>if c=Ĵ then Q Ĵ H1 else u T H1 Q
def aiR (t:TT):TT:=λT H Q=>t T H λc H1=>Q (!c) H1
def qw (ha:QT X a tA):QW X (.BoolOp .And [a] pos) tA:=⟨by
 intro g ao s T H Q I h;calc isTrue_and<|bM (ha.Û ao s T H Q I h) λc s1 e=>?_;cases c with
 | true=>show isTrue_and_nil e
 | false=>show e⟩
def qY (ha:QT X a tA):QW X (.BoolOp .Or [a] pos) tA:=⟨by
 intro g ao s T H Q I h;calc isTrue_or<|bM (ha.Û ao s T H Q I h) λc s1 e=>?_;cases c with
 | false=>show isTrue_or_nil e
 | true=>show e⟩
def pD (ha:QT X a tA)(j:QW X (.BoolOp .And (b::rest) pos) tB'):QW X (.BoolOp .And (a::b::rest) pos) (aiQ tA tB'):=⟨by
 intro g ao s T H Q I h;calc isTrue_and<|bM (ha.Û ao s T H _ I h) λc s1 B=>?_;let(H1,I1,q1):=B;cases c with
 | true=>show j.Û g ao s1 T H1 Q I1 q1
 | false=>show%[0,H1,I1|q1]⟩
def tK (ha:QT X a tA)(j:QW X (.BoolOp .Or (b::rest) pos) tB'):QW X (.BoolOp .Or (a::b::rest) pos) (tOr tA tB'):=⟨by
 intro g ao s T H Q I h;calc isTrue_or<|bM (ha.Û ao s T H _ I h) λc s1 B=>?_;let(H1,I1,q1):=B;cases c with
 | true=>show%[0,H1,I1|q1]
 | false=>show j.Û g ao s1 T H1 Q I1 q1⟩
def jk (ha:QT X a tA):QT X (.UnaryOp .Not a pos) (aiR tA):=⟨by
 intro ao s T H Q I h;show isTrue_not<|ha.Û ao s T H (λc H1=>Q (!c) H1) I h⟩
def ah2 (ta tb:TE):TE:=λT H Q=>ta T H λx H1=>Ks x λc=>if c=Ĵ then tb T H1 Q else Q (.bl ķ) H1
def aiS (ta tb:TE):TE:=λT H Q=>ta T H λx H1=>Ks x λc=>if c=Ĵ then Q (.bl Ĵ) H1 else tb T H1 Q
def ah3 (ta:TE):TE:=λT H Q=>ta T H λx H1=>Ks x λc=>Q (.bl<|!c) H1
def nQ {op}(h:QE X a t):QE X (.BoolOp op [a] pos) t:=⟨λao s T H Q I hw=>BoolOp_one<|h.Û ao s T H Q I hw⟩
def pF (ha:QE X a ta)(g:QE X (.BoolOp .And (b::rest) pos) tb):QE X (.BoolOp .And (a::b::rest) pos) (ah2 ta tb):=⟨by
 intro ao s T H Q I h;calc BoolOp_and<|bM (ha.Û ao s T H _ I h) λv s1 j=>?_;let(x,H1,I1,r1,q1):=j;let(c,rfl,q1):=pC q1;cases r1;calc fe ?_;cases c with
 | true=>show g.Û ao s1 T H1 Q I1 q1
 | false=>show%[1,.bl ķ,H1,I1,rb|q1]⟩
def adB (ha:QE X a ta)(g:QE X (.BoolOp .Or (b::rest) pos) tb):QE X (.BoolOp .Or (a::b::rest) pos) (aiS ta tb):=⟨by
 intro ao s T H Q I h;calc BoolOp_or<|bM (ha.Û ao s T H _ I h) λv s1 j=>?_;let(x,H1,I1,r1,q1):=j;let(c,rfl,q1):=pC q1;cases r1;calc fe ?_;cases c with
 | false=>show g.Û ao s1 T H1 Q I1 q1
 | true=>show%[1,.bl Ĵ,H1,I1,rb|q1]⟩
def Yu (ha:QE X a ta):QE X (.UnaryOp .Not a pos) (ah3 ta):=⟨by
 intro ao s T H Q I h;calc UnaryOp_<|bM (ha.Û ao s T H _ I h) λv s1 ⟨x,H1,I1,r1,q1⟩=>?_;let(c,rfl,q1):=pC q1;cases r1;show not_of<|fe %[1,.bl<|!c,H1,I1,rb|q1]⟩
def tIf (t:TT)(ta tb:TE):TE:=λT H Q=>t T H λc H1=>if c=Ĵ then ta T H1 Q else tb T H1 Q
def jx (g:QT X c tA)(ha:QE X a ta)(j:QE X b tb):QE X (.IfExp c a b pos) (tIf tA ta tb):=⟨by
 intro ao s T H Q I h;calc wpAny_IfExp<|bM (g.Û ao s T H _ I h) λd s1 B=>?_;let(H1,I1,q1):=B;cases d with
 | true=>show ha.Û ao s1 T H1 Q I1 q1
 | false=>show j.Û ao s1 T H1 Q I1 q1⟩
end
def aZ (K:W.Ë)(H:Hp)(a:Ķ)(xs:İ V):Prop:=Rd H a (.É xs)\/
  ∃(o:Obj) (its:ŀ ĳ) (n:Nat),K.Å a=į o/\o.cls=.È "list"/\o.dict=Ĳ/\o.Ď=.ú its n/\its.E<=Ŀ/\Vals xs its.H
def aQ (K:W.Ë)(H:Hp)(a:Ķ)(xs:İ V):Prop:=Rd H a (.Æ xs)\/
  ∃(o:Obj) (its:ŀ ĳ) (n:Nat),K.Å a=į o/\o.cls=.È "tuple"/\o.Ď=.ú its n/\its.E<=Ŀ/\Vals xs its.H
def aiT:ĳ->ĵ V
 | .Ø=>į .ă
 | .ĉ b=>į (.bl b)
 | .I i _=>į (.I i)
 | .À x _=>į (.À x)
 | .bytes b _=>į (.zZ b)
 | .float b _=>į (.flt b)
 | .v a=>į (.v a)
 | .È n=>į (.ty n)
 | _=>none
def bQ.abs (r:bQ x u):aiT u=į x:=by
 cases x with
 | non=>cases r;rfl
 | bl _=>cases r;rfl
 | int _=>let(t,rfl):=r;rfl
 | str _=>let(t,rfl):=r;rfl
 | zZ _=>let(t,rfl):=r;rfl
 | flt _=>let(t,rfl):=r;rfl
 | ref _=>cases r;rfl
 | ty _=>cases r;rfl
def bQ.inj (r:bQ x u)(q:bQ y u):x=y:=bg (r.abs.Ò.X q.abs)
def Vals.inj:∀{xs ys:İ V} {us:İ ĳ},Vals xs us->Vals ys us->xs=ys:=by
 intro _ ys _ a b
 induction a generalizing ys with
 | nil=>cases b;rfl
 | cons r _ ih=>
  cases b with| cons q t=>rw[r.inj q,ih t]
section
variable {X:Cx}{ao:AC}{T:St}{H:Hp}{s:Ļ}{a:Ķ}{xs ys:İ V}
def aZ.of {K:W.Ë}(h:H a=į (.É xs)):aZ K H a xs:=.Â (.Â h)
def aQ.of {K:W.Ë}(h:H a=į (.Æ xs)):aQ K H a xs:=.Â (.Â h)
def aM.list (I:aM X ao T H s)(h:aZ X.K H a xs):∃its:İ ĳ,Vals xs its/\PlainL s.C a its.R/\xs.n<=Ŀ:=by
 rcases h with h|⟨o,its,n,hk,g,hd,hs,hz,r⟩
 .let(z,its,n,r,e):=h.ok I.ì;show%[2,its,r,%[13,_,n,e,rb,rb|rb]|z]
 .calc%[2,its.H,r,%[13,o,n,I.j7 a o hk,g,hd|by simpa using hs]|?_];let e:=r.n;simp only[bu]at e;lia
def aM.tuple (I:aM X ao T H s)(h:aQ X.K H a xs):∃its:İ ĳ,Vals xs its/\IsTup s.C a its.R/\xs.n<=Ŀ:=by
 rcases h with h|⟨o,its,n,hk,g,hs,hz,r⟩
 .let(z,its,r,p):=h.ok I.ì;show%[2,its,r,p|z]
 .calc%[2,its.H,r,%[34,o,I.j7 a o hk,g,n|by simpa using hs]|?_];let e:=r.n;simp only[bu]at e;lia
def aM.Ob (I:aM X ao T H s)(h:aZ X.K H a xs)(h':aZ X.K H a ys):xs=ys:=by
 let(its,r,(o,n,e,_,_,d),_):=I.ğ h;let(its',j,(o',B,g,_,_,d'),_):=I.ğ h';rw[e]at g;cases g;rw[d]at d';injection d' with d1 _;have:its=its':=by simpa using Ő Array.H d1
 subst this;show r.inj j
def aM.Ku (I:aM X ao T H s)(h:aQ X.K H a xs)(h':aQ X.K H a ys):xs=ys:=by
 let(its,r,(o,e,_,n,d),_):=I.Ģ h;let(its',j,(o',g,_,B,d'),_):=I.Ģ h';rw[e]at g;cases g;rw[d]at d';injection d' with d1 _;have:its=its':=by simpa using Ő Array.H d1
 subst this;show r.inj j
end
abbrev Cx.wish (X:Cx)(E:AB):Cx:={X with xe:=E}
abbrev Cx.D_ (X:Cx):Cx:=X.wish λ_ _=>ŗ
def Cx.Ok.wish {X:Cx}(ok:X.Ok)(E:AB):(X.wish E).Ok:=%[ok.mod,ok.ý,ok.glob,ok.blt,ok.above,ok.inj,ok.has,ok.cab,ok.hd,ok.frames,ok.stk,ok.exf,ok.bs,ok.DY,ok.N8,ok.Wb,ok.qu|ok.Ko]
def Cx.Ok.qZ {X:Cx}(ok:(X.wish E).Ok):X.Ok:=%[ok.mod,ok.ý,ok.glob,ok.blt,ok.above,ok.inj,ok.has,ok.cab,ok.hd,ok.frames,ok.stk,ok.exf,ok.bs,ok.DY,ok.N8,ok.Wb,ok.qu|ok.Ko]
section
variable {X:Cx}{ao:AC}{T:St}{H:Hp}{s:Ļ}{E:AB}
def aM.wish (I:aM X ao T H s)(E:AB):aM (X.wish E) ao T H s:=%[I.ok.wish E,I.os,I.bare,I.ð,I.loc,I.ø,I.Õ,I.pB,I.pin,I.ì|I.đ]
def aM.qZ (I:aM (X.wish E) ao T H s):aM X ao T H s:=%[I.ok.qZ,I.os,I.bare,I.ð,I.loc,I.ø,I.Õ,I.pB,I.pin,I.ì|I.đ]
def SP.qZ (h:SP (X.wish E) ao D f s'):SP X ao D f s':=by
 cases f with
 | next=>let(g,H',I,q):=h;show%[4,g,H',I.qZ|q]
 | brk=>let(g,H',I,q):=h;show%[4,g,H',I.qZ|q]
 | cont=>let(g,H',I,q):=h;show%[4,g,H',I.qZ|q]
 | ret u=>let(v,g,H',I,r,q):=h;show%[27,v,g,H',I.qZ,r|q]
def Kr.D_ {st:İ Ŋ}(h:Kr X.D_ st t):Kr X st t:=λao s T H D I hw=>fq (h ao s T H D (I.wish _) hw) (λ_ _ q=>q.qZ) λ_ _ z=>False.í z
end
section
variable {X:Cx}{st:Ŋ}{rest:İ Ŋ}{t u:TS}{e:ŋ}{te:TE}{pos:Pos}
def ah4:TS:=λD T H=>D.nx T H
def aiU (t u:TS):TS:=λD T H=>t {D with nx:=u D} T H
def cC  : vG X [] ah4:=⟨λ_ _ T H _ I h=>md %[4,T,H,I|h]⟩
def aD (h1:QS X st t)(g:vG X rest u):vG X (st::rest) (aiU t u):=⟨by
 intro ao s T H D I h;calc oC<|bM (h1.Û ao s T H {D with nx:=u D} I h) λf s1 q=>?_;cases f with
 | next=>let(j,H',B,q):=q;show g.Û ao s1 j H' D B q
 | ret v=>show q
 | brk=>show q
 | cont=>show q⟩
def aG (h1:QS X st t):vG X [st] t:=⟨by
 intro ao s T H D I h;calc oC<|bM (h1.Û ao s T H D I h) λf s1 q=>?_;cases f with
 | next=>show md q
 | ret v=>show q
 | brk=>show q
 | cont=>show q⟩
def aM.quiet {ao:AC}{T:St}{H:Hp}{s:Ļ}(I:aM X ao T H s):interactive X.Ç=ķ:=by simp[interactive,I.ok.kind]
def Nu (te:TE):TS:=λD T H=>te T H λ_ H1=>D.nx T H1
def gb (g:QE X e te)(hs:ŵ (swapsWith e Ĳ pos.line X.Ç=pure ķ) Ŷ):QS X (.Expr e pos) (Nu te):=⟨by
 intro ao s T H D I h;show wpAny_Expr_any (bM (g.Û ao s T H _ I h) λv s1 ⟨x,H1,I1,r1,q1⟩=>%[4,T,H1,I1|q1]) I.quiet hs⟩
def abp (te:TE):TS:=λD T H=>te T H D.rt
def aY (g:QE X e te):QS X (.Return (į e) pos) (abp te):=⟨by
 intro ao s T H D I h;show wpAny_Return_some<|bM (g.Û ao s T H _ I h) λv s1 ⟨x,H1,I1,r1,q1⟩=>%[27,x,T,H1,I1,r1|q1]⟩
def aiV (c:TT)(t u:TS):TS:=λD T H=>c T H λb H1=>if b=Ĵ then t D T H1 else u D T H1
def dF (g:QT X c tc)(ha:vG X a t)(j:vG X b u):QS X (.If c a b pos) (aiV tc t u):=⟨by
 intro ao s T H D I h;calc wpAny_If<|bM (g.Û ao s T H _ I h) λd s1 B=>?_;let(H1,I1,q1):=B;cases d with
 | true=>show ha.Û ao s1 T H1 D I1 q1
 | false=>show j.Û ao s1 T H1 D I1 q1⟩
def afS:TS:=λ_ _ _=>ŗ
def Am  : vG X sts afS:=⟨λ_ _ _ _ _ _ h=>h.í⟩
end
abbrev TG:=V->St->Hp->(St->Hp->Prop)->Prop
abbrev Kv:=İ V->St->Hp->(St->Hp->Prop)->Prop
def PG (X:Cx)(g:ŋ)(t:TG):Prop:=∀(ao:AC) (s:Ļ) (I:St) (H:Hp) (v:V) (u:ĳ) (Q:St->Hp->Prop),aM X ao I H s->bQ v u->t v I H Q->
  ļ (Ľ X.Ï X.w) X.A (assign g X.Ç u) (λ_ s'=>∃j H',aM X ao j H' s'/\Q j H') X.xe s
structure QG (X:Cx)(e:ŋ)(t:TG):Prop where
 out:PG X e t
def Yv (X:Cx)(ts:İ ŋ)(t:Kv):Prop:=∀(ao:AC) (s:Ļ) (I:St) (H:Hp) (vs:İ V) (us:İ ĳ) (Q:St->Hp->Prop),aM X ao I H s->Vals vs us->t vs I H Q->
  ļ (Ľ X.Ï X.w) X.A (assignInOrder ((assignEach ts X.Ç).Q (·.2)) us) (λ_ s'=>∃g H',aM X ao g H' s'/\Q g H') X.xe s
structure QGs (X:Cx)(es:İ ŋ)(t:Kv):Prop where
 out:Yv X es t
abbrev afT:=V->V->V->Hp->(Hp->Prop)->Prop
def abq (X:Cx)(t:afT):Prop:=∀(ao:AC) (s:Ļ) (I:St) (H:Hp) (o i v:V) (j g u:ĳ) (Q:Hp->Prop),aM X ao I H s->bQ o j->bQ i g->bQ v u->t o i v H Q->
  ļ (Ľ X.Ï X.w) X.A (setItem j g u) (λ_ s'=>∃H',aM X ao I H' s'/\Q H') X.xe s
section
variable {X:Cx}{pos:Pos}
def j8 (i:ı):TG:=λv T H Q=>Q (T.ē i<|į v) H
def qx (N:X.N.Ö)(hi:X.N[i]?=į x)(hx:Loc X.Ç.č x)(j:ŵ (X.fn x=Ĵ\/X.Ç.č.Ú.Å x=į .û) Ź):PG X (.ë x pos) (j8 i):=by intro ao s T H v u Q I r h;show x_<|Eu I N hi hx r (λs' g=>%[4,_,H,g|h]) j
def Wc:Kv:=λvs T H Q=>vs=[]/\Q T H
def yG (t:TG)(u:Kv):Kv:=λvs T H Q=>∃v r,vs=v::r/\t v T H λg H'=>u r g H' Q
def IV:Yv X [] Wc:=by intro ao s T H vs us Q I r h;let(e,h):=h;subst e;cases r;show assignInOrder_nil %[4,T,H,I|h]
def qy (h1:PG X e t)(j:Yv X es u)(hs:ŵ ((assignEach (e::es) X.Ç).Q (·.2)=assign e X.Ç::(assignEach es X.Ç).Q (·.2)) Ŷ):Yv X (e::es) (yG t u):=by
 intro ao s T H vs us Q I r h;let(v,vr,e1,h):=h;subst e1;cases r with| cons r rr=>rw[hs];calc assignInOrder_cons<|bM (h1 ao s T H _ _ _ I r h) λ_ s1 B=>?_;let(g,H1,I1,q1):=B;show j ao s1 g H1 _ _ Q I1 rr q1
def Wd (K:W.Ë)(n:ı)(t:Kv):TG:=λv T H Q=>∃a xs,v=.v a/\aQ K H a xs/\xs.n=n/\t xs T H Q
def Oc {es:İ ŋ}{k:ı}{t:Kv}{n:ı}(F:X.ī=Ĵ)(h:Yv X es t)(hn:ŵ ((assignEach es X.Ç).n=n) Ŷ)(g:ŵ ((assignEach es X.Ç).findIdx? (·.1)=Ĳ) Ŷ):PG X (.ģ es k pos) (Wd X.K n t):=by intro ao s T H v u Q I r hw;let(a,xs,e1,D,B,hw):=hw;subst e1;cases r;let(its,j,G,hz):=I.Ģ D;calc assign_Tuple_tuple (I.ok.hd F) G (by simp[hn,<-B,j.length]) g λh' hx=>?_;let I1:aM X ao T H {s with heap:=h' }:=I.ě (t':=s.toks) λb o e=>hx b o (bb<|a9 e) e;show h ao _ T H xs _ Q I1 (by simpa using j) hw
def afU (to ti:TE)(t:afT):TG:=λv T H Q=>to T H λo H1=>ti T H1 λi j=>t o i v j λg=>Q T g
def afV (J:PE X o to)(hi:PE X i ti)(hs:abq X t)(ha:ŵ (∀v,assign (.ė o i pos) X.Ç v=(do
   let g <- holding [v] (Ŏ o X.Ç)
   let j <- holding [v,g] (Ŏ i X.Ç)
   standAt pos
   holding [v,g,j] (setItem g j v)
   release [v,g,j] [])) Ÿ):PG X (.ė o i pos) (afU to ti t):=by
 intro ao s T H v u Q I r h;rw[ha];calc ab<|eC<|bM (J ao s T H _ I h) λg s1 B=>?_;let(x,H1,I1,r1,q1):=B;calc ab<|eC<|bM (hi ao s1 T H1 _ I1 q1) λj s2 B=>?_;let(y,G,I2,F,q2):=B;calc ab<|vS<|ab<|eC<|bM (hs ao s2 T G x y v g j u _ I2 r1 F r q2) λ_ M B=>?_;let(D,L,q3):=B;show wpAny_release %[4,T,D,L|q3]
def Wf (te:TE)(g:TG):TS:=λD T H=>te T H λx H1=>g x T H1 D.nx
def xg (j:QE X e te)(B:QG X tg g)(hs:ŵ (swapsWithSole [tg] e pos.line X.Ç=pure ķ) Ŷ)(hw:ŵ (swappedStores [tg] e X.Ç=pure Ĳ) Ŷ)(h1:ŵ ((assignEach [tg] X.Ç).Q (·.2)=[assign tg X.Ç]) Ŷ):QS X (.Assign [tg] e pos) (Wf te g):=⟨by
 intro ao s T H D I h;calc wpAny_Assign_stores (bM (j.Û ao s T H _ I h) λv s1 ⟨x,H1,I1,r1,q1⟩=>?_) hs hw;rw[h1];show bM (B.Û ao s1 T H1 x v _ I1 r1 q1) λ_ s2 q=>q⟩
def aO (N:X.N.Ö)(hi:X.N[i]?=į x)(hx:Loc X.Ç.č x)(g:QE X e te)(hs:ŵ (swapsWith e (į<|.ë x pos') pos.line X.Ç=pure ķ) Ŷ)(j:ŵ (X.fn x=Ĵ\/X.Ç.č.Ú.Å x=į .û) Ź):QS X (.Assign [.ë x pos'] e pos) (Wf te<|j8 i):=⟨by
 intro ao s T H D I h;calc ya (bM (g.Û ao s T H _ I h) λv s1 ⟨y,H1,I1,r1,q1⟩=>?_) hs;show Eu I1 N hi hx r1 (λs2 I2=>%[4,_,H1,I2|q1]) j⟩
def afW (c:TT)(tb:TS):TS:=λD T H=>∃W:ı->St->Hp->Prop,(∃m,W m T H)/\∀m T H,W m T H->
 c T H λb H1=>if b=Ĵ then ∃N:St->Hp->Prop,(∀j H',N j H'->∃g,g<m/\W g j H')/\tb {D with nx:=N,ct:=N,bk:=D.nx} T H1 else D.nx T H1
def Ew (hp:Ū (Ľ X.Ï X.w) X.A X.Ç X.xe)(Z:QT X c tc)(hb:vG X body tb):QS X (.While c body [] pos) (afW tc tb):=⟨by
 intro ao s T H D I h;let(W,(m0,Y),turn):=h;calc wpAny_While<|codeAny_whileLoop (λn s'=>∃O H',aM X ao O H' s'/\W n O H') ?_ m0 %[4,T,H,I|Y];intro n s1 z;let(j,H1,I1,w1):=z;calc gv hp<|bM (Z.Û ao s1 j H1 _ I1<|turn n j H1 w1) λb s2 zz=>?_;let(L,I2,q2):=zz;cases b with
 | true=>
  let(N,M,q2):=q2;rw[ĺ rfl];calc gv hp<|bM (hb.Û ao s2 j L _ I2 q2) λf s3 q3=>?_;cases f with
  | next=>let(T3,g,B,J):=q3;let(G,hm,F):=M T3 g J;show%[0,G,hm|%[4,T3,g,B|F]]
  | cont=>let(T3,g,B,J):=q3;let(G,hm,F):=M T3 g J;show%[0,G,hm|%[4,T3,g,B|F]]
  | brk=>show q3
  | ret v=>show q3
 | false=>rw[Ĺ cw];show md %[4,j,L,I2|q2]⟩
end
structure It where
 go:ı->Hp->Prop
 Gj:ı->Hp->V->Hp->Prop
 stop:ı->Hp->Prop
def iB (X:Cx)(ao:AC)(H:Hp)(b:Ķ):Prop:=H b=Ĳ/\b≠X.Ç.Đ/\b∉X.fs/\(b∈X.ex\/X.s₀.d<=b)/\(∀x c,X.Ç.cells.Å x=į c->c≠b)/\∀p∈X.pn++ao,p.1≠b
def aM.mH {X:Cx}{ao:AC}{T:St}{H H':Hp}{s:Ļ}{b:Ķ}(I:aM X ao T H s)(g:s.d<=b)(hn:H' b=Ĳ):iB X ao H' b:=by
 refine%[hn,ib<|bq I.lt g,I.aiN g,.Ð<|av I.sz g,λx c e z=>?_|λp hp z=>?_]
 .let(v,q):=I.ø x c e;show Ł (bq q.lt (by rw[z];show g))<|kP _
 .show Ł (bq (a9 (I.pin p hp).1) (by rw[z];show g))<|kP _
structure Turn (P:ń)(w:ŉ)(K:W.Ë)(tg:ŋ)(J:It)(fp:İ Ķ)(it:Ķ)(tn:ı->Ň->Prop):Prop where
 mem:it∈fp
 obj:∀i h,tn i h->∀b∈fp,∃o,h.Á b=į o/\∀v,o.Ď≠.ø v
 keep:∀i h h',tn i h->(∀b∈fp,∀o,h.Á b=į o->h'.Á b=į o)->tn i h'
 item:∀(X:Cx),X.Ï=P->X.w=w->X.K=K->X.ī=Ĵ->∀(i:ı) (ao:AC) (s:Ļ) (σ:St) (H:Hp) (E:AB),aM X ao σ H s->(∀b∈fp,iB X ao H b)->tn i s.C->J.go i H->
  ļ (Ľ P w) X.A (pyNext<|.v it) (λr s1=>∃u,r=į u/\
   ļ (Ľ P w) X.A (letOwnedTupleGo tg (.v it) u) (λ_ s2=>∃x H',aM X ao σ H' s2/\bQ x u/\J.Gj i H x H'/\tn (i+1) s2.C/\∀b∈fp,H' b=Ĳ) E s1) E s
 done:∀(X:Cx),X.Ï=P->X.w=w->X.K=K->X.ī=Ĵ->∀(i:ı) (ao:AC) (s:Ļ) (σ:St) (H:Hp) (E:AB),aM X ao σ H s->(∀b∈fp,iB X ao H b)->tn i s.C->J.stop i H->
  ļ (Ľ P w) X.A (pyNext<|.v it) (λr s1=>r=Ĳ/\aM X ao σ H s1) E s
 self:∀(A:ň) (i:ı) (s:Ļ) (Q:AB) (E:AB),tn i s.C->Q (.v it) s->ļ (Ľ P w) A (pyIter<|.v it) Q E s
abbrev TI:=St->Hp->(It->Hp->Prop)->Prop
def PIE (X:Cx)(ao:AC)(I:St)(tg:ŋ)(R:It->Hp->Prop)(g:ĳ)(s2:Ļ):Prop:=∃(it:Addr) (fp:İ Ķ) (tn:ı->Ň->Prop) (J:It) (H':Hp),g=.v it/\aM X ao I H' s2/\Turn X.Ï X.w X.K tg J fp it tn/\tn 0 s2.C/\(∀b∈fp,iB X ao H' b)/\R J H'
def PI (X:Cx)(tg iter:ŋ)(wi:TI):Prop:=∀(ao:AC) (s:Ļ) (I:St) (H:Hp) (R:It->Hp->Prop),aM X ao I H s->wi I H R->
  ļ (Ľ X.Ï X.w) X.A (Ŏ iter X.Ç) (λv s1=>ļ (Ľ X.Ï X.w) X.A (pyIter v) (PIE X ao I tg R) X.xe s1) X.xe s
structure QI (X:Cx)(tg iter:ŋ)(wi:TI):Prop where
 out:PI X tg iter wi
def CV {s : Ļ}(j : s.C.Á it = į o)(B : o.cls = .È n)(hd : o.Ď = .ä vs)(hn : ["enumerate", "zip", "dict_itemiterator", "dict_reverseitemiterator", "odict_iterator", "itertools.zip_longest", "itertools.pairwise"].contains n = ķ)(g : Q () s) : ļ M A (letOwnedTupleGo tg (.v it) u) Q E s := by
  unfold letOwnedTupleGo;cases tg <;> first
    | show ah g
    | (cases u <;> first
        | show ah g
        | (refine ab<|wpAny_load j ?_
           rw[B, hd];show ļ M A (if (["enumerate", "zip", "dict_itemiterator", "dict_reverseitemiterator", "odict_iterator", "itertools.zip_longest", "itertools.pairwise"].contains n&&vs[0]? == į (œ _)) = Ĵ then _ else _) Q E s;rw[Ĺ (by intro h; rw[hn, nw]at h; cases h)];show ah g))
abbrev ItS (Sq:Hp->İ V->Prop):It:=%[λi H=>∃xs x,Sq H xs/\xs[i]?=į x,λi H x H'=>H'=H/\∀xs,Sq H xs->xs[i]?=į x|λi H=>∃xs,Sq H xs/\xs.n<=i]
def Itl (K:W.Ë)(a:Ķ):It:=ItS λH=>aZ K H a
def Itt (K:W.Ë)(a:Ķ):It:=ItS λH=>aQ K H a
def Ui (lo:ĸ)(n:ı):It:=%[λi _=>i<n,λi H x H'=>H'=H/\x=.I (lo+i)|λi _=>n<=i]
def Yw {P:ń}{w:ŉ}{K:W.Ë}{tg:ŋ}(a it:Ķ):Turn P w K tg (Itl K a) [it] it (λi h=>h.IsListIter it a i) where
 mem:=by simp
 obj:=λi h st b g=>by
  let e:b=it:=by simpa using g
  subst e;let(o,e,c,d):=st;show%[0,o,e|λv z=>by rw[d]at z;cases z]
 keep:=λi h h' st k=>st.at λo e=>k it zr o e
 item:=by intro X D hw G L i ao s T H E I B st J;subst D hw G;let(xs,x,j,hx):=J;let(its,F,p,hz):=I.ğ j;let(u,Y,N):=F.ď hx;let(f0,f1,f2,f3,f4,f5):=B it zr;calc wpAny_pyNext_list_item st p.ü (x:=u) (by simpa using Y) λh' st' O=>?_;let I1:aM X ao T H {s with heap:=h' }:=I.Ħ (t':=s.toks) (λb o g e=>(O.2 b g).X e) f0 f1 f3 f4 f5;let(o,e,c,d):=id st';show%[0,u,rb|CV (s:={s with heap:=h' }) e c d zt %[7,x,H,I1,N,%[rb|λys Z=>by rw[I.Ob Z j];show hx],st'|λb g=>(B b g).1]]
 done:=by intro X D hw G L i ao s T H E I B st J;subst D hw G;let(xs,j,hx):=J;let(its,F,p,hz):=I.ğ j;let(f0,f1,f2,f3,f4,f5):=B it zr;let hl:=F.n;show wpAny_pyNext_list_end (I.ok.hd L) st p.ü (by simp;simp_all) λh' M=>%[rb|I.Ħ (t':=s.toks) (λb o g e=>M b o g e) f0 f1 f3 f4 f5]
 self:=λ_ _ _ _ _ st h=>wpAny_pyIter_listiter st h
def Wg {P:ń}{w:ŉ}{K:W.Ë}{tg:ŋ}(a it:Ķ):Turn P w K tg (Itt K a) [it] it (λi h=>h.ħ it a i) where
 mem:=by simp
 obj:=λi h st b g=>by
  let e:b=it:=by simpa using g
  subst e;let(o,e,c,d):=st;show%[0,o,e|λv z=>by rw[d]at z;cases z]
 keep:=λi h h' st k=>st.at λo e=>k it zr o e
 item:=by intro X D hw G L i ao s T H E I B st J;subst D hw G;let(xs,x,j,hx):=J;let(its,F,p,hz):=I.Ģ j;let(u,Y,N):=F.ď hx;let(f0,f1,f2,f3,f4,f5):=B it zr;calc wpAny_pyNext_tuple_item st (show s.C.IsTuple a its.R from p) (x:=u) (by simpa using Y) λh' st' O=>?_;let I1:aM X ao T H {s with heap:=h' }:=I.Ħ (t':=s.toks) (λb o g e=>(O.2 b g).X e) f0 f1 f3 f4 f5;let(o,e,c,d):=id st';show%[0,u,rb|CV (s:={s with heap:=h' }) e c d zt %[7,x,H,I1,N,%[rb|λys Z=>by rw[I.Ku Z j];show hx],st'|λb g=>(B b g).1]]
 done:=by intro X D hw G L i ao s T H E I B st J;subst D hw G;let(xs,j,hx):=J;let(its,F,p,hz):=I.Ģ j;let(f0,f1,f2,f3,f4,f5):=B it zr;let hl:=F.n;show wpAny_pyNext_tuple_end (I.ok.hd L) st (show s.C.IsTuple a its.R from p) (by simp;lia) λh' M=>%[rb|I.Ħ (t':=s.toks) (λb o g e=>M b o g e) f0 f1 f3 f4 f5]
 self:=λ_ _ _ _ _ st h=>wpAny_pyIter_tupleiter st h
def Wh {P:ń}{w:ŉ}{K:W.Ë}{tg:ŋ}(it:Ķ)(lo:ĸ)(n:ı):Turn P w K tg (Ui lo n) [it] it (λi h=>Ţ h it (lo+(i:ı)*1) ((n:ĸ)-(i:ı)) 1) where
 mem:=by simp
 obj:=λi h st b g=>by
  let e:b=it:=by simpa using g
  subst e;show%[0,_,st|λv z=>by let L:Data.ä _=Data.ø v:=z;cases L]
 keep:=λi h h' st k=>k it zr _ st
 item:=by intro X B hw F D i ao s T H E I j st G;subst B hw F;let(f0,f1,f2,f3,f4,f5):=j it zr;let W:=Walks.ñ (prog:=X.prog) (w:=X.w) (I.ok.hd D) it lo 1 n;calc W.item i s _ _ G st λv h' tk hv st' M=>?_;let(t,rfl):=hv;let I1:aM X ao T H {s with heap:=h',toks:=tk}:=I.Ħ (λb o g e=>M b o (by simpa using g) e) f0 f1 f3 f4 f5;calc%[0,_,rb|CV (s:={s with heap:=h',toks:=tk}) (n:="range_iterator") st' rb rb zt %[7,.I<|lo+i,H,I1,%[t|?_],%[rb|rb],st'|λb g=>(j b g).1]];rw[Int.mul_one]
 done:=by intro X B hw F D i ao s T H E I j st G;subst B hw F;let(f0,f1,f2,f3,f4,f5):=j it zr;show wpAny_pyNext_range_end (I.ok.hd D) st (by have:n<=i:=G;lia) λh' J=>%[rb|I.Ħ (t':=s.toks) (λb o g e=>J b o g e) f0 f1 f3 f4 f5]
 self:=λ_ _ _ _ _ st h=>wpAny_pyIter_rangeiter st h
section
variable {X:Cx}{tg:ŋ}
def Nv (K:W.Ë)(tl:TE):TI:=λC H R=>tl C H λx H1=>∃a,x=.v a/\(∃xs,aZ K H1 a xs)/\R (Itl K a) H1
def aiW (K:W.Ë)(tl:TE):TI:=λC H R=>tl C H λx H1=>∃a,x=.v a/\(∃xs,aQ K H1 a xs)/\R (Itt K a) H1
def g_ (g:QE X l tl):QI X tg l (Nv X.K tl):=⟨by
 intro ao s C H R I h;calc bM (g.Û ao s C H _ I h) λv s1 D=>?_;let(x,H1,I1,r1,q1):=D;let(a,e,(xs,j),q):=q1;subst e;cases r1;let(its,F,p,hz):=I1.ğ j;calc oq p.ü ?_;calc%[16,s1.d,[s1.d],_,_,H1,rb,I1.ě (t':=s1.toks) λb o e=>af _ e,Yw a _,%[2,_,a6 _ rb,rb|rb],λb B=>?_|q];let e:b=s1.d:=by simpa using B
 subst e;show I1.mH (ag _)<|I1.ì.ß<|ag _⟩
def fH (g:QE X l tl):QI X tg l (aiW X.K tl):=⟨by
 intro ao s C H R I h;calc bM (g.Û ao s C H _ I h) λv s1 D=>?_;let(x,H1,I1,r1,q1):=D;let(a,e,(xs,j),q):=q1;subst e;cases r1;let(its,F,p,hz):=I1.Ģ j;calc pT (show s1.C.IsTuple a its.R from p) ?_;calc%[16,s1.d,[s1.d],_,_,H1,rb,I1.ě (t':=s1.toks) λb o e=>af _ e,Wg a _,%[2,_,a6 _ rb,rb|rb],λb B=>?_|q];let e:b=s1.d:=by simpa using B
 subst e;show I1.mH (ag _)<|I1.ì.ß<|ag _⟩
def abr {ao:AC}{C:St}{H:Hp}{s:Ļ}{R:It->Hp->Prop}{E:AB}{lo hi:ĸ}{t u v:Tok}{tk:ı}(I:aM X ao C H s)(h1:-(2^62)<=lo)(D:lo<2^62)(j:-(2^62)<=hi)(g:hi<2^62)(q:R (Ui lo (hi-lo).Ü) H):ļ (Ľ X.Ï X.w) X.A (pyIter<|.v s.d) (PIE X ao C tg R) E {s with heap:=s.C.Í {cls:=.È "range",data:=.ä #[.I lo t,.I hi u,.I 1 v]},toks:=tk}:=by
 calc wpAny_pyIter_range (IsRange.new ..) (small_one h1 D j g) ?_;let I1:aM X ao C H {s with heap:=s.C.Í {cls:=.È "range",data:=.ä #[.I lo t,.I hi u,.I 1 v]},toks:=tk}:=I.ě λb o e=>af _ e;refine%[16,(s.C.Í {cls:=.È "range",data:=.ä #[.I lo t,.I hi u,.I 1 v]}).Y.E,[(s.C.Í {cls:=.È "range",data:=.ä #[.I lo t,.I hi u,.I 1 v]}).Y.E],_,_,H,rb,
  I1.ě (t':=tk) λb o e=>af _ e,Wh _ lo (hi-lo).Ü,?_,λb B=>?_|q]
 .let e1:lo+((0:ı):ĸ)*1=lo:=zr;let e2:(((hi-lo).Ü:ı):ĸ)-((0:ı):ĸ)=Builtin.Range.rangeSize lo hi 1:=by rw[rangeSize_one];split <;> grind
  show Ţ _ _ (lo+((0:ı):ĸ)*1) ((((hi-lo).Ü:ı):ĸ)-((0:ı):ĸ)) 1;rw[e1,e2];show a6 _ rfl
 .let e:b=(s.C.Í {cls:=.È "range",data:=.ä #[.I lo t,.I hi u,.I 1 v]}).Y.E:=by simpa using B
  subst e;show I1.mH (ag _)<|I1.ì.ß<|ag _
def ah5 (ta:TA):TI:=λC H R=>ta C H λvs H1=>∃j:Int,vs=[.I j]/\-(2^62)<=j/\j<2^62/\R (Ui 0 j.Ü) H1
def fJ (g:Gl X "range")(hm:X.mg "range"=Ĳ)(ha:QA X [a] ta)(hs:ŵ (Ņ [a] X.Ç=[(ķ,Ŏ a X.Ç)]) Ŷ):QI X tg (.ĭ (.ë "range" p) [a] [] pos) (ah5 ta):=⟨by
 intro ao s C H R I h;calc Call_<|nO I g hm boot_range<|ip (bM (ha.Û pos ao s C H _ I h) λus s1 B=>?_) hs rb;let(vs,H1,I1,r1,q1):=B;let(j,e,q1,q2,q):=q1;subst e;cases r1 with
 | cons r rr=>cases rr;let(t,rfl):=r;show call_range_1<|abr I1 zo zo q1 q2 (by simpa using q)⟩
abbrev Ao (J:It)(g:TG)(tb:TS)(D:Ends)(C:St)(H:Hp):Prop:=∃W:ı->ı->St->Hp->Prop,(∃m,W 0 m C H)/\∀i m C H,W i m C H->
 (J.stop i H/\D.nx C H)\/(J.go i H/\∃N:St->Hp->Prop,(∀C' H',N C' H'->∃m',m'<m/\W (i+1) m' C' H')/\∀x H',J.Gj i H x H'->g x C H' λC2 H2=>tb {D with nx:=N,ct:=N,bk:=D.nx} C2 H2)
def afX (wi:TI)(g:TG)(tb:TS):TS:=λD C H=>wi C H λJ H1=>Ao J g tb D C H1
def IW {J:It}{g:TG}{tb:TS}{D:Ends}{C:St}{H:Hp}(n:ı)(B:ı->St->Hp->Prop)(O:B 0 C H)(F:∀i C H,i<n->B i C H->J.go i H/\∀x H',J.Gj i H x H'->g x C H' λN M=>tb {D with nx:=B<|i+1,ct:=B<|i+1,bk:=D.nx} N M)(G:∀C H,B n C H->J.stop n H/\D.nx C H):Ao J g tb D C H:=by
 calc%[0,λi m C H=>m=n-i/\i<=n/\B i C H,%[2,n,zr,ci _|O]|?_];intro i m C H z;let(rfl,hi,p):=z;by_cases j:i<n;.show .Ð %[12,(F i C H j p).1,B<|i+1,λY H' L=>%[18,n-(i+1),sr j<|fm _,rb,j|L]|(F i C H j p).2]
 .let e:i=n:=zo;subst e;show .Â<|G C H p
def adC {F:Hp->İ V->Prop}{xs:İ V}{g:TG}{tb:TS}{D:Ends}{C:St}{H:Hp}(j:ı->St->Hp->Prop)(J:j 0 C H)(B:∀i C H,i<=xs.n->j i C H->F H xs)(hs:∀i x C H,xs[i]?=į x->j i C H->g x C H λL G=>tb {D with nx:=j<|i+1,ct:=j<|i+1,bk:=D.nx} L G)(hd:∀C H,j xs.n C H->D.nx C H):Ao (ItS F) g tb D C H:=IW xs.n j J (λi C H h p=>%[%[4,xs,xs[i],B i C H (ar h) p|by simp[h]]|λx H' ⟨e,y⟩=>by subst e;show hs i x C _ (y xs<|B i C _ (ar h) p) p]) λC H p=>%[%[0,xs,B _ C H (ag _) p|ag _]|hd C H p]
def Aq (fp:İ Ķ)(h:Ň):İ (Ķ×Obj):=fp.ô λb=>(h.Á b).Q λo=>(b,o)
def lC {h:Ň}(g:b∈fp)(e:h.Á b=į o):(b,o)∈Aq fp h:=tz.á %[0,b,g|by rw[e];rfl]
def Yx (hp:p∈Aq fp h):p.1∈fp/\h.Á p.1=į p.2:=by
 let(b,g,e):=tz.mp hp;cases q:h.Á b with
 | none=>rw[q]at e;cases e
 | some o=>rw[q]at e;let j:(b,o)=p:=bg e;subst j;show%[g|q]
def aM.pinned {ao:AC}{C:St}{H:Hp}{s:Ļ}{fp:İ Ķ}(I:aM X ao C H s)(D:∀b∈fp,iB X ao H b)(B:∀b∈fp,∃o,s.C.Á b=į o/\∀v,o.Ď≠.ø v):aM X (ao++Aq fp s.C) C H s:=
 I.Uh λp hp=>(a8.mp hp).í (λz=>I.pin p<|de _ z) λz=>by let(j,e):=Yx z;let(f0,f1,f2,_):=D p.1 j;let(o,g,d):=B p.1 j;rw[e]at g;cases g;show%[e,f0,f1,f2|d]
def aM.mJ {ao pl:AC}{C:St}{H:Hp}{s:Ļ}(I:aM X (ao++pl) C H s):aM X ao C H s:=I.Uh λp hp=>I.pin p (de _<|rV _ hp)
def afY (hp:Ū (Ľ X.Ï X.w) X.A X.Ç X.xe)(hc:X.ī=Ĵ)(hi:PI X tg iter wi)(hg:PG X tg g)(L:Kr X body tb)(hs:ŵ (∀x,foldedSetIterable iter X.Ç x=pure x) Ÿ):PS X (.For tg iter body [] pos) (afX wi g tb):=by
 intro ao s C H D I h;calc wpAny_For (bM (hi ao s C H _ I h) λv s1 h1=>bM h1 λitv s2 h2=>?_) hs;let(it,fp,tn,J,H2,e,I2,T,st2,f2,W,(m0,w0),turn):=h2;subst e;let M:∀{H':Hp},(∀b∈fp,H' b=Ĳ)->∀b∈fp,iB X ao H' b:=λhn b L=>%[hn b L|(f2 b L).2]
 calc codeAny_forLoop_any (λn s'=>∃i C' H',aM X ao C' H' s'/\tn i s'.C/\(∀b∈fp,H' b=Ĳ)/\W i n C' H') ?_ m0 %[11,0,C,H2,I2,st2,λb L=>(f2 b L).1|w0];intro n s3 z;let(i,Y,H3,I3,O,fr3,w3):=z;rcases turn i n Y H3 w3 with⟨stop,qn⟩|⟨go,N,hN,step⟩
 .calc gv hp<|bM (T.done X rb rb rb hc i ao s3 Y H3 X.xe I3 (M fr3) O stop) λr s4 ⟨hr,I4⟩=>?_;subst hr;show md %[4,Y,H3,I4|qn]
 .calc gv hp<|bM (T.item X rb rb rb hc i ao s3 Y H3 X.xe I3 (M fr3) O go) λr s4 Z=>?_;let(u,hr,h4):=Z;subst hr;calc gv hp<|bM h4 λ_ s5 Z=>?_;let(x,H5,I5,r5,y5,Kw,fr5):=Z;let I5':=I5.pinned (M fr5)<|T.obj _ _ Kw;calc gv hp<|bM (hg _ s5 Y H5 x u _ I5' r5<|step x H5 y5) λ_ s6 Z=>?_;let(C6,H6,I6,q6):=Z;calc gv hp<|bM (L _ s6 C6 H6 _ I6 q6) λf s7 q7=>?_;let F:∀{G:St} {j:Hp},aM X (ao++Aq fp s5.C) G j s7->N G j->∃m,m<n/\∃i C' H',aM X ao C' H' s7/\tn i s7.C/\(∀b∈fp,H' b=Ĳ)/\W i m C' H':=λ{G j} B n7=>by
   let(m',hm,w7):=hN G j n7;calc%[0,m',hm|%[11,i+1,G,j,B.mJ,T.keep _ _ _ Kw λb L o e=>(B.pin (b,o)<|de _<|de _<|lC L e).1,λb L=>?_|w7]];let(o,e,d):=T.obj _ _ Kw b L;show(B.pin (b,o)<|de _<|de _<|lC L e).2.1
  cases f with
  | next=>let(G,j,B,n7):=q7;show F B n7
  | cont=>let(G,j,B,n7):=q7;show F B n7
  | brk=>let(G,j,B,q7):=q7;show%[4,G,j,B.mJ|q7]
  | ret v=>let(x7,G,j,B,r7,q7):=q7;show%[27,x7,G,j,B.mJ,r7|q7]
end
def uh {K:W.Ë}{a:Ķ}:=@adC λH=>aZ K H a
def m8 {K:W.Ë}{a:Ķ}:=@adC λH=>aQ K H a
def iQ {lo:ĸ}{n:ı}{g:TG}{tb:TS}{D:Ends}{I:St}{H:Hp}(j:ı->St->Hp->Prop)(F:j 0 I H)(hs:∀i I H,i<n->j i I H->g (.I<|lo+i) I H λI2 B=>tb {D with nx:=j<|i+1,ct:=j<|i+1,bk:=D.nx} I2 B)(hd:∀I H,j n I H->D.nx I H):Ao (Ui lo n) g tb D I H:=IW n j F (λi I H h p=>%[h|λx H' y=>by let(rfl,rfl):=y;show hs i I _ h p]) λI H p=>%[ag _|hd I H p]
abbrev R2:=V->V->Hp->VK->Prop
def gF (X:Cx)(f:ĳ->ĳ->Sem ĳ)(r:R2):Prop:=∀(ao:AC) (s:Ļ) (I:St) (H:Hp) (x y:V) (v u:ĳ) (Q:VK),aM X ao I H s->bQ x v->bQ y u->r x y H Q->
  ļ (Ľ X.Ï X.w) X.A (f v u) (EP X ao I Q) X.xe s
def UnR (X:Cx)(f:ĳ->Sem ĳ)(r:V->Hp->VK->Prop):Prop:=∀(ao:AC) (s:Ļ) (I:St) (H:Hp) (x:V) (v:ĳ) (Q:VK),aM X ao I H s->bQ x v->r x H Q->
  ļ (Ľ X.Ï X.w) X.A (f v) (EP X ao I Q) X.xe s
def fD (X:Cx)(f:ĳ)(r:İ V->Hp->VK->Prop):Prop:=∀(ao:AC) (s:Ļ) (I:St) (H:Hp) (xs:İ V) (us:İ ĳ) (Q:VK),aM X ao I H s->Vals xs us->r xs H Q->
  ļ (Ľ X.Ï X.w) X.A (call f us) (EP X ao I Q) X.xe s
def vH (r:R2)(ta tb:TE):TE:=λI H Q=>ta I H λx H1=>tb I H1 λy g=>r x y g Q
def tUn (r:V->Hp->VK->Prop)(ta:TE):TE:=λI H Q=>ta I H λx H1=>r x H1 Q
def rI (C:ĸ->ĸ->Prop)(g:ĸ->ĸ->V):R2:=λx y H Q=>∃i j,x=.I i/\y=.I j/\C i j/\Q (g i j) H
def Gk (g:ĸ->ĸ->V):R2:=λx y H Q=>∃i j,x=.I i/\y=.I j/\Q (g i j) H
def rU (g:ĸ->V):V->Hp->VK->Prop:=λx H Q=>∃i,x=.I i/\Q (g i) H
section
variable {X:Cx}{a b:ŋ}{ta tb:TE}{pos:Pos}
def abt (ha:PE X a ta)(J:PE X b tb){ao:AC}{s:Ļ}{T:St}{H:Hp}{R:V->V->Hp->Prop}(I:aM X ao T H s)(h:ta T H λx H1=>tb T H1 λy g=>R x y g){Q:AB}{f:ĳ->ĳ->Sem ĳ}(G:∀v u s2 x y g,aM X ao T g s2->bQ x v->bQ y u->R x y g->ļ (Ľ X.Ï X.w) X.A (f v u) Q X.xe s2):ļ (Ľ X.Ï X.w) X.A (Ŏ a X.Ç) (λv F=>ļ (Ľ X.Ï X.w) X.A (Ŏ b X.Ç) (λu B=>ļ (Ľ X.Ï X.w) X.A (f v u) Q X.xe B) X.xe F) X.xe s:=by calc bM (ha ao s T H _ I h) λv s1 j=>?_;let(x,H1,I1,r1,q1):=j;calc bM (J ao s1 T H1 _ I1 q1) λu s2 j=>?_;let(y,g,I2,D,q2):=j;show G v u s2 x y g I2 r1 D q2
def aL (B:gF X (binaryOp op) r)(ha:QE X a ta)(F:QE X b tb):QE X (.BinOp a op b pos) (vH r ta tb):=⟨by
 intro ao s T H Q I h;show wpAny_BinOp<|abt ha.Û F.Û I h λv u s2 x y g I2 D j q=>B ao s2 T g x y v u Q I2 D j q⟩
def adD (g:UnR X (unaryOp op) r)(ha:QE X a ta):QE X (.UnaryOp op a pos) (tUn r ta):=⟨by
 intro ao s T H Q I h;show UnaryOp_<|bM (ha.Û ao s T H _ I h) λv s1 ⟨x,H1,I1,r1,q1⟩=>g ao s1 T H1 x v Q I1 r1 q1⟩
def Yy {f:ĳ->ĳ->Sem ĳ}{C:ĸ->ĸ->Prop}{g:ĸ->ĸ->ĸ}(B:∀(i j:ĸ) (t u:Tok) (s:Ļ) (Q:AB) (E:AB),C i j->Q (.I (g i j) s.Ý) {s with toks:=s.Ý+1}->ļ (Ľ X.Ï X.w) X.A (f (.I i t)<|.I j u) Q E s):gF X f (rI C λi j=>.I<|g i j):=by intro ao s T H x y v u Q I F D h;let(i,j,rfl,rfl,G,q):=h;let(t,rfl):=F;let(t',rfl):=D;show B i j t t' s _ _ G %[1,.I<|g i j,H,I.tok _,%[_|rb]|q]
def afZ {f:ĳ->ĳ->Sem ĳ}{g:ĸ->ĸ->ĸ}(B:∀(i j:ĸ) (t u:Tok) (s:Ļ) (Q:AB) (E:AB),Q (.I (g i j) s.Ý) {s with toks:=s.Ý+1}->ļ (Ľ X.Ï X.w) X.A (f (.I i t)<|.I j u) Q E s):gF X f (Gk λi j=>.I<|g i j):=by intro ao s T H x y v u Q I F D h;let(i,j,rfl,rfl,q):=h;let(t,rfl):=F;let(t',rfl):=D;show B i j t t' s _ _ %[1,.I<|g i j,H,I.tok _,%[_|rb]|q]
def Wi {f:ĳ->ĳ->Sem ĳ}{g:ĸ->ĸ->ŏ}(B:∀(i j:ĸ) (t u:Tok) (s:Ļ) (Q:AB) (E:AB),Q (.ĉ<|g i j) s->ļ (Ľ X.Ï X.w) X.A (f (.I i t)<|.I j u) Q E s):gF X f (Gk λi j=>.bl<|g i j):=by intro ao s T H x y v u Q I F D h;let(i,j,rfl,rfl,q):=h;let(t,rfl):=F;let(t',rfl):=D;show B i j t t' s _ _ %[1,.bl<|g i j,H,I,rb|q]
def aiX (i j:ĸ):Prop:=0<j/\j<1073741824
def aiY (i j:ĸ):Prop:=0<=j/\j<=1000000/\i.natAbs<2^64
def abu (i j:ĸ):Prop:=(-(2^64)<i/\i<2^64)\/(-(2^64)<j/\j<2^64)
def abu.ok (h:abu i j):IntMulOk i j:=by
 rcases h with⟨h1,g⟩|⟨h1,g⟩;.show .of_left<|intBits_le_64 h1 g
 .show .of_right<|intBits_le_64 h1 g
def bW:gF X (binaryOp .Add) (Gk λi j=>.I<|i+j):=afZ λ_ _ _ _ _ _ _ q=>add_int q
def gK:gF X (binaryOp .Sub) (Gk λi j=>.I<|i-j):=afZ λ_ _ _ _ _ _ _ q=>sub_int q
def gn:gF X (binaryOp .Mult) (rI abu λi j=>.I<|i*j):=Yy λ_ _ _ _ _ _ _ g q=>mul_int q g.ok
def fW:gF X (binaryOp .FloorDiv) (rI aiX λi j=>.I<|i/j):=Yy λi j _ _ _ _ _ g q=>by let h1:(0:ĸ)<j:=g.1;let B:j<1073741824:=g.2;show floordiv_int zo (by rw[xL i (tI h1)];show q)<|.Â<|PyProof.noPylong_small (by grind)
def cH:gF X (binaryOp .Mod) (rI (λ_ j=>0<j) λi j=>.I<|i%j):=Yy λi j _ _ _ _ _ g q=>by let h1:(0:ĸ)<j:=g;show mod_int' zo (by rw[Int.fmod_eq_emod_of_nonneg i zo];show q)
def af0:gF X (binaryOp .Pow) (rI aiY λi j=>.I<|i^j.Ü):=Yy λ_ _ _ _ _ _ _ g q=>pow_int_small g.1 g.2.1 g.2.2 q
def unI {f:ĳ->Sem ĳ}{g:ĸ->ĸ}(j:∀(i:ĸ) (t:Tok) (s:Ļ) (Q:AB) (E:AB),Q (.I (g i) s.Ý) {s with toks:=s.Ý+1}->ļ (Ľ X.Ï X.w) X.A (f<|.I i t) Q E s):UnR X f (rU λi=>.I<|g i):=by intro ao s T H x v Q I B h;let(i,rfl,q):=h;let(t,rfl):=B;show j i t s _ _ %[1,.I<|g i,H,I.tok _,%[_|rb]|q]
def Yz:UnR X (unaryOp .USub) (rU λi=>.I<|-i):=unI λ_ _ _ _ _ q=>neg_int q
end
def af2:V->V->ŏ
 | .ă,.ă=>true|.ă,.I _=>true|.I _,.ă=>true|.ă,.bl _=>true|.bl _,.ă=>true|.ă,.À _=>true|.À _,.ă=>true
 | .I _,.I _=>true|.bl _,.bl _=>true|.À _,.À _=>true|.zZ _,.zZ _=>true
 | .I _,.À _=>true|.À _,.I _=>true|.bl _,.À _=>true|.À _,.bl _=>true
 | _,_=>false
def rEq:R2:=λx y H Q=>af2 x y=Ĵ/\Q (.bl<|ľ<|x=y) H
def rNe:R2:=λx y H Q=>af2 x y=Ĵ/\Q (.bl<|!ľ (x=y)) H
def Uj:ľ (V.I i=V.I j)=(i==j):=by rw[n5];simp
def YB:ľ (V.bl i=V.bl j)=(i==j):=by rw[n5];simp
def Uk:ľ (V.À i=V.À j)=(i==j):=by rw[n5];simp
def Ul:ľ (V.zZ i=V.zZ j)=(i.H==j.H):=by rw[n5];cases i;cases j;simp
section
variable {X:Cx}{a b c:ŋ}{ta tb tc:TE}{pos:Pos}
def dj {ao:AC}{T:St}{H:Hp}{s:Ļ}{Q:VK}{k g:ŏ}(I:aM X ao T H s)(q:Q (.bl k) H)(e:k=g):EP X ao T Q (.ĉ g) s:=by subst e;show%[1,.bl k,H,I,rb|q]
def lD:gF X (compareOp .Eq) rEq:=by
 intro ao s T H x y v u Q I B g h;let(hs,q):=h;cases x with
 | non=>
  cases B;cases y with
  | non=>cases g;show PySem.EqNone.eq_none_none<|dj I q zr
  | bl j=>cases g;show PySem.EqNone.eq_none_bool<|dj I q zr
  | int j=>let(t',rfl):=g;show PySem.EqNone.eq_none_int<|dj I q zr
  | str j=>let(t',rfl):=g;show PySem.EqNone.eq_none_str<|dj I q zr
  | _=>show Ł (show ķ=Ĵ from hs) cw
 | bl i=>
  cases B;cases y with
  | non=>cases g;show PySem.EqNone.eq_bool_none<|dj I q zr
  | bl j=>cases g;show eq_bool<|dj I q YB
  | str j=>let(t',rfl):=g;show PySem.EqMixed.eq_bool_str<|dj I q zr
  | _=>show Ł (show ķ=Ĵ from hs) cw
 | int i=>
  let(t,rfl):=B;cases y with
  | non=>cases g;show PySem.EqNone.eq_int_none<|dj I q zr
  | int j=>let(t',rfl):=g;show eq_int<|dj I q Uj
  | str j=>let(t',rfl):=g;show PySem.EqMixed.eq_int_str<|dj I q zr
  | _=>show Ł (show ķ=Ĵ from hs) cw
 | str i=>
  let(t,rfl):=B;cases y with
  | non=>cases g;show PySem.EqNone.eq_str_none<|dj I q zr
  | bl j=>cases g;show PySem.EqMixed.eq_str_bool<|dj I q zr
  | int j=>let(t',rfl):=g;show PySem.EqMixed.eq_str_int<|dj I q zr
  | str j=>let(t',rfl):=g;show eq_str<|dj I q Uk
  | _=>show Ł (show ķ=Ĵ from hs) cw
 | zZ i=>
  let(t,rfl):=B;cases y with
  | zZ j=>let(t',rfl):=g;show W.eq_bytes<|dj I q Ul
  | _=>show Ł (show ķ=Ĵ from hs) cw
 | _=>cases y <;> show Ł (show ķ=Ĵ from hs) cw
def yH:gF X (compareOp .NotEq) rNe:=by
 intro ao s T H x y v u Q I B g h;let(hs,q):=h;cases x with
 | non=>
  cases B;cases y with
  | non=>cases g;show PySem.EqNone.ne_none_none<|dj I q zr
  | bl j=>cases g;show PySem.EqNone.ne_none_bool<|dj I q zr
  | int j=>let(t',rfl):=g;show PySem.EqNone.ne_none_int<|dj I q zr
  | str j=>let(t',rfl):=g;show PySem.EqNone.ne_none_str<|dj I q zr
  | _=>show Ł (show ķ=Ĵ from hs) cw
 | bl i=>
  cases B;cases y with
  | non=>cases g;show PySem.EqNone.ne_bool_none<|dj I q zr
  | bl j=>cases g;show ne_bool<|dj I q<|Ő not YB
  | str j=>let(t',rfl):=g;show PySem.EqMixed.ne_bool_str<|dj I q zr
  | _=>show Ł (show ķ=Ĵ from hs) cw
 | int i=>
  let(t,rfl):=B;cases y with
  | non=>cases g;show PySem.EqNone.ne_int_none<|dj I q zr
  | int j=>let(t',rfl):=g;show ne_int<|dj I q<|Ő not Uj
  | str j=>let(t',rfl):=g;show PySem.EqMixed.ne_int_str<|dj I q zr
  | _=>show Ł (show ķ=Ĵ from hs) cw
 | str i=>
  let(t,rfl):=B;cases y with
  | non=>cases g;show PySem.EqNone.ne_str_none<|dj I q zr
  | bl j=>cases g;show PySem.EqMixed.ne_str_bool<|dj I q zr
  | int j=>let(t',rfl):=g;show PySem.EqMixed.ne_str_int<|dj I q zr
  | str j=>let(t',rfl):=g;show ne_str<|dj I q<|Ő not Uk
  | _=>show Ł (show ķ=Ĵ from hs) cw
 | zZ i=>
  let(t,rfl):=B;cases y with
  | zZ j=>let(t',rfl):=g;show W.ne_bytes<|dj I q<|Ő not Ul
  | _=>show Ł (show ķ=Ĵ from hs) cw
 | _=>cases y <;> show Ł (show ķ=Ĵ from hs) cw
def tL:gF X (compareOp .Lt) (Gk λi j=>.bl<|ľ<|i<j):=Wi λ_ _ _ _ _ _ _ q=>lt_int q
def qP:gF X (compareOp .LtE) (Gk λi j=>.bl<|ľ<|i<=j):=Wi λ_ _ _ _ _ _ _ q=>le_int q
def Wj:gF X (compareOp .Gt) (Gk λi j=>.bl<|ľ<|j<i):=Wi λ_ _ _ _ _ _ _ q=>gt_int q
def CW:gF X (compareOp .GtE) (Gk λi j=>.bl<|ľ<|j<=i):=Wi λ_ _ _ _ _ _ _ q=>ge_int q
def YC:gF X (compareOp .In) (λx y H Q=>∃i j,x=.À i/\y=.À j/\Q (.bl<|!(Builtin.Str.occurrences j i 0 j.n 1).isEmpty) H):=by intro ao s T H x y v u Q I B g h;let(i,j,rfl,rfl,q):=h;let(t,rfl):=B;let(t',rfl):=g;show in_str<|dj I q rb
def bU (b)(h:ŵ (op≠.In) ŷ)(g:ŵ (op≠.NotIn) ŷ):behindInMarks op b=ķ:=by
 let e1:(op==CmpOp.In)=ķ:=by cases op <;> first|rfl|show Ł rb h
 let e2:(op==CmpOp.NotIn)=ķ:=by cases op <;> first|rfl|show Ł rb g
 cases b <;> simp[behindInMarks,e1,e2]
def jL (B:gF X (compareOp op) r)(ha:QE X a ta)(F:QE X b tb)(hm:behindInMarks op b=ķ):QE X (.Compare a [op] [b] pos) (vH r ta tb):=⟨by
 intro ao s T H Q I h;show wpAny_Compare1 (abt ha.Û F.Û I h λv u s2 x y g I2 D j q=>B ao s2 T g x y v u Q I2 D j q) hm⟩
def Wk (t:TE):TT:=λT H Q=>t T H λx H'=>Ks x λk=>Q k H'
def bK (D:gF X (compareOp op) r)(ha:QE X a ta)(G:QE X b tb)(hm:behindInMarks op b=ķ):QT X (.Compare a [op] [b] pos) (Wk<|vH r ta tb):=⟨by
 intro ao s T H Q I h;refine wpAny_isTrue_Compare1 (bM (ha.Û ao s T H _ I h) λv s1 ⟨x,H1,I1,r1,q1⟩=>bM (G.Û ao s1 T H1 _ I1 q1) λu s2 ⟨y,B,I2,j,q2⟩=>bM (D ao s2 T B x y v u _ I2 r1 j q2) λc L ⟨z,g,F,J,q3⟩=>?_) hm
 let(k,e,q3):=pC q3;subst e;cases J;show fe %[0,g,F|q3]⟩
def Od (r B:R2)(ta tb tc:TE):TE:=λT H Q=>ta T H λx H1=>tb T H1 λy D=>r x y D λz g=>Ks z λk=>(if k=Ĵ then tc T g λj F=>B y j F Q else Q (.bl ķ) g)
def oN (L:gF X (compareOp op) r)(g:gF X (compareOp op') r')(ha:QE X a ta)(Y:QE X b tb)(O:QE X c tc)(hm:ŵ (lastMarks [op,op'] [b,c]=ķ) Ż):QE X (.Compare a [op,op'] [b,c] pos) (Od r r' ta tb tc):=⟨by
 intro ao s T H Q I h;refine Compare_chain (bM (ha.Û ao s T H _ I h) λv s1 ⟨x,H1,I1,r1,q1⟩=>chain_link<|bM (Y.Û ao s1 T H1 _ I1 q1) λu s2 ⟨y,G,I2,B,q2⟩=>bM (L ao s2 T G x y v u _ I2 r1 B q2) λd s3 ⟨z,j,D,Z,q3⟩=>?_) hm
 let(k,e,q3):=pC q3;subst e;cases Z;calc fe ?_;cases k with
 | false=>show ite_ff %[1,.bl ķ,j,D,rb|q3]
 | true=>show ite_tt<|chain_last<|bM (O.Û ao s3 T j _ D q3) λN s4 ⟨M,H4,J,F,q4⟩=>g ao s4 T H4 y M u N Q J B F q4⟩
def yI (L:gF X (compareOp op) r)(g:gF X (compareOp op') r')(ha:QE X a ta)(hb:QE X b tb)(hc:QE X c tc)(hm:ŵ (lastMarks [op,op'] [b,c]=ķ) Ż):QT X (.Compare a [op,op'] [b,c] pos) (Wk<|Od r r' ta tb tc):=⟨by
 intro ao s T H Q I h;refine isTrue_chain (bM (ha.Û ao s T H _ I h) λv s1 ⟨x,H1,I1,r1,q1⟩=>test_link<|bM (hb.Û ao s1 T H1 _ I1 q1) λu s2 ⟨y,G,I2,B,q2⟩=>bM (L ao s2 T G x y v u _ I2 r1 B q2) λd s3 ⟨z,j,D,r3,q3⟩=>?_) hm
 let(k,e,q3):=pC q3;subst e;cases r3;calc fe ?_;cases k with
 | false=>let(k',Y,q'):=pC q3;cases Y;show ite_ff %[0,j,D|q']
 | true=>calc ite_tt<|test_last<|bM (hc.Û ao s3 T j _ D q3) λO s4 ⟨N,H4,J,F,q4⟩=>bM (g ao s4 T H4 y N u O _ J B F q4) λd' s5 ⟨z2,Z,M,r5,q5⟩=>?_;let(k2,e2,q5):=pC q5;subst e2;cases r5;show fe %[0,Z,M|q5]⟩
def um:(Ŀ:ı)<2^63:=by rw[sizeLine_eq];decide
def Wm:gF X (binaryOp .Add) (λx y H Q=>∃i j,x=.À i/\y=.À j/\i.n+j.n<=Ŀ/\Q (.À<|i++j) H):=by intro ao s T H x y v u Q I B g h;let(i,j,rfl,rfl,hz,q):=h;let(t,rfl):=B;let(t',rfl):=g;show add_str (λt' tk=>%[1,.À<|i++j,H,I.tok _,%[_|rb]|q]) hz
def vals1 (r:Vals [x] us):∃u,us=[u]/\bQ x u:=by
 cases r with| cons r1 r2=>cases r2;show%[0,_,rb|r1]
def vals2 (r:Vals [x,y] us):∃u g,us=[u,g]/\bQ x u/\bQ y g:=by
 cases r with
 | cons r1 r2=>
  cases r2 with| cons r3 r4=>cases r4;show%[1,_,_,rb,r1|r3]
def YD (B:X.ī=Ĵ):fD X (.Ó "max") (λxs H Q=>∃i j,xs=[.I i,.I j]/\Q (.I<|if j > i then j else i) H):=by
 intro ao s T H xs us Q I r h;let(i,j,rfl,q):=h;let(u,D,rfl,(t,rfl),(t',rfl)):=vals2 r;refine max_two_ints (I.ok.hd B) λh' tk k=>%[1,_,H,I.ě k,?_|q]
 by_cases g:j > i;.rw[ĺ g,ĺ g];show%[_|rb]
 .rw[Ĺ g,Ĺ g];show%[_|rb]
def YF (B:X.ī=Ĵ):fD X (.Ó "min") (λxs H Q=>∃i j,xs=[.I i,.I j]/\Q (.I<|if j<i then j else i) H):=by
 intro ao s T H xs us Q I r h;let(i,j,rfl,q):=h;let(u,D,rfl,(t,rfl),(t',rfl)):=vals2 r;refine min_two_ints (I.ok.hd B) λh' tk k=>%[1,_,H,I.ě k,?_|q]
 by_cases g:j<i;.rw[ĺ g,ĺ g];show%[_|rb]
 .rw[Ĺ g,Ĺ g];show%[_|rb]
def Ky:fD X (.È "int") (λxs H Q=>(∃i,xs=[.I i]/\Q (.I i) H)\/∃k,xs=[.bl k]/\Q (.I<|if k then 1 else 0) H):=by
 intro ao s T H xs us Q I r h;rcases h with⟨i,rfl,q⟩|⟨k,rfl,q⟩
 .let(u,rfl,t,rfl):=vals1 r;show call_int_int %[1,.I i,H,I,%[_|rb]|q]
 .let(u,rfl,r1):=vals1 r;cases r1;show call_int_bool %[1,.I<|if k then 1 else 0,H,I.tok _,%[_|rb]|q]
end
structure Ey (h:Ň)(x dx C:Ķ)(mA:ņ->ĵ ĳ):Prop where
 obj:h.Á x=į (W.instObj C dx)
 ns:h.Ns1 dx mA
 ne:dx≠x
def YG {h:Ň}(n:h.Ns1 dx mA):∃od,h.Á dx=į od/\∀name,W.lookIn name od=į (mA name):=by
 let(o,es,ep,B,hd,hk,_,hm):=n;calc%[0,o,B|λname=>?_];let e:=hm name;unfold nsFind findBy at e;rw[<-Array.find?_toList]at e;unfold W.lookIn;rw[hd];dsimp only;split
 .rename_i y q;rw[q]at e;show Ő į e
 .rename_i q;rw[q]at e;let a:es.H.ġ (·.refKey)=ķ:=by
   rw[List.any_eq_false];intro y D;let(z,t,g):=hk y (wo.mp D);simp[DictEntry.refKey,g]
  let j:¬es.H.ġ (·.refKey)=Ĵ:=by rw[a];show cw
  rw[Ĺ j];show Ő į e
def Ey.look (I:Ey h x dx C mA):∃od,W.InstAt h x (W.instObj C dx) C (į od)/\∀name,W.lookIn name od=į (mA name):=let %[od,ho|hl]:=YG I.ns
 %[0,od,%[I.obj,rb,rb|ho]|hl]
section
variable {prog:ń}{w:ŉ}{A:ň}{E:AB}{s:Ļ}{K:W.Ë}{x dx C f:Ķ}{mA:ņ->ĵ ĳ}{name:ņ}{v:ĳ}
def get_map (X:K.In s.C)(I:Ey s.C x dx C mA)(j:W.plainGet K C name=Ĵ)(D:W.hasDictIn K C=Ĵ)(ha:W.ā K (.v C) name=į Ĳ)(hv:mA name=į v)(g:W.handedIn v=Ĵ)(h:Q v {s with toks:=s.Ý+1}):ļ (Ľ prog w) A (getAttr (.v x) name expr) Q E s:=by let(od,J,B):=I.look;show W.get_value X J (xi j).1 (W.findObj_own D ha rb (by rw[B,hv])) g h
def abv (X:K.In s.C)(I:Ey s.C x dx C mA)(g:W.plainGet K C name=Ĵ)(D:W.ā K (.v C) name=į (į<|.v f))(B:W.isFn K (.v f)=Ĵ)(hv:mA name=Ĳ)(h:Q (.v f,[.v x]) s):ļ (Ľ prog w) A (getMethod (.v x) name pl) Q E s:=by let(od,J,j):=I.look;show W.method_fn X J (xi g).1 (xi g).2 D (beq_iff_eq.mp B) (by show (W.lookIn name od).Q (·.Ě)=į ķ;rw[j,hv];rfl) h
def ad3 (X:K.In s.C)(I:Ey s.C x dx C mA)(hs:W.ā K (.v C) "__setattr__"=į (į<|.Ó "object.__setattr__"))(hp:W.plainOver K C=true)(Y:W.takerIn K C name=some none)(O:W.hasDictIn K C=true)(hw:PySem.Within mA ns)(hsz:ns.n<=sizeLine)(h:∀h',Ey h' x dx C (λy=>if y=name then į v else mA y)->Heap.Ĉ dx s.C h'->Q () {s with heap:=h',toks:=s.Ý+2}):ļ (Ľ prog w) A (setAttr (.v x) name v) Q E s:=by let(od,J,hl):=I.look;calc W.set_plain X J hs<|W.osa_open (s:={s with toks:=s.Ý+1}) (r:=none) X J hp Y λb=>?_;let(cd,N,B):=W.any_some O;let hx:s.C.Á x=į %[.v C,į dx,.plain|#[]]:=I.obj;calc ab<|ah<|ab<|ab<|wpAny_loadPart hx<|ab<|W.Looks.here (s:={s with toks:=s.Ý+1}) (W.looks_clsIn X N) ?_;rw[B];calc ah (a:=į dx)<|ab<|ah<|ab ?_;calc wpAny_nsSet1 (s:={s with toks:=s.Ý+1}) I.ns λh' j g=>?_;let(Z,M,L,F,G,D):=j.Č (PySem.Within.Þ name v hw);calc ab<|wpAny_lookBehind F (by rw[G];show pastItsLine_dict<|av D (by rw[b8];show gg hsz)) ?_;show ah<|h _ %[(g.2 _<|mI I.ne).X I.obj,j|I.ne] g
def abw (X:K.In s.C)(hm:W.makesIn K C=Ĵ)(hi:W.ā K (.v C) "__init__"=į (į<|.v f))(j:W.typeIn K (.v f)=į (.È "function"))(h:codeAny (Ľ prog w) (A.under<|.Ó "type.__call__" %[.v C::vs|kw]) (.call (.v f) %[.v (s.d+1)::vs|kw]) (W.InitBack (s.d+1) R) {s with heap:=(s.C.Í W.emptyDict).Í<|W.instObj C s.d}):codeAny (Ľ prog w) A (.call (.v C) %[vs|kw]) R s:=by let(B,g,d,t,os):=s;show W.make_core (W.makes_of X hm) (W.looks_findIn X hi) (λself=>W.bind_fn X self j) (.Â rb) h
end
def j_ (f:ņ)(v:V):İ (ņ×V)->İ (ņ×V)
 | []=>[(f,v)]
 | (g,x)::r=>if g=f then (g,v)::r else (g,x)::j_ f v r
theorem Ea (f g)(v):∀fs:İ (ņ×V),(j_ f v fs).Å g=if g=f then į v else fs.Å g
 | []=>by
  show List.Å g [(f,v)]=_;by_cases h:g=f
  .let j:(g==f)=Ĵ:=beq_iff_eq.á h;simp only[List.lookup,j,ĺ h]
  .let j:(g==f)=ķ:=beq_eq_false_iff_ne.á h;simp only[List.lookup,j,Ĺ h]
 | (k,x)::r=>by
  let B:=Ea f g v r;rw[show j_ f v ((k,x)::r)=(if k=f then (k,v)::r else (k,x)::j_ f v r) from rfl];by_cases hk:k=f
  .rw[ĺ hk];by_cases h:g=k
   .let j:(g==k)=Ĵ:=beq_iff_eq.á h;simp only[List.lookup,j,ĺ (h.X hk)]
   .let j:(g==k)=ķ:=beq_eq_false_iff_ne.á h;simp only[List.lookup,j,Ĺ (λe:g=f=>h<|e.X hk.Ò)]
  .rw[Ĺ hk];by_cases h:g=k
   .let j:(g==k)=Ĵ:=beq_iff_eq.á h;simp only[List.lookup,j,Ĺ (λe:g=f=>hk<|h.Ò.X e)]
   .let j:(g==k)=ķ:=beq_eq_false_iff_ne.á h;simp only[List.lookup,j];show B
theorem Ar (f)(v):∀fs:İ (ņ×V),f∈(j_ f v fs).Q (·.1)/\∀g,g∈fs.Q (·.1)->g∈(j_ f v fs).Q (·.1)
 | []=>%[by simp[j_]|λg h=>by simp at h]
 | (k,x)::r=>by
  let(j,B):=Ar f v r;rw[show j_ f v ((k,x)::r)=(if k=f then (k,v)::r else (k,x)::j_ f v r) from rfl];by_cases hk:k=f
  .rw[ĺ hk];subst hk;show%[zr|λg h=>by simpa using h]
  .rw[Ĺ hk];refine%[?_|λg h=>?_]
   .rw[bX];show ay _ j
   .rw[bX]at h ⊢;rcases a_.mp h with e|e;.show a_.á<|.Â e
    .show ay _<|B g e
theorem Eb (f)(v):∀fs:İ (ņ×V),(j_ f v fs).n<=fs.n+1
 | []=>by simp[j_]
 | (k,x)::r=>by
  let g:=Eb f v r;rw[show j_ f v ((k,x)::r)=(if k=f then (k,v)::r else (k,x)::j_ f v r) from rfl];by_cases hk:k=f;.rw[ĺ hk,b8,b8];lia
  .rw[Ĺ hk,b8,b8];show gg g
def lZ.some_of (r:lZ (į v) o):∃u,o=į u/\bQ v u:=by
 cases o with| none=>show(show False from r).í| some u=>show%[0,u,rb|r]
def lZ.none_of (r:lZ Ĳ o):o=Ĳ:=by
 cases o with| none=>rfl| some u=>show(show False from r).í
def YH (r:bQ v u):W.handedIn u=Ĵ:=by
 cases v with
 | non=>cases(show u=Value.Ø from r);rfl
 | bl b=>cases(show u=Value.ĉ b from r);rfl
 | int i=>let(t,e):=(show ∃t,u=Value.I i t from r);cases e;rfl
 | str x=>let(t,e):=(show ∃t,u=Value.À x t from r);cases e;rfl
 | zZ b=>let(t,e):=(show ∃t,u=Value.bytes b t from r);cases e;rfl
 | flt b=>let(t,e):=(show ∃t,u=Value.float b t from r);cases e;rfl
 | ref a=>cases(show u=Value.v a from r);rfl
 | ty n=>cases(show u=Value.È n from r);rfl
section
variable {P:ń}{w:ŉ}{H:Hp}{h:Ň}{a C dx:Ķ}{fs:İ (ņ×V)}
def CZ (hok:jK P w H h)(e:H a=į (.ins C dx fs)):∃mA,Ey h a dx C mA/\(∀f,lZ (fs.Å f) (mA f))/\PySem.Within mA (fs.Q (·.1))/\fs.n<=1000/\H dx=į (.own a):=by
 let(d,z,ne,ob,mA,n,r,q):=(show dD P w H h a (.ins C dx fs) from hok a _ e)
 show%[9,mA,%[ob,n|ne],r,q,z|d]
end
structure Cls (K:W.Ë)(C:Ķ):Prop where
 pg:W.plainGet K C Str.empty=Ĵ
 hd:W.hasDictIn K C=Ĵ
 po:W.plainOver K C=Ĵ
 sa:W.ā K (.v C) "__setattr__"=į (į<|.Ó "object.__setattr__")
def Cls.get {K:W.Ë}(c:Cls K C)(f:ņ):W.plainGet K C f=Ĵ:=c.pg
def lM (K:W.Ë)(C:Ķ)(f:ņ):Prop:=W.ā K (.v C) f=į Ĳ
def lM.taker {K:W.Ë}{f:ņ}(n:lM K C f):W.takerIn K C f=į Ĳ:=by unfold W.takerIn;rw[show W.ā K (.v C) f=į Ĳ from n];rfl
structure Meth (K:W.Ë)(C:Ķ)(m:ņ)(f:Ķ):Prop where
 at_:W.ā K (.v C) m=į (į<|.v f)
 fn:W.isFn K (.v f)=Ĵ
 kp:W.Ċ K (.v f)=Ĵ
section
variable {X:Cx}{ao:AC}{T:St}{H:Hp}{s:Ļ}{a C dx:Ķ}{fs:İ (ņ×V)}{f:ņ}{v:V}{A:ň}{E:AB}
def Wn (I:aM X ao T H s)(e:H a=į (.ins C dx fs))(c:Cls X.K C)(n:lM X.K C f)(l:fs.Å f=į v)(h:∀u s',aM X ao T H s'->bQ v u->Q u s'):ļ (Ľ X.Ï X.w) A (getAttr (.v a) f b) Q E s:=by let(mA,O,r,_,_,_):=CZ I.ì e;let(u,j,g):=lZ.some_of (v:=v) (o:=mA f) (by rw[<-l];show r f);show get_map I.j7 O (c.ď f) c.hd n j (YH g)<|h u _ (I.tok _) g
def Gm (I:aM X ao T H s)(e:H a=į (.ins C dx fs))(c:Cls X.K C)(k:Meth X.K C m g)(l:fs.Å m=Ĳ)(h:Q (.v g,[.v a]) s):ļ (Ľ X.Ï X.w) A (getMethod (.v a) m pl) Q E s:=by let(mA,O,r,_,_,_):=CZ I.ì e;let hn:mA m=Ĳ:=lZ.none_of (by rw[<-l];show r m);show abv I.j7 O (c.ď m) k.Ć k.fn hn h
def Wo (I:aM X ao T H s)(e:H a=į (.ins C dx fs))(c:Cls X.K C)(n:lM X.K C f)(L:fs.n<1000)(D:bQ y u)(h:∀s',aM X ao T (upd H a<|.ins C dx<|j_ f y fs) s'->Q () s'):ļ (Ľ X.Ï X.w) A (setAttr (.v a) f u) Q E s:=by
 let(mA,O,r,wi,_,B):=CZ I.ì e;let hz:(fs.Q (·.1)).n<=Ŀ:=by rw[aa,sizeLine_eq];lia
 calc ad3 I.j7 O c.sa c.po n.taker c.hd wi hz λh' j F=>h _ ?_;let hd:∃o,h'.Á dx=į o:=let %[o,_,_,e'|_]:=j.ns;%[o|e']
 calc I.write (x:=a) (e:=dx) (by rw[e];show True.intro) (.Ð B) (λb q G z=>(F.2 b G).X z) hd ?_;calc%[by rw[aU O.ne];show B,?_,O.ne|%[26,j.obj,_,j.ns,λg=>?_|λg J=>?_]];.have:=Eb f y fs;lia
 .show lZ ((j_ f y fs).Å g)<|if g=f then į u else mA g;rw[Ea];by_cases q:g=f;.rw[ĺ q,ĺ q];show D
  .rw[Ĺ q,Ĺ q];show r g
 .by_cases q:g=f;.rw[q];show(Ar f y fs).1
  .calc(Ar f y fs).2 g<|wi g λz=>J ?_;show (if g=f then į u else mA g)=Ĳ;rw[Ĺ q];show z
def aM.made (I:aM X ao T H s):aM X ao T (upd (upd H s.d<|.own<|s.d+1) (s.d+1)<|.ins C s.d []) {s with heap:=(s.C.Í W.emptyDict).Í<|W.instObj C s.d}:=by
 let e1:(s.C.Í W.emptyDict).Á s.d=į W.emptyDict:=a6 s.C rfl;let e2:((s.C.Í W.emptyDict).Í<|W.instObj C s.d).Á (s.d+1)=į (W.instObj C s.d):=by
  have:=a6 (s.C.Í W.emptyDict) (o:=W.instObj C s.d) rfl
  rwa [eM]at this
 let e3:(s.C.Í W.emptyDict).Ns s.d (λ_=>Ĳ):=%[11,W.emptyDict,#[],_,e1,rb,(λe g=>Ł g zr)|λ_=>rfl]
 let I1:=I.Ĭ (a:=s.heap.objs.size) (o:=.own (s.d+1)) (h':=s.C.Í W.emptyDict) (t':=s.toks) (λb u q=>af _ q) (ag _) %[_|e1];calc I1.Ĭ (a:=s.d+1) (o:=.ins C s.d []) (t':=s.toks) (λb u q=>af _ q) (gx<|eM _ _) ?_;let ne:s.d≠s.d+1:=bb<|fm _;refine%[by rw[aU ne,au],ci _,ne|%[26,e2,λ_=>Ĳ,(Heap.Ns1.of_empty e3).at λo q=>af _ q,λ_=>True.intro|λy j=>Ł rb j]]
def ad4 (g:attributeBase e f env (Ŏ e env)=Ŏ e env)(h:ļ (Ľ prog w) A (Ŏ e env) (λo j=>ļ (Ľ prog w) A (getAttr o f Ĵ) Q E j) E s):ļ (Ľ prog w) A (Ŏ (.Ā e f pos) env) Q E s:=Attribute_any_ h (by rw[arm_eval_Attribute,g])
end
def af3 (K:W.Ë)(ta:TE)(f:ņ):TE:=λI H Q=>ta I H λx H1=>∃a C dx fs v,x=.v a/\H1 a=į (.ins C dx fs)/\Cls K C/\lM K C f/\fs.Å f=į v/\Q v H1
def aiZ (K:W.Ë)(ta tv:TE)(f:ņ):TS:=λD I H=>tv I H λy H1=>ta I H1 λx g=>∃a C dx fs,x=.v a/\g a=į (.ins C dx fs)/\Cls K C/\lM K C f/\fs.n<1000/\
 D.nx I (upd g a<|.ins C dx<|j_ f y fs)
section
variable {X:Cx}{o e value:ŋ}{f:ņ}{pos pos':Pos}{ta tv:TE}
variable {ao:AC}{T:St}{H:Hp}{s:Ļ}{A:ň}{E Q:AB}{c:ĳ}{b:ŏ}
def fX (g:QE X e ta)(F:attributeBase e f X.Ç (Ŏ e X.Ç)=Ŏ e X.Ç):QE X (.Ā e f pos) (af3 X.K ta f):=⟨by
 intro ao s T H Q I h;calc ad4 F<|bM (g.Û ao s T H _ I h) λu s1 ⟨x,H1,I1,B,a,C,dx,fs,v,ex,D,c,n,l,q⟩=>?_;subst ex;obtain rfl:u=Value.v a:=B;show Wn I1 D c n l λG s2 I2 j=>%[1,v,H1,I2,j|q]⟩
def xq (ha:QE X o ta)(hv:QE X value tv)(hs:swapsWith value (į<|.Ā o f pos') pos.line X.Ç=pure ķ):QS X (.Assign [.Ā o f pos'] value pos) (aiZ X.K ta tv f):=⟨by
 intro ao s T H D I h;calc plainObj_wpAny_Assign_Attribute (bM (hv.Û ao s T H _ I h) λu s1 ⟨y,H1,I1,g,q⟩=>bM (ha.Û ao s1 T H1 _ I1 q) λj s2 ⟨x,J,I2,B,a,C,dx,fs,ex,F,c,n,l,q2⟩=>?_) hs;subst ex;obtain rfl:j=Value.v a:=B;show Wo I2 F c n l g λL G=>%[4,T,_,G|q2]⟩
inductive pG (K:W.Ë) (H:Hp):V->ĳ->Prop where
 | non:pG K H .ă (.È "NoneType")
 | bl (x:ŏ):pG K H (.bl x) (.È "bool")
 | int (i:ĸ):pG K H (.I i) (.È "int")
 | str (x:ņ):pG K H (.À x) (.È "str")
 | flt (x:UInt64):pG K H (.flt x) (.È "float")
 | lst {a:Ķ} {xs:İ V} (e:H a=į (.É xs)):pG K H (.v a) (.È "list")
 | ql {a:Ķ} {o:Obj} {xs:İ V} (e:H a=į (.ql o<|.É xs)):pG K H (.v a) (.È "list")
 | tup {a:Ķ} {xs:İ V} (e:H a=į (.Æ xs)):pG K H (.v a) (.È "tuple")
 | dK {a:Ķ} {kvs:İ (Key×V)} (e:H a=į (.dK kvs)):pG K H (.v a) (.È "dict")
 | dT {a:Ķ} {kvs:İ (İ Key×V)} (e:H a=į (.dT kvs)):pG K H (.v a) (.È "dict")
 | ins {a C dx:Ķ} {fs:İ (ņ×V)} (e:H a=į (.ins C dx fs)) (cl:Cls K C) (ha:W.ā K (.v C) "__class__"=į (į<|.Ó "object.__class__"))
   (hn:W.specialIn K (.Ó "object.__class__") "__get__"=į (į<|.Ó "getset_descriptor.__get__")) (htk:W.takesIn K (.Ó "object.__class__")=į Ĵ)
   (hm:W.mroIn K C (.È "object")=į Ĵ):pG K H (.v a) (.v C)
def YJ (I:aM X ao T H s)(g:bQ x u)(ty:pG X.K H x t)(e:W.kitOne X.K t c=į b)(h:∀tk,Q (.ĉ b) {s with toks:=tk}):ļ (Ľ X.Ï X.w) A (call (.Ó "isinstance") [u,c]) Q E s:=by
 cases ty with
 | non=>cases(show u=Value.Ø from g);show im W.kitx_none I.j7 True.intro e (λz=>nomatch z) h
 | bl y=>cases(show u=Value.ĉ y from g);show im W.kitx_bool I.j7 True.intro e (λz=>nomatch z) h
 | int i=>let(t,q):=(show ∃t,u=Value.I i t from g);cases q;show im W.kitx_int I.j7 True.intro e (λz=>nomatch z) h
 | str y=>let(t,q):=(show ∃t,u=Value.À y t from g);cases q;show im W.kitx_str I.j7 True.intro e (λz=>nomatch z) h
 | flt y=>let(t,q):=(show ∃t,u=Value.float y t from g);cases q;show im W.kitx_float I.j7 True.intro e (λz=>nomatch z) h
 | @lst a xs ea=>
  cases(show u=Value.v a from g);let(_,_,n,_,h1):=(show dD X.Ï X.w H s.C a (.É xs) from I.ì a _ ea)
  show im W.kitx_list I.j7 %[0,_,h1|rb] e (λz=>nomatch z) h
 | @ql a ob xs ea=>
  cases(show u=Value.v a from g);let(_,_,_,n,_,h1):=(show dD X.Ï X.w H s.C a (.ql ob<|.É xs) from I.ì a _ ea)
  show im W.kitx_list I.j7 %[0,_,h1|rb] e (λz=>nomatch z) h
 | @tup a xs ea=>
  cases(show u=Value.v a from g);let(_,_,_,p):=(show dD X.Ï X.w H s.C a (.Æ xs) from I.ì a _ ea)
  let(o,h1,j,_):=p;show im W.kitx_tuple I.j7 %[0,o,h1|j] e (λz=>nomatch z) h
 | @dK a kvs ea=>
  cases(show u=Value.v a from g);let(_,_,vs,_,p):=(show dD X.Ï X.w H s.C a (.dK kvs) from I.ì a _ ea)
  let(o,es,ep,h1,j,_):=p;show im W.kitx_dict I.j7 %[0,o,h1|j.1] e (λz=>nomatch z) h
 | @dT a kvs ea=>
  cases(show u=Value.v a from g);let(_,_,xs,_,o,es,ep,h1,j,_):=(show dD X.Ï X.w H s.C a (.dT kvs) from I.ì a _ ea)
  show im W.kitx_dict I.j7 %[0,o,h1|j.1] e (λz=>nomatch z) h
 | @ins a C dx fs ea cl ha hn htk hm=>cases(show u=Value.v a from g);let(mA,O,_):=CZ I.ì ea;let(od,J,_):=O.look;show im (W.kitx_own (cl.ď _) cl.hd ha hn htk hm) I.j7 J e (λz=>nomatch z) h
end
structure eG (k:ı)(A:ň):Prop where
 hd:A.õ=Ĳ
 dp:A.depth+3*k+5<recursionLimit
 un:A.ã+16*k+200<cLine
def eG.mono (r:eG k A)(h:ŵ (j<=k) ŷ):eG j A:=%[r.hd,by have:=r.dp;lia|by have:=r.un;lia]
def eG.deeper (r:eG (k+1) A)(env):eG k (A.deeper env):=%[r.hd,by have:=r.dp;show A.depth+1+3*k+5<_;lia|by have:=r.un;show A.ã+3+16*k+200<_;lia]
def eG.in1 (r:eG (k+1) A):eG k A.ę:=%[r.hd,by have:=r.dp;show A.depth+3*k+5<_;lia|by have:=r.un;show A.ã+1+16*k+200<_;lia]
def Wq {A:ň}:(A.under<|.Ó "type.__call__" %[.v C::us|kw]).depth=A.depth+1:=by first|rfl|simp[Around.under,Code.weight,Code.isCreation,Code.isGuard,Code.isCaller,Code.frames,Code.isFrame,guardIds]
def Wr {A:ň}:(A.under<|.Ó "type.__call__" %[.v C::us|kw]).ã=A.ã+1:=by first|rfl|simp[Around.under,Code.cUnits,Code.frames,Code.isFrame]
def eG.make (r:eG (k+1) A)(C)(us)(kw):eG k (A.under<|.Ó "type.__call__" %[.v C::us|kw]):=%[r.hd,by have:=r.dp;rw[Wq];(simp_all;lia)|by have:=r.un;rw[Wr];(simp_all;lia)]
def eG.depth (r:eG k A):A.depth<recursionLimit:=by have:=r.dp;lia
def eG.units (r:eG k A):A.ã+64<cLine:=by have:=r.un;lia
def qz:TA:=λ_ H Q=>Q [] H
def jG (ta:TE)(g:TA):TA:=λI H Q=>ta I H λx H1=>g I H1 λxs j=>Q (x::xs) j
section
variable {X:Cx}{e:ŋ}{es:İ ŋ}{te:TE}{t:TA}{pos:Pos}
def aq  : QA X [] qz:=⟨λ_ _ _ _ H Q I h=>ox %[1,[],H,I,.ê|h]⟩
def aj (ha:QE X e te)(B:QA X es t)(hs:ŵ (Ņ (e::es) X.Ç=(ķ,Ŏ e X.Ç)::Ņ es X.Ç) Ŷ):QA X (e::es) (jG te t):=⟨by
 intro pos ao s T H Q I h;rw[hs];show ļ _ _ (spliced<|(ķ,Ŏ e X.Ç)::backTo pos (Ņ es X.Ç)) _ _ s;calc f_<|bM (ha.Û ao s T H _ I h) λu s1 ⟨x,H1,I1,r1,q1⟩=>?_;show bM (B.Û pos ao s1 T H1 _ I1 q1) λus s2 ⟨xs,j,I2,g,q2⟩=>%[1,x::xs,j,I2,.Þ r1 g|q2]⟩
def af4 (t:TA):TE:=λT H Q=>t T H λxs H1=>xs.n<=Ŀ/\∀p,H1 p=Ĳ->Q (.v p) (upd H1 p<|.Æ xs)
def ai0 (t:TA):TE:=λT H Q=>t T H λxs H1=>xs.n<=Ŀ/\∀p,H1 p=Ĳ->Q (.v p) (upd H1 p<|.É xs)
def cO {x1}(h:QA X es t):QE X (.ģ es x1 pos) (af4 t):=⟨by
 intro ao s T H Q I g;calc wpAny_Tuple_spliced<|bM (h.Û pos ao s T H _ I g) λus s1 ⟨xs,H1,I1,r,z,q⟩=>%[by rw[<-r.length];show z|?_];let j:H1 s1.d=Ĳ:=I1.ì.ß<|ag _;calc%[1,.v s1.d,upd H1 s1.d<|.Æ xs,I1.Ĭ (t':=s1.toks) (λb u e=>af _ e) (ag _) ?_,rb|q _ j];show%[12,z,us,r|%[34,_,a6 _ rb,rb,_|rb]]⟩
def fK (h:QA X es t):QE X (.List es pos) (ai0 t):=⟨by
 intro ao s T H Q I g;calc wpAny_List_spliced<|bM (h.Û pos ao s T H _ I g) λus s1 ⟨xs,H1,I1,r,z,q⟩=>%[by rw[<-r.length];show z|?_];let j:H1 s1.d=Ĳ:=I1.ì.ß<|ag _;calc%[1,.v s1.d,upd H1 s1.d<|.É xs,I1.Ĭ (t':=s1.toks) (λb u e=>af _ e) (ag _) ?_,rb|q _ j];show%[19,z,us,0,r|a6 _ rb]⟩
end
abbrev Sp:=İ V->Hp->VK->XK->Prop
abbrev Ec:=İ Env->Hp->Ļ->XK->ĳ->Ļ->Prop
structure yJ (P:ń)(w:ŉ)(K:W.Ë)(mg:ņ->ĵ ĳ)(base:Ň)(A:ň)(outer:İ Env)(s:Ļ)(H:Hp):Prop where
 frames:A.frames=į outer
 mod:Mod K mg base
 bs:∀b o,base.Á b=į o->s.C.Á b=į o/\H b=Ĳ
 DY:base.Y.E<=s.d
 qu:s.C.FunFrames base outer
 Ko:∀b∈frs outer,H b=Ĳ
 hok:jK P w H s.C
 bare:Ś s.gens
def CE (outer:İ Env)(P:ń)(w:ŉ)(H:Hp)(s:Ļ)(Q:VK)(u:ĳ)(s':Ļ):Prop:=∃v H',s'.os=s.os/\Ś s'.gens/\Un (frs outer) [] H H' s.C s'.C/\jK P w H' s'.C/\bQ v u/\Q v H'
def CR (CX:Ec)(outer:İ Env)(P:ń)(w:ŉ)(H:Hp)(s:Ļ)(Q:VK)(E:XK)(r:ű)(s':Ļ):Prop:=match r with| .ok (.ret u)=>CE outer P w H s Q u s'| .ok _=>False| .error e=>CX outer H s E e s'
structure dJ (P:ń)(w:ŉ)(K:W.Ë)(mg:ņ->ĵ ĳ)(base:Ň)(CX:Ec)(k:ı)(f:Ķ)(fd:Ŕ)(ps:İ ņ)(sp:Sp):Prop where
 len:∀vs H Q E,sp vs H Q E->vs.n=ps.n
 run:∀(A:ň) (outer:İ Env) (s:Ļ) (H:Hp) (args:Args) (us:İ ĳ) (vs:İ V) (Q:VK) (E:XK),eG k A->yJ P w K mg base A outer s H->Ť s fd args (ps.Ĩ us)->Vals vs us->sp vs H Q E->
  codeAny (Ľ P w) A (.call (.v f) args) (CR CX outer P w H s Q E) s
def dJ.mono {K:W.Ë}{mg:ņ->ĵ ĳ}{CX:Ec}{j k:ı}{ps:İ ņ}{sp:Sp}(F:dJ P w K mg base CX j f fd ps sp)(h:j<=k):dJ P w K mg base CX k f fd ps sp:=%[F.đ|λA outer s H args us vs Q E g=>F.run A outer s H args us vs Q E<|g.Ô h]
def yJ.make {K:W.Ë}{mg:ņ->ĵ ĳ}{outer:İ Env}(e:yJ P w K mg base A outer s H)(C:Ķ)(us:İ ĳ)(g:İ (ņ×ĳ)):yJ P w K mg base (A.under<|.Ó "type.__call__" %[.v C::us|g]) outer s H:=%[by first|show e.frames|(simpa [Around.under,Code.envs,Code.isFrame,pushEnvs] using e.frames),e.mod,e.bs,e.DY,e.qu,e.Ko,e.ì|e.bare]
section
variable {X:Cx}{ao:AC}{T:St}{H:Hp}{s s':Ļ}
def aM.env0 (I:aM X ao T H s):yJ X.Ï X.w X.K X.mg X.ð X.A X.ĝ s H:=%[I.ok.frames,I.ok.mod,I.bs,av I.ok.DY I.sz,I.ĝ,I.Ug,I.ì|I.bare]
def aM.after (I:aM X ao T H s)(h:CE X.ĝ X.Ï X.w H s Q u s'):EP X ao T Q u s':=by let(v,H',os,bare,un,hok,r,q):=h;let(B,g,d,t,j):=s';obtain rfl:j=s.os:=os;show%[1,v,H',I.call (h':=B) (g':=g) (d':=d) (t':=t) (ch:=[]) un hok bare λb z=>Ł z zr,r|q]
end
def C_ (sp:Sp)(nR:İ V)(E:XK)(t:TA):TE:=λI H Q=>t I H λvs H1=>sp (vs++nR) H1 Q E
def Ws (C:Ķ)(m:ņ)(sp:Sp)(nR:İ V)(E:XK)(ta:TE)(t:TA):TE:=λI H Q=>ta I H λx H1=>∃a dx fs,x=.v a/\H1 a=į (.ins C dx fs)/\fs.Å m=Ĳ/\
 t I H1 λvs g=>sp (x::(vs++nR)) g Q E
def ah6 (C:Ķ)(sp:Sp)(nR:İ V)(E:XK)(t:TA):TE:=λI H Q=>t I H λvs H1=>∀x dx,H1 x=Ĳ->H1 dx=Ĳ->dx≠x->
 sp (.v x::(vs++nR)) (upd (upd H1 dx<|.own x) x<|.ins C dx []) (λv g=>v=.ă/\Q (.v x) g) E
def cV (K:W.Ë)(fd:Ŕ)(ps:İ ņ)(ds:İ ĳ):Prop:=∀(s:Ļ) (us:İ ĳ),K.In s.C->(us++ds).n=ps.n->Ť s fd %[us|[]] (ps.Ĩ<|us++ds)
def cV.all {K:W.Ë}{ps:İ ņ}(h:∀us:İ ĳ,us.n=ps.n->bindArgs fd %[us|[]]=pure (ps.Ĩ us)):cV K fd ps []:=λs us _ g=>by rw[fi]at g ⊢;show .of_eq<|h us g
def Passes (CX:Ec)(X:Cx)(E:XK):Prop:=∀(ao:AC) (I:St) (H:Hp) (s:Ļ) (e:ĳ) (s':Ļ),aM X ao I H s->CX X.ĝ H s E e s'->X.xe e s'
section
variable {X:Cx}{CX:Ec}{k:ı}{f C:Ķ}{fd:Ŕ}{ps:İ ņ}{sp:Sp}{nR:İ V}{ds:İ ĳ}{E:XK}{x m:ņ}{p pos apos:Pos}{e o:ŋ}{es:İ ŋ}{ta:TE}{t:TA}
def Oe {ao:AC}{T:St}{H:Hp}{s:Ļ}{Q:VK}{us:İ ĳ}{vs:İ V}(F:dJ X.Ï X.w X.K X.mg X.ð CX k f fd ps sp)(G:eG k X.A)(D:cV X.K fd ps ds)(hd:Vals nR ds)(hx:Passes CX X E)(I:aM X ao T H s)(r:Vals vs us)(h:sp (vs++nR) H Q E):ļ (Ľ X.Ï X.w) X.A (call (.v f) us) (EP X ao T Q) X.xe s:=by
 let j:Vals (vs++nR) (us++ds):=r.append hd;let B:(us++ds).n=ps.n:=by rw[<-j.length];show F.đ _ _ _ _ h
 calc ul<|iN (F.run X.A X.ĝ s H %[us|[]] (us++ds) (vs++nR) Q E G I.env0 (D s us I.j7 B) j h) λr s' g=>?_;cases r with
 | error e=>show hx ao T H s e s' I g
 | ok fl=>
  cases fl with| ret u=>show I.after g| next=>show False.í g| brk=>show False.í g| cont=>show False.í g
def ad5 (F:dJ X.Ï X.w X.K X.mg X.ð CX k f fd ps sp)(J:eG k X.A)(G:Gl X x)(hm:X.mg x=į (.v f))(hk:W.Ċ X.K (.v f)=Ĵ)(D:cV X.K fd ps ds)(hd:Vals nR ds)(hx:Passes CX X E)(ha:PA X (e::es) t)(j:ŵ ((x==("__debug__":ņ))=ķ) ŷ)(B:ŵ (Ņ (e::es) X.Ç=(ķ,Ŏ e X.Ç)::Ņ es X.Ç) Ŷ)(g:ŵ ((backTo pos<|Ņ es X.Ç).ġ (·.1)=ķ) Ŷ):PE X (.ĭ (.ë x p) (e::es) [] pos) (C_ sp nR E t):=by intro ao s T H Q I h;calc ly<|CQ I G hm ?_ j;calc tJ (h₀:=X.base) I.ok.mod.N7 hk (bM (ha pos ao s T H _ I h) λus s1 ⟨vs,H1,I1,r,q⟩=>%[I1.j7|?_]) B g;show Oe F J D hd hx I1 r q
def lU {pl:Sem ŏ}(B:QE X o ta)(c:Cls X.K C)(hm:Meth X.K C m f)(F:dJ X.Ï X.w X.K X.mg X.ð CX k f fd ps sp)(L:eG k X.A)(J:cV X.K fd ps ds)(hd:Vals nR ds)(hx:Passes CX X E)(ha:QA X (e::es) t)(j:ŵ (Ņ (e::es) X.Ç=(ķ,Ŏ e X.Ç)::Ņ es X.Ç) Ŷ)(g:ŵ ((backTo pos<|Ņ es X.Ç).ġ (·.1)=ķ) Ŷ)(M:ŵ (Ŏ (.ĭ (.Ā o m apos) (e::es) [] pos) X.Ç=(do
   let ov <- Ŏ o X.Ç
   standAt apos.atName
   let (f,first) <- holding [ov] (getMethod ov m pl)
   callWith pos f first (backTo pos<|Ņ (e::es) X.Ç) (backToKw pos<|keywordEach [] X.Ç))) Ŷ):QE X (.ĭ (.Ā o m apos) (e::es) [] pos) (Ws C m sp nR E ta t):=⟨by
 intro ao s T H Q I h;calc W.methodCall_KW (pl:=pl) (bM (B.Û ao s T H _ I h) λu s1 ⟨x,H1,I1,D,a,dx,fs,ex,G,l,q⟩=>?_) M;subst ex;obtain rfl:u=Value.v a:=D;calc Gm I1 G c hm l ?_;calc tJ (first:=[.v a]) (h₀:=X.base) I.ok.mod.N7 hm.kp (bM (ha.Û pos ao s1 T H1 _ I1 q) λus s2 ⟨vs,N,I2,r,q2⟩=>%[I2.j7|?_]) j g;show Oe (us:=.v a::us) (vs:=.v a::vs) F L J hd hx I2 (.Þ rb r) q2⟩
def Ez (g:QE X o ta)(c:Cls X.K C)(hm:Meth X.K C m f)(F:dJ X.Ï X.w X.K X.mg X.ð CX k f fd ps sp)(G:eG k X.A)(D:cV X.K fd ps ds)(hd:Vals nR ds)(hx:Passes CX X E)(J:ŵ (Ŏ (.ĭ (.Ā o m apos) [] [] pos) X.Ç=(do
   let ov <- Ŏ o X.Ç
   standAt apos.atName
   let (f,first) <- holding [ov] (getMethod ov m pl)
   callWith pos f first (backTo pos<|Ņ [] X.Ç) (backToKw pos<|keywordEach [] X.Ç))) Ŷ):QE X (.ĭ (.Ā o m apos) [] [] pos) (Ws C m sp nR E ta qz):=⟨by
 intro ao s T H Q I h;calc W.methodCall_KW (pl:=pl) (bM (g.Û ao s T H _ I h) λu s1 ⟨x,H1,I1,j,a,dx,fs,ex,B,l,q⟩=>?_) J;subst ex;obtain rfl:u=Value.v a:=j;calc Gm I1 B c hm l ?_;show W.callWith_K0 (first:=[.v a]) I1.j7 hm.kp<|Oe (us:=[.v a]) (vs:=[.v a]) F G D hd hx I1 (.Þ rb .ê) q⟩
structure Mk (K:W.Ë)(C f:Ķ):Prop where
 makes:W.makesIn K C=Ĵ
 init:W.ā K (.v C) "__init__"=į (į<|.v f)
 fn:W.isFn K (.v f)=Ĵ
 kp:W.Ċ K (.v C)=Ĵ
def abx {ao:AC}{T:St}{H:Hp}{s:Ļ}{Q:VK}{us:İ ĳ}{vs:İ V}(M:Mk X.K C f)(F:dJ X.Ï X.w X.K X.mg X.ð CX k f fd ps sp)(Y:eG (k+1) X.A)(N:cV X.K fd ps ds)(hd:Vals nR ds)(hx:Passes CX X E)(I:aM X ao T H s)(r:Vals vs us)(h:∀x dx,H x=Ĳ->H dx=Ĳ->dx≠x->sp (.v x::(vs++nR)) (upd (upd H dx<|.own x) x<|.ins C dx []) (λv G=>v=.ă/\Q (.v x) G) E):ļ (Ľ X.Ï X.w) X.A (call (.v C) us) (EP X ao T Q) X.xe s:=by
 let B:=h (s.d+1) s.d (I.ì.ß<|fA _) (I.ì.ß<|ag _)<|bb<|fm _;let I2:=aM.made (C:=C) I;let j:Vals (V.v (s.d+1)::(vs++nR)) (Value.v (s.d+1)::(us++ds)):=.Þ rb<|r.append hd;let D:(Value.v (s.d+1)::us++ds).n=ps.n:=by let e:=j.n;rw[F.đ _ _ _ _ B]at e;show e.Ò
 refine ul (abw (f:=f) I.j7 M.makes M.init (beq_iff_eq.mp M.fn) (iN (F.run _ X.ĝ _ _ %[Value.v (s.d+1)::us|[]] (Value.v (s.d+1)::(us++ds)) _ _ E (Y.make C us [])
  (I2.env0.make C us []) (N _ (Value.v (s.d+1)::us) I2.j7 D) j B) λr s' g=>?_))
 cases r with
 | error e=>show hx ao T _ _ e s' I2 g
 | ok fl=>
  cases fl with
  | ret u=>let(v,H',J,O,L,q3):=I2.after g;subst L;show%[O|%[1,V.v<|s.d+1,H',J,rb|q3]]
  | next=>show False.í g
  | brk=>show False.í g
  | cont=>show False.í g
def xr (M:Mk X.K C f)(F:dJ X.Ï X.w X.K X.mg X.ð CX k f fd ps sp)(J:eG (k+1) X.A)(G:Gl X x)(hm:X.mg x=į (.v C))(D:cV X.K fd ps ds)(hd:Vals nR ds)(hx:Passes CX X E)(ha:QA X (e::es) t)(j:ŵ ((x==("__debug__":ņ))=ķ) ŷ)(B:ŵ (Ņ (e::es) X.Ç=(ķ,Ŏ e X.Ç)::Ņ es X.Ç) Ŷ)(g:ŵ ((backTo pos<|Ņ es X.Ç).ġ (·.1)=ķ) Ŷ):QE X (.ĭ (.ë x p) (e::es) [] pos) (ah6 C sp nR E t):=⟨by
 intro ao s T H Q I h;calc ly<|CQ I G hm ?_ j;calc tJ (h₀:=X.base) I.ok.mod.N7 M.kp (bM (ha.Û pos ao s T H _ I h) λus s1 ⟨vs,H1,I1,r,q⟩=>%[I1.j7|?_]) B g;show abx M F J D hd hx I1 r q⟩
end
def PK (X:Cx)(kws:İ ś)(t:TA):Prop:=∀(pos:Pos) (ao:AC) (s:Ļ) (I:St) (H:Hp) (Q:İ V->Hp->Prop),aM X ao I H s->t I H Q->ļ (Ľ X.Ï X.w) X.A (evalAll ((backToKw pos<|keywordEach kws X.Ç).Q (·.2))) (AP X ao I Q) X.xe s
section
variable {X:Cx}{x:ņ}{pos kpos:Pos}{e:ŋ}{kws:İ ś}{te:TE}{t:TA}{nm:ĵ ņ}
def YK:PK X [] qz:=λ_ _ _ _ H Q I h=>wpAny_evalAll_nil %[1,[],H,I,.ê|h]
def Um (ha:PE X e te)(B:PK X kws t):PK X (%[nm,e|kpos]::kws) (jG te t):=by intro pos ao s T H Q I h;show ļ _ _ (evalAll ((do let v <- Ŏ e X.Ç;standAt pos;pure v)::(backToKw pos<|keywordEach kws X.Ç).Q (·.2))) _ _ s;calc wpAny_evalAll_cons<|ab<|bM (ha ao s T H _ I h) λu s1 ⟨x,H1,I1,r1,q1⟩=>ab<|vS<|ah ?_;show bM (B pos ao s1 T H1 _ I1 q1) λus s2 ⟨xs,j,I2,g,q2⟩=>%[1,x::xs,j,I2,.Þ r1 g|q2]
end
structure aW (N P:İ ņ)(sc:Œ):Prop where
 kind:sc.ý=.function:=by rfl
 co:sc.isCoroutine=ķ:=by rfl
 gen:sc.isGenerator=ķ:=by rfl
 nd:N.Ö:=by decide +kernel
 pre:N.Ã P.n=P:=by rfl
 par:∀x∈P,sc.Ú.Å x=į .û\/sc.Ú.Å x=į .ø:=by decide +kernel
 af5:∀y∈sc.Ú,y.2≠.Õ:=by decide +kernel
def YL {kindOf:ņ->ĵ ř}{x:ņ}:∀{binds:İ (ņ×ĳ)} {m:ņ->ĵ ĳ},(∀v,(x,v)∉binds)->bindL kindOf binds m x=m x:=by
 intro binds m h
 induction binds generalizing m with
 | nil=>rfl
 | cons p r ih=>
  let(n,v):=p;unfold bindL;rw[ih λw hw=>h w (ay _ hw)];split
  .have:x≠n:=by rintro rfl;show h v aE
   simp[this]
  .rfl
def YM {kindOf:ņ->ĵ ř}{x:ņ}:∀{binds:İ (ņ×ĳ)} {m:ņ->ĵ ĳ},(∀v,(x,v)∉binds)->bindC kindOf binds m x=m x:=by
 intro binds m h
 induction binds generalizing m with
 | nil=>rfl
 | cons p r ih=>
  let(n,v):=p;unfold bindC;rw[ih λw hw=>h w (ay _ hw)];split;.rfl
  .have:x≠n:=by rintro rfl;show h v aE
   simp[this]
theorem Av {kindOf:ņ->ĵ ř}{x:ņ}:∀{P:İ ņ} {vs:İ ĳ} {i:ı} {m:ņ->ĵ ĳ},P.Ö->P[i]?=į x->vs[i]?=į v->kindOf x=į .û->
  bindL kindOf (P.Ĩ vs) m x=į v
 | [],_,_,_,_,h,_,_=>by simp at h
 | _::_,[],_,_,_,_,h,_=>by simp at h
 | p::P,w::vs,0,m,nd,h1,h2,hk=>by simp at h1 h2;subst h1;subst h2;show bindL kindOf ((p,w)::P.Ĩ vs) m p=_;unfold bindL;rw[YL λv hv=>(io.mp nd).1 (sT hv).1,ĺ hk];simp
 | p::P,w::vs,i+1,m,nd,h1,h2,hk=>by show bindL kindOf ((p,w)::P.Ĩ vs) m x=_;unfold bindL;show Av (i:=i) (io.mp nd).2 (by simpa using h1) (by simpa using h2) hk
theorem Kz {kindOf:ņ->ĵ ř}{x:ņ}:∀{P:İ ņ} {vs:İ ĳ} {i:ı} {m:ņ->ĵ ĳ},P.Ö->P[i]?=į x->vs[i]?=į v->kindOf x≠į .û->
  bindC kindOf (P.Ĩ vs) m x=į v
 | [],_,_,_,_,h,_,_=>by simp at h
 | _::_,[],_,_,_,_,h,_=>by simp at h
 | p::P,w::vs,0,m,nd,h1,h2,hk=>by simp at h1 h2;subst h1;subst h2;show bindC kindOf ((p,w)::P.Ĩ vs) m p=_;unfold bindC;rw[YM λv hv=>(io.mp nd).1 (sT hv).1,Ĺ hk];simp
 | p::P,w::vs,i+1,m,nd,h1,h2,hk=>by show bindC kindOf ((p,w)::P.Ĩ vs) m x=_;unfold bindC;show Kz (i:=i) (io.mp nd).2 (by simpa using h1) (by simpa using h2) hk
def start (N:İ ņ)(vs:İ V):St:=vs.Q į++List.Ñ (N.n-vs.n) Ĳ
def pH (CX:Ec)(P:ń)(w:ŉ)(K:W.Ë)(mg:ņ->ĵ ĳ)(base:Ň)(N:İ ņ)(qual:ņ)(scope:Œ)(f:Ķ)(j:ĳ)(A:ň)(outer:İ Env)(s:Ļ)(H:Hp)(E:XK):Cx where
 prog:=P
 w:=w
 K:=K
 mg:=mg
 base:=base
 A:=A.deeper<|envOfC qual scope s.d f j
 N:=N
 s₀:=s
 H₀:=H
 env:=envOfC qual scope s.d f j
 outer:=outer
 stack:=envOfC qual scope s.d f j::outer
 ex:=[]
 calm:=Ĵ
 fn:=λ_=>Ĵ
 pn:=[]
 xe:=λe s'=>ļ (Ľ P w) (A.deeper<|envOfC qual scope s.d f j) (leaving (envOfC qual scope s.d f j) e) (λ_ g=>CX outer H s E e g) (λB g=>CX outer H s E B g) s'
def Og {sc:Œ}(h:sc.Ú.Å x=į .ø):∃c,(cellsFrom n sc.Ú []).Å x=į c:=by let q:=vy sc.Ú n []<|.Â h;show Option.isSome_iff_exists.mp q
def Aw {CX:Ec}{K:W.Ë}{mg:ņ->ĵ ĳ}{N ps:İ ņ}{qual:ņ}{scope:Œ}{A:ň}{outer:İ Env}{E:XK}{vs:İ V}(S:aW N ps scope)(hd:A.õ=Ĳ)(j:yJ P w K mg base A outer s H)(M:vs.n=ps.n)(r:Vals vs us)(x:InCallC s s.d (bindL (envOfC qual scope s.d f cd).Į (ps.Ĩ us) λ_=>Ĳ) (cellsFrom (s.d+1) scope.Ú []) (bindC (envOfC qual scope s.d f cd).Į (ps.Ĩ us) λ_=>Ĳ) s1):aM (pH CX P w K mg base N qual scope f cd A outer s H E) [] (start N vs) H s1:=by
 let J:ps.n<=N.n:=by have:=Ő List.n S.pre;rw[ba]at this;lia
 let(h1,tk,rfl,hk):=x.done;let B:∀b:Ķ,b∉(pH CX P w K mg base N qual scope f cd A outer s H E).ex:=λb z=>Ł (show b∈([]:İ Ķ) from z) zr;refine%[%[j.mod,S.ý,rb,rb,ag _,λy z c h1 g=>?_,λy D=>?_,λy c _ h=>?_,λ_=>hd,Around.frames_deeper j.frames,.Ð %[rb|rb],λb z=>Ł z<|B b,j.bs,j.DY,λb _ _=>B b,λb z=>Ł z<|B b,j.qu|j.Ko],
  rfl,j.bare,Un.ě hk,%[0,_,x.toInCall.ns|λi y v h1 g O=>?_],λy c h=>%[_|x.ø y c h],j.ì.ß<|ag _,λy c h=>?_,λp hp=>Ł (show p∈([]:AC) from hp) zr,j.ì.ě hk|?_]
 .show name_of_addr x.apart (oT h1)<|oT g
 .let D:scope.Ú.Å y=į .ø\/scope.Ú.Å y=į .Õ:=D;rcases D with D|D;.show Og D
  .show Ł rb<|S.af5 _<|oT D
 .show ar<|x.above y c<|oT h
 .let hi:i<vs.n:=by
   unfold start at g;by_cases hi:i<vs.n;.show hi
   .rw[du (by simpa using hi)]at g;rw[List.getElem?_replicate]at g;split at g <;> cases g
  let ha:vs[i]?=į v:=by
   unfold start at g;rw[eW (by simpa using hi),bz]at g;cases e:vs[i]? with
   | none=>rw[e]at g;cases g
   | some a=>rw[e]at g;cases g;rfl
  let(u,G,L):=r.ď ha;let hp:ps[i]?=į y:=by rw[<-S.pre,tN (by simp_all)];show h1
  let F:ps.Ö:=by rw[<-S.pre];show S.nd.sublist<|u7 _ _
  calc%[0,u,L|?_];rcases S.par y (a7 hp) with k|k;.show .Â %[k|Av F hp G k]
  .let(c,e):=Og (n:=s.d+1) k;calc .Ð %[12,.Â k,c,e|?_];let q:=x.ø y c e;rw[Kz F hp G (by show scope.Ú.Å y≠_;rw[k];decide)]at q;show q
 .show j.ì.ß<|ar<|x.above y c<|oT h
 .unfold start;show _=N.n;rw[ax,aa,dE];simp_all
def adE {CX:Ec}{P:ń}{w:ŉ}{K:W.Ë}{mg:ņ->ĵ ĳ}{base:Ň}{k:ı}{f:Ķ}{name qual:ņ}{params:Ŝ}{body:İ Ŋ}{scope:Œ}{dV kV doc pm bF ct oc:ĳ}{an od:ĵ Ķ}{osl:ŀ (ĵ ĳ)}{N ps:İ ņ}{sp:Sp}(lk:K.Å f=į %[oc,od,.func<|W.fnOf name qual params body scope dV kV doc pm an bF ct|osl])(M:W.ĩ K bF qual=Ĵ)(S:aW N ps scope)(len:∀vs H Q E,sp vs H Q E->vs.n=ps.n)(j:∀(A:ň) (outer:İ Env) (s:Ļ) (H:Hp) (vs:İ V) (Q:VK) (E:XK),eG k (A.deeper<|envOfC qual scope s.d f bF)->sp vs H Q E->
   ∃t,Kr (pH CX P w K mg base N qual scope f bF A outer s H E) body t/\t {nx:=λ_ H'=>Q .ă H',rt:=Q} (start N vs) H) :
  dJ P w K mg base CX (k+1) f (W.fnOf name qual params body scope dV kV doc pm an bF ct) ps sp:=by
 calc%[len|λA outer s H args us vs Q E Y B hb r F=>?_];let hl:=len _ _ _ _ F;let Z:K.In s.C:=B.mod.N7.Ğ λb o e=>(B.bs b o e).1;let L:s.C.NoLimit:=B.mod.nolimit.Ğ λb o e=>(B.bs b o e).1;let g:∀y∈ps.Ĩ us,scope.Ú.Å y.1=į .û\/(scope.Ú.Å y.1=į .ø/\((cellsFrom (s.d+1) scope.Ú []).Å y.1).Ě=Ĵ):=λ⟨n,v⟩ hy=>by
  rcases S.par n (sT hy).1 with q|q;.show .Â q
  .show .Ð %[q|vy _ _ _<|.Â q]
 calc codeAny_call_function Y.depth (Z _ _ lk) rb S.co S.gen rb (W.codeRec_of Z M)<|hb _ _ _ _ ?_;calc sn S.ý g λenv he s1 x=>?_;subst he;calc%[L.Ğ x.toInCall.keep|codeAny_func ?_];let(t,ht,hq):=j A outer s H vs Q E (Y.deeper _) F;let I:aM (pH CX P w K mg base N qual scope f bF A outer s H E) [] (start N vs) H s1:=Aw S Y.hd B hl r x;calc fq (ht [] s1 (start N vs) H _ I hq) (λfl s' hs=>?_) λe s' hs=>hs;let D:∀{G:St} {H':Hp} {v:V} {u:ĳ},aM (pH CX P w K mg base N qual scope f bF A outer s H E) [] G H' s'->bQ v u->Q v H'->CE outer P w H s Q u s':=λ{G H' v u} J O q=>%[22,v,H',J.os,J.bare,J.ð,J.ì,O|q]
 cases fl with
 | ret u=>let(v,G,H',J,O,q):=hs;show D J O q
 | next=>let(G,H',J,q):=hs;show D (v:=V.non) (u:=Value.none) J rb q
 | brk=>let(_,_,_,q):=hs;show False.í q
 | cont=>let(_,_,_,q):=hs;show False.í q
section
variable {X:Cx}{x:ņ}{p pos:Pos}{e:ŋ}{es:İ ŋ}{t:TA}{id T:ŕ}{r:İ V->Hp->VK->Prop}
def tCB (r:İ V->Hp->VK->Prop)(t:TA):TE:=λC H Q=>t C H λvs H1=>r vs H1 Q
def aP (D:fD X (.Ó id) r)(F:Gl X x)(hm:X.mg x=Ĳ)(hv:bootBuiltins x=į (.Ó id))(ha:QA X (e::es) t)(hn:ŵ (x≠"__name__") ŷ)(j:ŵ ((x==("__debug__":ņ))=ķ) ŷ)(B:ŵ (Ņ (e::es) X.Ç=(ķ,Ŏ e X.Ç)::Ņ es X.Ç) Ŷ)(g:ŵ ((backTo pos<|Ņ es X.Ç).ġ (·.1)=ķ) Ŷ):QE X (.ĭ (.ë x p) (e::es) [] pos) (tCB r t):=⟨by
 intro ao s C H Q I h;calc ly<|nO I F hm hv ?_ hn j;show PyProof.Ă.callWith_builtin1 (bM (ha.Û pos ao s C H _ I h) λus s1 ⟨vs,H1,I1,r1,q1⟩=>D ao s1 C H1 vs us Q I1 r1 q1) B g⟩
def cN (D:fD X (.È T) r)(F:Gl X x)(hm:X.mg x=Ĳ)(hv:bootBuiltins x=į (.È T))(ha:QA X (e::es) t)(hn:ŵ (x≠"__name__") ŷ)(j:ŵ ((x==("__debug__":ņ))=ķ) ŷ)(B:ŵ (Ņ (e::es) X.Ç=(ķ,Ŏ e X.Ç)::Ņ es X.Ç) Ŷ)(g:ŵ ((backTo pos<|Ņ es X.Ç).ġ (·.1)=ķ) Ŷ):QE X (.ĭ (.ë x p) (e::es) [] pos) (tCB r t):=⟨by
 intro ao s C H Q I h;calc ly<|nO I F hm hv ?_ hn j;show ip (bM (ha.Û pos ao s C H _ I h) λus s1 ⟨vs,H1,I1,r1,q1⟩=>D ao s1 C H1 vs us Q I1 r1 q1) B g⟩
end
end L2
namespace HT
open PySem PyProof.Rows
section
variable {prog:ń}{w:ŉ}{A:ň}{E:AB}{s:Ļ}
def ad6 {vs ws:İ ĳ}(ht:IsTup s.C t vs.R)(Y:IsTup s.C b ws.R)(hv:vs≠[])(h1:ws=[]->Q (.v t) s)(Z:ws≠[]->Q (.v s.d) {s with heap:=s.C.Í {cls:=.È "tuple",data:=.ú (vs++ws).R} })(hsz:vs.n+ws.n<=Ŀ):ļ (Ľ prog w) A (binaryOp .Add (.v t)<|.v b) Q E s:=by
 let((cls,O,data,sl),G,M,n,hd):=id ht;let((N,D,J,j),g,B,L,F):=id Y;simp only at M hd B F;subst M hd B F;let e:vs.R++ws.R=(vs++ws).R:=zr;by_cases hw:ws=[]
 .show concat_meets %[0,_,G|rb] %[0,_,g|rb] noFill_tuple_add seq_tuple_add PySem.F.slot_tuple_add PySem.F.entry_tuple_add (PySem.F.args_tuple_add_2 _ _)
   (tuple_addW1 t b vs.R ws.R n L O D sl j (by simpa using hv) (by simp[hw])) %[G,g|h1 hw]
 .refine concat_meets %[0,_,G|rb] %[0,_,g|rb] noFill_tuple_add seq_tuple_add PySem.F.slot_tuple_add PySem.F.entry_tuple_add (PySem.F.args_tuple_add_2 _ _)
   (tuple_addW2 t b vs.R ws.R n L O D sl j (by simpa using hv) (by simpa using hw) (by rw[bS,bS];show hsz)) %[G,g|?_]
  rw[e];show Z hw
def nD (n d:ı):ĵ ĸ->ı
 | none=>d
 | some v=>if v<0 then (v+(n:ĸ)).Ü else min v.Ü n
def aby (n d):nD n d Ĳ=d:=rfl
def I_ (n d k:ı):nD n d (į (k:ĸ))=min k n:=by show (if (k:ĸ)<0 then ((k:ĸ)+(n:ĸ)).Ü else min (k:ĸ).Ü n)=min k n;rw[Ĺ zo,cq]
def af6 (n d)(hd:d<=n)(o):nD n d o<=n:=by
 cases o with
 | none=>show hd
 | some v=>
  show (if v<0 then (v+(n:ĸ)).Ü else min v.Ü n)<=n;by_cases hv:v<0;.rw[ĺ hv];lia
  .rw[Ĺ hv];show v_ _ _
def ad7 (v:ĸ)(n d:ı):(if v<0 then max (v+(n:ĸ)) 0 else min v (n:ĸ))=((nD n d (į v):ı):ĸ):=by
 show (if v<0 then max (v+(n:ĸ)) 0 else min v (n:ĸ))=(((if v<0 then (v+(n:ĸ)).Ü else min v.Ü n):ı):ĸ)
 by_cases hv:v<0;.simp only[ĺ hv];lia
 .simp only[Ĺ hv];grind
end
end HT
namespace L2
open PySem PySem.Spec PyProof.Rows
abbrev TO:=St->Hp->(ĵ ĸ->Hp->Prop)->Prop
def PO (X:Cx)(e:ĵ ŋ)(t:TO):Prop:=∀(ao:AC) (s:Ļ) (I:St) (H:Hp) (Q:ĵ ĸ->Hp->Prop),aM X ao I H s->t I H Q->
  ļ (Ľ X.Ï X.w) X.A (evalPart e X.Ç) (λu s'=>∃o H',aM X ao I H' s'/\IsPart u o/\Q o H') X.xe s
structure QO (X:Cx)(e:ĵ ŋ)(t:TO):Prop where
 out:PO X e t
def Dc:TO:=λ_ H Q=>Q Ĳ H
def Nx (t:TE):TO:=λI H Q=>t I H λx H1=>∃i,x=.I i/\Q (į i) H1
section
variable {X:Cx}{e:ŋ}{te:TE}{lo hi:ĵ ŋ}{tl th:TO}{pos p2:Pos}
def t_  : QO X Ĳ Dc:=⟨by
 intro ao s C H Q I h;rw[evalPart_none];show ah %[1,Ĳ,H,I,.Ø|h]⟩
def uc (h:QE X e te):QO X (į e) (Nx te):=⟨by
 intro ao s C H Q I hw;rw[evalPart_some];calc bM (h.Û ao s C H _ I hw) λu s1 ⟨x,H1,I1,r1,q1⟩=>?_;let(i,rfl,q):=q1;let(t,rfl):=r1;show%[1,į i,H1,I1,.I i t|q]⟩
def SlR (X:Cx)(r:V->ĵ ĸ->ĵ ĸ->Hp->VK->Prop):Prop:=∀(ao:AC) (s:Ļ) (C:St) (H:Hp) (x:V) (v vl g:ĳ) (lo hi:ĵ ĸ) (sl:Ķ) (Q:VK),aM X ao C H s->bQ x v->s.C.IsSliceOf sl vl g .Ø->IsPart vl lo->IsPart g hi->r x lo hi H Q->
  ∃T id,typeLookup (.È T) "__getitem__"=pure (į<|.Ó id)/\s.ċ v T/\ļ (Ľ X.Ï X.w) X.A (getItem v<|.v sl) (EP X ao C Q) X.xe s
def tSl (r:V->ĵ ĸ->ĵ ĸ->Hp->VK->Prop)(te:TE)(tl th:TO):TE:=λC H Q=>te C H λx H1=>tl C H1 λl j=>th C j λu g=>r x l u g Q
def qC (Z:SlR X r)(D:QE X e te)(F:QO X lo tl)(O:QO X hi th):QE X (.ė e (.Slice lo hi Ĳ p2) pos) (tSl r te tl th):=⟨by
 intro ao s C H Q I h;calc ŧ<|bM (D.Û ao s C H _ I h) λv s1 ⟨x,H1,I1,r1,q1⟩=>?_;calc wpAny_Slice<|bM (F.Û ao s1 C H1 _ I1 q1) λvl s2 ⟨l,G,I2,pl,q2⟩=>bM (O.Û ao s2 C G _ I2 q2) λj g ⟨u,B,L,M,q3⟩=>?_;rw[evalPart_none];calc ah ?_;let J:aM X ao C B {g with heap:=g.C.Í {cls:=.È "slice",data:=.ä #[vl,j,.Ø]} }:=L.ě (t':=g.toks) λb ob q=>af _ q;let(T,id,N,ht,Y):=Z ao {g with heap:=g.C.Í {cls:=.È "slice",data:=.ä #[vl,j,.Ø]} } C B x v vl j l u g.d Q J r1 (Heap.IsSliceOf.new ..) pl M q3;show ļ (Ľ X.Ï X.w) X.A (subscriptTail e (.Slice lo hi Ĳ p2) v<|.v g.d) (EP X ao C Q) X.xe {g with heap:=g.C.Í {cls:=.È "slice",data:=.ä #[vl,j,.Ø]} };show tail_any (ops:=[.v g.d,v]) ht N Y (by with_unfolding_all rfl)⟩
def ah7 (K:W.Ë):R2:=λx y H Q=>∃a b xs ys,x=.v a/\y=.v b/\aQ K H a xs/\aQ K H b ys/\xs≠[]/\xs.n+ys.n<=Ŀ/\
 (ys=[]->Q (.v a) H)/\(ys≠[]->∀p,H p=Ĳ->Q (.v p) (upd H p<|.Æ<|xs++ys))
def Vals.Ja (r:Vals xs us):us=[]↔xs=[]:=by
 cases r with| nil=>simp| cons _ _=>simp
def ad8:gF X (binaryOp .Add) (ah7 X.K):=by intro ao s C H x y v u Q I D B h;let(a,b,xs,ys,rfl,rfl,ha,F,hx,hz,q1,q2):=h;cases D;cases B;let(its,r1,p1,_):=I.Ģ ha;let(j,g,p2,_):=I.Ģ F;calc HT.ad6 p1 p2 (λz=>hx<|r1.Ja.mp z) (λz=>%[1,.v a,H,I,rb|q1<|g.Ja.mp z]) (λz=>?_) (by rw[<-r1.length,<-g.length];show hz);calc%[1,.v s.d,_,I.Ĭ (t':=s.toks) (o:=.Æ (xs++ys)) (λb ob q=>af _ q) (ag _) ?_,rb|q2 (λw=>z<|g.Ja.á w) _<|I.ì.ß<|ag _];show%[12,by rw[ax];show hz,_,r1.append g|IsTup.new _ _]
end
def xu (n:ı)(i:ĸ):ĵ ı:=if 0<=i then (if i<n then į i.Ü else Ĳ) else if -(n:ĸ)<=i then į (i+n).Ü else Ĳ
def kh {I:Type}(xs:İ I)(i:ĸ):ĵ I:=(xu xs.n i).bind λj=>xs[j]?
def Uo (h:xu n i=į j):seqIndex? i n=į j/\j<n/\-(n:ĸ)<=i/\i<n:=by
 unfold xu at h;by_cases g:0<=i
 .rw[ĺ g]at h;by_cases h1:i<n
  .rw[ĺ h1]at h;let e:i.Ü=j:=bg h;show%[by rw[seqIndex_of g h1,e],zo,zo|h1]
  .rw[Ĺ h1]at h;cases h
 .rw[Ĺ g]at h;by_cases h1:-(n:ĸ)<=i
  .rw[ĺ h1]at h;let e:(i+n).Ü=j:=bg h;show%[by rw[seqIndex_neg zo h1,e],zo,h1|zo]
  .rw[Ĺ h1]at h;cases h
def Dd {I:Type}{xs:İ I}{v:I}(h:kh xs i=į v):∃j,seqIndex? i xs.n=į j/\xs[j]?=į v/\j<xs.n/\-(xs.n:ĸ)<=i/\i<xs.n:=by
 unfold kh at h;cases e:xu xs.n i with
 | none=>rw[e]at h;cases h
 | some j=>rw[e]at h;let(h1,B,g,D):=Uo e;show%[9,j,h1,h,B,g|D]
def aN {I:Type}{xs:İ I}{j:ı}{v:I}(h:xs[j]?=į v):kh xs (j:ĸ)=į v:=by
 let g:j<xs.n:=(am.mp h).1;let e:xu xs.n (j:ĸ)=į j:=by unfold xu;rw[ĺ zo,ĺ (i8 dC g)];simp
 unfold kh;rw[e];show h
def abz {I:Type}(xs:İ I)(v:I):kh (xs++[v]) (-1)=į v:=by
 let g:(xs++[v]).n=xs.n+1:=zr;let e:xu (xs++[v]).n (-1)=į xs.n:=by unfold xu;rw[g,Ĺ zt,ĺ zo];congr 1;simp +arith
 unfold kh;rw[e];show (xs++[v])[xs.n]?=į v;simp
def Uq (b:ŋ):Prop:=∀o i,subscripted b ķ o i=operate [o,i] (getItem o i)
def Ur (X:Cx)(r:R2):Prop:=∀(value g:ŋ) (ao:AC) (s:Ļ) (I:St) (H:Hp) (x y:V) (v u:ĳ) (Q:VK),aM X ao I H s->bQ x v->bQ y u->r x y H Q->
  subscripted g ķ v u=operate [v,u] (getItem v u)->ļ (Ľ X.Ï X.w) X.A (subscriptTail value g v u) (EP X ao I Q) X.xe s
def xG (X:Cx)(id:ŕ)(r:V->İ V->Hp->VK->Prop):Prop:=∀(ao:AC) (s:Ļ) (I:St) (H:Hp) (x:V) (xs:İ V) (v:ĳ) (us:İ ĳ) (Q:VK),aM X ao I H s->bQ x v->Vals xs us->r x xs H Q->
  ļ (Ľ X.Ï X.w) X.A (call (.Ó id)<|v::us) (EP X ao I Q) X.xe s
section
variable {X:Cx}{a b:ŋ}{ta tb:TE}{pos:Pos}
def aV (F:Ur X r)(ha:QE X a ta)(D:QE X b tb)(hs:Uq b):QE X (.ė a b pos) (vH r ta tb):=⟨by
 intro ao s C H Q I h;show ŧ<|abt ha.Û D.Û I h λv u s2 x y g I2 B j q=>F a b ao s2 C g x y v u Q I2 B j q<|hs _ _⟩
def ai1 (K:W.Ë):R2:=λx y H Q=>∃p xs i v,x=.v p/\y=.I i/\aZ K H p xs/\kh xs i=į v/\Q v H
def Oh (K:W.Ë):R2:=λx y H Q=>∃p xs i v,x=.v p/\y=.I i/\aQ K H p xs/\kh xs i=į v/\Q v H
def af7:R2:=λx y H Q=>∃z i c,x=.À z/\y=.I i/\z.n<=Ŀ/\kh z.Ĕ.H i=į c/\Q (.À ⟨#[c]⟩) H
def fj:Ur X (ai1 X.K):=by
 intro value D ao s C H x y v u Q I rx Y h hs;let(p,xs,i,z,rfl,rfl,N,J,q):=h;cases rx;let(t,rfl):=Y;let(its,r,pl,hz):=I.ğ N;let(j,h1,h2,h3,O,L):=Dd J;let(w,F,Z):=r.ď h2;let M:=r.n;let hn:=um;let g:EP X ao C Q w s:=%[1,z,H,I,Z|q]
 by_cases G:0<=i
 .let B:i.Ü=j:=by
   rw[seqIndex_of G L]at h1;show bg h1
  show item_listR pl.ü G zo (by rw[B];simpa using F) g hs
 .let B:(i+(its.R.E:ĸ)).Ü=j:=by
   rw[seqIndex_neg zo O]at h1;rw[bS,<-M];show bg h1
  show subscriptTail_builtinR (x:=w) pl.ü.typeIs slot_list_getitem.Å
   (wpAny_getItem_list_neg (Q:=λr s'=>r=w/\EP X ao C Q r s') pl.ü zo (by rw[bS] <;> lia) zo (by rw[B];simpa using F) %[rb|g]) hs
def bA:Ur X (Oh X.K):=by
 intro value g ao s C H x y v u Q I M J h hs;let(p,xs,i,z,rfl,rfl,G,D,q):=h;cases M;let(t,rfl):=J;let(its,r,pl,hz):=I.Ģ G;let(j,h1,O,h3,Z,Y):=Dd D;let(w,N,L):=r.ď O;let F:=r.n;let hn:=um;let B:EP X ao C Q w s:=%[1,z,H,I,L|q]
 show subscriptTail_builtinR (x:=w) pl.typeIs slot_tuple_getitem.Å
  (getItem_tuple (j:=j) (Q:=λr s'=>r=w/\EP X ao C Q r s') pl zo zo (by rw[bS,<-F];show h1) (by simpa using N) %[rb|B]) hs
def af8:Ur X af7:=by
 intro value g ao s C H x y v u Q I L J h hs;let(z,i,c,rfl,rfl,hz,B,q):=h;let(t,rfl):=L;let(t',rfl):=J;let(j,h1,M,N,G,D):=Dd B;let F:z.Ĕ.H.n=z.n:=by simp[Str.length]
 rw[F]at h1 G D;let hn:=um;show tail_any (typeIs_str s z t) slot_str_getitem.Å (getItem_str (c:=c) (by
  let e1:ľ (i < -(2^63:ĸ))=ķ:=ai zo;let e2:ľ (i>=2^63)=ķ:=ai zo;rw[e1,e2,vT]) (by rw[h1];simpa using M) %[1,.À ⟨#[c]⟩,H,I.tok _,%[_|rb]|q]) hs
def Wt (its:İ ĳ)(n j)(u):Obj.ò (·.ó j u) {cls:=.È "list",data:=.ú its.R n}={cls:=.È "list",data:=.ú (its.ē j u).R n}:=by simp[Obj.mapSeq]
def aM.lst {ao:AC}{C:St}{H:Hp}{s:Ļ}{p:Ķ}{xs:İ V}(I:aM X ao C H s)(h:H p=į (.É xs)):∃(its:İ ĳ) (n:Nat),Vals xs its/\s.C.Á p=į {cls:=.È "list",data:=.ú its.R n}/\xs.n<=Ŀ:=by let(z,its,n,r,e):=I.ì p _ h;show%[1,its,n,r,e|z]
def aM.af9 {ao:AC}{C:St}{H:Hp}{s:Ļ}{p:Ķ}{xs ys:İ V}{its its':İ ĳ}{n g:ı}{f:Obj->Obj}(I:aM X ao C H s)(h:H p=į (.É xs))(B:s.C.Á p=į {cls:=.È "list",data:=.ú its.R n})(j:f {cls:=.È "list",data:=.ú its.R n}={cls:=.È "list",data:=.ú its'.R g })(r:Vals ys its')(hz:ys.n<=Ŀ)(t:ı):aM X ao C (upd H p<|.É ys) {s with heap:=s.C.ù p f,toks:=t}:=by
 let e:(s.C.ù p f).Á p=į {cls:=.È "list",data:=.ú its'.R g }:=by rw[gr f B (by rw[j] <;> rfl),j]
 calc I.write (x:=p) (e:=p) (by rw[h];trivial) (.Â rb) (λb u D q=>(kM _ _<|mI D).X q) %[_|e] ?_;show%[19,hz,its',g,r|e]
def ah8:V->V->V->Hp->(Hp->Prop)->Prop:=λo i v H Q=>∃p xs k j,o=.v p/\i=.I k/\H p=į (.É xs)/\xu xs.n k=į j/\Q (upd H p<|.É<|xs.ē j v)
def set_list:abq X ah8:=by
 intro ao s C H o i v Y Z u Q I N M O h;let(p,xs,k,j,rfl,rfl,hp,L,q):=h;cases N;let(t,rfl):=M;let(its,n,r,B,hz):=I.É hp;let(h1,h2,F,D):=Uo L;let g:=r.n;let hn:=um;let J:aM X ao C (upd H p<|.É<|xs.ē j v) {s with heap:=s.C.ù p (Obj.ò (·.ó j u))}:=I.af9 hp B (Wt its n j u) (r.ē O j) (by rw[mf];show hz) s.Ý
 by_cases G:0<=k
 .let hk:k.Ü=j:=by
   rw[seqIndex_of G D]at h1;show bg h1
  show W.ki_setAt B G zo (by rw[bS,<-g];show D) (by rw[hk];show%[0,_,J|q])
 .let hk:(k+(its.R.E:ĸ)).Ü=j:=by
   rw[seqIndex_neg zo F]at h1;rw[bS,<-g];show bg h1
  show W.ki_setBack B zo (by rw[bS,<-g];show F) zo (by rw[hk];show%[0,_,J|q])
def tQ:V->ŏ
 | .ă=>true
 | .bl _=>true
 | .I _=>true
 | .À _=>true
 | _=>false
def vI:V->V->ŏ
 | .ă,.ă=>true
 | .bl a,.bl b=>a==b
 | .bl a,.I b=>(if a then 1 else 0)==b
 | .I a,.bl b=>a==(if b then 1 else 0)
 | .I a,.I b=>a==b
 | .À a,.À b=>a==b
 | _,_=>false
def af_ (B:bQ y u)(g:bQ x v)(D:tQ y=Ĵ)(j:tQ x=Ĵ):SeqAt.EqAt A s u v (vI y x):=by
 cases y with
 | non=>
  cases B;cases x with
  | non=>cases g;show SeqAt.EqAt.same _
  | bl b=>cases g;show SeqAt.EqAt.none_bool b
  | int b=>let(t,rfl):=g;show SeqAt.EqAt.none_int b t
  | str b=>let(t,rfl):=g;show SeqAt.EqAt.none_str b t
  | _=>show Ł (show ķ=Ĵ from j) cw
 | bl a=>
  cases B;cases x with
  | non=>cases g;show SeqAt.EqAt.bool_none a
  | bl b=>cases g;show SeqAt.EqAt.bool_bool a b
  | int b=>let(t,rfl):=g;show SeqAt.EqAt.bool_int a b t
  | str b=>let(t,rfl):=g;show SeqAt.EqAt.bool_str a b t
  | _=>show Ł (show ķ=Ĵ from j) cw
 | int a=>
  let(t',rfl):=B;cases x with
  | non=>cases g;show SeqAt.EqAt.int_none a t'
  | bl b=>cases g;show SeqAt.EqAt.int_bool a t' b
  | int b=>let(t,rfl):=g;show pV a t' b t
  | str b=>let(t,rfl):=g;show SeqAt.EqAt.int_str a t' b t
  | _=>show Ł (show ķ=Ĵ from j) cw
 | str a=>
  let(t',rfl):=B;cases x with
  | non=>cases g;show SeqAt.EqAt.str_none a t'
  | bl b=>cases g;show SeqAt.EqAt.str_bool a t' b
  | int b=>let(t,rfl):=g;show SeqAt.EqAt.str_int a t' b t
  | str b=>let(t,rfl):=g;show SeqAt.EqAt.str_str a t' b t
  | _=>show Ł (show ķ=Ĵ from j) cw
 | _=>show Ł (show ķ=Ĵ from D) cw
def Gn (x:V)(u:ĳ):ŏ:=match u with| .Ø=>vI .ă x| .ĉ b=>vI (.bl b) x| .I i _=>vI (.I i) x| .À z _=>vI (.À z) x| _=>false
def YQ (r:bQ y u)(f:tQ y=Ĵ):Gn x u=vI y x:=by
 cases y with
 | non=>cases r;rfl
 | bl b=>cases r;rfl
 | int i=>let(t,rfl):=r;rfl
 | str z=>let(t,rfl):=r;rfl
 | _=>show Ł (show ķ=Ĵ from f) cw
def Us:∀{xs:İ V} {us:İ ĳ},Vals xs us->xs.all tQ=Ĵ->us.ġ (Gn x)=xs.ġ λy=>vI y x:=by
 intro _ _ h f
 induction h with| nil=>rfl| cons r t ih=>rw[List.all_cons,eD]at f;rw[pE,pE,YQ r f.1,ih f.2]
def Oi (D:bQ x v)(B:tQ x=Ĵ):∀{xs:İ V} {us:İ ĳ},Vals xs us->xs.all tQ=Ĵ->∀u∈us,SeqAt.EqAt A s u v (Gn x u):=by
 intro _ _ h f
 induction h with
 | nil=>intro u g;cases g
 | cons r t ih=>
  intro j g;rw[List.all_cons,eD]at f;rcases a_.mp g with rfl|g;.rw[YQ r f.1];show af_ r D f.1 B
  .show ih f.2 j g
def inV (x:V)(xs:İ V):ŏ:=xs.ġ λy=>vI y x
def rIn (K:W.Ë)(g:ŏ):R2:=λx y H Q=>∃p xs,y=.v p/\(aZ K H p xs\/aQ K H p xs)/\tQ x=Ĵ/\xs.all tQ=Ĵ/\Q (.bl<|if g then !inV x xs else inV x xs) H
def Oj:gF X (compareOp .NotIn) (rIn X.K Ĵ):=by
 intro ao s C H x y v u Q I j D h;let(p,xs,rfl,g,B,fs,q):=h;cases D;rcases g with g|g
 .let(its,r,pl,hz):=I.ğ g;calc SeqAt.notIn_listAt (Gn x) pl.ü (λw hw=>Oi j B r fs w (by simpa using hw)) %[1,.bl _,H,I,rb|?_];rw[show its.R.ġ (Gn x)=its.ġ (Gn x) by simp,Us r fs];show q
 .let(its,r,pl,hz):=I.Ģ g;calc SeqAt.notIn_tupleAt (Gn x) pl (λw hw=>Oi j B r fs w (by simpa using hw)) %[1,.bl _,H,I,rb|?_];rw[show its.R.ġ (Gn x)=its.ġ (Gn x) by simp,Us r fs];show q
def cD:fD X (.Ó "len") (λxs H Q=>∃p ys,xs=[.v p]/\(aZ X.K H p ys\/aQ X.K H p ys)/\Q (.I ys.n) H):=by
 intro ao s C H xs us Q I r h;let(p,ys,rfl,g,q):=h;let(u,rfl,B):=vals1 r;cases B;let hn:=um;rcases g with g|g
 .let(its,j,pl,hz):=I.ğ g;let Y:=j.n;show Calls.call_len_list pl.ü (by simp only[bS] <;> lia) %[1,.I ys.n,H,I.tok _,%[s.Ý+1|by rw[bS,Y]]|q]
 .let(its,j,pl,hz):=I.Ģ g;let Y:=j.n;show len_tuple pl (by simp only[bS] <;> lia) %[1,.I ys.n,H,I.tok _,%[s.Ý+1|by rw[bS,Y]]|q]
def Ol:fD X (.Ó "len") (λxs H Q=>∃z,xs=[.À z]/\z.n<=Ŀ/\Q (.I z.n) H):=by intro ao s C H xs us Q I r h;let(z,rfl,hz,q):=h;let(u,rfl,t,rfl):=vals1 r;let hn:=um;show len_str zo %[1,.I z.n,H,I.tok _,%[_|rb]|q]
def Om:fD X (.È "list") (λxs H Q=>∃p ys,xs=[.v p]/\(aZ X.K H p ys\/aQ X.K H p ys)/\∀l,H l=Ĳ->Q (.v l) (upd H l<|.É ys)):=by
 intro ao s C H xs us Q I r h;let(p,ys,rfl,B,q):=h;let(u,rfl,J):=vals1 r;cases J;let D:∀(its:İ ĳ),Vals ys its->ys.n<=Ŀ->∀(h':Ň) (g:ı),(∀b o',s.C.Á b=į o'->h'.Á b=į o')->
   h'.Á s.d=į {cls:=.È "list",dict:=Ĳ,data:=.ú its.R g,slots:=#[]}->EP X ao C Q (.v s.d) {s with heap:=h' }:=λits j hz h' g kp e=>
  %[1,.v s.d,_,I.Ĭ (t':=s.toks) kp (ag _)<|show dD X.Ï X.w _ h' _ (.É ys) from %[19,hz,its,g,j|e],rb|q _<|I.ì.ß<|ag _]
 rcases B with B|B
 .let(its,j,pl,hz):=I.ğ B;let Y:=j.n;let(o,F,G,n,hd):=pl.ü;show call_list_seq p (.Â rb) F G hd (λh' g kp e=>D its j hz h' g kp e) (by simp only[bS] <;> lia)
 .let(its,j,pl,hz):=I.Ģ B;let Y:=j.n;let(o,F,G,n,hd):=pl;show call_list_seq p (.Ð rb) F G hd (λh' g kp e=>D its j hz h' g kp e) (by simp only[bS] <;> lia)
def dX:fD X (.È "tuple") (λxs H Q=>∃p ys,xs=[.v p]/\((aZ X.K H p ys/\∀l,H l=Ĳ->Q (.v l) (upd H l<|.Æ ys))\/(aQ X.K H p ys/\Q (.v p) H))):=by
 intro ao s C H xs us Q I r h;let(p,ys,rfl,h):=h;let(u,rfl,B):=vals1 r;cases B;rcases h with⟨g,q⟩|⟨g,q⟩
 .let(its,j,pl,hz):=I.ğ g;let Y:=j.n;calc call_tuple_list pl.ü (λh' kp=>?_) (by simp only[bS] <;> lia);let I1:aM X ao C H {s with heap:=h' }:=I.ě (t':=s.toks) kp;let I2:aM X ao C (upd H h'.Y.E<|.Æ ys) {s with heap:=h'.Í {cls:=.È "tuple",data:=.ú its.R} }:=
   I1.Ĭ (t':=s.toks) (λb o e=>af _ e) (ag _)<|show dD X.Ï X.w _ _ _ (.Æ ys) from %[12,hz,its,j|IsTup.new _ _]
  show%[1,.v h'.Y.E,_,I2,rb|q _<|I1.ì.ß<|ag _]
 .let(its,j,pl,hz):=I.Ģ g;show call_tuple_same pl %[1,.v p,H,I,rb|q]
def tyV (K:W.Ë)(T:ŕ)(x:V)(H:Hp):Prop:=match x with
 | .À _=>T="str"
 | .I _=>T="int"
 | .v p=>(T="list"/\∃xs,aZ K H p xs)\/(T="tuple"/\∃o,K.Å p=į o/\o.cls=.È "tuple"/\o.dict=Ĳ)\/
   (T="dict"/\((∃kvs,H p=į (.dK kvs))\/∃kvs,H p=į (.dT kvs)))\/(T="set"/\∃S n,H p=į (.ē S n))
 | _=>False
def YS {ao:AC}{C:St}{H:Hp}{s:Ļ}{T:ŕ}{x:V}{v:ĳ}(I:aM X ao C H s)(r:bQ x v)(ty:tyV X.K T x H):s.ċ v T/\∀a,v=.v a->∃ob,s.C.Á a=į ob/\ob.dict=Ĳ:=by
 cases x with
 | str z=>let(t,rfl):=r;cases(show T="str" from ty);show%[typeIs_str s z t|λ_ e=>nomatch e]
 | int i=>let(t,rfl):=r;cases(show T="int" from ty);show%[typeIs_int s i t|λ_ e=>nomatch e]
 | ref p=>
  cases r;rcases ty with⟨rfl,xs,g⟩|⟨rfl,o,hk,j,hd⟩|⟨rfl,hk⟩|⟨rfl,S,n,hk⟩
  .let(its,_,pl,_):=I.ğ g;calc%[pl.ü.typeIs|λa e=>?_];cases e;let(o,n,e,c,hd,_):=pl;show%[0,o,e|hd]
  .calc%[%[0,o,I.j7 p o hk|j]|λa e=>?_];cases e;show%[0,o,I.j7 _ o hk|hd]
  .let z:∃o,s.C.Á p=į o/\o.ExactDict:=by
    rcases hk with⟨kvs,hk⟩|⟨kvs,hk⟩
    .let(_,_,_,_,o,_,_,e,ex,_):=I.ì p _ hk;show%[0,o,e|ex]
    .let(_,_,_,_,o,_,_,e,ex,_):=I.ì p _ hk;show%[0,o,e|ex]
   let(o,e,ex):=z;calc%[%[0,o,e|ex.1]|λa e2=>?_];cases e2;show%[0,o,e|ex.2.1]
  .let(o,_,_,_,e,ex,_):=I.ì p _ hk;calc%[%[0,o,e|ex.1]|λa e2=>?_];cases e2;show%[0,o,e|ex.2.1]
 | _=>show False.í ty
def ai2 (K:W.Ë)(T:ŕ)(r:V->İ V->Hp->VK->Prop)(to:TE):TE:=λC H Q=>to C H λx H1=>tyV K T x H1/\r x [] H1 Q
def YT (K:W.Ë)(T:ŕ)(r:V->İ V->Hp->VK->Prop)(to:TE)(t:TA):TE:=λC H Q=>to C H λx H1=>tyV K T x H1/\t C H1 λxs g=>r x xs g Q
variable {o e:ŋ}{es:İ ŋ}{to:TE}{t:TA}{name:ņ}{apos cpos:Pos}{T id:ŕ}{r:V->İ V->Hp->VK->Prop}
def Ax (F:Ű T)(slot:Slot T name id)(B:typeOf (.Ó id)=pure (.È "method_descriptor"))(hm:xG X id r)(D:QE X o to)(g:ŵ (attributeBase o name X.Ç (Ŏ o X.Ç)=Ŏ o X.Ç) Ŷ)(j:ŵ ((apos.endLine==cpos.line)=Ĵ) Ŷ):QE X (.ĭ (.Ā o name apos) [] [] cpos) (ai2 X.K T r to):=⟨by
 intro ao s C H Q I h;calc wpAny_Call_method0_late g j<|bM (D.Û ao s C H _ I h) λv s1 ⟨x,H1,I1,r1,ty,q1⟩=>?_;let(h1,G):=YS I1 r1 ty;show%[22,T,id,F,slot,B,h1,G|kN rb<|PySem.evalArgs_none<|hm ao s1 C H1 x [] v [] Q I1 r1 .ê q1]⟩
def d7 (N:Ű T)(slot:Slot T name id)(F:typeOf (.Ó id)=pure (.È "method_descriptor"))(hm:xG X id r)(M:QE X o to)(ha:QA X (e::es) t)(j:ŵ (attributeBase o name X.Ç (Ŏ o X.Ç)=Ŏ o X.Ç) Ŷ)(D:ŵ (((backTo cpos<|starEach (e::es) X.Ç).all (λx=>!x.1)&&(backToKw cpos<|keywordEach [] X.Ç).all (λx=>x.1.Ě)
   && ľ ((e::es).n+([]:İ ś).n+(if ([]:İ ś).isEmpty then 0 else 1)<30))=Ĵ) Ŷ) (B:ŵ ((apos.endLine==cpos.line)=Ĵ) Ŷ) (hs:ŵ (Ņ (e::es) X.Ç=(ķ,Ŏ e X.Ç)::Ņ es X.Ç) Ŷ) (g:ŵ ((backTo cpos<|Ņ es X.Ç).ġ (·.1)=ķ) Ŷ):QE X (.ĭ (.Ā o name apos) (e::es) [] cpos) (YT X.K T r to t):=⟨by
 intro ao s C H Q I h;calc wpAny_Call_method_late j D B rb<|bM (M.Û ao s C H _ I h) λv s1 ⟨x,H1,I1,r1,ty,q1⟩=>?_;let(h1,O):=YS I1 r1 ty;calc%[22,T,id,N,slot,F,h1,O|?_];let G:=ha.Û cpos ao s1 C H1 _ I1 q1;rw[hs]at G ⊢;calc kN (by show (ķ||(backTo cpos<|Ņ es X.Ç).ġ (·.1))=ķ;rw[g] <;> rfl)<|rX ?_;show bM G λus s2 ⟨vs,L,I2,J,q2⟩=>hm ao s2 C L x vs v us Q I2 r1 J q2⟩
end
def MtM (X:Cx)(id:ŕ)(r:V->İ V->Hp->VK->Prop):Prop:=∀(ao:AC) (s:Ļ) (I:St) (H:Hp) (x:V) (xs:İ V) (v:ĳ) (us:İ ĳ) (Q:VK),aM X ao I H s->bQ x v->Vals xs us->r x xs H Q->
  ļ (Ľ X.Ï X.w) X.A (call (.Ó id)<|v::us) (EP X ao I Q) X.xe s
def Vals.one:∀{x:V} {us:İ ĳ},Vals [x] us->∃u,us=[u]/\bQ x u:=by
 intro _ _ h;cases h with| cons r t=>cases t;show%[0,_,rb|r]
def Vals.zero:∀{us:İ ĳ},Vals [] us->us=[]:=by intro _ h;cases h;rfl
def Vals.eraseIdx:∀{xs:İ V} {us:İ ĳ} (i:ı),Vals xs us->Vals (xs.eraseIdx i) (us.eraseIdx i):=by
 intro _ _ i h
 induction h generalizing i with
 | nil=>show .ê
 | cons q t ih=>
  cases i with| zero=>show t| succ i=>show .Þ q<|ih i
def Vals.rep (h:Vals xs us):∀k:ı,Vals (List.Ñ k xs).Ê (List.Ñ k us).Ê:=by
 intro k
 induction k with| zero=>show .ê| succ k ih=>rw[kK,kK,fo,fo];show Vals.append h ih
theorem foldl_rep (its:İ ĳ):∀(k:ı) (g:İ ĳ),
  List.foldl (λx1 j=>x1++j) g.R (List.Ñ k its.R)=(g++(List.Ñ k its).Ê).R
 | 0,g=>by simp
 | k+1,g=>by
  let e:g.R++its.R=(g++its).R:=zr;let e2:(g++its)++(List.Ñ k its).Ê=g++(List.Ñ (k+1) its).Ê:=by rw[kK,fo,b7]
  rw[<-e2,<-foldl_rep its k (g++its),<-e,kK,s_]
section
variable {X:Cx}{ao:AC}{T:St}{H:Hp}{s:Ļ}{l:Ķ}{xs ys:İ V}
def aM.Wu {its its':İ ĳ}(I:aM X ao T H s)(B:H l=į (.É xs))(e:s.C.Á l=į {cls:=.È "list",data:=.ú its.R n})(D:f its.R=its'.R)(hv:Vals ys its')(hz:ys.n<=Ŀ):aM X ao T (upd H l<|.É ys) {s with heap:=s.C.ù l<|Obj.ò f,toks:=t' }:=by let q:=PySem.IsL.ù e f;rw[D]at q;calc I.write (x:=l) (e:=l) (by rw[B];show trivial) (.Â rb) (λF u j g=>(kM s.C (Obj.ò f)<|mI j).X g) %[_|q] ?_;show%[19,hz,its',_,hv|q]
def aM.abA (I:aM X ao T H s)(hv:Vals ys its)(hz:ys.n<=Ŀ):aM X ao T (upd H s.d<|.É ys) {s with heap:=s.C.Í {cls:=.È "list",data:=.ú its.R},toks:=t' }:=I.Ĭ (λ_ _ q=>af _ q) (ag _) %[19,hz,its,0,hv|a6 _ rb]
def aM.fresh (I:aM X ao T H s):H s.d=Ĳ:=I.ì.ß (ag _)
def aM.Ay (I:aM X ao T H s)(g:H l=į (.É xs)):xs.n<=Ŀ/\∃(its:İ ĳ) (n:Nat),Vals xs its/\xs.n=its.n/\s.C.Á l=į {cls:=.È "list",data:=.ú its.R n}:=by let(z,its,n,r,e):=I.ì l _ g;show%[17,z,its,n,r,r.n|e]
def Oo (h:n<=Ŀ):Builtin.List.listTooLong n=ķ:=by unfold Builtin.List.listTooLong;show ai zo
end
section
variable {X:Cx}
def ad9:V->İ V->Hp->VK->Prop:=λx vs H Q=>∃l xs y,x=.v l/\vs=[y]/\H l=į (.É xs)/\xs.n<Ŀ/\Q .ă (upd H l<|.É<|xs++[y])
def k_:MtM X "list.append" ad9:=by intro ao s C H x vs v us Q I B D h;let(l,xs,y,rfl,rfl,g,hz,q):=h;cases B;let(u,rfl,j):=D.one;let(z,its,n,r,G,e):=I.Ay g;calc call_meets F.slot_list_append %[0,_,e|rb] F.entry_list_append (F.args_list_append_2 _ _) (PySem.list_append l its.R n u (by rw[bS];simp_all)) %[e|?_];calc%[1,.ă,_,I.Wu (its':=its++[u]) g e zr (r.append<|.Þ j .ê) ?_,rb|q];rw[ax,List.length_singleton];show hz
def Df:V->İ V->Hp->VK->Prop:=λx vs H Q=>∃l b xs g,x=.v l/\vs=[.v b]/\H l=į (.É xs)/\H b=į (.É g)/\xs.n+g.n<=Ŀ/\Q .ă (upd H l<|.É<|xs++g)
def q_:MtM X "list.extend" Df:=by
 intro ao s C H x vs v us Q I L O h;let(l,b,xs,Z,rfl,rfl,j,N,hz,q):=h;cases L;let(u,rfl,J):=O.one;cases J;let(z,its,n,r,Y,e):=I.Ay j;let(z2,g,D,B,G,e2):=I.Ay N;let hsz:its.R.E+g.R.E<=Ŀ:=by rw[bS,bS];simp_all
 let M:¬(!its.R.isEmpty&&Builtin.List.listTooLong (its.R.E+g.R.E))=Ĵ:=by rw[Oo hsz,oz];show cw
 refine call_meets F.slot_list_extend %[0,_,e|rb] F.entry_list_extend (F.args_list_extend_2 _ _)
  (AutoSeq1.list_extend_list_list_0 l its.R n b g.R D M (by rw[bS];simp_all)<|eJ hsz) %[e,e2|?_]
 calc%[1,.ă,_,I.Wu (its':=its++g) j e zr (r.append B) ?_,rb|q];rw[ax];show hz
def ai3:R2:=λx y H Q=>∃l b xs g,x=.v l/\y=.v b/\H l=į (.É xs)/\H b=į (.É g)/\xs.n+g.n<=Ŀ/\∀p,H p=Ĳ->Q (.v p) (upd H p<|.É<|xs++g)
def YW:gF X (binaryOp .Add) ai3:=by intro ao s C H x y v u Q I G F h;let(l,b,xs,O,rfl,rfl,B,L,hz,q):=h;cases G;cases F;let(z,its,n,r,N,e):=I.Ay B;let(Y,g,M,j,D,e2):=I.Ay L;calc PySem.P.add_list e e2 ?_ (by rw[bS,bS];lia);let J:its.R++g.R=(its++g).R:=zr;rw[J];show%[1,.v _,_,I.abA (t':=s.toks) (r.append j) (by rw[ax];lia),rb|q _ I.ß]
def ai4:R2:=λx y H Q=>∃l k xs,x=.v l/\y=.I k/\H l=į (.É xs)/\-(2^63)<=k/\k<2^63/\xs.n*k.Ü<=Ŀ/\
 ∀p,H p=Ĳ->Q (.v p) (upd H p<|.É (List.Ñ k.Ü xs).Ê)
def len_rep {P:Type}(xs:İ P)(k):(List.Ñ k xs).Ê.n=k*xs.n:=by
 induction k with| zero=>simp| succ k ih=>rw[kK,fo,ax,ih,tP,Nat.add_comm]
def aga:gF X (binaryOp .Mult) ai4:=by
 intro ao s C H x y v u Q I M L h;let(l,k,xs,rfl,rfl,J,h1,O,hz,q):=h;cases M;let(t,rfl):=L;let(z,its,n,r,G,e):=I.Ay J;let Y:its.R.E*k.Ü<=Ŀ:=by rw[bS,<-G];show hz
 let j:¬its.R.E*k.Ü > (2^63-1)/8:=by
  have:(Ŀ:ı)<=(2^63-1)/8:=by decide
  lia
 let B:¬(!Builtin.List.listFitsIndex k)=Ĵ:=by rw[fitsIndex_both h1 O];show cw
 let N:¬Builtin.List.listTooLong (its.R.E*k.Ü)=Ĵ:=by rw[Oo Y];show cw
 let g:List.foldl (λx1 D=>x1++D) #[] (List.Ñ (if its.R.isEmpty=Ĵ then 0 else k.Ü) its.R)=(List.Ñ k.Ü its).Ê.R:=by
  let f0:∀m:ı,List.foldl (λx1 D=>x1++D) #[] (List.Ñ m its.R)=(List.Ñ m its).Ê.R:=λm=>by have:=foldl_rep its m [];rw[List.nil_append]at this;show this
  rw[f0];cases its with| nil=>simp| cons a r'=>rw[Ĺ zr]
 refine wpAny_binaryOp_repeat_ref (T:="list") (U:="int") zt %[0,_,e|rb] (λs'=>typeIs_int s' k t) noFill_list_mul F.fills_int_mul F.slot_int_rmul repeat_list F.slot_int_index.Å
  (call_meets F.slot_int_rmul (typeIs_int s k t) F.entry_int_rmul (F.args_int_rmul_2 _ _) (int___rmul___int_list k t l its.R n)
   %[e,rb,%[0,_,e|rb]|call_meets F.slot_list_mul %[0,_,e|rb] F.entry_list_mul (F.args_list_mul_2 _ _) (AutoListH.list___mul___list_int_3 l its.R n k t B j N) %[e|?_]])
 rw[g];show%[1,.v _,_,I.abA (t':=s.toks) (r.rep k.Ü) (by rw[len_rep,gy];show hz),rb|q _ I.ß]
end
section
variable {I:Type}[ō I]
def dG (kvs:İ (I×V))(k:I):ĵ V:=(kvs.find? λg=>ľ<|g.1=k).Q (·.2)
def putK (kvs:İ (I×V))(k:I)(v:V):İ (I×V):=if (kvs.ġ λg=>ľ<|g.1=k)=true then kvs.Q (λg=>if g.1=k then (g.1,v) else g) else kvs++[(k,v)]
def jd {p:I×V}(e:p.1=k):dG (p::r) k=į p.2:=by simp[dG,mh,e]
def je {p:I×V}(e:¬p.1=k):dG (p::r) k=dG r k:=by simp[dG,mh,e]
theorem qD (k:I):∀kvs:İ (I×V),(kvs.ġ λg=>ľ<|g.1=k)=(dG kvs k).Ě
 | []=>rfl
 | p::r=>by
  rw[pE];by_cases e:p.1=k;.simp only[jd e,aw e,Bool.true_or,Option.isSome_some]
  .rw[je e,ai e,Bool.false_or];show qD k r
theorem Oq (k j:I)(y):∀kvs:İ (I×V),dG (kvs.Q λg=>if g.1=k then (g.1,y) else g) j=(dG kvs j).Q λx=>if j=k then y else x
 | []=>rfl
 | p::r=>by
  let B:=Oq k j y r;rw[bX];by_cases h:p.1=k
  .rw[ĺ h];by_cases e:p.1=j;.rw[jd (p:=(p.1,y)) e,jd e,tj,ĺ (e.Ò.X h)]
   .rw[je (p:=(p.1,y)) e,je e,B]
  .rw[Ĺ h];by_cases e:p.1=j;.rw[jd (p:=p) e,jd e,tj,Ĺ (λz=>h<|e.X z)]
   .rw[je (p:=p) e,je e,B]
theorem KC (k j:I)(y):∀kvs:İ (I×V),dG kvs k=Ĳ->dG (kvs++[(k,y)]) j=if j=k then į y else dG kvs j
 | [],_=>by
  by_cases e:k=j;.rw[ĺ e.Ò];show jd (p:=(k,y)) e
  .rw[Ĺ (λz=>e z.Ò)];show je (p:=(k,y)) e
 | p::r,hn=>by
  rw[List.cons_append];let hk:¬p.1=k:=λz=>by rw[jd z]at hn;cases hn
  rw[je hk]at hn;let g:=KC k j y r hn;by_cases e:p.1=j;.rw[jd e,jd e,Ĺ (λz=>hk<|e.X z)]
  .rw[je e,je e,g]
def Ot (kvs:İ (I×V))(k j:I)(y):dG (putK kvs k y) j=if j=k then į y else dG kvs j:=by
 unfold putK;by_cases a:(kvs.ġ λg=>ľ<|g.1=k)=Ĵ
 .rw[ĺ a,Oq];rw[qD]at a;by_cases e:j=k
  .let(x,hx):=Option.isSome_iff_exists.mp a;rw[ĺ e,e,hx,tj,ĺ rfl]
  .rw[Ĺ e];cases dG kvs j with| none=>rfl| some x=>rw[tj,Ĺ e]
 .rw[Ĺ a];calc KC k j y kvs ?_;rw[qD]at a;cases q:dG kvs k with| none=>rfl| some x=>rw[q]at a;show(a rb).í
def qQ (kvs:İ (I×V))(k:I)(v):(putK kvs k v).n<=kvs.n+1:=by
 unfold putK;split;.rw[aa];lia
 .rw[ax,b8,tm];lia
def abB {kvs:İ (I×V)}{k:I}(v:V)(h:dG kvs k=Ĳ):putK kvs k v=kvs++[(k,v)]:=by unfold putK;rw[qD,h];show Ĺ zt
def lZ.Az (r:lZ o u):o.Ě=u.Ě:=by
 cases o with
 | none=>cases u with| none=>rfl| some _=>show(show False from r).í
 | some _=>cases u with| none=>show(show False from r).í| some _=>rfl
def lZ.getD (r:lZ o u)(rd:bQ d d'):bQ (o.Î d) (u.Î d'):=by
 cases o with
 | none=>cases u with| none=>show rd| some _=>show(show False from r).í
 | some _=>cases u with| none=>show(show False from r).í| some _=>show r
def KV.val (r:KV kvs vs)(k:I):lZ (dG kvs k) (valueAt vs k):=by
 unfold KV at r
 induction r with
 | nil=>show True.intro
 | @cons p q ps qs h t ih=>
  let(h1,j):=h;by_cases e:p.1=k
  .let g:q.1=k:=h1.Ò.X e;let b:valueAt (q::qs) k=į q.2:=by simp[valueAt,mh,g]
   rw[jd e,b];show j
  .let g:¬q.1=k:=λz=>e<|h1.X z
   let b:valueAt (q::qs) k=valueAt qs k:=by simp[valueAt,mh,g]
   rw[je e,b];show ih
def KV.any (r:KV kvs vs)(k:I):(kvs.ġ λg=>ľ<|g.1=k)=vs.ġ λg=>ľ (g.1=k):=by
 unfold KV at r
 induction r with| nil=>rfl| cons h t ih=>rw[pE,pE,ih,h.1]
def KV.repl (r:KV kvs vs)(k:I)(B:bQ y u):KV (kvs.Q λg=>if g.1=k then (g.1,y) else g) (vs.Q λg=>if g.1=k then (g.1,u) else g):=by
 unfold KV at r ⊢
 induction r with
 | nil=>show .ê
 | @cons p q ps qs h t ih=>
  rw[bX,bX];calc .Þ ?_ ih;let(h1,j):=h;by_cases e:p.1=k;.rw[ĺ e,ĺ (h1.Ò.X e)];show%[h1|B]
  .rw[Ĺ e,Ĺ (λz=>e<|h1.X z)];show%[h1|j]
def KV.put (r:KV kvs vs)(k:I)(g:bQ y u):KV (putK kvs k y) (stored vs k u):=by
 unfold putK stored;rw[r.ġ k];by_cases e:(vs.ġ λj=>ľ<|j.1=k)=Ĵ;.rw[ĺ e,ĺ e];show r.repl k g
 .rw[Ĺ e,Ĺ e];show Paired.snoc r %[rb|g]
def KV.keys {kvs:İ (I×V)}{vs:İ (I×ĳ)}(r:KV kvs vs):kvs.Q (·.1)=vs.Q (·.1):=by
 unfold KV at r
 induction r with| nil=>rfl| cons h t ih=>rw[bX,bX,ih,h.1]
def KV.length {kvs:İ (I×V)}{vs:İ (I×ĳ)}(r:KV kvs vs):kvs.n=vs.n:=Paired.n r
end
def Dg (r:bQ (kV k) u):(cZ P w).is k u=Ĵ:=by
 cases k with
 | inl i=>let(t,e):=(show ∃t,u=Value.I i t from r);subst e;show SM P w i t
 | inr x=>let(t,e):=(show ∃t,u=Value.À x t from r);subst e;show jU P w x t
def YX:∀{ks:İ Key} {us:İ ĳ},Vals (ks.Q kV) us->ItemsAre (cZ P w) ks us:=by
 intro ks us r
 induction ks generalizing us with
 | nil=>rw[ml]at r;cases r;show .ê
 | cons k ks ih=>
  rw[bX]at r;cases r with| cons h t=>show .Þ (Dg h)<|ih t
abbrev KT (H:Hp):İ (İ Key×V)->İ (İ Key×Ķ×ĳ)->Prop:=ů λp q=>p.1=q.1/\H q.2.1=į (.Æ<|p.1.Q kV)/\bQ p.2 q.2.2
def KT.val (r:KT H kvs xs)(k:İ Key):lZ (dG kvs k) ((atKey xs k).Q (·.2)):=by
 induction r with
 | nil=>show True.intro
 | @cons p q ps qs h t ih=>
  let(h1,_,j):=h;by_cases e:p.1=k
  .let g:q.1=k:=h1.Ò.X e;let b:atKey (q::qs) k=į q.2:=by simp[atKey,mh,g]
   rw[jd e,b];show j
  .let g:¬q.1=k:=λz=>e<|h1.X z
   let b:atKey (q::qs) k=atKey qs k:=by simp[atKey,mh,g]
   rw[je e,b];show ih
def KT.repl (r:KT H kvs xs)(k:İ Key)(D:bQ y u):KT H (kvs.Q λg=>if g.1=k then (g.1,y) else g) (xs.Q<|putAt k u):=by
 induction r with
 | nil=>show .ê
 | @cons p q ps qs h t ih=>
  rw[bX,bX];calc .Þ ?_ ih;let(h1,j,B):=h;unfold putAt;by_cases e:p.1=k;.rw[ĺ e,ĺ (h1.Ò.X e)];show%[h1,j|D]
  .rw[Ĺ e,Ĺ (λz=>e<|h1.X z)];show%[h1,j|B]
def KT.put (r:KT H kvs xs)(k:İ Key)(B:H b=į (.Æ<|k.Q kV))(g:bQ y u):KT H (putK kvs k y) (storedH xs k b u):=by
 let e:(kvs.ġ λj=>ľ<|j.1=k)=(atKey xs k).Ě:=by rw[qD,(r.val k).Az,Option.isSome_map]
 unfold putK storedH;rw[e];by_cases q:(atKey xs k).Ě=Ĵ;.rw[ĺ q,ĺ q];show r.repl k g
 .rw[Ĺ q,Ĺ q];show Paired.snoc r %[rb,B|g]
def KT.keeps (r:KT H kvs xs)(g:∀b ys,H b=į (.Æ ys)->H' b=į (.Æ ys)):KT H' kvs xs:=Paired.afO r λ_ _ z=>%[z.1,g _ _ z.2.1|z.2.2]
section
variable {P:ń}{w:ŉ}{H:Hp}{h:Ň}{a:Ķ}
def adF (ok:jK P w H h)(e:Rd H a u):dD P w H h a u:=e.ok ok
def yK (ok:jK P w H h)(e:Rd H a (.dK kvs)):kvs.n<=Ŀ/\(a==sysModules)=ķ/\∃vs,KV kvs vs/\h.DictOf (cZ P w) a vs:=show dD P w H h a (.dK kvs) from adF ok e
def Ww (ok:jK P w H h)(e:H a=į (.dK kvs)):kvs.n<=Ŀ/\(a==sysModules)=ķ/\∃vs,KV kvs vs/\h.DictOf (cZ P w) a vs:=yK ok (.Â e)
def A_ {ks:İ Key}(ok:jK P w H h)(e:H a=į (.Æ<|ks.Q kV)):(tupleKind<|cZ P w).is h ks a:=by
 let(_,its,r,o,h1,j,n,g):=(show dD P w H h a (.Æ<|ks.Q kV) from ok a _ e)
 show%[11,o,its.R,n,h1,j,g|by simpa using YX r]
def Dh (ok:jK P w H h)(e:Rd H a (.dT kvs)):kvs.n<=Ŀ/\(a==sysModules)=ķ/\
  ∃xs,KT H kvs xs/\h.DictOfH (tupleKind<|cZ P w) a xs:=by
 let(z,y,xs,r,o,es,ep,h1,D,B,j,g):=(show dD P w H h a (.dT kvs) from adF ok e)
 calc%[20,z,y,xs,r|%[37,o,es,ep,h1,D,B,j,λx hx=>?_|g]];let all:∀{l:İ (İ Key×V)} {m:İ (İ Key×Ķ×ĳ)},KT H l m->∀x∈m,(tupleKind<|cZ P w).is h x.1 x.2.1:=by
  intro l m q
  induction q with
  | nil=>intro x hx;show nomatch hx
  | @cons p q ps qs hq t ih=>
   intro x hx;rcases a_.mp hx with e|hx
   .subst e;show A_ ok (by rw[<-hq.1];show hq.2.1)
   .show ih x hx
 show all r x hx
def ah9 (ok:jK P w H h)(e:H a=į (.dT kvs)):kvs.n<=Ŀ/\(a==sysModules)=ķ/\
  ∃xs,KT H kvs xs/\h.DictOfH (tupleKind<|cZ P w) a xs:=Dh ok (.Â e)
end
def jV (H:Hp)(a:Ķ)(y:V)(r:ĵ V):Prop:=(∃kvs k,Rd H a (.dK kvs)/\y=kV k/\r=dG kvs k)\/∃kvs k b,Rd H a (.dT kvs)/\y=.v b/\H b=į (.Æ<|k.Q kV)/\r=dG kvs k
def uo (H:Hp)(a:Ķ)(y v:V)(H':Hp):Prop:=(∃kvs k,H a=į (.dK kvs)/\y=kV k/\kvs.n<Ŀ/\H'=upd H a (.dK<|putK kvs k v))\/
 ∃kvs k b,H a=į (.dT kvs)/\y=.v b/\H b=į (.Æ<|k.Q kV)/\kvs.n<Ŀ/\H'=upd H a (.dT<|putK kvs k v)
theorem jV.k {kvs:İ (Key×V)}{k:Key}(e:H a=į (.dK kvs)):jV H a (kV k) (dG kvs k):=.Â %[1,kvs,k,.Â e,rb|rb]
def jV.t {k:İ Key}(e:H a=į (.dT kvs))(g:H b=į (.Æ<|k.Q kV)):jV H a (.v b) (dG kvs k):=.Ð %[11,kvs,k,b,.Â e,rb,g|rb]
theorem uo.k {kvs:İ (Key×V)}{k:Key}{v:V}(e:H a=į (.dK kvs))(g:kvs.n<Ŀ):uo H a (kV k) v (upd H a<|.dK<|putK kvs k v):=.Â %[13,kvs,k,e,rb,g|rb]
def uo.t {k:İ Key}(e:H a=į (.dT kvs))(g:H b=į (.Æ<|k.Q kV))(j:kvs.n<Ŀ):uo H a (.v b) v (upd H a<|.dT<|putK kvs k v):=.Ð %[10,kvs,k,b,e,rb,g,j|rb]
section
variable {X:Cx}{ao:AC}{T:St}{H:Hp}{s:Ļ}{a:Ķ}{y v:V}{u r:ĳ}{o:ĵ V}{A:ň}{E:AB}
variable {kvs:İ (Key×V)}
def aM.big (I:aM X ao T H s):sysModules<s.d:=by let h:mainGlobals<s.d:=(I.mod.glob.Ğ I.bk).lt;show ja zt h
def YZ (N:A.ã+1<cLine)(I:aM X ao T H s)(g:jV H a y (į v))(L:bQ y u)(h:∀B s',aM X ao T H s'->bQ v B->Q B s'):ļ (Ľ X.Ï X.w) A (getItem (.v a) u) Q E s:=by
 rcases g with⟨kvs,k,e,D,l⟩|⟨kvs,k,b,e,D,M,l⟩
 .subst D;let(z,hd,vs,j,J):=yK I.ì e;let(B,hw,F):=lZ.some_of (v:=v) (o:=valueAt vs k) (by rw[l];show j.val k);show wpAny_getItem_of (Dg L) J.mapOf hw<|h B _ (I.tok _) F
 .subst D;cases(show u=Value.v b from L);let(z,hd,xs,j,J):=Dh I.ì e;let(B,hw,F):=lZ.some_of (v:=v) (o:=(atKey xs k).Q (·.2)) (by rw[l];show j.val k);let(p,hp,G):=gN.mp hw;calc wpAny_getItem_heap (tupleKind_room_in1 N) (A_ I.ì M) J hp ?_;rw[G];show h B _ (I.tok _) F
def ai5 (J:A.ã+1<cLine)(I:aM X ao T H s)(g:jV H a y o)(F:bQ y u)(h:∀s',aM X ao T H s'->Q (.ĉ o.Ě) s'):ļ (Ľ X.Ï X.w) A (compareOp .In u<|.v a) Q E s:=by
 rcases g with⟨kvs,k,e,B,l⟩|⟨kvs,k,b,e,B,G,l⟩
 .subst B;let(z,hd,vs,j,D):=yK I.ì e;calc wpAny_in_of (Dg F) hd D.mapOf ?_;rw[<-(j.val k).Az,<-l];show h _<|I.tok _
 .subst B;cases(show u=Value.v b from F);let(z,hd,xs,j,D):=Dh I.ì e;calc wpAny_in_heap (tupleKind_room_in1 J) (A_ I.ì G) hd D ?_;let q:=(j.val k).Az;rw[Option.isSome_map]at q;rw[<-q,<-l];show h _<|I.tok _
def Ut (I:aM X ao T H s)(j:Yo (H a))(hs:Heap.Ĉ a s.C h')(B:∃q,h'.Á a=į q)(g:dD X.Ï X.w (upd H a ob) h' a ob):aM X ao T (upd H a ob) {s with heap:=h',toks:=t' }:=I.write (x:=a) (e:=a) j (.Â rb) (λb q D z=>(hs.2 b D).X z) B g
def agb {h':Ň}{kvs:İ (Key×V)}(z:kvs.n<=Ŀ)(hd:(a==sysModules)=ķ)(g:KV kvs vs)(j:h'.DictOf (cZ P w) a vs):dD P w H' h' a (.dK kvs):=%[20,z,hd,vs,g|j]
def Y4 (hu:A.ã+1<cLine)(I:aM X ao T H s)(g:uo H a y v H')(N:bQ y u)(O:bQ v r)(h:∀s',aM X ao T H' s'->Q () s'):ļ (Ľ X.Ï X.w) A (setItem (.v a) u r) Q E s:=by
 rcases g with⟨kvs,k,e,F,l,J⟩|⟨kvs,k,b,e,F,M,l,J⟩
 .subst F J;let(z,hd,vs,j,L):=Ww I.ì e;let hz:vs.n<=Ŀ:=by rw[<-j.length];show z
  let G:(putK kvs k v).n<=Ŀ:=by have:=qQ kvs k v;lia
  calc wpAny_setItem_pairs (hsz:=hz) (Dg N) L λh' B hs=>h _ ?_;let Z:∃q,h'.Á a=į q:=let %[q,_,_,D|_]:=B;%[q|D]
  show Ut I (by rw[e];show True.intro) hs Z<|agb G hd (j.put k O) B
 .subst F J;cases(show u=Value.v b from N);let(z,hd,xs,j,L):=ah9 I.ì e;let hz:xs.n<=Ŀ:=by rw[<-Paired.n j];show z
  let G:(putK kvs k v).n<=Ŀ:=by have:=qQ kvs k v;lia
  calc wpAny_setItem_heap (hsz:=hz) (tupleKind_room_in1 hu) (A_ I.ì M) L λh' B hs=>h _ ?_;let(q,es,ep,D,h2,h3,h4,_,h5):=B;calc Ut I (by rw[e];show True.intro) hs %[q|D] %[20,G,hd,_,(j.put k M O).Ğ λc ys Y=>?_|%[10,q,es,ep,D,h2,h3,h4|h5]];rw[aU (ah0 Y e λz=>nomatch z)];show Y
def ah_ (I:aM X ao T H s)(e:Rd H a (.dK kvs))(h:∀t s',aM X ao T H s'->Q (.I kvs.n t) s'):ļ (Ľ X.Ï X.w) A (call (.Ó "len") [.v a]) Q E s:=by let(z,hd,vs,g,j):=yK I.ì e;calc call_len_dict hd j (by rw[<-g.length];rw[sizeLine_eq]at z;lia) ?_;rw[<-g.length];show h _ _<|I.tok _
end
def abC (i:ŋ):Prop:=∀j g,subscripted i ķ j g=operate [j,g] (getItem j g)
def ad_ {T id:ŕ}(J:typeLookup (.È T) "__getitem__"=pure (į<|.Ó id))(hs:abC slice)(h:wpAny (model prog w) A (eval value env) (λo F=>ļ (Ľ prog w) A (Ŏ slice env) (λi j=>j.ċ o T/\ļ (Ľ prog w) A (getItem o i) Q E j) E F) E s):ļ (Ľ prog w) A (Ŏ (.ė value slice pos) env) Q E s:=by
 calc ŧ<|fq h (λo F L=>fq L (λi j B=>?_) λ_ _ x=>x) λ_ _ x=>x;let(G,B):=B;unfold subscriptTail;calc ab ?_;rw[getitemInPython_of_ne G.not_modules];calc ab<|p_ G J ?_;let g:ļ (Ľ prog w) A (subscripted slice ķ o i) (λr D=>ļ (Ľ prog w) A (letTemporaryGo value o r >>= λ_=>pure r) Q E D) E j:=by rw[hs o i];show wpAny_operating<|fq B (λr D M=>ab<|wpAny_letTemporaryGo<|ah M) λ_ _ x=>x
 first| show ah<|ab g| show ab<|ah<|ab g| show ab g
def SN {X:Cx}{ao:AC}{T:St}{H:Hp}{s:Ļ}{a:Ķ}{y:V}{o:ĵ V}(I:aM X ao T H s)(g:jV H a y o):s.ċ (.v a) "dict":=by
 rcases g with⟨kvs,k,e,_,_⟩|⟨kvs,k,b,e,_,_,_⟩
 .let(_,_,vs,_,j):=yK I.ì e;show j.typeIs
 .let(_,_,xs,_,j):=Dh I.ì e;show j.typeIs
def adG (td ty:TE):TE:=λI H Q=>td I H λx H1=>ty I H1 λy g=>∃a v,x=.v a/\jV g a y (į v)/\Q v g
def ai6 (ty td:TE):TE:=λI H Q=>ty I H λy H1=>td I H1 λx g=>∃a o,x=.v a/\jV g a y o/\Q (.bl o.Ě) g
def aia (td ty tv:TE):TS:=λD I H=>tv I H λv H1=>td I H1 λx B=>ty I B λy j=>∃a g,x=.v a/\uo j a y v g/\D.nx I g
section
variable {X:Cx}{o i value:ŋ}{pos pos':Pos}{td ty tv:TE}
def aea (M:X.A.ã+1<cLine)(F:PE X o td)(hi:PE X i ty)(hs:abC i):PE X (.ė o i pos) (adG td ty):=by intro ao s T H Q I h;calc ad_ PySem.F.slot_dict_getitem.Å hs<|bM (F ao s T H _ I h) λu s1 j=>?_;let(x,H1,I1,J,q1):=j;calc bM (hi ao s1 T H1 _ I1 q1) λO s2 j=>?_;let(y,B,I2,D,a,v,ex,g,q2):=j;subst ex;obtain rfl:u=Value.v a:=J;show%[SN I2 g|YZ M I2 g D λN Y L G=>%[1,v,B,L,G|q2]]
def agc (L:X.A.ã+1<cLine)(hi:QE X i ty)(D:QE X o td):QC X .In i o (ai6 ty td):=⟨by
 intro ao s T H Q I h;calc bM (hi.Û ao s T H _ I h) λM s1 ⟨y,H1,I1,B,q1⟩=>bM (D.Û ao s1 T H1 _ I1 q1) λu s2 ⟨x,j,I2,G,a,F,ex,g,q2⟩=>?_;subst ex;obtain rfl:u=Value.v a:=G;show ai5 L I2 g B λN J=>%[1,.bl F.Ě,j,J,rb|q2]⟩
def Di (N:X.A.ã+1<cLine)(G:QE X o td)(hi:QE X i ty)(hv:QE X value tv)(hs:swapsWith value (į<|.ė o i pos') pos.line X.Ç=pure ķ):QS X (.Assign [.ė o i pos'] value pos) (aia td ty tv):=⟨by
 intro ao s T H D I h;calc wpAny_Assign_Subscript (bM (hv.Û ao s T H _ I h) λr s1 ⟨v,H1,I1,M,q1⟩=>bM (G.Û ao s1 T H1 _ I1 q1) λu s2 ⟨x,j,I2,J,q2⟩=>bM (hi.Û ao s2 T j _ I2 q2) λZ s3 ⟨y,Y,L,B,a,O,ex,g,q3⟩=>?_) hs;subst ex;obtain rfl:u=Value.v a:=J;show Y4 N L g B M λs4 F=>%[4,T,O,F|q3]⟩
end
def abD (h:Ň)(g:sysModules<h.Y.E):dD P w H (h.Í {cls:=.È "dict",data:=.dict #[]}) h.Y.E (.dK []):=%[20,ci _,beq_eq_false_iff_ne.á<|mI<|bb g,[],.ê|Heap.DictOf.new h]
def abE (h:Ň)(g:sysModules<h.Y.E):dD P w H (h.Í {cls:=.È "dict",data:=.dict #[]}) h.Y.E (.dT []):=%[20,ci _,beq_eq_false_iff_ne.á<|mI<|bb g,[],.ê|%[10,_,#[],0,a6 _ rb,%[rb,rb|rb],rb,rb|oB]]
def agd:TE:=λ_ H Q=>∀p,H p=Ĳ->Q (.v p) (upd H p<|.dK [])
def Y5:TE:=λ_ H Q=>∀p,H p=Ĳ->Q (.v p) (upd H p<|.dT [])
section
variable {X:Cx}{pos:Pos}
def EY  : QE X (.Dict [] [] pos) agd:=⟨λao s T H Q I h=>wpAny_Dict_empty %[1,.v s.d,_,I.Ĭ (a:=s.heap.objs.size) (o:=.dK []) (t':=s.toks) (λ_ _ q=>af _ q) (ag _)<|abD s.C I.big,rb|h _<|I.ì.ß<|ag _]⟩
def abF:PE X (.Dict [] [] pos) Y5:=λao s T H Q I h=>wpAny_Dict_empty %[1,.v s.d,_,I.Ĭ (a:=s.heap.objs.size) (o:=.dT []) (t':=s.toks) (λ_ _ q=>af _ q) (ag _)<|abE s.C I.big,rb|h _<|I.ì.ß<|ag _]
end
structure M2 (X:Cx)(o:ŋ)(m:ņ)(apos:Pos)(e f:ŋ)(cpos:Pos):Prop where
 base:attributeBase o m X.Ç (Ŏ o X.Ç)=Ŏ o X.Ç
 few:((backTo cpos<|starEach [e,f] X.Ç).all (λx=>!x.1)&&(backToKw cpos<|keywordEach [] X.Ç).all (λx=>x.1.Ě)
  && ľ (([e,f]:İ ŋ).n+([]:İ ś).n+(if ([]:İ ś).isEmpty then 0 else 1)<30))=Ĵ
 line:(apos.endLine==cpos.line)=Ĵ
 trees:backTo cpos (Ņ [e,f] X.Ç)=[(ķ,Ŏ e X.Ç),(ķ,Ŏ f X.Ç)]
def IsD (H:Hp)(a:Ķ):Prop:=(∃kvs,Rd H a (.dK kvs))\/∃kvs,Rd H a (.dT kvs)
def agf {X:Cx}{ao:AC}{T:St}{H:Hp}{s:Ļ}{a:Ķ}(I:aM X ao T H s)(d:IsD H a):s.ċ (.v a) "dict"/\(∀b,Value.v a=.v b->∃ob,s.C.Á b=į ob/\ob.dict=Ĳ)/\(a==sysModules)=ķ:=by
 rcases d with⟨kvs,e⟩|⟨kvs,e⟩
 .let(_,hd,vs,_,g):=yK I.ì e;calc%[g.typeIs,λb q=>?_|hd];cases q;let(ob,_,_,h1,j,_):=g;show%[0,ob,h1|j.2.1]
 .let(_,hd,xs,_,g):=Dh I.ì e;calc%[g.typeIs,λb q=>?_|hd];cases q;let(ob,_,_,h1,j,_):=g;show%[0,ob,h1|j.2.1]
section
variable {X:Cx}{ao:AC}{T:St}{H:Hp}{s:Ļ}{a:Ķ}{y d:V}{u r:ĳ}{o:ĵ V}{A:ň}{E:AB}
def agg (L:A.ã+1<cLine)(I:aM X ao T H s)(g:jV H a y o)(F:bQ y u)(rd:bQ d r)(h:∀G s',aM X ao T H s'->bQ (o.Î d) G->Q G s'):ļ (Ľ X.Ï X.w) A (call (.Ó "dict.get") [.v a,u,r]) Q E s:=by
 rcases g with⟨kvs,k,e,D,l⟩|⟨kvs,k,b,e,D,J,l⟩
 .subst D;let(z,hd,vs,j,B):=yK I.ì e;calc call_meetsIn n9 B.typeIs vz (uB _ _ _) (meets_dict_get_default (cZ X.Ï X.w) a (Dg F) hd r) %[0,_,B.mapOf|h _ _ (I.tok _) ?_];rw[l];show(j.val k).Î rd
 .subst D;cases(show u=Value.v b from F);let(z,hd,xs,j,B):=Dh I.ì e;calc call_meetsIn n9 B.typeIs vz (uB _ _ _) (meetsH_dict_get_default (tupleKind<|cZ X.Ï X.w) a b hd r) %[17,tupleKind_room_in1 L,k,xs,A_ I.ì J,B|h _ _ (I.tok _) ?_];rw[l];show(j.val k).Î rd
end
def Y6 (td ty tx:TE):TE:=λI H Q=>td I H λx H1=>∃a,x=.v a/\IsD H1 a/\ty I H1 λy j=>tx I j λz g=>∃o,jV g a y o/\Q (o.Î z) g
section
variable {X:Cx}{o e f:ŋ}{apos cpos:Pos}{td ty tx:TE}
def abG (hu:X.A.ã+1<cLine)(L:PE X o td)(j:PE X e ty)(Y:PE X f tx)(m:M2 X o "get" apos e f cpos):PE X (.ĭ (.Ā o "get" apos) [e,f] [] cpos) (Y6 td ty tx):=by
 intro ao s T H Q I h;calc wpAny_Call_method m.ð m.few m.line PySem.F.plainAttrs_dict n9 PySem.F.type_dict_get<|bM (L ao s T H _ I h) λu s1 ⟨x,H1,I1,N,a,ex,d,q1⟩=>?_;subst ex;obtain rfl:u=Value.v a:=N;let(Z,J,_):=agf I1 d;calc%[Z,J|?_];rw[m.trees];refine kN rb<|rX<|f_<|bM (j ao s1 T H1 _ I1 q1) λiv s2 ⟨y,D,I2,F,q2⟩=>f_<|bM (Y ao s2 T D _ I2 q2) λfv s3 ⟨z,B,O,rz,ov,g,q3⟩=>ox ?_
 show agg hu O g F rz λw' s4 G M=>%[1,_,B,G,M|q3]
end
end L2
namespace Att
open PySem PySem.W PySem.Calls PyProof.Rows
def Gp:∀(ns:İ ĸ) (vs:İ ĳ),WellAll P h vs (ns.Q WData.I)->Ř vs ns:=by
 intro ns
 induction ns with
 | nil=>intro vs w;rw[ml]at w;cases w;show .ê
 | cons n ns ih=>
  intro vs w;rw[bX]at w;cases w with| cons a b=>cases a;show .Þ _ _<|ih _ b
def Y7 {l:OpenLaw}(hn:l.most=į n)(g:l.row.toRowW.claim.pre args=Ĵ)(F:WellAll P h vals args):∃a vs ns,vals=[Value.v a]/\args=[WData.ğ (ns.Q WData.I)]/\h.Á a=į {cls:=.È "list",data:=.ú vs.R}/\Ř vs ns/\ns.n<=n:=by
 let D:WShape.hasAll [] args [.ğ .I]=Ĵ:=(pre_splitW g).1;let G:l.pre.holds [] {args:=args}=Ĵ:=(pre_splitW g).2;let(d,r,rfl,h1,M):=hasAllW_cons D;obtain rfl:=hasAllW_nil M;let(xs,rfl,J):=hasW_list h1;let(ns,rfl):=items_int J;let Y:ns.n<=n:=by
  unfold OpenLaw.pre at G;let B:(WTm.not<|.lt (.lit<|.I (n:ĸ))<|.đ<|.arg 0).holds [] {args:=[.ğ (ns.Q .I)]}=Ĵ:=by let B:=(holds_andW G).1;rw[hn]at B;show B
  let j:=condW_of B<|w_not<|w_lt w_lit<|w_len_list<|w_arg rb;rw[aa]at j;calc Nat.le_of_not_lt λq=>?_;let L:(n:ĸ)<((ns.n:ı):ĸ):=i8 dC q
  first| (rw[aw L]at j;show Ł j zt)| (simp at j;lia)
 cases F with
 | cons w1 w2=>
  cases w2;cases w1 with| list ho hall=>show%[10,_,_,ns,rb,rb,ho,Gp ns _ hall|Y]
def Y8 (l:OpenLaw)(args:İ WData):l.row.toRowW.claim.post args (.ĉ Ĵ) args=Ĵ:=postW_of (r:=l.row.toRowW) (X:=(Ĵ==Ĵ))
  (show WShape.has [] (.ĉ Ĵ) .ĉ=Ĵ by first|rfl|decide|simp[WShape.has,WShape.arms,WShape.armsAll])
  (show (WTm.eq .res<|.lit<|.ĉ Ĵ).value [] {args:=args,res:=į<|.ĉ Ĵ,after:=args}=į (.ĉ<|Ĵ==Ĵ) from w_eq_bool (w_res rb) w_lit) rfl
def SQ {l:OpenLaw}{d:DefRec}(hn:l.most=į n)(M:d.è.defaults=[])(call:∀(w:ŉ) (s₀ g:Ļ) (mg mb:ņ->ĵ ĳ) (F:Ķ) (o:Obj) (pm J doc:ĳ) (a:Ķ) (vs:İ ĳ) (ns:İ ĸ),
   Ground q loose [] XP w s₀ mg mb g.C->YP w g.C->
   g.C.Á F=į o->o.Ď=.func (docDef d.name d.è d.body d.č pm J doc)->g.C.CodeRec J d.name->mg d.name=į (.v F)->
   g.C.Á a=į {cls:=.È "list",data:=.ú vs.R}->Ř vs ns->ns.n<=n->g.gens=#[]->
   codeAny (Ľ l.Ï w) callerA (.call (.v F) %[[.v a]|[]]) (λr s'=>r=.ok (.ret<|.ĉ Ĵ)/\OldK g.C s'.C/\s'.os=g.os/\Ś s'.gens) g) :
  WalkO q loose XP YP l.row.toRowW d [] (λf vs=>PySem.call f vs):=by
 intro w s₀ g mg mb G Y F o pm J doc dV kV ho hd N Z L hg args vals as D hlay hrd O hlo;obtain rfl:dV=.Ø:=Dflts.Ø Z M;obtain rfl:kV=.Ø:=Dflts.noKw Z;let(a,vs,ns,rfl,rfl,B,j,bY):=Y7 hn D O;calc enter_call<|iN (call w s₀ g mg mb F o pm J doc a vs ns G Y ho (fd_plain hd) N L B j bY hg) λr s' hq=>?_;let(rfl,h2,h3,h4):=hq;show%[.Â %[10,.ĉ Ĵ,.ĉ Ĵ,[],rb,λ_=>rfl,.ĉ Ĵ,Y8 l _|λ_=>%[List.Ä.ê|λ_ hm=>(nomatch hm)]],h2,h3|h4]
end Att
namespace L2
open PySem PySem.Spec PyProof.Rows
def Y9:∀{vs:İ ĳ} {ns:İ ĸ},Ř vs ns->Vals (ns.Q V.I) vs:=by
 intro _ _ h
 induction h with| nil=>show .ê| cons n t h ih=>show .Þ %[t|rb] ih
abbrev KOf {K:W.Ë}{h:Ň}(_:K.In h):W.Ë:=K
def inClass (s:Ŋ)(j:ı):Ŋ:=match s with| .ClassDef _ _ _ body _ _ _ _ _ _ _=>body.Î j (.Pass %[(0),(0),(0)|0])| _=>.Pass %[(0),(0),(0)|0]
def dY (s:Ŋ):Ŝ:=match s with| .FunctionDef _ a _ _ _ _ _ _ _ _=>a| _=>{posonlyargs:=[],args:=[],vararg:=Ĳ,kwonlyargs:=[],kw_defaults:=[],kwarg:=Ĳ,defaults:=[]}
def cR (s:Ŋ):İ Ŋ:=match s with| .FunctionDef _ _ b _ _ _ _ _ _ _=>b| _=>[]
def aH (s:Ŋ):Œ:=match s with| .FunctionDef _ _ _ _ _ _ sc _ _ _=>sc| _=>{kind:=.function,names:=[],isGenerator:=ķ,isCoroutine:=ķ}
abbrev fP:Ec:=λ_ _ _ _ _ _=>ŗ
abbrev E0:XK:=λ_ _ _=>ŗ
def jo:Passes fP X E0:=λ_ _ _ _ _ _ _ h=>h.í
structure iH (K:W.Ë)(x qual:ņ)(st:Ŋ)(f:Ķ)(fd:Ŕ):Prop where
 ex:∃(oc:Value) (od:ĵ Ķ) (kV doc pm:Value) (an:ĵ Ķ) (bF ct:Value) (osl:ŀ (ĵ ĳ)),
  fd=W.fnOf x qual (dY st) (cR st) (aH st) .Ø kV doc pm an bF ct/\K.Å f=į %[oc,od,.func fd|osl]/\W.ĩ K bF qual=Ĵ
 kp:W.Ċ K (.v f)=Ĵ
section
variable {P:ń}{w:ŉ}{K:W.Ë}{mg:ņ->ĵ ĳ}{base:Ň}
def iH.ok {x qual:ņ}{st:Ŋ}{N ps:İ ņ}{k:ı}{sp:Sp}(F:iH K x qual st f fd)(S:aW N ps (aH st))(len:∀vs H Q E,sp vs H Q E->vs.n=ps.n)(g:∀(bF:ĳ) (A:ň) (outer:İ Env) (s:Ļ) (H:Hp) (vs:İ V) (Q:VK) (E:XK),eG k (A.deeper<|envOfC qual (aH st) s.d f bF)->sp vs H Q E->
   ∃t,Kr (pH fP P w K mg base N qual (aH st) f bF A outer s H E).D_ (cR st) t/\t {nx:=λ_ H'=>Q .ă H',rt:=Q} (start N vs) H):dJ P w K mg base fP (k+1) f fd ps sp:=by
 let(oc,od,kV,doc,pm,an,bF,ct,osl,rfl,D,j):=F.ex;calc adE D j S len λA outer s H vs Q E G B=>?_;let(t,h,q):=g bF A outer s H vs Q E G B;show%[0,t,h.D_|q]
def iH.binds {x qual:ņ}{st:Ŋ}{ps:İ ņ}(F:iH K x qual st f fd)(h:∀(kV doc pm:ĳ) (an:ĵ Ķ) (bF ct:ĳ) (us:İ ĳ),us.n=ps.n->bindArgs (W.fnOf x qual (dY st) (cR st) (aH st) .Ø kV doc pm an bF ct) %[us|[]]=pure (ps.Ĩ us)):cV K fd ps []:=by let(oc,od,kV,doc,pm,an,bF,ct,osl,rfl,j,g):=F.ex;show .all<|h kV doc pm an bF ct
def jl {x qual:ņ}{st:Ŋ}{f:Ķ}{oc:ĳ}{od an:ĵ Ķ}{osl:ŀ (ĵ ĳ)}{kV doc pm bF ct:ĳ}(l:K.Å f=į %[oc,od,.func<|W.fnOf x qual (dY st) (cR st) (aH st) .Ø kV doc pm an bF ct|osl])(c:W.ĩ K bF qual=Ĵ)(k:W.Ċ K (.v f)=Ĵ):iH K x qual st f (W.fnOf x qual (dY st) (cR st) (aH st) .Ø kV doc pm an bF ct):=%[%[6,oc,od|%[21,kV,doc,pm,an,bF,ct,osl,rb,l|c]]|k]
end
def pI (g:eG k A):A.ã+1<cLine:=gd (np (by decide:1<=64) _) g.ã
def aJ (h:n<=1000):n<Ŀ:=gd h zt
section
variable {X:Cx}
def pv (i:ı){x:ņ}{pos:Pos}(N:ŵ (X.N[i]?=į x) Ŷ)(hv:ŵ (Yq X.Ç.č x) ż)(hd:ŵ ((x==("__debug__":ņ))=ķ) ŷ)(g:ŵ ((x==("__classdict__":ņ))=ķ) ŷ):PE X (.ë x pos) (fO i):=Ys N hv hd g
end
def cG {A B:Prop}(h:B):if ķ=Ĵ then A else B:=by rw[Ĺ cw];show h
def cP {A B:Prop}(h:A):if Ĵ=Ĵ then A else B:=by rw[ĺ rfl];show h
def oO {c A B:Prop} [ť c] (h1:c->A)(g:¬c->B):if c then A else B:=by
 by_cases h:c
 .rw[ĺ h];show h1 h
 .rw[Ĺ h];show g h
def Wx {c A B:Prop} [ť c] (g:c)(h:B):if (!ľ c)=Ĵ then A else B:=by rw[aw g];show cG h
def aA (H H':Hp):Prop:=∀b o,H b=į o->H' b=į o
def aA.refl (H):aA H H:=λ_ _ h=>h
def aA.trans (a:aA H H1)(b:aA H1 H2):aA H H2:=λc o h=>b c o (a c o h)
def aA.free (e:aA H H')(h:H' l=Option.Ø):H l=Option.Ø:=by
 cases q:H l with| none=>rfl| some o=>rw[e l o q]at h;cases h
def aA.seq {K:W.Ë}{xs:İ V}(e:aA H H')(h:aZ K H a xs):aZ K H' a xs:=by
 rcases h with(h|⟨o,h⟩)|h;.show .Â<|.Â<|e _ _ h
 .show .Â<|.Ð %[o|e _ _ h]
 .show .Ð h
section
variable {X:Cx}
def Y_:fD X (.Ó "len") (λxs H Q=>∃a kvs,xs=[V.v a]/\H a=į (.dK kvs)/\Q (.I kvs.n) H):=by intro ao s T H xs us Q I r h;let(a,kvs,rfl,ha,q):=h;let(u,rfl,g):=vals1 r;cases g;show ah_ I (.Â ha) λt s' j=>%[1,.I kvs.n,H,j,%[t|rb]|q]
end
section
variable {I:Type}[ō I]
def aeb:∀{l:İ I} {k:I},l.Ö->¬k∈l->(l++[k]).Ö:=by intro l k h hk;show rc.á %[h,zr|λa ha b g e=>hk (by rw[<-al.mp g,<-e];show ha)]
end
def blk (X:Cx)(scope:Œ)(cl:İ (ņ×Ķ))(C:Ķ)(x:ņ)(s₀:Ļ)(H₀:Hp)(fp:İ Ķ):Cx:={X with N:=x::X.N,s₀:=s₀,H₀:=H₀,env:=compEnvC scope cl C X.Ç,outer:=X.ĝ,ex:=fp,fn:=λ_=>ķ,pn:=[],xe:=λ_ _=>ŗ}
structure gM (X:Cx)(scope:Œ)(x:ņ):Prop where
 kind:scope.ý=.function
 Gq:∀y∈scope.Ú,y.2≠.ø
 names:∀y∈scope.Ú,y.2=.û->scope.Ú.Å y.1=į .û
 hx:scope.Ú.Å x=į .û
 free:∀y∈scope.Ú,y.2=.Õ->X.Ç.Į y.1=į .ø\/X.Ç.Į y.1=į .Õ
 out:∀y∈X.N,scope.Ú.Å y≠į .û
 nd:X.N.Ö
def Uu (sc:Œ)(N:İ ņ)(scope:Œ)(x:ņ):ŏ:=scope.ý == .function&&scope.Ú.all (λy=>y.2 != .ø)&&scope.Ú.all (λy=>y.2 != .û||scope.Ú.Å y.1==į .û)&&scope.Ú.Å x==į .û &&
 scope.Ú.all (λy=>y.2 != .Õ||sc.Ú.Å y.1==į .ø||sc.Ú.Å y.1==some .Õ)&&N.all (λy=>scope.Ú.Å y != į .û)
def gM.of {X:Cx}(N:X.N.Ö)(h:Uu X.Ç.č X.N scope x=Ĵ):gM X scope x:=by
 unfold Uu at h;simp only[eD,kR,Bool.or_eq_true,bne_iff_ne,beq_iff_eq,ne_eq]at h;let(((((h1,D),B),F),j),G):=h;calc%[h1,λy g=>D y g,λy g e=>(B y g).resolve_left λz=>z e,F,λy g e=>?_,λy g=>G y g|N];rcases j y g with(z|z)|z;.show Ł e z
 .show .Â z
 .show .Ð z
theorem jW {I:Type}:∀{l:İ (ņ×I)} {x:ņ} {a:I},l.Å x=į a->(x,a)∈l
 | [],_,_,h=>by simp at h
 | (y,b)::r,x,a,h=>by
  rw[kU]at h;split at h
  .rename_i e;let g:x=y:=by simpa using e
   cases h;subst g;show aE
  .show ay _<|jW h
theorem yL {env:Env}:∀(names:İ (ņ×ř)),(∀y∈names,y.2=.Õ->∃c,env.cells.Å y.1=į c)->∀g:İ (ņ×Ķ),(∀n c,g.Å n=į c->env.cells.Å n=į c)->
  ∃cl,(ŭ names g (λ(p:ņ×ř) (J:İ (ņ×Ķ))=>if (p.2==NameKind.Õ)=Ĵ then (do let a <- cellOf env p.1;pure (ForInStep.yield<|(p.1,a)::J)) else (pure (ForInStep.yield J):Sem _)):Sem (İ<|ņ×Ķ))=pure cl/\
   (∀n c,cl.Å n=į c->env.cells.Å n=į c)/\(∀n,(∃c,g.Å n=į c)->∃c,cl.Å n=į c)/\∀n,(n,NameKind.Õ)∈names->∃c,cl.Å n=į c
 | [],_,g,ha=>%[18,g,zr,ha,λ_ h=>h|λ_ h=>by simp at h]
 | (n,k)::r,hf,g,ha=>by
  let M:∀y∈r,y.2=.Õ->∃c,env.cells.Å y.1=į c:=λy Y=>hf y<|ay _ Y;by_cases hk:k=.Õ
  .subst hk;let(c,L):=hf (n,.Õ) aE rfl;let(cl,e,h1,B,F):=yL r M ((n,c)::g) (λj D h=>by
    rw[kU]at h;split at h
    .rename_i q;let O:j=n:=by simpa using q
     cases h;subst O;show L
    .show ha j D h)
   refine%[18,cl,?_,h1,λj h=>B j ?_|λj h=>?_]
   .rw[kF];simp only[beq_self_eq_true,if_true];let e2:cellOf env n=pure c:=by unfold cellOf;rw[L]
    rw[e2];simp only[pure_bind];show e
   .let(D,G):=h;rw[kU];split;.show%[c|rb]
    .show%[D|G]
   .rcases a_.mp h with q|q
    .calc B j %[c|?_];cases q;rw[kU,beq_self_eq_true]
    .show F j q
  .let N:(k==NameKind.Õ)=ķ:=by simpa using hk
   let(cl,e,h1,B,F):=yL r M g ha;refine%[18,cl,?_,h1,B|λj h=>?_]
   .rw[kF];simp only[N,be,if_false,pure_bind];show e
   .rcases a_.mp h with q|q;.cases q;show Ł rb hk
    .show F j q
theorem jw {env:Env}:∀{names:İ (ņ×ř)} {x:ņ} {k:ř},
  (names.Q λ(n,k)=>if (k==NameKind.Õ&&env.č.ý == .function&&env.Į n==į .ø) then (n,NameKind.ø) else (n,k)).Å x=į k->names.Å x=į k\/(k=.ø/\names.Å x=į .Õ)
 | [],_,_,h=>by simp at h
 | (n,j)::r,x,k,h=>by
  let B:=@jw env r x k;let h':List.Å x ((if (j==NameKind.Õ&&env.č.ý == .function&&env.Į n==į .ø)=Ĵ then (n,NameKind.ø) else (n,j))::_)=į k:=h;by_cases g:(j==NameKind.Õ&&env.č.ý == .function&&env.Į n==į .ø)=Ĵ
  .rw[ĺ g]at h';cases hx:x==n with
   | true=>
    simp only[kU,hx]at h' ⊢;cases h';have:j=.Õ:=by simp at g;show g.1.1
    show .Ð %[rb|by rw[this]]
   | false=>simp only[kU,hx]at h' ⊢;show B h'
  .rw[Ĺ g]at h';cases hx:x==n with| true=>simp only[kU,hx]at h' ⊢;show .Â h'| false=>simp only[kU,hx]at h' ⊢;show B h'
def Wy (I:ı->Ļ->Prop)(turn:∀n s,I n s->ļ (Ľ prog w) A (pyNext it) (λr j=>match r with
   | none=>R (.ok .next) j
   | some v=>ļ (Ľ prog w) A (letOwnedTupleGo target it v) (λ_ s₀=>ļ (Ľ prog w) A (assign target env v) (λ_ B=>
     ļ (Ľ prog w) A (ŭ ifs Ĵ λc r=>if r=Ĵ then do let ok <- isTrue c env (Ŏ c env);pure (ForInStep.yield ok) else pure (ForInStep.yield r)) (λok g=>
      if ok=Ĵ then ļ (Ľ prog w) A (Ŏ elt env) (λx J=>ļ (Ľ prog w) A (call (.Ó "list.append") [acc,x]) (λ_ F=>∃m,m<n/\I m F) (λ_ _=>ŗ) J) (λ_ _=>ŗ) g
      else ∃m,m<n/\I m g) (λ_ _=>ŗ) B) (λ_ _=>ŗ) s₀) (λ_ _=>ŗ) j) (λ_ _=>ŗ) s)
  (n) (h:I n s) :
  codeAny (Ľ prog w) A (.compLoop (.ListComp elt [%[target,iter,ifs|0]] scope pos) 0 it acc env) R s:=by
 calc codeAny_loop rb I (λn s N=>?_) n h;show ļ _ A ((compTurn (.ListComp elt [%[target,iter,ifs|0]] scope pos) 0 it acc env).onRaise λx=>do noteFrame x env;theTreesLotGoes x) _ _ s;calc wpAny_noted ?_;rw[compTurn_list];calc ab<|vS<|ab<|fq (turn n s N) (λr j G=>?_) λ_ _ h'=>h'.í;cases r with
 | none=>show ah G
 | some v=>
  calc ab<|fq G (λ_ s₀ h₀=>?_) λ_ _ h'=>h'.í;calc ab<|fq h₀ (λ_ B L=>ab<|fq L (λok g D=>?_) λ_ _ h'=>h'.í) λ_ _ h'=>h'.í;cases ok with| false=>show ah %[rb|D]| true=>show ab<|ab<|fq D (λx J O=>ab<|fq O (λ_ F M=>ah<|ah %[rb|M]) λ_ _ h'=>h'.í) λ_ _ h'=>h'.í
def PTs (X:Cx)(ifs:İ ŋ)(t:TT):Prop:=∀(ao:AC) (s:Ļ) (I:St) (H:Hp) (Q:ŏ->Hp->Prop),aM X ao I H s->t I H Q->
  ļ (Ľ X.Ï X.w) X.A (ŭ ifs Ĵ λc r=>if r=Ĵ then do let ok <- isTrue c X.Ç (Ŏ c X.Ç);pure (ForInStep.yield ok) else pure (ForInStep.yield r)) (TP X ao I Q) X.xe s
structure Za (X:Cx)(ifs:İ ŋ)(t:TT):Prop where
 out:PTs X ifs t
def gO:TT:=λ_ H Q=>Q Ĵ H
def cM  : Za X [] gO:=⟨λ_ _ _ H _ I h=>wpAny_tests_nil %[0,H,I|h]⟩
def Dj (h:QT X c t):Za X [c] t:=⟨λao s T H Q I q=>wpAny_tests_one<|h.Û ao s T H Q I q⟩
def dR (n i:ı)(P:Prop):Prop:=∃g,g<n-i/\g=n-(i+1)/\i+1<=n/\P
abbrev E_ (n i:ı)(D:Ķ)(ys:İ V)(P:İ V->Hp->Prop)(y:V)(H3:Hp):Prop:=H3 D=į (.É ys)/\ys.n<Ŀ/\dR n i (P (ys++[y])<|upd H3 D<|.É<|ys++[y])
abbrev rK (J:It)(D:Ķ)(H:Hp)(R:Hp->Prop)(B:V->Hp->VK->(Hp->Prop)->Prop):Prop:=∃W:ı->ı->İ V->Hp->Prop,(∃m,W 0 m [] (upd H D<|.É []))/\
 ∀i m ys H,W i m ys H->(J.stop i H/\R H)\/(J.go i H/\∀x H',J.Gj i H x H'->B x H' (λy H3=>H3 D=į (.É ys)/\ys.n<Ŀ/\∃m',m'<m/\W (i+1) m' (ys++[y]) (upd H3 D<|.É<|ys++[y])) λH2=>∃m',m'<m/\W (i+1) m' ys H2)
def Fb {J:It}{D:Ķ}{H:Hp}{R:Hp->Prop}{B:V->Hp->VK->(Hp->Prop)->Prop}(n:ı)(g:ı->İ V->Hp->Prop)(L:g 0 [] (upd H D<|.É []))(M:∀i ys H,i<n->g i ys H->J.go i H/\∀x H',J.Gj i H x H'->B x H' (E_ n i D ys<|g<|i+1) λG=>dR n i (g (i+1) ys G))(F:∀ys H,g n ys H->J.stop n H/\R H):rK J D H R B:=by
 calc%[0,λi m ys H=>m=n-i/\i<=n/\g i ys H,%[2,n,zr,ci _|L]|?_];intro i m ys H z;let(rfl,hi,p):=z;by_cases j:i<n;.show .Ð<|M i ys H j p
 .let e:i=n:=zo;subst e;show .Â<|F ys H p
def Dk {F:Hp->İ V->Prop}{B:V->Hp->VK->(Hp->Prop)->Prop}{xs:İ V}{D:Ķ}{H:Hp}{R:Hp->Prop}(g:ı->İ V->Hp->Prop)(J:g 0 [] (upd H D<|.É []))(j:∀i ys H,i<=xs.n->g i ys H->F H xs)(hs:∀i x ys H,xs[i]?=į x->g i ys H->B x H (E_ xs.n i D ys<|g<|i+1) λG=>dR xs.n i (g (i+1) ys G))(hd:∀ys H,g xs.n ys H->R H):rK (ItS F) D H R B:=Fb xs.n g J (λi ys H h p=>%[%[4,xs,xs[i],j i ys H (ar h) p|by simp[h]]|λx H' ⟨e,y⟩=>by subst e;show hs i x ys _ (y xs<|j i ys _ (ar h) p) p]) λys H p=>%[%[0,xs,j _ ys H (ag _) p|ag _]|hd ys H p]
abbrev Ou (I:St)(tt:TT)(te:TE)(x:V)(H:Hp)(k:VK)(l:Hp->Prop):Prop:=tt (į x::I) H λb H2=>if b=Ĵ then te (į x::I) H2 k else l H2
def Ny (wi:TI)(tt:TT)(te:TE):TE:=λI H Q=>wi I H λJ H1=>∀D,H1 D=Ĳ->rK J D H1 (Q<|.v D) (Ou I tt te)
def fL (X:Cx)(scope:Œ)(cl:İ (ņ×Ķ))(C:Ķ)(N:İ ņ)(s₀:Ļ)(H₀:Hp)(fp:İ Ķ):Cx:={X with N:=N,s₀:=s₀,H₀:=H₀,env:=compEnvC scope cl C X.Ç,outer:=X.ĝ,ex:=fp,fn:=λ_=>ķ,pn:=[],xe:=λ_ _=>ŗ}
structure fG (X:Cx)(scope:Œ)(ns N2:İ ņ)(f:St->St):Prop where
 kind:scope.ý=.function
 Gq:∀y∈scope.Ú,y.2≠.ø
 names:∀y∈scope.Ú,y.2=.û->scope.Ú.Å y.1=į .û
 free:∀y∈scope.Ú,y.2=.Õ->X.Ç.Į y.1=į .ø\/X.Ç.Į y.1=į .Õ
 ai7:∀σ:St,(f σ).n=σ.n
 ai8:N2.n=X.N.n
 out:∀(σ:St) (i:ı) (y:ņ) (v:V),N2[i]?=į y->(f σ)[i]?=į (į v)->X.N[i]?=į y/\σ[i]?=į (į v)/\scope.Ú.Å y≠į .û
def KD (X:Cx)(tg:ŋ)(k:ı)(TP:V->Hp->(St->Prop)->Prop):Prop:=∀(ao:AC) (s:Ļ) (pre rest:St) (H:Hp) (v:V) (u:ĳ) (Q:St->Prop),pre.n=k->aM X ao (pre++rest) H s->bQ v u->TP v H Q->
  ļ (Ľ X.Ï X.w) X.A (assign tg X.Ç u) (λ_ s'=>∃g,g.n=k/\aM X ao (g++rest) H s'/\Q g) (λ_ _=>ŗ) s
def Ed (TP:V->Hp->(St->Prop)->Prop)(f:St->St)(I:St)(tt:TT)(te:TE)(x:V)(H:Hp)(k:VK)(l:Hp->Prop):Prop:=TP x H λpre=>tt (pre++f I) H λb g=>if b=Ĵ then te (pre++f I) g k else l g
def Ba (f:St->St)(k:ı)(wi:TI)(TP:V->Hp->(St->Prop)->Prop)(tt:TT)(te:TE):TE:=λI H Q=>wi I H λJ H1=>∀D,H1 D=Ĳ->rK J D H1 (Q<|.v D) (Ed TP f I tt te)
def Bb {X:Cx}{N iter tg:ŋ}{ns N2:İ ņ}{f:St->St}{TP:V->Hp->(St->Prop)->Prop}{ifs:İ ŋ}{scope:Œ}{pos:Pos}{wi:TI}{tt:TT}{te:TE}(hc:X.ī=Ĵ)(ok:fG X scope ns N2 f)(hi:PI X tg iter wi)(hg:∀cl C s₀ H₀ fp,KD (fL X scope cl C (ns++N2) s₀ H₀ fp) tg ns.n TP)(ht:∀cl C s₀ H₀ fp,PTs (fL X scope cl C (ns++N2) s₀ H₀ fp) ifs tt)(he:∀cl C s₀ H₀ fp,PE (fL X scope cl C (ns++N2) s₀ H₀ fp) N te)(hs:ŵ (∀x,foldedSetIterable iter X.Ç x=pure x) Ÿ){use:ĵ (ĳ->Sem Ş)}{RR:AB}{p1:Pos}{ao:AC}{s:Ļ}{P:St}{H:Hp}{Q:V->Hp->Prop}(I:aM X ao P H s)(h:Ba f ns.n wi TP tt te P H Q)(fin:∀(D C:Ķ) (Y:Hp) (s5:Ļ) (m:ņ->ĵ ĳ),s5.C.Ns C m->(∀h',Heap.Ĉ C s5.C h'->aM X ao P Y {s5 with heap:=h' })->iB X ao Y C->Q (.v D) Y->compPost (Ľ X.Ï X.w) X.A X.xe use RR (.v D) C (.ok .next) s5):ļ (Ľ X.Ï X.w) X.A (comprehension (.ListComp N [%[tg,iter,ifs|0]] scope pos) scope X.Ç p1 (newList []) ķ (Ŏ iter X.Ç) use) RR X.xe s:=by
 let(cl,hcl,j,_,hall):=yL (env:=X.env) scope.Ú (λy hy e=>I.ok.has y.1<|ok.Õ y hy e) [] (λ_ _ z=>by simp at z);let hclos:closureFor scope X.Ç=pure cl:=by unfold closureFor;simp only[bind_pure];show hcl
 calc wpAny_comprehension_free (use:=use) (E:=X.xe) (cl:=cl) rb hs hclos ok.ý ok.Ú<|bM (hi ao s P H _ I h) λv s1 h1=>bM h1 λitv s2 O=>?_;let(it,fp,tn,J,H2,e,I2,T,st2,f2,R):=O;subst e;let(W,(m0,w0),turn):=R s2.d I2.ß;calc hG<|wpAny_newFunctionEnv ok.Gq (by intro y hy;simp at hy) (λh₁ hns₁ hsb₁=>?_) ok.ý;dsimp only at hns₁ hsb₁ ⊢;let B:aM X ao P (upd H2 s2.d<|.É []) {s2 with heap:=s2.C.Í {cls:=.È "list",data:=.ú ([]:İ ĳ).R} }:=I2.abA (t':=s2.toks) (ys:=[]) (its:=[]) .ê<|ci _;generalize hH3:upd H2 s2.d (HO.É [])=H3 at *
 generalize hs3:s2.C.Í {cls:=.È "list",data:=.ú ([]:İ ĳ).R}=hp3 at *
 generalize hD:s2.heap.objs.size=D at *
 generalize hC:hp3.objs.size=C at *
 let hDC:D<C:=by rw[<-hC,<-hs3,eM,hD];show fm _
 let G:∀b o,hp3.Á b=į o->h₁.Á b=į o:=λb o e=>(hsb₁.2 b (by rw[<-hC];show bb<|a9 e)).X<|af _ e;let fpl:∀b∈fp,b<C:=λb g=>by let(o,e,_):=T.obj _ _ st2 b g;rw[<-hC,<-hs3,eM];show ff<|a9 e
 let f3:∀b∈fp,iB X ao H3 b:=λb g=>by let(o,e,_):=T.obj _ _ st2 b g;calc%[?_|(f2 b g).2];rw[<-hH3,aU (by rw[<-hD];show bb<|a9 e)];show(f2 b g).1
 let agh:∀b∈fp,b∉frs X.ĝ:=λb g z=>by
  let(_,g1,g2,_):=f3 b g;rcases a_.mp (B.N_ b z) with q|q;.show g1 q
  .show g2 q
 let YOk:(fL X scope cl C (ns++N2) {s2 with heap:=hp3} H3 fp).Ok:=by
  calc%[I.ok.mod,?_,I.ok.glob,I.ok.blt,gx hC,?_,?_,?_,I.ok.hd,I.ok.frames,.Â rb,?_,?_,?_,?_,?_,?_|?_];.show ok.ý
  .show λa b c h1 O=>I.ok.inj a b c (j a c h1)<|j b c O
  .intro a ha;calc hall a ?_;rcases ha with z|z
   .rcases jw (env:=X.env) z with q|⟨_,q⟩;.show Ł rb<|ok.Gq _<|jW q
    .show jW q
   .rcases jw (env:=X.env) z with q|⟨q,_⟩;.show jW q
    .cases q
  .intro a c hf;cases hf
  .intro b g;refine%[bb<|fpl b g|λa c h1=>(f3 b g).2.2.2.2.1 a c<|j a c h1]
  .show B.bs
  .show av I.ok.DY B.sz
  .intro b o e g;rcases(f3 b g).2.2.2.1 with z|z;.show I.ok.N8 b o e z
   .show Ł (bq (a9 e)<|av I.ok.DY z)<|kP _
  .show agh
  .show B.ĝ
  .show B.Ug
 let Y0:aM (fL X scope cl C (ns++N2) {s2 with heap:=hp3} H3 fp) [] (List.Ñ ns.n Ĳ++f P) H3 {s2 with heap:=h₁,toks:=s2.Ý+([]:İ (ņ×ĳ)).n}:=by
  refine%[YOk,rb,B.bare,Un.ě G,%[0,_,hns₁|?_],?_,?_,?_,λp hp=>by simp[fL]at hp,B.ì.ě G|?_]
  .intro i y v e1 e2 e3;by_cases dU:i<ns.n
   .rw[eW (by rw[dE];show dU),List.getElem?_replicate,ĺ dU]at e2;simp at e2
   .obtain⟨i,rfl⟩:∃k,i=ns.n+k:=%[i-ns.n|by simp_all]
    let e1a:(ns++N2)[ns.n+i]?=į y:=e1;rw[du zo,iA]at e1a;rw[du (by rw[dE];lia),dE,iA]at e2;let(e1',e2',hout):=ok.Û P i y v e1a e2;let F:(y,NameKind.Õ)∈scope.Ú:=by
     let key:∀k,(relabel scope X.Ç).Ú.Å y=į k->k≠.û->k=.ø\/k=.Õ->(y,NameKind.Õ)∈scope.Ú:=λk q n hk=>by
      rcases jw (env:=X.env) q with z|⟨_,z⟩
      .rcases hk with rfl|rfl;.show Ł rb<|ok.Gq _<|jW z
       .show jW z
      .show jW z
     rcases e3 with z|z|z
     .rcases jw (env:=X.env) z with q|⟨q,_⟩;.show Ł q hout
      .cases q
     .show key _ z zt<|.Â rb
     .show key _ z zt<|.Ð rb
    let hk:=ok.Õ _ F rfl;let(m,hn,hl):=B.loc;let(u,r,q):=hl i y v e1' e2' (by rcases hk with z|z;show .Ð<|.Â z;show .Ð<|.Ð z);refine%[0,u,r|.Ð %[?_|?_]]
    .rcases e3 with z|z|z
     .rcases jw (env:=X.env) z with q|⟨q,_⟩;.show Ł q hout
      .cases q
     .show .Â z
     .show .Ð z
    .rcases q with⟨z,_⟩|⟨_,c,hc',hcell⟩
     .rcases hk with q|q <;> (rw[z]at q;cases q)
     .let(c',hc2):=hall y F;have:c'=c:=by have:=j y c' hc2;rw[hc']at this;show(bg this).Ò
      subst this;let(o,ho,hd):=hcell;show%[57,c',hc2,o,G _ _ ho|hd]
  .intro a c h1;let(v,o,ho,hd):=B.ø a c (j a c h1);show%[4,v,o,G _ _ ho|hd]
  .show H3 C=Ĳ;show B.ì.ß<|gx hC
  .show λa c h1=>B.pB a c<|j a c h1
  .show (List.Ñ ns.n Ĳ++f P).n=(ns++N2).n;rw[ax,ax,dE,ok.ai7,I.len,ok.ai8]
 let back:∀(s':Ļ) (v:St) (H':Hp) (h':Ň),aM (fL X scope cl C (ns++N2) {s2 with heap:=hp3} H3 fp) [] v H' s'->Heap.Ĉ C s'.C h'->(∀b∈fp,H' b=Ĳ)->aM X ao P H' {s' with heap:=h' }:=by
  intro s' v H' h' I' sb fr;let Kq:∀b o,hp3.Á b=į o->b≠C:=λb o e=>by rw[<-hC];show bb<|a9 e
  let U:Un (frs X.ĝ) fp H3 H' hp3 s'.C:=I'.ð;refine B.call' (ch:=fp) (H':=H') (s':={s' with heap:=h' }) I'.os %[λb o e n h1 O=>(sb.2 b<|Kq b o e).X<|U.keep b o e n h1 O,λb o e n h1 O=>?_,U.Õ,λb o e O=>?_,U.tups,U.wD|U.wF] (λb ob e=>?_) I'.bare λb g=>?_
  .let(sl,q):=U.slot b o e n h1 O;show%[sl|(sb.2 b<|Kq b o e).X q]
  .let(o',q):=U.there b o e O;show%[o'|(sb.2 b<|Kq b o e).X q]
  .let fC:H' C=Ĳ:=I'.Õ;calc(I'.ì b ob e).stay (λc w' hc q=>(sb.2 c ?_).X q) (λ_ q=>q) λ_ _ q=>q;rintro rfl;rcases hc with rfl|hc
   .rw[fC]at e;cases e
   .rw[fC]at hc;cases hc
  .let(_,g1,_,g3,g4,g5):=f3 b g;show%[g3,g1,g4|g5]
 let M:∀{H':Hp},(∀b∈fp,H' b=Ĳ)->∀b∈fp,iB (fL X scope cl C (ns++N2) {s2 with heap:=hp3} H3 fp) [] H' b:=λhn b g=>%[hn b g,bb<|fpl b g,agh b g,.Â g,λa c h1=>(f3 b g).2.2.2.2.1 a c<|j a c h1|λp hp=>by simp[fL]at hp]
 let st₁:tn 0 h₁:=T.keep _ _ _ st2 λb _ o e=>G b o (by rw[<-hs3];show af _ e);let loop:codeAny (Ľ X.Ï X.w) X.A (.compLoop (.ListComp N [%[tg,iter,ifs|0]] scope pos) 0 (.v it) (.v D)<|compEnvC scope cl C X.Ç) (compPost (Ľ X.Ï X.w) X.A X.xe use RR (.v D) C)
   {s2 with heap:=h₁,toks:=s2.Ý+([]:İ (ņ×ĳ)).n}:=by
  calc Wy (λn s'=>∃i v ys H',v.n=ns.n/\aM (fL X scope cl C (ns++N2) {s2 with heap:=hp3} H3 fp) [] (v++f P) H' s'/\tn i s'.C/\(∀b∈fp,H' b=Ĳ)/\W i n ys H') ?_ m0 %[3,0,List.Ñ ns.n Ĳ,[],H3,dE,Y0,st₁,λb g=>(f3 b g).1|w0];intro n s4 z;let(i,v,ys,Y,hv4,I4,eV,Uv,w4):=z;rcases turn i n ys Y w4 with⟨stop,qn⟩|⟨go,step⟩
  .refine bM (T.done (fL X scope cl C (ns++N2) {s2 with heap:=hp3} H3 fp) rb rb rb hc i [] s4 (v++f P) Y _ I4 (M Uv) eV stop) λr s5 ⟨hr,I5⟩=>?_
   subst hr;let(m,hn,_):=id I5.loc;show fin D C Y s5 m hn (λh' sb=>back s5 (v++f P) Y h' I5 sb Uv) %[I5.Õ|(B.mH (H':=H3) (gx hC)<|B.ì.ß<|gx hC).2] qn
  .calc bM (T.item (fL X scope cl C (ns++N2) {s2 with heap:=hp3} H3 fp) rb rb rb hc i [] s4 (v++f P) Y _ I4 (M Uv) eV go) λr s5 L=>?_;let(u,hr,h5):=L
   subst hr;calc bM h5 λ_ s6 L=>?_;let(y,H6,I6,r6,y6,st6,fr6):=L;let I6':=I6.pinned (M fr6)<|T.obj _ _ st6;calc bM (hg cl C {s2 with heap:=hp3} H3 fp _ s6 v (f P) H6 y u _ hv4 I6' r6<|step y H6 y6) λ_ s7 L=>?_;let(pre,Z,I7',q7):=L;calc bM (ht cl C {s2 with heap:=hp3} H3 fp _ s7 _ H6 _ I7' q7) λb s8 L=>?_;let(H8,I8,q8):=L;let Zb:∀{P':St} {H':Hp} {s':Ļ},aM (fL X scope cl C (ns++N2) {s2 with heap:=hp3} H3 fp) ([]++Aq fp s6.C) P' H' s'->tn (i+1) s'.C/\∀b∈fp,H' b=Ĳ:=λ{P' H' s'} I9=>by calc%[T.keep _ _ _ st6 λb g o e=>(I9.pin (b,o)<|de _<|de _<|lC g e).1|λb g=>?_];let(o,e,d):=T.obj _ _ st6 b g;show(I9.pin (b,o)<|de _<|de _<|lC g e).2.1
   cases b with
   | false=>let(m',hm,w'):=q8;let(k1,k2):=Zb I8;show%[0,m',hm|%[3,i+1,pre,ys,H8,Z,I8.mJ,k1,k2|w']]
   | true=>have q8':te (pre++f P) H8 _:=q8;show ļ _ _ (Ŏ N _) _ _ _;calc bM (he cl C {s2 with heap:=hp3} H3 fp _ s8 _ H8 _ I8 q8') λz s9 L=>?_;let(zv,H9,I9,r9,hD9,hz9,m',hm,w'):=L;calc bM (k_ (X:=fL X scope cl C (ns++N2) {s2 with heap:=hp3} H3 fp) _ s9 _ H9 (.v D) [zv] (.v D) [z] (λ_ H'=>H'=upd H9 D (.É<|ys++[zv])) I9 rb (.Þ r9 .ê) %[10,D,ys,zv,rb,rb,hD9,hz9|rb]) λ_ s10 L=>?_;let(_,H10,I10,_,e10):=L;subst e10;let(k1,k2):=Zb I10;show%[0,m',hm|%[3,i+1,pre,ys++[zv],_,Z,I10.mJ,k1,k2|w']]
 show codeAny_compStart_list loop<|T.self X.A 0 _ _ _ st₁ loop
def kj {scope:Œ}{N:İ ņ}(j:N.Ö)(B:N[0]?=į x)(hx:scope.Ú.Å x=į .û):KD (fL X scope cl C N s₀ H₀ fp) (.ë x pos) 1 (λv _ Q=>Q [į v]):=by intro ao s pre rest H v u Q hp I r q;let(G,rfl):=List.length_eq_one_iff.mp hp;calc bM (qx (X:=fL X scope cl C N s₀ H₀ fp) (i:=0) j B (.Â<|lookup_relabel_local hx) (.Ð<|lookup_relabel_local hx) ao s _ H v u (λg H'=>H'=H/\g=į v::rest) I r %[rb|rb]) λ_ s' F=>?_;let(g,H',D,e1,e2):=F;subst e1 e2;show%[2,[į v],rb,D|q]
def h_ {X:Cx}(B:X.ī=Ĵ)(ok:gM X scope x)(hi:QI X (.ë x px) iter wi)(F:∀cl C s₀ H₀ fp,Za (blk X scope cl C x s₀ H₀ fp) ifs tt)(g:∀cl C s₀ H₀ fp,QE (blk X scope cl C x s₀ H₀ fp) elt te)(hs:ŵ (∀x,foldedSetIterable iter X.Ç x=pure x) Ÿ):QE X (.ListComp elt [%[.ë x px,iter,ifs|0]] scope pos) (Ny wi tt te):=⟨λao s T H Q I h=>by
 let e:∀cl C s₀ H₀ fp,fL X scope cl C ([x]++X.N) s₀ H₀ fp=blk X scope cl C x s₀ H₀ fp:=λ_ _ _ _ _=>rfl;let nd:([x]++X.N).Ö:=io.á %[λz=>ok.Û x z ok.hx|ok.nd];let G:fG X scope [x] X.N id:=%[ok.ý,ok.Gq,ok.Ú,ok.Õ,λ_=>rfl,rb|λT i y v e1 e2=>%[e1,e2|ok.Û y<|a7 e1]]
 rw[eval_ListComp];show Bb B G hi.Û (λcl C s₀ H₀ fp=>kj nd rb ok.hx) (λcl C s₀ H₀ fp=>(λcl C s₀ H₀ fp=>(F cl C s₀ H₀ fp).Û) cl C s₀ H₀ fp) (λcl C s₀ H₀ fp=>(λcl C s₀ H₀ fp=>(g cl C s₀ H₀ fp).Û) cl C s₀ H₀ fp) hs I h λD C J L m hn bk _ q=>%[0,m,hn|λh' j=>%[1,.v D,J,bk h' j,rb|q]]⟩
def dR.mk {P:Prop}(h:i<n)(p:P):dR n i P:=%[18,_,sr h<|fm _,rb,h|p]
def vJ {K:W.Ë}{a D:Ķ}{xs:İ V}{te:TE}{I:St}{H:Hp}{R:Hp->Prop}(g:ı->İ V->Hp->Prop)(j:g 0 [] (upd H D<|.É []))(B:∀i ys H,i<=xs.n->g i ys H->aZ K H a xs)(hs:∀i x ys H,xs[i]?=į x->g i ys H->te (į x::I) H (E_ xs.n i D ys<|g<|i+1))(hd:∀ys H,g xs.n ys H->R H):rK (Itl K a) D H R (Ou I gO te):=Dk g j B hs hd
def yM {lo:ĸ}{n:ı}{D:Ķ}{te:TE}{I:St}{H:Hp}{R:Hp->Prop}(g:ı->İ V->Hp->Prop)(j:g 0 [] (upd H D<|.É []))(hs:∀i ys H,i<n->g i ys H->te (į (.I<|lo+i)::I) H (E_ n i D ys<|g<|i+1))(hd:∀ys H,g n ys H->R H):rK (Ui lo n) D H R (Ou I gO te):=Fb n g j (λi ys H h p=>%[h|λx H' y=>by let(rfl,rfl):=y;show hs i ys _ h p]) λys H p=>%[ag _|hd ys H p]
def S (l:İ ı):ņ:=⟨l.R⟩
def adH (l):(S l).Ĕ.H=l:=rfl
def j9 (l):(S l).n=l.n:=rfl
def pJ (h:S a=S b):a=b:=Ő (λs:ņ=>s.Ĕ.H) h
def abH (z:ņ):S z.Ĕ.H=z:=by cases z;rfl
def aib (a b):S a++S b=S (a++b):=by
 show (⟨a.R++b.R⟩:ņ)=⟨(a++b).R⟩
 simp
def adI (a b):ľ (V.À (S a)=V.À (S b))=ľ (a=b):=by
 by_cases e:a=b;.subst e;simp
 .rw[ai e,ai];intro z;injection z with z;show e<|pJ z
section
variable {X:Cx}{a b c e o:ŋ}{pos:Pos}
def aec (l){j pos}(h:x=S l):PE X (.ą (.À x) j pos) (tC<|.À<|S l):=by rw[h];show afQ
def Dl:R2:=λx y H Q=>∃i j,x=.À (S i)/\y=.À (S j)/\i.n+j.n<=Ŀ/\Q (.À<|S<|i++j) H
def lV:gF X (binaryOp .Add) Dl:=by intro ao s T H x y v u Q I g B h;let(i,j,rfl,rfl,hz,q):=h;show Wm ao s T H _ _ v u Q I g B %[13,S i,S j,rb,rb,hz|by rw[aib];show q]
def aic:R2:=λx y H Q=>∃l i c,x=.À (S l)/\y=.I i/\l.n<=Ŀ/\kh l i=į c/\Q (.À<|S [c]) H
def pK:Ur X aic:=by intro value g ao s T H x y v u Q I B j h hs;let(l,i,c,rfl,rfl,hz,D,q):=h;show af8 value g ao s T H _ _ v u Q I B j %[10,S l,i,c,rb,rb,hz,D|q] hs
def adJ:İ V->Hp->VK->Prop:=λxs H Q=>∃l,xs=[.À (S l)]/\l.n<=Ŀ/\Q (.I l.n) H
def cL:fD X (.Ó "len") adJ:=by intro ao s T H xs us Q I r h;let(l,rfl,hz,q):=h;show Ol ao s T H _ us Q I r %[2,S l,rb,hz|q]
def ai9:R2:=λx y H Q=>∃i j,x=.À (S i)/\y=.À (S j)/\Q (.bl<|ľ<|i=j) H
def xJ:gF X (compareOp .Eq) ai9:=by intro ao s T H x y v u Q I g B h;let(i,j,rfl,rfl,q):=h;show lD ao s T H _ _ v u Q I g B %[rb|by rw[adI];show q]
def ai_:R2:=λx y H Q=>∃i j,x=.À (S i)/\y=.À (S j)/\Q (.bl<|!ľ (i=j)) H
def xK:gF X (compareOp .NotEq) ai_:=by intro ao s T H x y v u Q I g B h;let(i,j,rfl,rfl,q):=h;show yH ao s T H _ _ v u Q I g B %[rb|by rw[adI];show q]
def aja:R2:=λx y H Q=>∃c l,x=.À (S [c])/\y=.À (S l)/\Q (.bl<|ľ<|c∈l) H
def Bc:gF X (compareOp .In) aja:=by
 intro ao s T H x y v u Q I g j h;let(c,l,rfl,rfl,q):=h;show YC ao s T H _ _ v u Q I g j %[1,S [c],S l,rb,rb|by
  let e:=StrLaws.found_one (S l) c;rw[adH]at e;rw[show (S [c])=(⟨#[c]⟩:ņ) from rb,e];show q]
def nH (l:İ ı)(lo hi:ĵ ĸ):İ ı:=(l.Ì<|HT.nD l.n 0 lo).Ã (HT.nD l.n l.n hi-HT.nD l.n 0 lo)
def Uw (lo hi)(n):Builtin.Str.strSliceIndices lo hi 1 n=(List.ñ<|HT.nD n n hi-HT.nD n 0 lo).Q (λk=>HT.nD n 0 lo+k):=by
 let g:∀(v:ĸ) (d:ı),max (0:ĸ) (min (if v<0 then v+(n:ĸ) else v) (n:ĸ))=((HT.nD n d (į v):ı):ĸ):=λv d=>by rw[<-HT.ad7];split <;> grind
 let B:∀a b:ı,sliceRange (a:ĸ) (b:ĸ) 1=(List.ñ<|b-a).Q (λk=>a+k):=λa b=>by
  simp only[sliceRange,show ((1:ĸ) > 0)=True from by simp,if_true];by_cases D:(a:ĸ)<b
  .let e3:(((b:ĸ)-a+1-1)/1).Ü=b-a:=by first|simp|(simp;done)|(simp;lia)
   simp only[D,if_true,e3];calc dS λk _=>?_;lia
  .have:b-a=0:=by simp_all
   simp[D,this]
 unfold Builtin.Str.strSliceIndices;simp only[show ((1:ĸ) > 0)=True from by simp,if_true];cases lo with
 | none=>
  cases hi with| none=>show B 0 n| some j=>dsimp only;rw[g j n];show B 0 _
 | some i=>
  cases hi with| none=>dsimp only;rw[g i 0];show B _ n| some j=>dsimp only;rw[g i 0,g j n];show B _ _
def Zc (l)(lo hi):Txt.slice (S l) lo hi=S (nH l lo hi):=by
 let D:HT.nD l.n l.n hi<=l.n:=HT.af6 _ _ (ag _) _;let j:((Builtin.Str.strSliceIndices lo hi 1 (S l).n).ô ((S l).Ĕ[·]?))=nH l lo hi:=by
  rw[Uw];let h:=StrLaws.picks l (HT.nD l.n l.n hi-HT.nD l.n 0 lo)<|HT.nD l.n 0 lo;unfold nH;by_cases g:HT.nD l.n 0 lo<=HT.nD l.n l.n hi
  .let G:=h (by simp_all);rw[j9];simpa [S] using G
  .let e:HT.nD l.n l.n hi-HT.nD l.n 0 lo=0:=Nat.sub_eq_zero_of_le zo;rw[j9,e];simp
 unfold Txt.slice;split
 .rename_i g;let Y:(Builtin.Str.strSliceIndices lo hi 1 (S l).n).n=l.n:=by
   simp at g;simpa [j9] using g
  let B:HT.nD l.n l.n hi-HT.nD l.n 0 lo=l.n:=by rw[Uw,j9]at Y;simpa using Y
  let F:HT.nD l.n 0 lo=0\/l.n=0:=zo;let e:nH l lo hi=l:=by
   unfold nH;rw[B];rcases F with z|z;.rw[z];simp
   .have:l=[]:=ng.mp z;subst this;simp
  rw[e]
 .rw[j];rfl
def Wz:V->ĵ ĸ->ĵ ĸ->Hp->VK->Prop:=λx lo hi H Q=>∃l,x=.À (S l)/\l.n<=Ŀ/\Q (.À<|S<|nH l lo hi) H
def part_of {o:ĵ ĸ}(p:IsPart v o):∃l:ĵ (ĸ×Tok),v=partValue l/\l.Q (·.1)=o:=by
 cases p with| none=>show%[0,Ĳ,rb|rb]| int i t=>show%[0,į (i,t),rb|rb]
def Jb:SlR X Wz:=by intro ao s T H x v vl G lo hi sl Q I j hs pl D h;let(l,rfl,hz,q):=h;let(t,rfl):=j;let(p1,rfl,rfl):=part_of pl;let(p2,rfl,rfl):=part_of D;calc%[1,"str",_,F.slot_str_getitem.Å,typeIs_str _ _ _|?_];calc wpAny_getItem_str_slice (l:=p1) (u:=p2) (st:=none) hs rb ?_;let e:=Zc l (p1.Q (·.1)) (p2.Q (·.1));let g:(Txt.slice (S l) (p1.Q (·.1)) (p2.Q (·.1))).n<=Ŀ:=av (Txt.slice_le _ _ _) hz;calc post_val_or_str %[g|λt' k=>?_];let B:(if ((Option.Q (λx:ĸ×Tok=>x.1) Ĳ).Î 1==1&&(slicePicked (S l) p1 p2 Ĳ).n==(S l).n)=Ĵ then S l else ⟨((slicePicked (S l) p1 p2 Ĳ).ô ((S l).Ĕ[·]?)).R⟩)=S (nH l (p1.Q (·.1)) (p2.Q (·.1))):=e;show%[1,.À (S (nH l (p1.Q (·.1)) (p2.Q (·.1)))),H,I.tok _,%[t'|congrArg (λz=>Value.À z t') B]|q]
abbrev Ts (ls:AA):İ V:=ls.Q λl=>V.À (S l)
def adK (K:W.Ë):İ V->Hp->VK->Prop:=λxs H Q=>∃x n t b,xs=[x,.ty n]/\pG K H x t/\W.kitOne K t (.È n)=į b/\Q (.bl b) H
def gH:fD X (.Ó "isinstance") (adK X.K):=by intro ao s T H xs us Q I r h;let(x,n,t,b,rfl,ty,k,q):=h;let(u,j,rfl,r1,g):=vals2 r;cases g;show YJ I r1 ty k λtk=>%[1,.bl b,H,I.tok tk,rb|q]
def aie:R2:=λx y H Q=>∃l n,x=.À (S l)/\y=.I (n:ı)/\1<=n/\n<1000/\l.n<1000/\Q (.À<|S (List.Ñ n l).Ê) H
theorem Ov (l:İ ı):∀(n:ı) (g:ŀ ı),((List.Ñ n l.R).foldl (· ++ ·) g).H=g.H++(List.Ñ n l).Ê
 | 0,g=>by simp
 | n+1,g=>by rw[kK,s_,Ov l n,kK];simp
def aed:gF X (binaryOp .Mult) aie:=by
 intro ao s T H x y v u Q I G F h;let(l,n,rfl,rfl,h1,L,J,q):=h;let(t,rfl):=G;let(t',rfl):=F;let g:l.n*n<=1000*1000:=km (ar J)<|ar L;let B:(1000*1000:ı)<=Ŀ:=by decide
 calc PySem.P.mul_str ?_ ?_ ?_ ?_;.rw[ai zr,ai zo];rfl
 .intro _ _;let e:(2^63-1:ĸ)/(n:ĸ)>=1000:=by
   calc Int.le_ediv_of_mul_le (i8 dC h1) ?_;have:(1000:ĸ)*(n:ĸ)<=1000*1000:=by lia
   lia
  rw[j9];lia
 .intro _ _;show ľ (_ > _)=ķ;rw[ai];rw[j9,cq];lia
 .rw[Ĺ zo];let j:(⟨(List.Ñ (n:ĸ).Ü (S l).Ĕ).foldl (· ++ ·) #[]⟩:ņ)=S (List.Ñ n l).Ê:=by
   let e:=Ov l n #[];rw[cq];unfold S;congr 1;apply kX.mp;simpa using e
  rw[j];split
  .rename_i D;let e:(List.Ñ n l).Ê=l:=by
    simp at D;rcases D with z|z
    .have:n=1:=by lia
     subst this;simp
    .have:l=[]:=by simpa [S,Str.length] using z
     subst this;simp
   rw[e]at q;show%[1,.À<|S l,H,I,%[t|rb]|q]
  .calc%[17,?_,.À<|S (List.Ñ n l).Ê,H,I.tok _,%[_|rb]|q];rw[j9,len_rep,gy];show av g B
def Ux (ls:AA):Txt.join (S []) (ls.Q S)=S ls.Ê:=by
 unfold Txt.join Builtin.Str.glued;let j:∀(ls:AA) (g:ŀ ı),((ls.Q S).foldl (λg p=>g++(S []).Ĕ++p.Ĕ) g).H=g.H++ls.Ê:=by
  intro ls
  induction ls with| nil=>intro g;simp| cons l r ih=>intro g;rw[bX,s_,ih];simp[S]
 unfold S;congr 1;apply kX.mp;cases ls with| nil=>rfl| cons l r=>have:=j r (S l).Ĕ;let e:(List.Q S<|l::r).Ì 1=List.Q S r:=rfl;show (((List.Q S<|l::r).Ì 1).foldl _ (S l).Ĕ).H=_;rw[e];show this.X (by simp[S])
def rJoin (K:W.Ë):V->İ V->Hp->VK->Prop:=λx vs H Q=>∃p ls,x=.À (S [])/\vs=[.v p]/\aZ K H p (Ts ls)/\ls.Ê.n<=1000/\Q (.À<|S ls.Ê) H
def Jc:∀{ls:AA} {us:İ ĳ},Vals (Ts ls) us->Ŧ us (ls.Q S):=by
 intro ls us h
 induction ls generalizing us with
 | nil=>cases h;show .ê
 | cons l r ih=>
  cases h with| cons q t=>let(t',rfl):=q;show .Þ (S l) t'<|ih t
def Uy (ls:AA):((ls.Q S).Q (·.n)).sum=ls.Ê.n:=by
 induction ls with| nil=>rfl| cons l r ih=>rw[bX,bX,fE,ih,fo,ax,j9]
def o8:xG X "str.join" (rJoin X.K):=by
 intro ao s T H x vs v us Q I B D h;let(p,ls,rfl,rfl,g,hz,q):=h;let(t,rfl):=B;let(u,rfl,j):=vals1 D;cases j;let(its,r,pl,_):=I.ğ g;refine join_list pl.ü (ys:=ls.Q S) (by simpa using Jc r) ?_ λt' k=>?_
 .rw[Uy];show _+_*0<=_;lia
 .show%[1,.À<|S ls.Ê,H,I.tok k,%[t'|congrArg (λz=>Value.À z t')<|Ux ls]|q]
end
structure aR (K:W.Ë)(mg:ņ->ĵ ĳ)(name:ņ)(st:Ŋ)(ps:İ ņ):Prop where
 ex:∃f fd,iH K name name st f fd/\cV K fd ps []/\mg name=į (.v f)
structure bD (P:ń)(w:ŉ)(K:W.Ë)(mg:ņ->ĵ ĳ)(base:Ň)(name:ņ)(k:ı)(ps:İ ņ)(sp:Sp):Prop where
 ex:∃f fd,dJ P w K mg base fP k f fd ps sp/\cV K fd ps []/\mg name=į (.v f)/\W.Ċ K (.v f)=Ĵ
def aR.ok {K:W.Ë}{mg:ņ->ĵ ĳ}{name:ņ}{st:Ŋ}{N ps:İ ņ}{k:ı}{sp:Sp}(D:aR K mg name st ps)(S:aW N ps (aH st))(len:∀vs H Q E,sp vs H Q E->vs.n=ps.n)(j:∀(f:Ķ) (bF:ĳ) (A:ň) (outer:İ Env) (s:Ļ) (H:Hp) (vs:İ V) (Q:VK) (E:XK),eG k (A.deeper<|envOfC name (aH st) s.d f bF)->sp vs H Q E->
   ∃t,Kr (pH fP P w K mg base N name (aH st) f bF A outer s H E).D_ (cR st) t/\t {nx:=λ_ H'=>Q .ă H',rt:=Q} (start N vs) H):bD P w K mg base name (k+1) ps sp:=by
 let(f,fd,F,b,g):=D.ex;show%[f,fd,F.ok S len<|j f,b,g|F.kp]
section
variable {X:Cx}{x:ņ}{p pos:Pos}{e:ŋ}{es:İ ŋ}{t:TA}
def bf (D:bD X.Ï X.w X.K X.mg X.ð x k ps sp)(J:eG k X.A)(F:Gl X x)(ha:QA X (e::es) t)(B:ŵ ((x==("__debug__":ņ))=ķ) ŷ)(hs:ŵ (Ņ (e::es) X.Ç=(ķ,Ŏ e X.Ç)::Ņ es X.Ç) Ŷ)(j:ŵ ((backTo pos<|Ņ es X.Ç).ġ (·.1)=ķ) Ŷ):QE X (.ĭ (.ë x p) (e::es) [] pos) (C_ sp [] E0 t):=⟨by
 let(f,fd,G,b,g,kp):=D.ex;show ad5 G J F g kp b .ê jo ha.Û B hs j⟩
end
theorem aA.upd (h:H p=Ĳ):aA H (upd H p o):=λb o' e=>by rw[aU (bI e h)];show e
def aA.bJ (s:aA H H')(h:H p=Ĳ):aA H (L2.å H' p o):=λb o' e=>by rw[aU (bI e h)];show s b o' e
def abI {K:W.Ë}{h:Ň}{mg:ņ->ĵ ĳ}{name:ņ}{st:Ŋ}{ps:İ ņ}{f:Ķ}{oc:ĳ}{od an:ĵ Ķ}{osl:ŀ (ĵ ĳ)}{kV doc pm bF ct:ĳ}(X:K.In h)(G:h.Ns mainGlobals mg)(a:W.nsIn K mainGlobals name=į (į<|.v f))(l:K.Å f=į %[oc,od,.func<|W.fnOf name name (dY st) (cR st) (aH st) .Ø kV doc pm an bF ct|osl])(c:W.ĩ K bF name=Ĵ)(k:W.Ċ K (.v f)=Ĵ)(g:∀(kV doc pm:ĳ) (an:ĵ Ķ) (bF ct:ĳ) (us:İ ĳ),us.n=ps.n->bindArgs (W.fnOf name name (dY st) (cR st) (aH st) .Ø kV doc pm an bF ct) %[us|[]]=pure (ps.Ĩ us)):aR K mg name st ps:=%[f,_,jl l c k,(jl l c k).binds g|mN X G a]
def agi {K:W.Ë}{h:Ň}{mg:ņ->ĵ ĳ}{st:Ŋ}{x:ņ}{f j:Ķ}{oc:ĳ}{od an:ĵ Ķ}{osl:ŀ (ĵ ĳ)}{kV doc pm bF ct:ĳ}(X:K.In h)(G:h.Ns mainGlobals mg)(g:mg "law"=į (.v j))(a:W.nsIn K mainGlobals "law"=į (į<|.v f))(l:K.Å f=į %[oc,od,.func<|W.fnOf "law" "law" (dY st) (cR st) (aH st) .Ø kV doc pm an bF ct|osl])(c:W.ĩ K bF "law"=Ĵ)(k:W.Ċ K (.v f)=Ĵ)(B:∀(kV doc pm:ĳ) (an:ĵ Ķ) (bF ct v:ĳ),bindArgs (W.fnOf "law" "law" (dY st) (cR st) (aH st) .Ø kV doc pm an bF ct) %[[v]|[]]=pure [(x,v)]):∃fd:FuncData,iH K "law" "law" st j fd/\∀(s:Ļ) (v:ĳ),Ť s fd %[[v]|[]] [(x,v)]:=by let e:=g.Ò.X<|mN X G a;cases e;show%[0,_,jl l c k|λs v=>.of_eq<|B kV doc pm an bF ct v]
namespace RV
end RV
def QW.qt (h:QW X e t):QT X e t:=⟨h.Û.pt⟩
section
variable {X:Cx}{tg:ŋ}
def dz (hp:Ū (Ľ X.Ï X.w) X.A X.Ç X.xe)(B:X.ī=Ĵ)(hi:QI X tg iter wi)(j:QG X tg g)(D:vG X body tb)(hs:ŵ (∀x,foldedSetIterable iter X.Ç x=pure x) Ÿ):QS X (.For tg iter body [] pos) (afX wi g tb):=⟨afY hp B hi.Û j.Û D.Û hs⟩
end
section
variable {X:Cx}{pos:Pos}
def bG (N:X.N.Ö)(hi:X.N[i]?=į x)(hx:Loc X.Ç.č x)(g:ŵ (X.fn x=Ĵ\/X.Ç.č.Ú.Å x=į .û) Ź):QG X (.ë x pos) (j8 i):=⟨qx N hi hx g⟩
def lN {es:İ ŋ}{k:ı}{t:Kv}{n:ı}(j:X.ī=Ĵ)(h:QGs X es t)(hn:ŵ ((assignEach es X.Ç).n=n) Ŷ)(g:ŵ ((assignEach es X.Ç).findIdx? (·.1)=Ĳ) Ŷ):QG X (.ģ es k pos) (Wd X.K n t):=⟨Oc j h.Û hn g⟩
def jM  : QGs X [] Wc:=⟨IV⟩
def cu (h1:QG X e t)(g:QGs X es u)(hs:ŵ ((assignEach (e::es) X.Ç).Q (·.2)=assign e X.Ç::(assignEach es X.Ç).Q (·.2)) Ŷ):QGs X (e::es) (yG t u):=⟨qy h1.Û g.Û hs⟩
def qv (i:ı){x:ņ}{pos:Pos}(N:ŵ (X.N[i]?=į x) Ŷ)(hv:ŵ (Yq X.Ç.č x) ż)(hd:ŵ ((x==("__debug__":ņ))=ķ) ŷ)(g:ŵ ((x==("__classdict__":ņ))=ķ) ŷ):QE X (.ë x pos) (fO i):=⟨pv i N hv hd g⟩
def aK {X:Cx}{x:ņ}{pos:Pos}:=@qv X 0 x pos
def aX {X:Cx}{x:ņ}{pos:Pos}:=@qv X 1 x pos
def bw {X:Cx}{x:ņ}{pos:Pos}:=@qv X 2 x pos
def bN {X:Cx}{x:ņ}{pos:Pos}:=@qv X 3 x pos
def b_ {X:Cx}{x:ņ}{pos:Pos}:=@qv X 4 x pos
def cI {X:Cx}{x:ņ}{pos:Pos}:=@qv X 5 x pos
def dM {X:Cx}{x:ņ}{pos:Pos}:=@qv X 6 x pos
def iU {X:Cx}{x:ņ}{pos:Pos}:=@qv X 7 x pos
def iV {X:Cx}{x:ņ}{pos:Pos}:=@qv X 8 x pos
def iW {X:Cx}{x:ņ}{pos:Pos}:=@qv X 9 x pos
def jy {X:Cx}{x:ņ}{pos:Pos}:=@qv X 10 x pos
def gQ {X:Cx}{x:ņ}{pos:Pos}:=@qv X 11 x pos
def nT {X:Cx}{x:ņ}{pos:Pos}:=@qv X 12 x pos
end
section
variable {X:Cx}
def bV (l){j pos}(h:x=S l):QE X (.ą (.À x) j pos) (tC<|.À<|S l):=⟨aec l h⟩
end
def rfg {as:İ Ķ}{n:ı}{x:V}(h:(as.Q V.v)[n]?=į x):∃h:n<as.n,V.v as[n]=x:=by
 let hn:n<as.n:=by have:=(am.mp h).1;simpa using this
 rw[bz,ae hn]at h;show%[hn|bg h]
def aR.cU {K:W.Ë}{mg:ņ->ĵ ĳ}{name:ņ}{st:Ŋ}{N ps:İ ņ}{k:ı}{sp:Sp}(D:aR K mg name st ps)(S:aW N ps (aH st))(g:∀(f:Ķ) (bF:ĳ) (A:ň) (outer:İ Env) (s:Ļ) (H:Hp) (vs:İ V) (Q:VK) (E:XK),eG k (A.deeper<|envOfC name (aH st) s.d f bF)->sp vs H Q E->
   ∃t,vG (pH fP P w K mg base N name (aH st) f bF A outer s H E).D_ (cR st) t/\t {nx:=λ_ H'=>Q .ă H',rt:=Q} (start N vs) H) (len:ŵ (∀vs H Q E,sp vs H Q E->vs.n=ps.n) Ž):bD P w K mg base name (k+1) ps sp:=
 D.ok S len λf bF A outer s H vs Q E j h=>let %[t,a|b]:=g f bF A outer s H vs Q E j h;%[0,t,a.Û|b]
def iH.cU {K:W.Ë}{mg:ņ->ĵ ĳ}{x qual:ņ}{st:Ŋ}{N ps:İ ņ}{k:ı}{sp:Sp}(F:iH K x qual st f fd)(S:aW N ps (aH st))(g:∀(bF:ĳ) (A:ň) (outer:İ Env) (s:Ļ) (H:Hp) (vs:İ V) (Q:VK) (E:XK),eG k (A.deeper<|envOfC qual (aH st) s.d f bF)->sp vs H Q E->
   ∃t,vG (pH fP P w K mg base N qual (aH st) f bF A outer s H E).D_ (cR st) t/\t {nx:=λ_ H'=>Q .ă H',rt:=Q} (start N vs) H) (len:ŵ (∀vs H Q E,sp vs H Q E->vs.n=ps.n) Ž):dJ P w K mg base fP (k+1) f fd ps sp:=
 F.ok S len λbF A outer s H vs Q E j h=>let %[t,a|b]:=g bF A outer s H vs Q E j h;%[0,t,a.Û|b]
section
variable {prog:ń}{w:ŉ}{A:ň}{E:AB}{s:Ļ}
def Gr (J:ļ (Ľ prog w) A.ę (collect v) (λvs s1=>∃ss,Ŧ vs ss/\vs.n<64/\
   ∀(h':Ň) (j:İ ĳ) (g:İ ņ) (e:ı),(∀b o,s1.C.Á b=į o->h'.Á b=į o)->h'.Á s1.d=į (seqObj "list" j.R e)->Ŧ j g->g.æ ss->sortedS g=Ĵ->
    Q (.v s1.d) {s1 with heap:=h' }) E s):ļ (Ľ prog w) A (call (.Ó "sorted") [v]) Q E s:=by
 calc Calls.call_function_entry kind_sorted plain_sorted entry_sorted (args_sorted1 _) ?_;unfold Builtin.«sorted»;calc ab (m:=checkCount "sorted" 1 1 _)<|ah ?_;calc ab<|bM J λvs s1 ⟨ss,D,B,h⟩=>?_;calc ab<|v0 ?_;let L:(s1.C.Í<|seqObj "list" vs.R 0).Á s1.d=į (seqObj "list" vs.R 0):=a6 _ rfl;refine ab (eC (eI slot_list_sort (s:={s1 with heap:=s1.C.Í<|seqObj "list" vs.R 0}) %[0,_,L|rb] entry_list_sort
  (list_sort_treeK (s:={s1 with heap:=s1.C.Í<|seqObj "list" vs.R 0}) strKind_oneLt L D.keysOf (λO Y rest e=>keyKind_strs (by rw[<-e];show D)) B λst' hp hs=>%[0,_,rb|?_])<|args_list_sort _))
 let(g,h1,N,M):=sorted_out_str D hp hs;let(e,G):=sortedHeap_at (vs:=vs) (out:=(arrOf st').Q (·.2)) L;calc ah %[0,_,rb|h _ ((arrOf st').Q (·.2)).H g e (λb o z=>?_) (by rw[r0];show G) h1 N M];let F:b<s1.d:=a9 z;rw[sortedHeap_old (bb F) (by rw[eM];show ff F)];show af _ z
def uq:∀{ss:İ ņ} {us:İ ĳ},Ŧ us ss->Vals (ss.Q V.À) us:=by
 intro _ _ h
 induction h with| nil=>show .ê| cons x t r ih=>show .Þ %[t|rb] ih
end
def Its (l:İ ı):It:=%[λi _=>i<l.n,λi H x H'=>H'=H/\∃c,l[i]?=į c/\x=.À (S [c])|λi _=>l.n<=i]
def abK {P:ń}{w:ŉ}{K:W.Ë}{tg:ŋ}{ty:ŕ}(g:ty="str_ascii_iterator"\/ty="str_iterator")(l:İ ı)(t:Tok)(it:Ķ):Turn P w K tg (Its l) [it] it (λi h=>i<=l.n/\h.Ġ it ty (S l) t i) where
 mem:=by simp
 obj:=λi h st b j=>by
  let e:b=it:=by simpa using j
  subst e;let(_,o,e,c,d):=st;show%[0,o,e|λv z=>by rw[d]at z;cases z]
 keep:=λi h h' st k=>%[st.1|let %[o,ho|r]:=st.2;%[0,o,k it zr o ho|r]]
 item:=by
  intro X M hw N F i ao s T H E I J st L;subst M hw N;let(f0,f1,f2,f3,f4,f5):=J it zr;let D:i<(S l).Ĕ.E:=L;let G:∀(v:ĳ) (h':Ň) (tk:ı),SignAt (S l) i v->h'.Ġ it ty (S l) t (i+1)->(∀b o,b∉[it]->s.C.Á b=į o->h'.Á b=į o)->
    ∃u,į v=į u/\ļ (Ľ X.Ï X.w) X.A (letOwnedTupleGo tg (.v it) u) (λ_ s2=>∃x H',aM X ao T H' s2/\bQ x u/\(Its l).Gj i H x H'/\(i+1<=l.n/\s2.C.Ġ it ty (S l) t (i+1))/\∀b∈[it],H' b=Ĳ) E {s with heap:=h',toks:=tk}:=by
   intro v h' tk hv st' B;let(c,u,O,rfl):=hv;let I1:aM X ao T H {s with heap:=h',toks:=tk}:=I.Ħ (λb o j e=>B b o (by simpa using j) e) f0 f1 f3 f4 f5;let(o,e,Y,Z):=id st';refine%[0,_,rb|CV (s:={s with heap:=h',toks:=tk}) e Y Z (by rcases g with rfl|rfl <;> decide) %[7,.À<|S [c],H,I1,%[u|rb],%[12,rb,c,by simpa [S] using O|rb],%[L|st']|λb j=>(J b j).1]]
  rcases g with rfl|rfl;.show(Walks.strAscii (prog:=X.prog) (w:=X.w) (I.ok.hd F) it (S l) t).item i s _ _ D st.2 λv h' tk hv st' B=>G v h' tk hv st' B
  .show(Walks.strWide (prog:=X.prog) (w:=X.w) (I.ok.hd F) it (S l) t).item i s _ _ D st.2 λv h' tk hv st' B=>G v h' tk hv st' B
 done:=by
  intro X M hw N F i ao s T H E I J st L;subst M hw N;let(f0,f1,f2,f3,f4,f5):=J it zr;let hi:i=(S l).Ĕ.E:=qf st.1 L;let st':=st.2;rw[hi]at st';rcases g with rfl|rfl
  .show(Walks.strAscii (prog:=X.prog) (w:=X.w) (I.ok.hd F) it (S l) t).done s _ _ st' λh' tk B=>%[rb|I.Ħ (λb o j e=>B b o (by simpa using j) e) f0 f1 f3 f4 f5]
  .show(Walks.strWide (prog:=X.prog) (w:=X.w) (I.ok.hd F) it (S l) t).done s _ _ st' λh' tk B=>%[rb|I.Ħ (λb o j e=>B b o (by simpa using j) e) f0 f1 f3 f4 f5]
 self:=λA i s Q E st h=>by
  rcases g with rfl|rfl;.show wpAny_pyIter_striter_ascii st.2 h
  .show wpAny_pyIter_striter_wide st.2 h
def Zd {a b c:İ ı}(h1:¬b<a)(B:¬c<b):¬c<a:=by let j:a<=b:=h1;let g:b<=c:=B;show List.le_trans j g
theorem KH:∀(r:İ ņ) (p:ņ),risingS p r=Ĵ->(∀x∈r,¬x.Ĕ.H<p.Ĕ.H)/\(r.Q λy=>y.Ĕ.H).Ä (λa b=>ľ (b<a)=ķ)
 | [],_,_=>%[λ_ h=>by simp at h|List.Ä.ê]
 | y::r,p,h=>by
  rw[risingS,eD]at h;let g:¬y.Ĕ.H<p.Ĕ.H:=by have:=h.1;simpa [ltCps_eq] using this
  let(h1,j):=KH r y h.2;refine%[λx hx=>?_|?_]
  .rcases a_.mp hx with e|e;.rw[e];show g
   .show Zd g<|h1 x e
  .rw[bX];calc List.Ä.Þ (λb B=>?_) j;let(x,hx,rfl):=aI.mp B;show ai<|h1 x hx
def Bf (ss)(h:sortedS ss=Ĵ):(ss.Q λy=>y.Ĕ.H).Ä (λa b=>ľ (b<a)=ķ):=by
 cases ss with| nil=>show List.Ä.ê| cons x r=>let(h1,g):=KH r x h;rw[bX];calc List.Ä.Þ (λb j=>?_) g;let(y,B,rfl):=aI.mp j;show ai<|h1 y B
section
variable {X:Cx}{tg:ŋ}
def ajb (tl:TE):TI:=λT H R=>tl T H λx H1=>∃l,x=.À (S l)/\R (Its l) H1
def pL (j:QE X l tl):QI X tg l (ajb tl):=⟨by
 intro ao s T H R I h;calc bM (j.Û ao s T H _ I h) λv s1 D=>?_;let(x,H1,I1,r1,q1):=D;let(l,e,q):=q1;subst e;let(t,rfl):=r1;calc re ?_;let g:strIterType (S l)="str_ascii_iterator"\/strIterType (S l)="str_iterator":=by unfold strIterType;split <;> simp
 calc%[16,s1.d,[s1.d],_,_,H1,rb,I1.ě (t':=s1.toks) λb o e=>af _ e,abK g l t _,%[26,ci _,_,a6 _ rb,rb|rb],λb B=>?_|q];let e:b=s1.d:=by simpa using B
 subst e;show I1.mH (ag _)<|I1.ì.ß<|ag _⟩
def yN {l:İ ı}{D:Ķ}{te:TE}{T:St}{H:Hp}{R:Hp->Prop}(g:ı->İ V->Hp->Prop)(j:g 0 [] (upd H D<|.É []))(hs:∀i c ys H,l[i]?=į c->g i ys H->te (į (.À<|S [c])::T) H (E_ l.n i D ys<|g<|i+1))(hd:∀ys H,g l.n ys H->R H):rK (Its l) D H R (Ou T gO te):=Fb l.n g j (λi ys H h p=>%[h|λx H' y=>by let(rfl,c,B,rfl):=y;show hs i c ys _ B p]) λys H p=>%[ag _|hd ys H p]
def mL (N:X.ī=Ĵ):fD X (.Ó "all") (λxs H Q=>∃(p:Addr) (bs:İ ŏ),xs=[.v p]/\aZ X.K H p (bs.Q V.bl)/\Q (.bl<|bs.all id) H):=by
 intro ao s T H xs us Q I r h;let(p,bs,rfl,L,q):=h;let(u,rfl,g):=vals1 r;cases g;let(its,B,pl,hz):=I.ğ L;let F:p≠s.d:=by let(o,M,_):=pl.ü;show bb<|a9 M
 let O:∀(i:ı) (v:ĳ),its[i]?=į v->v=.ĉ (bs.Î i Ĵ):=λi v hv=>by
  let Y:=B.n;let hi:i<bs.n:=by have:=(am.mp hv).1;simp at Y;simp_all
  let(u,J,g):=B.ď (i:=i) (x:=.bl bs[i]) (by simp[hi]);rw[hv]at J;cases J;cases g;simp[List.getD,hi]
 calc call_all_walk<|oq pl.ü ?_;refine%[58,s.d,_,_,_,_,_,λi=>bs.Î i Ĵ,rb,Walks.ğ (A:=X.A.in1) (I.ok.hd N) s.d p F its.R,%[%[2,_,a6 _ rb,rb|rb]|pl.ü.at λo e=>af _ e],?_|λh' tk Z=>?_]
 .intro i v s' Q' E' hv j;let e:=O i v (by simpa using hv);subst e;show fe j
 .let I1:aM X ao T H {s with heap:=h',toks:=tk}:=I.ě λb o e=>Z b o (by
   intro hm;have:b=s.d:=by simpa using hm
   subst this;show Ł (a9 e)<|kP _)<|af _ e
  calc%[1,.bl<|bs.all id,H,I1,?_|q];show Value.ĉ _=Value.ĉ _;let Y:its.R.E=bs.n:=by have:=B.n;simp at this;simp[this]
  rw[Y];congr 1;let G:∀bs:İ ŏ,(List.ñ bs.n).all (λi=>bs.Î i Ĵ)=bs.all id:=λbs=>by
   rw[n5,kR,kR];constructor
   .intro h x hx;let(i,hi,rfl):=cy.mp hx;have:=h i<|cz.á hi;simpa [List.getD,hi] using this
   .intro h i hi;let D:=cz.mp hi;have:=h bs[i]<|aS _;simpa [List.getD,D] using this
  show G bs
def abL:R2:=λx y H Q=>∃i j,x=.À (S i)/\y=.À (S j)/\Q (.bl<|!ľ (j<i)) H
def nU:gF X (compareOp .LtE) abL:=by intro ao s T H x y v u Q I B g h;let(i,j,rfl,rfl,q):=h;let(t,rfl):=B;let(t',rfl):=g;show zi %[1,.bl _,H,I,rb|q]
abbrev bZ (l:İ ı):Key:=Sum.Ð (S l)
def Ow (hc:X.ī=Ĵ):fD X (.Ó "sorted") (λxs H Q=>∃(d:Addr) (kvs:İ (Key×V)) (ws:AA),xs=[.v d]/\H d=į (.dK kvs)/\kvs.Q (·.1)=ws.Q bZ/\ws.n<64/\
  ∀(p:Ķ) (F:AA),H p=Ĳ->F.æ ws->F.Ä (λa b=>ľ (b<a)=ķ)->Q (.v p) (upd H p<|.É<|Ts F)):=by
 intro ao s T H xs us Q I r h;let(d,kvs,ws,rfl,hd,hk,N,q):=h;let(u,rfl,ru):=vals1 r;cases ru;let(hz,lo,vs,J,dd):=Ww I.ì hd;let(ep,Y):=dd.dictAt;let O:=KV.keys J;let M:vs.n=ws.n:=by let h1:=KV.n J;let h2:=Ő List.n hk;simp at h2;lia
 calc Gr<|W.kdu_collect (A:=X.A.in1) (W.kdl_dict (knd:=cZ X.Ï X.w) (kvs:=vs) (ep:=ep) lo) (I.ok.hd hc) Y (by rw[M];show ar<|aJ zo) λh' tk acc kk B=>?_;let hS:Ŧ acc.H (ws.Q S):=by
  let key:∀(l:İ ĳ) (m:AA),l.n=m.n->(∀(j:ı) v,l[j]?=į v->∃c,m[j]?=į c/\∃u,v=.À (S c) u)->Ŧ l (m.Q S):=by
   intro l
   induction l with
   | nil=>intro m G _;cases m with|nil=>show .ê|cons c r=>simp at G
   | cons a r ih=>
    intro m G hv;cases m with
    | nil=>simp at G
    | cons c m=>
     let(c',e,u,rfl):=hv 0 a rfl;let e':c=c':=by simpa using e
     subst e';show .Þ _ u<|ih m (by simpa using G) λj v Z=>hv (j+1) v Z
  calc key _ _ (by rw[bu,B.1,M]) λj v Z=>?_;let(k,x,hx,hi):=B.2 j v (by simpa using Z);let D:(ws.Q bZ)[j]?=į k:=by rw[<-hk,O,bz,hx];rfl
  rw[bz]at D;cases hw:ws[j]? with
  | none=>rw[hw]at D;cases D
  | some c=>
   rw[hw]at D;let e:bZ c=k:=by simpa using D
   subst e;calc%[0,c,rb|?_];rcases eO (show lu (Sum.Ð<|S c) v=Ĵ from hi) with⟨i,t,e1,_⟩|⟨y,t,e1,e2⟩;.cases e1
   .cases e1;show%[t|e2]
 let I1:aM X ao T H {s with heap:=h',toks:=tk}:=I.ě kk;calc%[2,_,hS,by rw[bu,B.1,M];show N|λh2 L g e k2 he hS' pm so=>?_];let es:g=(g.Q λy=>y.Ĕ.H).Q S:=by rw[dm];calc(ke _).Ò.X<|dS λy _=>?_;show(abH y).Ò
 let rA:(g.Q λy=>y.Ĕ.H).æ ws:=by have:=pm.Q λy:ņ=>y.Ĕ.H;rw[dm]at this;let e:((λy:ņ=>y.Ĕ.H) ∘ S)=id:=rfl;rw[e,ke]at this;show this
 let hv:Vals (Ts<|g.Q λy=>y.Ĕ.H) L:=by have:=uq hS';rw[es]at this;simpa [Ts,yb] using this
 let G:(Ts<|g.Q λy=>y.Ĕ.H).n<=Ŀ:=by rw[aa,rA.length_eq];show ar<|aJ zo
 refine%[1,.v h'.Y.E,_,I1.Ĭ (o:=.É _) (t':=tk) k2 (ag _) %[19,G,L,e,hv|he],rb|q _ _ I1.ß rA<|Bf g so]
def QI.or (h1:QI X tg iter w1)(g:QI X tg iter w2):QI X tg iter (λT H R=>w1 T H R\/w2 T H R):=⟨λao s T H R I h=>by
 rcases h with h|h;.show h1.Û ao s T H R I h
 .show g.Û ao s T H R I h⟩
end
def aZ.keep {K:W.Ë}{xs:İ V}(k:∀b o,H b=į o->b≠p->H' b=į o)(hp:∀o,H p=į o->(∀ys,o≠.É ys)/\∀u ys,o≠.ql u (.É ys))(h:aZ K H a xs):aZ K H' a xs:=by
 rcases h with(h|⟨o,h⟩)|h;.show .Â<|.Â<|k _ _ h λe=>(hp _<|e ▸ h).1 _ rb
 .show .Â<|.Ð %[o|k _ _ h λe=>(hp _<|e ▸ h).2 _ _ rb]
 .show .Ð h
def aQ.keep {K:W.Ë}{xs:İ V}(k:∀b o,H b=į o->b≠p->H' b=į o)(hp:∀o,H p=į o->(∀ys,o≠.Æ ys)/\∀u ys,o≠.ql u (.Æ ys))(h:aQ K H a xs):aQ K H' a xs:=by
 rcases h with(h|⟨o,h⟩)|h;.show .Â<|.Â<|k _ _ h λe=>(hp _<|e ▸ h).1 _ rb
 .show .Â<|.Ð %[o|k _ _ h λe=>(hp _<|e ▸ h).2 _ _ rb]
 .show .Ð h
section
variable {X:Cx}
def aif (i j:ĸ):Prop:=0<j/\j.natAbs.log2<9000
def abM:gF X (binaryOp .FloorDiv) (rI aif λi j=>.I<|i/j):=Yy λi j _ _ _ _ _ g q=>by let e:i.fdiv j=i/j:=xL _<|tI g.1;rw[<-e]at q;show floordiv_int (Int.ne_of_gt g.1) q<|.Â<|PyProof.noPylong_of_log2 g.2
def ajc:V->İ V->Hp->VK->Prop:=λx vs H Q=>∃l,x=.À (S l)/\vs=[]/\l.n<=1000/\(∀c∈l,c<128)/\Q (.À<|S<|l.Q up1) H
def agj:xG X "str.upper" ajc:=by
 intro ao s T H x vs v us Q I B D h;let(l,rfl,rfl,hz,ha,q):=h;let(t,rfl):=B;let j:=D.zero;subst j;let g:Builtin.Str.tooLong (Txt.upper<|S l).n=ķ:=fit_upper (by rw[j9];lia);calc call_gives F.slot_str_upper (typeIs_str s _ t) F.entry_str_upper (F.args_str_upper_1 _) (gives_str_upper (S l) t g) %[fit_le g|?_];let e:Txt.upper (S l)=S (l.Q up1):=by rw[upper_ascii (x:=S l) ha];simp[S]
 show%[1,.À<|S<|l.Q up1,H,I.tok _,%[s.Ý|congrArg (λz=>Value.À z s.Ý) e]|q]
def ajd:V->İ V->Hp->VK->Prop:=λx vs H Q=>∃l,x=.À (S l)/\vs=[]/\l.n<=1000/\(∀c∈l,c<128)/\Q (.À<|S<|l.Q lo1) H
def Gu:xG X "str.lower" ajd:=by
 intro ao s T H x vs v us Q I B D h;let(l,rfl,rfl,hz,ha,q):=h;let(t,rfl):=B;let j:=D.zero;subst j;let g:Builtin.Str.tooLong (Txt.lower<|S l).n=ķ:=fit_lower (by rw[j9];lia);calc call_gives F.slot_str_lower (typeIs_str s _ t) F.entry_str_lower (F.args_str_lower_1 _) (gives_str_lower (S l) t g) %[fit_le g|?_];let e:Txt.lower (S l)=S (l.Q lo1):=by rw[lower_ascii (x:=S l) ha];simp[S]
 show%[1,.À<|S<|l.Q lo1,H,I.tok _,%[s.Ý|congrArg (λz=>Value.À z s.Ý) e]|q]
end
def Jd {l:İ ı}{g:TG}{tb:TS}{D:Ends}{I:St}{H:Hp}(j:ı->St->Hp->Prop)(F:j 0 I H)(hs:∀i c I H,l[i]?=į c->j i I H->g (.À<|S [c]) I H λI2 B=>tb {D with nx:=j<|i+1,ct:=j<|i+1,bk:=D.nx} I2 B)(hd:∀I H,j l.n I H->D.nx I H):Ao (Its l) g tb D I H:=IW l.n j F (λi I H h p=>%[h|λx H' y=>by let(rfl,c,G,rfl):=y;show hs i c I _ G p]) λI H p=>%[ag _|hd I H p]
def AL:İ ı:=(List.ñ 26).Q (97 + ·)
def qF {I:Type}{xs:İ I}(hn:xs.n=n)(h:0<n)(c):∃v,kh xs (c%(n:ĸ))=į v/\v∈xs:=by
 let j:0<=c%(n:ĸ):=og _ zo;let h1:c%(n:ĸ)<n:=lI _<|i8 dC h;obtain⟨k,hk⟩:∃k:Nat,c%(n:ĸ)=(k:ĸ):=%[(c%(n:ĸ)).Ü|zo]
 rw[hk];let g:k<xs.n:=by simp_all
 show%[0,xs[k],aN (by simp[g])|aS _]
inductive Dt where
 | non|int (i:ĸ)|str (l:İ ı)|tup (ds:İ Dt)|lst (ds:İ Dt)
mutual
def toP:Dt->ū
 | .ă=>.Ø
 | .I i=>.I i
 | .À l=>.À (S l)
 | .Æ ds=>.Ģ (fM ds)
 | .É ds=>.ğ (fM ds)
def fM:İ Dt->İ ū
 | []=>[]
 | d::ds=>toP d::fM ds
end
mutual
theorem Gv:∀d e:Dt,PyData.eqv (toP d) (toP e)=Ĵ↔d=e
 | .ă,.ă=>by simp[toP,PyData.eqv]
 | .ă,.I _=>by simp[toP,PyData.eqv]
 | .ă,.À _=>by simp[toP,PyData.eqv]
 | .ă,.Æ _=>by simp[toP,PyData.eqv]
 | .ă,.É _=>by simp[toP,PyData.eqv]
 | .I _,.ă=>by simp[toP,PyData.eqv]
 | .I _,.I _=>by simp[toP,PyData.eqv]
 | .I _,.À _=>by simp[toP,PyData.eqv]
 | .I _,.Æ _=>by simp[toP,PyData.eqv]
 | .I _,.É _=>by simp[toP,PyData.eqv]
 | .À _,.ă=>by simp[toP,PyData.eqv]
 | .À _,.I _=>by simp[toP,PyData.eqv]
 | .À a,.À b=>by simp only[toP,PyData.eqv,beq_iff_eq,Dt.str.injEq];show%[pJ|λz=>by rw[z]]
 | .À _,.Æ _=>by simp[toP,PyData.eqv]
 | .À _,.É _=>by simp[toP,PyData.eqv]
 | .Æ _,.ă=>by simp[toP,PyData.eqv]
 | .Æ _,.I _=>by simp[toP,PyData.eqv]
 | .Æ _,.À _=>by simp[toP,PyData.eqv]
 | .Æ ds,.Æ es=>by simp only[toP,PyData.eqv,Dt.tup.injEq];show Ox ds es
 | .Æ _,.É _=>by simp[toP,PyData.eqv]
 | .É _,.ă=>by simp[toP,PyData.eqv]
 | .É _,.I _=>by simp[toP,PyData.eqv]
 | .É _,.À _=>by simp[toP,PyData.eqv]
 | .É _,.Æ _=>by simp[toP,PyData.eqv]
 | .É ds,.É es=>by simp only[toP,PyData.eqv,Dt.lst.injEq];show Ox ds es
theorem Ox:∀ds es:İ Dt,PyData.eqvAll (fM ds) (fM es)=Ĵ↔ds=es
 | [],[]=>by simp[fM,PyData.eqvAll]
 | [],_::_=>by simp[fM,PyData.eqvAll]
 | _::_,[]=>by simp[fM,PyData.eqvAll]
 | d::ds,e::es=>by simp only[fM,PyData.eqvAll,eD,List.cons.injEq];rw[Gv d e,Ox ds es]
end
open Classical in
def Je (d e:Dt):PyData.eqv (toP d) (toP e)=ľ (d=e):=by
 by_cases h:d=e;.rw[aw h];show(Gv d e).á h
 .rw[ai h];cases z:PyData.eqv (toP d) (toP e) with| false=>rfl| true=>show Ł ((Gv d e).mp z) h
mutual
inductive eZ (K:W.Ë) (H:Hp):ı->Dt->V->Prop
 | non {n}:eZ K H n .ă .ă
 | int {n} (i:ĸ):eZ K H n (.I i) (.I i)
 | str {n} (l:İ ı) (h:∀c∈l,c<128):eZ K H n (.À l) (.À<|S l)
 | tup {n a ds xs} (h:aQ K H a xs) (hs:tR K H n ds xs):eZ K H (n+1) (.Æ ds) (.v a)
 | lst {n a ds xs} (h:aZ K H a xs) (hs:tR K H n ds xs):eZ K H (n+1) (.É ds) (.v a)
inductive tR (K:W.Ë) (H:Hp):ı->İ Dt->İ V->Prop
 | nil {n}:tR K H n [] []
 | cons {n d ds x xs} (h:eZ K H n d x) (hs:tR K H n ds xs):tR K H n (d::ds) (x::xs)
end
def Uz (h:∀c∈l,c<128):PyData.strOk (S l)=Ĵ:=by unfold PyData.strOk;show l.R.all _=Ĵ;rw[Array.all_eq_true_iff_forall_mem];intro x hx;have:=h x (by simpa using hx);show aw zo
def eZ.lay {K:W.Ë}:∀{n:ı} {d:Dt} {x:V},eZ K H n d x->(toP d).canLay0=Ĵ/\(toP d).depth<=n:=by
 intro n d x h;calc eZ.rec (motive_1:=λn d _ _=>(toP d).canLay0=Ĵ/\(toP d).depth<=n) (motive_2:=λn d _ _=>PyData.canLayAll0 (fM d)=Ĵ/\PyData.depthAll (fM d)<=n) ?_ (λ_=>?_) (λl h=>?_) (λ_ _ i=>?_) (λ_ _ i=>?_) ?_ (λ_ _ a b=>?_) h;.simp[toP,PyData.canLay0,PyData.depth]
 .simp[toP,PyData.canLay0,PyData.depth]
 .simp only[toP,PyData.canLay0,PyData.depth];show%[Uz h|ci _]
 .simp only[toP,PyData.canLay0,PyData.depth];show%[i.1|gg i.2]
 .show%[i.1|gg i.2]
 .simp[fM,PyData.canLayAll0,PyData.depthAll]
 simp only[fM,PyData.canLayAll0,PyData.depthAll,eD];show%[%[a.1|b.1]|Nat.max_le.á %[a.2|b.2]]
def eZ.same {K:W.Ë}(g:aA H H')(st:∀a xs,aQ K H a xs->aQ K H' a xs):∀{n:ı} {d:Dt} {x:V},eZ K H n d x->eZ K H' n d x:=by intro n d x h;show eZ.rec (motive_1:=λn d x _=>eZ K H' n d x) (motive_2:=λn d x _=>tR K H' n d x) .ă .I .À (λh _ i=>.Æ (st _ _ h) i) (λh _ i=>.É (g.ú h) i) .ê (λ_ _=>.Þ) h
def aA.agk {K:W.Ë}{xs:İ V}(e:aA H H')(h:aQ K H a xs):aQ K H' a xs:=by
 rcases h with(h|⟨o,h⟩)|h;.show .Â<|.Â<|e _ _ h
 .show .Â<|.Ð %[o|e _ _ h]
 .show .Ð h
def eZ.mv {K:W.Ë}(g:aA H H'){n:ı}{d:Dt}{x:V}(h:eZ K H n d x):eZ K H' n d x:=h.same g λ_ _=>g.agk
section
variable {X:Cx}
def eZ.reads {ao:AC}{T:St}{H:Hp}{s:Ļ}(I:aM X ao T H s):∀{n:ı} {d:Dt} {x:V} {u:ĳ},eZ X.K H n d x->bQ x u->∃as,ũ s.C u (toP d) as:=by
 intro n d x u h r;calc eZ.rec (motive_1:=λ_ d x _=>∀u,bQ x u->∃as,ũ s.C u (toP d) as) (motive_2:=λ_ d x _=>∀u,Vals x u->∃as,ţ s.C u (fM d) as) (λu r=>?_) (λi u r=>?_) (λl h u r=>?_) (λh _ i u r=>?_) (λh _ i u r=>?_) (λu r=>?_) (λ_ _ i j u r=>?_) h u r;.cases r;show%[[]|by rw[toP];show .Ø]
 .let(t,rfl):=r;show%[[]|by show .I i t]
 .let(t,rfl):=r;show%[[]|by show .À _ t]
 .cases r;let(its,D,pl,_):=I.Ģ h;let(as,F):=i _ D;let(o,g,B,n,hd):=pl;show%[as|by show .Ģ g B hd (by simpa using F)]
 .cases r;let(its,D,pl,_):=I.ğ h;let(as,F):=i _ D;let(o,g,B,n,hd):=pl.ü;show%[_::as|by show .ğ g B hd (by simpa using F)]
 .cases r;show%[[]|by rw[fM];show .ê]
 cases r with| cons q t=>let(as,a):=i _ q;let(bs,b):=j _ t;show%[as++bs|by show .Þ a b]
def eZ.shaped {K:W.Ë}{n:ı}{d:Dt}{x:V}(h:eZ K H n d x)(hn:n<=64):SeqAt.shaped (toP d)=Ĵ:=by unfold SeqAt.shaped;rw[h.lay.1,aw (av h.lay.2 hn)];rfl
open Classical in
def agl (K:W.Ë)(g:ŏ):R2:=λx y H Q=>∃n d e,n<=64/\eZ K H n d x/\eZ K H n e y/\Q (.bl<|if g then !ľ (d=e) else ľ (d=e)) H
def agm (D:X.A.ã+64<cLine):gF X (compareOp .Eq) (agl X.K ķ):=by intro ao s T H x y v u Q I B j h;let(n,d,e,hn,hd,g,q):=h;let(as,F):=hd.reads I B;let(bs,G):=g.reads I j;calc SeqAt.compareEq_shaped F G (hd.shaped hn) (g.shaped hn) D %[1,.bl _,H,I,rb|?_];rw[Je];show q
def Ze (D:X.A.ã+64<cLine):gF X (compareOp .NotEq) (agl X.K Ĵ):=by intro ao s T H x y v u Q I B j h;let(n,d,e,hn,hd,g,q):=h;let(as,F):=hd.reads I B;let(bs,G):=g.reads I j;calc SeqAt.compareNe_shaped F G (hd.shaped hn) (g.shaped hn) D %[1,.bl _,H,I,rb|?_];rw[Je];show q
def agn (K:W.Ë):V->İ V->Hp->VK->Prop:=λx vs H Q=>∃p ls,x=.À (S [])/\vs=[.v p]/\aQ K H p (Ts ls)/\ls.Ê.n<=1000/\Q (.À<|S ls.Ê) H
def Fd:xG X "str.join" (agn X.K):=by
 intro ao s T H x vs v us Q I B D h;let(p,ls,rfl,rfl,g,hz,q):=h;let(t,rfl):=B;let(u,rfl,j):=vals1 D;cases j;let(its,r,pl,_):=I.Ģ g;refine join_tuple pl (ys:=ls.Q S) (by simpa using Jc r) ?_ λt' k=>?_
 .rw[Uy];show _+_*0<=_;lia
 .show%[1,.À<|S ls.Ê,H,I.tok k,%[t'|congrArg (λz=>Value.À z t')<|Ux ls]|q]
def Oz (lo c:ĸ)(n:ı):It:=%[λi _=>i<n,λi H x H'=>H'=H/\x=.I (lo+i*c)|λi _=>n<=i]
def SX {P:ń}{w:ŉ}{K:W.Ë}{tg:ŋ}(it:Ķ)(lo c:ĸ)(n:ı):Turn P w K tg (Oz lo c n) [it] it (λi h=>Ţ h it (lo+(i:ı)*c) ((n:ĸ)-(i:ı)) c) where
 mem:=by simp
 obj:=λi h st b g=>by
  let e:b=it:=by simpa using g
  subst e;show%[0,_,st|λv z=>by let L:Data.ä _=Data.ø v:=z;cases L]
 keep:=λi h h' st k=>k it zr _ st
 item:=by intro X B hw F D i ao s T H E I j st G;subst B hw F;let(f0,f1,f2,f3,f4,f5):=j it zr;let W:=Walks.ñ (prog:=X.prog) (w:=X.w) (I.ok.hd D) it lo c n;calc W.item i s _ _ G st λv h' tk hv st' M=>?_;let(t,rfl):=hv;let I1:aM X ao T H {s with heap:=h',toks:=tk}:=I.Ħ (λb o g e=>M b o (by simpa using g) e) f0 f1 f3 f4 f5;show%[0,_,rb|CV (s:={s with heap:=h',toks:=tk}) (n:="range_iterator") st' rb rb zt %[7,.I<|lo+i*c,H,I1,%[t|rb],%[rb|rb],st'|λb g=>(j b g).1]]
 done:=by intro X B hw F D i ao s T H E I j st G;subst B hw F;let(f0,f1,f2,f3,f4,f5):=j it zr;show wpAny_pyNext_range_end (I.ok.hd D) st (by have:n<=i:=G;lia) λh' J=>%[rb|I.Ħ (t':=s.toks) (λb o g e=>J b o g e) f0 f1 f3 f4 f5]
 self:=λ_ _ _ _ _ st h=>wpAny_pyIter_rangeiter st h
end
def uw {K:W.Ë}{a D:Ķ}{xs:İ V}{te:TE}{I:St}{H:Hp}{R:Hp->Prop}(g:ı->İ V->Hp->Prop)(j:g 0 [] (upd H D<|.É []))(B:∀i ys H,i<=xs.n->g i ys H->aQ K H a xs)(hs:∀i x ys H,xs[i]?=į x->g i ys H->te (į x::I) H (E_ xs.n i D ys<|g<|i+1))(hd:∀ys H,g xs.n ys H->R H):rK (Itt K a) D H R (Ou I gO te):=Dk g j B hs hd
section
variable {X:Cx}{x:ņ}{pos:Pos}
def m9 (g:Gl X x)(hm:∃t,X.mg x=į (.À (S l) t))(hd:ŵ ((x==("__debug__":ņ))=ķ) ŷ):QE X (.ë x pos) (tC<|.À<|S l):=let %[t|e]:=hm;CT g e %[t|rb] hd
def WK (g:Gl X x)(hm:∃t,X.mg x=į (.I i t))(hd:ŵ ((x==("__debug__":ņ))=ķ) ŷ):QE X (.ë x pos) (tC<|.I i):=let %[t|e]:=hm;CT g e %[t|rb] hd
def Gw (g:QE X o to)(hi:QE X i ti)(hs:abq X t)(ha:ŵ (∀v,assign (.ė o i pos) X.Ç v=(do
   let ov <- holding [v] (Ŏ o X.Ç)
   let iv <- holding [v,ov] (Ŏ i X.Ç)
   standAt pos
   holding [v,ov,iv] (setItem ov iv v)
   release [v,ov,iv] [])) Ÿ):QG X (.ė o i pos) (afU to ti t):=⟨afV g.Û hi.Û hs ha⟩
end
def mO:bootBuiltins "all"=į (.Ó "all"):=by decide +kernel
def KJ:bootBuiltins "any"=į (.Ó "any"):=by decide +kernel
def abN {K:W.Ë}(X:K.In h)(G:h.Ns mainGlobals mg)(a:W.nsIn K mainGlobals x=į (į<|.À (S l) t)):∃t,mg x=į (.À (S l) t):=%[t|mN X G a]
def abO {K:W.Ë}(X:K.In h)(G:h.Ns mainGlobals mg)(a:W.nsIn K mainGlobals x=į (į<|.I i t)):∃t,mg x=į (.I i t):=%[t|mN X G a]
section
variable {X:Cx}
def m_ (K:W.Ë)  (h:ŵ (X.K=K) Ŷ):Ur X (Oh K):=by subst h;show bA
def OD (K:W.Ë)  (h:ŵ (X.K=K) Ŷ):fD X (.Ó "isinstance") (adK K):=by subst h;show gH
def OJ (K:W.Ë)  (h:ŵ (X.K=K) Ŷ):xG X "str.join" (rJoin K):=by subst h;show o8
def O1 {name:ņ}{apos cpos:Pos}{T id:ŕ}(K:W.Ë)(J:Ű T)(slot:Slot T name id)(F:typeOf (.Ó id)=pure (.È "method_descriptor"))(hm:xG X id r)(G:QE X o to)(ha:QA X (e::es) t)(j:ŵ (attributeBase o name X.Ç (Ŏ o X.Ç)=Ŏ o X.Ç) Ŷ)(D:ŵ (((backTo cpos<|starEach (e::es) X.Ç).all (λx=>!x.1)&&(backToKw cpos<|keywordEach [] X.Ç).all (λx=>x.1.Ě)
   && ľ ((e::es).n+([]:İ ś).n+(if ([]:İ ś).isEmpty then 0 else 1)<30))=Ĵ) Ŷ) (B:ŵ ((apos.endLine==cpos.line)=Ĵ) Ŷ) (hs:ŵ (Ņ (e::es) X.Ç=(ķ,Ŏ e X.Ç)::Ņ es X.Ç) Ŷ) (g:ŵ ((backTo cpos<|Ņ es X.Ç).ġ (·.1)=ķ) Ŷ) (h:ŵ (X.K=K) Ŷ):QE X (.ĭ (.Ā o name apos) (e::es) [] cpos) (YT K T r to t):=by subst h;show d7 J slot F hm G ha j D B hs g
end
def dN (l:İ ı):İ ı:=l.takeWhile λc=>c != 46
def cJ (l:İ ı):İ ı:=(l.ö.takeWhile λc=>c != 46).ö
theorem yO:∀{l:İ ı} {i:ı},l[i]?=į 46->(∀k,k<i->l[k]?≠į 46)->dN l=l.Ã i
 | [],i,h,_=>by simp at h
 | c::l,0,h,_=>by
  have:c=46:=by simpa using h
  subst this;simp[dN]
 | c::l,i+1,h,hk=>by let B:c≠46:=λe=>hk 0 zo (by simp[e]);let j:=yO (l:=l) (i:=i) (by simpa using h) (λk g=>by have:=hk (k+1)<|ny g;simpa using this);unfold dN at j ⊢;rw[xN (by simpa using B),j,xj]
def Bg (h:46∉l):dN l=l:=by
 unfold dN
 induction l with| nil=>rfl| cons c r ih=>have g:c≠46:=λe=>h (by rw[e];show aE);rw[xN (by simpa using g),ih λz=>h (ay _ z)]
def Bh (h:46∉l):cJ l=l:=by have:=Bg (l:=l.reverse) (by simpa using h);unfold dN at this;unfold cJ;rw[this,wq]
def O4 (h:l[i]?=į 46)(hk:∀k,i<k->l[k]?≠į 46):cJ l=l.Ì (i+1):=by
 let hi:i<l.n:=(am.mp h).1;let e:dN l.ö=l.ö.Ã (l.n-(i+1)):=by
  refine yO ?_ λk g=>?_
  .rw[List.getElem?_reverse (ed zo zo),show l.n-1-(l.n-(i+1))=i by lia];show h
  .rw[List.getElem?_reverse (by simp[dL,ee]at *;lia)];show hk _ (by simp[dL,ee]at *;lia)
 unfold dN at e;unfold cJ;rw[e,List.take_reverse,wq,show l.n-(l.n-(i+1))=i+1 by rw[fF (by assumption)]]
def O5 (l:İ ı)(n:ı):nH l Ĳ (į (n:ĸ))=l.Ã n:=by
 unfold nH;rw[HT.I_];show (l.Ì 0).Ã (min n l.n-0)=_;rw[uu,Nat.sub_zero];by_cases h:n<=l.n;.rw[tq h]
 .rw[wa zo,cn (ag _),cn zo]
def yP (l:İ ı)(n:ı):nH l (į (n:ĸ)) Ĳ=l.Ì n:=by
 unfold nH;rw[HT.I_];show (l.Ì<|min n l.n).Ã (l.n-min n l.n)=_;rw[cn (by rw[cS];lia)];by_cases h:n<=l.n;.rw[tq h]
 .rw[wa zo,vE (ag _),vE zo]
def Nz (l)(i j):Builtin.Str.strSub (S l) i j=S ((l.Ã j).Ì i):=by unfold Builtin.Str.strSub S;congr 1;apply kX.mp;simp[List.drop_take]
section
variable {X:Cx}
def Zf (l):(Txt.partition (S l)<|S [46]).1=S (dN l):=by
 rcases partition_head (S l) (S [46]) with⟨e,h⟩|⟨i,e,h,hk⟩
 .rw[e,Bg λhm=>?_];let(i,hi):=lL.mp hm;show h i<|(iP (S l) 46 i).á hi
 .rw[e,Nz,uu,yO (l:=l) ((iP (S l) 46 i).mp h) λk g z=>hk k g ((iP (S l) 46 k).á z)]
def WL (l):(Txt.rpartition (S l)<|S [46]).2.2=S (cJ l):=by
 unfold Txt.rpartition;rcases StrLaws.last_spec (S l) (S [46]) with⟨e,h⟩|⟨i,e,h,hk⟩
 .rw[e];show S l=_;rw[Bh λhm=>?_];let(i,hi):=lL.mp hm;show h i<|(iP (S l) 46 i).á hi
 .rw[e];show Builtin.Str.strSub (S l) (i+1) l.n=_;rw[Nz,cn (ag _),O4 (l:=l) ((iP (S l) 46 i).mp h) λk g z=>hk k g ((iP (S l) 46 k).á z)]
def aii:V->İ V->Hp->VK->Prop:=λx vs H Q=>∃l,x=.À (S l)/\vs=[.À (S [46])]/\l.n<=1000/\∀(p:Ķ) (b c:ņ),H p=Ĳ->Q (.v p) (upd H p<|.Æ [.À (S<|dN l),.À b,.À c])
def aee:xG X "str.partition" aii:=by
 intro ao s T H x vs v us Q I D G h;let(l,rfl,rfl,hz,q):=h;let(t,rfl):=D;let(u,rfl,j):=vals1 G;let(B,rfl):=j;let hsz:(S l).n<=Ŀ:=ar<|aJ hz;calc call_meets F.slot_str_partition (typeIs_str _ _ _) F.entry_str_partition (F.args_str_partition_2 _ _) (meets_str_partition (S l) (S [46]) t B rb hsz) ?_;let e:=Zf l;let g:=λb c=>q s.d b c<|I.ì.ß<|ag _;rw[<-e]at g;unfold Txt.partition at g
 revert g
 cases Builtin.Str.occurrences (S l) (S [46]) 0 (S l).n 1 with| nil=>intro g;calc%[1,.v s.d,_,I.Ĭ (o:=.Æ _) (t':=s.Ý+1) (λb ob z=>af _ z) (ag _) ?_,rb|g Str.empty Str.empty];show%[12,zsz 3,_,.Þ %[_|rb]<|.Þ %[_|rb]<|.Þ %[_|rb] .ê|%[34,_,a6 _ rb,rb,0|rb]]| cons i r=>intro g;calc%[1,.v s.d,_,I.Ĭ (o:=.Æ _) (t':=s.Ý+1+1) (λb ob z=>af _ z) (ag _) ?_,rb|g (S [46])<|Builtin.Str.strSub (S l) (i+(S [46]).n) (S l).n];show%[12,zsz 3,_,.Þ %[_|rb]<|.Þ %[_|rb]<|.Þ %[_|rb] .ê|%[34,_,a6 _ rb,rb,0|rb]]
def ago:V->İ V->Hp->VK->Prop:=λx vs H Q=>∃l,x=.À (S l)/\vs=[.À (S [46])]/\l.n<=1000/\∀(p:Ķ) (a b:ņ),H p=Ĳ->Q (.v p) (upd H p<|.Æ [.À a,.À b,.À (S<|cJ l)])
def abP:xG X "str.rpartition" ago:=by
 intro ao s T H x vs v us Q I D G h;let(l,rfl,rfl,hz,q):=h;let(t,rfl):=D;let(u,rfl,j):=vals1 G;let(B,rfl):=j;let hsz:(S l).n<=Ŀ:=ar<|aJ hz;calc call_meets F.slot_str_rpartition (typeIs_str _ _ _) F.entry_str_rpartition (F.args_str_rpartition_2 _ _) (meets_str_rpartition (S l) (S [46]) t B rb hsz) ?_;let e:=WL l;let g:=λb c=>q s.d b c<|I.ì.ß<|ag _;rw[<-e]at g;unfold Txt.rpartition at g
 revert g
 cases Builtin.Str.lastOccurrence (S l) (S [46]) 0 (S l).n with| none=>intro g;calc%[1,.v s.d,_,I.Ĭ (o:=.Æ _) (t':=s.Ý+1) (λb ob z=>af _ z) (ag _) ?_,rb|g Str.empty Str.empty];show%[12,zsz 3,_,.Þ %[_|rb]<|.Þ %[_|rb]<|.Þ %[_|rb] .ê|%[34,_,a6 _ rb,rb,0|rb]]| some i=>intro g;calc%[1,.v s.d,_,I.Ĭ (o:=.Æ _) (t':=s.Ý+1+1) (λb ob z=>af _ z) (ag _) ?_,rb|g (Builtin.Str.strSub (S l) 0 i)<|S [46]];show%[12,zsz 3,_,.Þ %[_|rb]<|.Þ %[_|rb]<|.Þ %[_|rb] .ê|%[34,_,a6 _ rb,rb,0|rb]]
end
def abQ {X:Cx}{g iter tg:ŋ}{ns N2:İ ņ}{f:St->St}{TP:V->Hp->(St->Prop)->Prop}{ifs:İ ŋ}{scope:Œ}{wi:TI}(F:X.ī=Ĵ)(ok:fG X scope ns N2 f)(hi:PI X tg iter wi)(G:∀cl C s₀ H₀ fp,KD (fL X scope cl C (ns++N2) s₀ H₀ fp) tg ns.n TP)(J:∀cl C s₀ H₀ fp,PTs (fL X scope cl C (ns++N2) s₀ H₀ fp) ifs tt)(j:∀cl C s₀ H₀ fp,PE (fL X scope cl C (ns++N2) s₀ H₀ fp) g te)(hs:ŵ (∀x,foldedSetIterable iter X.Ç x=pure x) Ÿ):PE X (.ListComp g [%[tg,iter,ifs|0]] scope pos) (Ba f ns.n wi TP tt te):=λao s T H Q I h=>by rw[eval_ListComp];show Bb F ok hi G J j hs I h λD C L M m hn bk _ q=>%[0,m,hn|λh' B=>%[1,.v D,L,bk h' B,rb|q]]
def eN (ks:İ ı):ı->St->St
 | _,[]=>[]
 | i,v::r=>(if ks.contains i=Ĵ then Ĳ else v)::eN ks (i+1) r
theorem KN (ks):∀(i:ı) (I:St),(eN ks i I).n=I.n
 | _,[]=>rfl
 | i,_::r=>by rw[eN,b8,b8,KN ks (i+1) r]
theorem KQ (ks):∀(i:ı) (I:St) (j:ı) (v:V),(eN ks i I)[j]?=į (į v)->ks.contains (i+j)=ķ/\I[j]?=į (į v)
 | _,[],j,v,h=>by simp[eN]at h
 | i,x::r,0,v,h=>by
  rw[eN]at h;cases e:ks.contains i with| true=>rw[e]at h;simp at h| false=>rw[e]at h;show⟨by first|rfl|show e,by simpa using h⟩
 | i,x::r,j+1,v,h=>by rw[eN,uC]at h;let(a,b):=KQ ks (i+1) r j v h;show%[by rw[show i+(j+1)=i+1+j by lia];show a|by rw[uC];show b]
def agp (sc:Œ)(N:İ ņ)(scope:Œ)(N2:İ ņ)(ks:İ ı):ŏ:=scope.ý == .function&&scope.Ú.all (λy=>y.2 != .ø)&&scope.Ú.all (λy=>y.2 != .û||scope.Ú.Å y.1==į .û) &&
 scope.Ú.all (λy=>y.2 != .Õ||sc.Ú.Å y.1==į .ø||sc.Ú.Å y.1==į .Õ)&&N2.n==N.n &&
 (List.ñ N.n).all (λi=>ks.contains i||(N2[i]? == N[i]? && (N[i]?.Q λy=>scope.Ú.Å y != į .û)==į Ĵ))
def fG.of {X:Cx}(N2)(ks)(h:agp X.Ç.č X.N scope N2 ks=Ĵ):fG X scope ns N2 (eN ks 0):=by
 unfold agp at h;simp only[eD,kR,Bool.or_eq_true,bne_iff_ne,beq_iff_eq,ne_eq]at h;let(((((h1,L),G),F),D),J):=h;refine%[h1,λy g=>L y g,λy g e=>(G y g).resolve_left λz=>z e,λy g e=>?_,KN ks 0,D|λI i y v e1 e2=>?_]
 .rcases F y g with(z|z)|z;.show Ł e z
  .show .Â z
  .show .Ð z
 .let(a,b):=KQ ks 0 I i v e2;rw[iO]at a;let hi:i<X.N.n:=by rw[<-D];show(am.mp e1).1
  rcases J i (cz.á hi) with z|⟨j,B⟩;.rw[a]at z;cases z
  .rw[<-j,e1]at B;rw[j]at e1;show%[e1,b|by simpa using B]
def UG {X:Cx}{scope:Œ}{N:İ ņ}(K:W.Ë)(L:X.ī=Ĵ)(B:N.Ö)(J:N[0]?=į x)(h1:N[1]?=į y)(hx:scope.Ú.Å x=į .û)(F:scope.Ú.Å y=į .û)(M:ŵ (X.K=K) Ŷ):KD (fL X scope cl C N s₀ H₀ fp) (.ģ [.ë x px,.ë y py] k pos) 2 (λv H Q=>∃a p q,v=.v a/\aQ K H a [p,q]/\Q [į p,į q]):=by
 subst M;intro ao s pre rest H v u Q hp I r q;let(a,p,g,rfl,G,q):=q;obtain⟨j,p1,rfl⟩:∃j p1,pre=[j,p1]:=by
  match pre,hp with| [j,p1],_=>show%[6,j,p1|rb]
 let P:PG (fL X scope cl C N s₀ H₀ fp) (.ģ [.ë x px,.ë y py] k pos) (Wd X.K 2<|yG (j8 0)<|yG (j8 1) Wc):=Oc (X:=fL X scope cl C N s₀ H₀ fp) L<|qy (qx (i:=0) B J (.Â<|lookup_relabel_local hx)<|.Ð<|lookup_relabel_local hx)<|qy (qx (i:=1) B h1 (.Â<|lookup_relabel_local F)<|.Ð<|lookup_relabel_local F) IV;refine bM (P ao s _ H (.v a) u (λD H'=>H'=H/\D=į p::į g::rest) I r
  %[44,a,[p,g],rb,G,rb,p,[g],rb,g,[],rb,rb|%[rb|rb]]) λ_ s' ⟨D,H',O,e1,e2⟩=>?_
 subst e1 e2;show%[2,[į p,į g],rb,O|q]
def o9 {X:Cx}{scope:Œ}{N:İ ņ}(K:W.Ë)(M:X.ī=Ĵ)(D:N.Ö)(L:N[0]?=į x)(h1:N[1]?=į y)(Y:N[2]?=į z)(hx:scope.Ú.Å x=į .û)(G:scope.Ú.Å y=į .û)(hz:scope.Ú.Å z=į .û)(O:ŵ (X.K=K) Ŷ):KD (fL X scope cl C N s₀ H₀ fp) (.ģ [.ë x px,.ë y py,.ë z pz] k pos) 3 (λv H Q=>∃a p q r,v=.v a/\aQ K H a [p,q,r]/\Q [į p,į q,į r]):=by
 subst O;intro ao s pre rest H v u Q hp I r q;let(a,p,j,g,rfl,J,q):=q;obtain⟨B,p1,p2,rfl⟩:∃B p1 p2,pre=[B,p1,p2]:=by
  match pre,hp with| [B,p1,p2],_=>show%[5,B,p1,p2|rb]
 let P:PG (fL X scope cl C N s₀ H₀ fp) (.ģ [.ë x px,.ë y py,.ë z pz] k pos) (Wd X.K 3<|yG (j8 0)<|yG (j8 1)<|yG (j8 2) Wc):=Oc (X:=fL X scope cl C N s₀ H₀ fp) M<|qy (qx (i:=0) D L (.Â<|lookup_relabel_local hx)<|.Ð<|lookup_relabel_local hx)<|qy (qx (i:=1) D h1 (.Â<|lookup_relabel_local G)<|.Ð<|lookup_relabel_local G)<|qy (qx (i:=2) D Y (.Â<|lookup_relabel_local hz)<|.Ð<|lookup_relabel_local hz) IV;refine bM (P ao s _ H (.v a) u (λF H'=>H'=H/\F=į p::į j::į g::rest) I r
  %[1,a,[p,j,g],rb,J|%[19,rb,p,[j,g],rb|%[6,j,[g]|%[32,rb,g,[],rb,rb,rb|rb]]]]) λ_ s' ⟨F,H',Z,e1,e2⟩=>?_
 subst e1 e2;show%[2,[į p,į j,į g],rb,Z|q]
def jf {X:Cx}{g iter tg:ŋ}{ns N2:İ ņ}{f:St->St}{TP:V->Hp->(St->Prop)->Prop}{ifs:İ ŋ}{scope:Œ}{wi:TI}(B:X.ī=Ĵ)(ok:fG X scope ns N2 f)(hi:QI X tg iter wi)(D:∀cl C s₀ H₀ fp,KD (fL X scope cl C (ns++N2) s₀ H₀ fp) tg ns.n TP)(F:∀cl C s₀ H₀ fp,Za (fL X scope cl C (ns++N2) s₀ H₀ fp) ifs tt)(j:∀cl C s₀ H₀ fp,QE (fL X scope cl C (ns++N2) s₀ H₀ fp) g te)(hs:ŵ (∀x,foldedSetIterable iter X.Ç x=pure x) Ÿ):QE X (.ListComp g [%[tg,iter,ifs|0]] scope pos) (Ba f ns.n wi TP tt te):=⟨abQ B ok hi.Û D (λcl C s₀ H₀ fp=>(F cl C s₀ H₀ fp).Û) (λcl C s₀ H₀ fp=>(j cl C s₀ H₀ fp).Û) hs⟩
def vK (n i:ı)(D:Ķ)(TP:V->Hp->(St->Prop)->Prop)(f:St->St)(I:St)(tt:TT)(te:TE)(x:V)(H:Hp)(ys:İ V)(P:İ V->Hp->Prop):Prop:=Ed TP f I tt te x H (E_ n i D ys P) λg=>dR n i (P ys g)
def qR {K:W.Ë}{a:Ķ}{f:St->St}{I:St}{tt:TT}{te:TE}:=@Dk (λH=>aZ K H a) (Ed (λv _ Q=>Q [į v]) f I tt te)
def yQ {K:W.Ë}{a:Ķ}{f:St->St}{I:St}{tt:TT}{te:TE}:=@Dk (λH=>aQ K H a) (Ed (λv _ Q=>Q [į v]) f I tt te)
def O6 {lo:ĸ}{n:ı}{f:St->St}{tt:TT}{D:Ķ}{te:TE}{I:St}{H:Hp}{R:Hp->Prop}(g:ı->İ V->Hp->Prop)(j:g 0 [] (upd H D<|.É []))(hs:∀i ys H,i<n->g i ys H->vK n i D (λv _ Q=>Q [į v]) f I tt te (.I<|lo+i) H ys (g<|i+1))(hd:∀ys H,g n ys H->R H):rK (Ui lo n) D H R (Ed (λv _ Q=>Q [į v]) f I tt te):=Fb n g j (λi ys H h p=>%[h|λx H' y=>by let(rfl,rfl):=y;show hs i ys _ h p]) λys H p=>%[ag _|hd ys H p]
def Gx {l:İ ı}{f:St->St}{tt:TT}{D:Ķ}{te:TE}{I:St}{H:Hp}{R:Hp->Prop}(g:ı->İ V->Hp->Prop)(j:g 0 [] (upd H D<|.É []))(hs:∀i c ys H,l[i]?=some c->g i ys H->vK l.n i D (λv _ Q=>Q [į v]) f I tt te (.À<|S [c]) H ys (g<|i+1))(hd:∀ys H,g l.n ys H->R H):rK (Its l) D H R (Ed (λv _ Q=>Q [į v]) f I tt te):=Fb l.n g j (λi ys H h p=>%[h|λx H' y=>by let(rfl,c,B,rfl):=y;show hs i c ys _ B p]) λys H p=>%[ag _|hd ys H p]
def wH {K KT:W.Ë}{a:Ķ}{f:St->St}{I:St}{tt:TT}{te:TE}:=@Dk (λH=>aZ K H a) (Ed (λv H Q=>∃a p q r,v=.v a/\aQ KT H a [p,q,r]/\Q [į p,į q,į r]) f I tt te)
def ni {K KT:W.Ë}{a:Ķ}{f:St->St}{I:St}{tt:TT}{te:TE}:=@Dk (λH=>aQ K H a) (Ed (λv H Q=>∃a p q r,v=.v a/\aQ KT H a [p,q,r]/\Q [į p,į q,į r]) f I tt te)
def yR (h:te ([į x]++f I) H λy g=>g D=į (.É ys)/\ys.n<Ŀ/\dR n i (P (ys++[y])<|upd g D<|.É<|ys++[y])):vK n i D (λv _ Q=>Q [į v]) f I gO te x H ys P:=by show (if Ĵ=Ĵ then (te ([į x]++f I) H λy g=>g D=į (.É ys)/\ys.n<Ŀ/\dR n i (P (ys++[y])<|upd g D<|.É<|ys++[y])) else dR n i (P ys H));rw[ĺ rfl];show h
def aij {KT:W.Ë}{n i:ı}{p q:V}{f:St->St}{x:V}{ys:İ V}{P:İ V->Hp->Prop}(hx:x=.v a)(j:aQ KT H a [p,q])(h:te ([į p,į q]++f I) H λy g=>g D=į (.É ys)/\ys.n<Ŀ/\dR n i (P (ys++[y])<|upd g D<|.É<|ys++[y])):vK n i D (λv H Q=>∃a p q,v=.v a/\aQ KT H a [p,q]/\Q [į p,į q]) f I gO te x H ys P:=by calc%[27,a,p,q,hx,j|?_];show (if Ĵ=Ĵ then (te ([į p,į q]++f I) H λy g=>g D=į (.É ys)/\ys.n<Ŀ/\dR n i (P (ys++[y])<|upd g D<|.É<|ys++[y])) else dR n i (P ys H));rw[ĺ rfl];show h
def vL {KT:W.Ë}{n i:ı}{p q r:V}{f:St->St}{x:V}{ys:İ V}{P:İ V->Hp->Prop}(hx:x=.v a)(j:aQ KT H a [p,q,r])(h:te ([į p,į q,į r]++f I) H λy g=>g D=į (.É ys)/\ys.n<Ŀ/\dR n i (P (ys++[y])<|upd g D<|.É<|ys++[y])):vK n i D (λv H Q=>∃a p q r,v=.v a/\aQ KT H a [p,q,r]/\Q [į p,į q,į r]) f I gO te x H ys P:=by calc%[59,a,p,q,r,hx,j|?_];show (if Ĵ=Ĵ then (te ([į p,į q,į r]++f I) H λy g=>g D=į (.É ys)/\ys.n<Ŀ/\dR n i (P (ys++[y])<|upd g D<|.É<|ys++[y])) else dR n i (P ys H));rw[ĺ rfl];show h
section
variable {X:Cx}
def aef:V->İ V->Hp->VK->Prop:=λx vs H Q=>∃(l:Addr) (us:AA) (w:İ ı),x=.v l/\vs=[.À (S w)]/\H l=į (.É<|Ts us)/\w∈us/\us.n<=1000/\Q .ă (upd H l<|.É<|Ts<|us.ć w)
def strEq (w:İ ı)(u:ĳ):ŏ:=match u with| .À z _=>z.Ĕ.H==w| _=>false
def Zg {us:AA}:us.ć w=us.eraseIdx (us.idxOf w):=by
 induction us with
 | nil=>rfl
 | cons a r ih=>
  by_cases h:a=w;.subst h;simp
  .rw[r8 (by simpa using h),List.idxOf_cons,cond_eq_ite,Ĺ (by simpa using h),uS,ih]
def Bj:MtM X "list.remove" aef:=by
 intro ao s T H x vs v us Q I L M h;let(l,ls,w,rfl,rfl,B,hw,hz,q):=h;cases L;let(u,rfl,G):=M.one;let(t,rfl):=G;let(z,its,n,r,D,e):=I.Ay B;let Y:its.n=ls.n:=by rw[<-D,aa]
 let O:ls.idxOf w<ls.n:=rS hw;let get:∀(m:ı) (hm:m<its.R.E),∃(tk:Tok) (g:m<ls.n),its.R[m]=.À (S ls[m]) tk:=λm hm=>by
  let g:m<ls.n:=by simp at hm;simp_all
  let(Z,e1,s1):=r.ď (i:=m) (x:=.À (S ls[m])) (by simp[g]);let(tk,rfl):=s1;calc%[6,tk,g|?_];rw[ae hm]at e1;simpa using e1
 refine call_meets F.slot_list_remove %[0,_,e|rb] F.entry_list_remove (F.args_list_remove_2 _ _) (PySem.MeetsSeq.list_remove l its.R n (.À (S w) t) (strEq w) (λy N=>?_) (ls.idxOf w) (by rw[bS];simp_all) ?_ (λm hm j=>?_) (by rw[bS,Y];show ar<|aJ hz)) %[e|?_]
 .let(m,hm,rfl):=Array.mem_iff_getElem.mp N;let(tk,_,e1):=get m hm;rw[e1];show PySem.SeqRoads2.EqGives.À _ _ _ _
 .let(tk,g,e1):=get (ls.idxOf w) (by rw[bS];lia);rw[e1];show (ls[ls.idxOf w]==w)=Ĵ;rw[xw];simp
 .let(tk,g,e1):=get m hm;rw[e1];show (ls[m]==w)=ķ;have:=List.not_of_lt_findIdx (p:=λa=>a==w) (xs:=ls)<|show m<ls.findIdx (λa=>a==w) from j;simpa using this
 .refine%[1,.ă,_,I.Wu (its':=its.eraseIdx (ls.idxOf w)) B e ?_ ?_ ?_,rb|q]
  .rw[Array.eraseIdxIfInBounds,dif_pos (by rw[bS];lia)];simp
  .rw[Zg];let hv:=Vals.eraseIdx (ls.idxOf w) r;let J:∀(xs:AA) (i:ı),Ts (xs.eraseIdx i)=(Ts xs).eraseIdx i:=by
    intro xs
    induction xs with
    | nil=>intro i;rfl
    | cons a r ih=>
     intro i;cases i with| zero=>rfl| succ i=>rw[uS,Ts,bX,Ts,bX,uS];congr 1;show ih i
   rw[J];show hv
  .rw[aa];show av (wt ..)<|ar<|aJ hz
def agq (K:W.Ë):İ V->Hp->VK->Prop:=λxs H Q=>∃(a:Addr) (ws:AA),xs=[.v a]/\aZ K H a (Ts ws)/\ws.n<64/\∀(p:Ķ) (g:AA),H p=Ĳ->g.æ ws->g.Ä (λa b=>ľ (b<a)=ķ)->Q (.v p) (upd H p<|.É<|Ts g)
def Bk:fD X (.Ó "sorted") (agq X.K):=by
 intro ao s T H xs us Q I r h;let(a,ws,rfl,O,J,q):=h;let(u,rfl,G):=vals1 r;cases G;let(its,B,pl,_):=I.ğ O;let Y:its.n=ws.n:=by have:=B.n;simpa using this.symm
 calc sorted_strs pl.ü (Jc B) (by simp_all) λout g M L N=>?_;let(e,D):=sortedAll_at s.C its out;let j:(g.Q λy=>y.Ĕ.H).æ ws:=by have:=L.Q λy:ņ=>y.Ĕ.H;rw[dm]at this;let e:((λy:ņ=>y.Ĕ.H) ∘ S)=id:=rfl;rw[e,ke]at this;show this
 let hv:Vals (Ts<|g.Q λy=>y.Ĕ.H) out.H:=by
  have:=uq M;let es:(g.Q V.À)=Ts (g.Q λy=>y.Ĕ.H):=by rw[Ts,dm];show dS λy _=>by simp[yb,abH]
  rw[es]at this;show this
 let F:(Ts<|g.Q λy=>y.Ĕ.H).n<=Ŀ:=by rw[aa,j.length_eq];show ar<|aJ zo
 refine%[1,.v<|s.d+1,_,I.Ĭ (o:=.É _) (t':=s.toks) (λb o z=>sortedAll_old z) (fA _) %[19,F,out.H,e,hv|by rw[r0];show D],rb|q _ _ (I.ì.ß<|fA _) j<|Bf g N]
def aje (t:TS):TS:=λD T H=>∃j:St->Hp->Prop,t {D with nx:=j} T H/\∀g H',j g H'->D.nx g H'
def nW {st:Ŋ}(h:QS X st t):QS X st (aje t):=⟨λao s T H D I ⟨G,a,b⟩=>by
 calc bM (h.Û ao s T H _ I a) λf s' q=>?_;cases f with
 | next=>let(B,g,j,F):=q;show%[4,B,g,j|b _ _ F]
 | cont=>show q
 | brk=>show q
 | ret v=>show q⟩
end
end L2
namespace L2
open PySem PySem.Spec PyProof.Rows PySem.W
def agr (H:Hp)(cf:Ķ->ı)(a:Ķ):Prop:=∃(x y:Nat) (rest:İ V),H a=į (.Æ<|.I x :: .I y::rest)/\y<1000/\cf a=x*1000+y/\(rest=[]\/∃z,rest=[.À z])
section
variable {X:Cx}{pos:Pos}
def ags (K:W.Ë):İ V->Hp->VK->Prop:=λxs H Q=>∃(L:Addr) (as:İ Ķ) (cf:Ķ->ı),xs=[.v L]/\aZ K H L (as.Q V.v)/\as.n<64/\(∀a∈as,agr H cf a)/\(as.Q cf).Ö/\
 ∀(p:Ķ) (g:İ Ķ),H p=Ĳ->g.æ as->(g.Q cf).Ä (·<·)->Q (.v p) (upd H p<|.É<|g.Q V.v)
def Bl:∀{as:İ Ķ} {us:İ ĳ},Vals (as.Q V.v) us->us=as.Q Value.v:=by
 intro as us h
 induction as generalizing us with
 | nil=>cases h;rfl
 | cons a as ih=>
  cases h with| cons r t=>cases r;rw[bX,ih t]
def Bm:∀(as:İ Ķ),Vals (as.Q V.v) (as.Q Value.v):=by
 intro as
 induction as with| nil=>show .ê| cons a as ih=>show .Þ rb ih
open Classical in
def agt (K:W.Ë)(g:ŏ):R2:=λx y H Q=>∃n d es,n<=60/\eZ K H n d x/\eZ K H n (.Æ es) y/\Q (.bl<|if g then !ľ (d∈es) else ľ (d∈es)) H
open Classical in
theorem Jf (d:Dt):∀es:İ Dt,((fM es).ġ λy=>PyData.eqv y<|toP d)=ľ (d∈es)
 | []=>by simp[fM]
 | e::es=>by
  rw[fM,pE,Jf d es,Je];by_cases z:e=d;.subst z;simp
  .let g:¬d=e:=λy=>z y.Ò
   simp[z,g]
def aeg {o i:ŋ}{td ty:TE}(j:X.A.ã+1<cLine)(g:QE X o td)(hi:QE X i ty)(hs:abC i):QE X (.ė o i pos) (adG td ty):=⟨aea j g.Û hi.Û hs⟩
def abR:QE X (.Dict [] [] pos) Y5:=⟨abF⟩
def agu:İ V->Hp->VK->Prop:=λxs H Q=>∃l:İ ı,xs=[.À (S l)]/\l.n<=1000/\∀p,H p=Ĳ->Q (.v p) (upd H p<|.É<|Ts<|l.Q λc=>[c])
theorem KR:∀(l:İ ı) (us:İ ĳ),us.n=l.n->(∀(i c:ı),l[i]?=į c->∃t,us[i]?=į (.À (S [c]) t))->Vals (Ts<|l.Q λc=>[c]) us
 | [],[],_,_=>.ê
 | [],_::_,h,_=>by simp at h
 | _::_,[],h,_=>by simp at h
 | c::l,u::us,h,k=>by let(t,e):=k 0 c rfl;let e:u=.À (S [c]) t:=bg e;show .Þ %[t|e]<|KR l us (by simpa using h) λi d hd=>k (i+1) d hd
def tU (B:X.ī=Ĵ):fD X (.È "list") agu:=by
 intro ao s T H xs us Q I r h;let(l,rfl,D,q):=h;let(u,rfl,G):=vals1 r;let(t,rfl):=G;let hz:l.n<=Ŀ:=ar<|aJ D;calc call_list_str (I.ok.hd B) (S l) t (λh' tk g L hk M j=>?_) (by show l.R.E<=_;simpa using hz);let hsz:g.E=l.n:=by rw[j.1];show l.R.E=_;simp
 calc%[1,.v s.d,_,I.Ĭ (o:=.É (Ts<|l.Q λc=>[c])) (t':=tk) hk (ag _) %[19,by rw[aa,aa];show hz,g.H,L,?_|by simpa using M],rb|q _<|I.ì.ß<|ag _];calc KR l g.H (by rw[bu];show hsz) λi c B=>?_;let hi:i<g.E:=by rw[hsz];show(am.mp B).1
 let(F,J,e1,e2):=j.2 i g[i] (by simp[hi]);let e1:l.R[i]?=į F:=e1;rw[List.getElem?_toArray,B]at e1;let e1:=bg e1;show%[J|by rw[cx,cp hi,e2,e1];rfl]
end
end L2
namespace L2
open PySem PySem.Spec PyProof.Rows
def aeh {X:Cx}{ix:ı}{F:ņ}{N g:Pos}{j iter tg:ŋ}{ns N2:İ ņ}{f:St->St}{TP:V->Hp->(St->Prop)->Prop}{ifs:İ ŋ}{scope:Œ}{pos:Pos}{wi:TI}{tt:TT}{te:TE}(hN:X.N.Ö)(L:X.N[ix]?=į F)(M:Loc X.Ç.č F)(hc:X.ī=Ĵ)(ok:fG X scope ns N2 f)(hi:PI X tg iter wi)(hg:∀cl C s₀ H₀ fp,KD (fL X scope cl C (ns++N2) s₀ H₀ fp) tg ns.n TP)(ht:∀cl C s₀ H₀ fp,PTs (fL X scope cl C (ns++N2) s₀ H₀ fp) ifs tt)(Z:∀cl C s₀ H₀ fp,PE (fL X scope cl C (ns++N2) s₀ H₀ fp) j te)(hs:ŵ (∀x,foldedSetIterable iter X.Ç x=pure x) Ÿ)(G:ŵ (swapsWith (.ListComp j [%[tg,iter,ifs|0]] scope pos) (į<|.ë F N) g.line X.Ç=pure Ĵ) Ŷ)(hf:ŵ (X.fn F=Ĵ\/X.Ç.č.Ú.Å F=į .û) Ź):PS X (.Assign [.ë F N] (.ListComp j [%[tg,iter,ifs|0]] scope pos) g) (Wf (Ba f ns.n wi TP tt te)<|j8 ix):=λao s T H De I h=>by
 rw[exec_Assign_Name_used _ _ _ _ G];calc ab<|vS<|ab<|ab ?_;calc bM (Q:=λ_ s'=>∃Y H',aM X ao Y H' s'/\De.nx Y H') ?_ λ_ s' hq=>ah<|ah hq;calc Bb (use:=į (assign (.ë F N) X.Ç)) hc ok hi hg ht Z hs I h λD C H4 s5 m hn bk B qn=>?_;calc x_<|vD (bk s5.C<|Heap.Ĉ.Ę _ _) hN L M (show bQ (.v D) (.v D) from rb) (λs6 I6 ⟨a,J,ha⟩ _=>?_) hf;let O:C≠a:=by
  rcases ha with z|z;.rw[z];show B.2.1
  .show λy=>B.2.2.2.2.1 _ _ z y.Ò
 let(o,es,ep,e1,e2):=hn;refine%[0,m,%[31,o,es,ep,(J.2 C O).X e1|e2]|λh' sb=>%[4,_,H4,I6.Ħ (t':=s6.toks) (λb o hb e=>(sb.2 b hb).X e) B.1 B.2.1 B.2.2.2.1 B.2.2.2.2.1 B.2.2.2.2.2|qn]]
def o_ {X:Cx}{ix:ı}{B:ņ}{J g:Pos}{j iter tg:ŋ}{ns N2:İ ņ}{f:St->St}{TP:V->Hp->(St->Prop)->Prop}{ifs:İ ŋ}{scope:Œ}{pos:Pos}{wi:TI}{tt:TT}{te:TE}(N:X.N.Ö)(F:X.N[ix]?=į B)(G:Loc X.Ç.č B)(O:X.ī=Ĵ)(ok:fG X scope ns N2 f)(hi:QI X tg iter wi)(Y:∀cl C s₀ H₀ fp,KD (fL X scope cl C (ns++N2) s₀ H₀ fp) tg ns.n TP)(Z:∀cl C s₀ H₀ fp,Za (fL X scope cl C (ns++N2) s₀ H₀ fp) ifs tt)(L:∀cl C s₀ H₀ fp,QE (fL X scope cl C (ns++N2) s₀ H₀ fp) j te)(hs:ŵ (∀x,foldedSetIterable iter X.Ç x=pure x) Ÿ)(D:ŵ (swapsWith (.ListComp j [%[tg,iter,ifs|0]] scope pos) (į<|.ë B J) g.line X.Ç=pure Ĵ) Ŷ)(M:ŵ (X.fn B=Ĵ\/X.Ç.č.Ú.Å B=į .û) Ź):QS X (.Assign [.ë B J] (.ListComp j [%[tg,iter,ifs|0]] scope pos) g) (Wf (Ba f ns.n wi TP tt te)<|j8 ix):=⟨aeh N F G O ok hi.Û Y (λa b c d e=>(Z a b c d e).Û) (λa b c d e=>(L a b c d e).Û) hs D M⟩
end L2
namespace L2
open PySem PySem.Spec PyProof.Rows PySem.W
open AutoSeq1 (wpAny_loadPart')
section
variable {prog:ń}{w:ŉ}{A:ň}{E:AB}{s:Ļ}
def abS (t:s.C.ħ u a i)(p:s.C.IsTuple a g)(hx:g[i]?=į x)(q:∀h',h'.ħ u a (i+1)->Heap.Ĉ u s.C h'->Q x {s with heap:=h' }):ļ (Ľ prog w) A (Builtin.Ī.nextOf<|.v u) Q E s:=by let(o,j,G,hd):=id t;let(L,D,_,J,B):=p;unfold Builtin.SmallTypes.nextOf;calc ab<|fS (name:=Str.ï "__next__") t.typeIs on<|eI on t.typeIs F.entry_tuple_iterator_next ?_<|F.args_tuple_iterator_next_1 _;show ļ _ _ (Ů (.v u) 0 >>= _) _ _ s;calc ab<|ki j hd (x:=.v a) rb ?_;show ļ _ _ (if (Value.v a==Value.Ø)=Ĵ then _ else _) _ _ s;rw[Ĺ (show ¬((Value.v a==Value.Ø)=Ĵ) from cw)];show ļ _ _ (Ů (.v u) 1 >>= _) _ _ s;calc ab<|ki j hd (x:=.I i 0) rb ?_;show ļ _ _ (seqItems? (.v a) >>= _) _ _ s;calc ab<|ic D B ?_;simp only[cq,hx];calc ab<|lS j hd zr<|ah %[0,x,rb|ah<|q _ ?_<|e9 ..];show%[2,_,gr _ j<|oj<|fw hd _,(u8 ..).X G|by rw[fw hd];simp[rawInt]]
def UJ (G:A.õ=Ĳ)(t:s.C.ħ u a i)(p:s.C.IsTuple a g)(hx:g[i]?=Ĳ)(q:∀h' e,Heap.ExtBut u s.C h'->(∃o,h'.Á e=į o/\o.cls=.È "StopIteration")->E (.v e) {s with heap:=h' }):ļ (Ľ prog w) A (Builtin.Ī.nextOf<|.v u) Q E s:=by
 let(o,j,L,hd):=id t;let(M,B,_,J,D):=p;unfold Builtin.SmallTypes.nextOf;calc ab<|fS (name:=Str.ï "__next__") t.typeIs on<|eI on t.typeIs F.entry_tuple_iterator_next ?_<|F.args_tuple_iterator_next_1 _;show ļ _ _ (Ů (.v u) 0 >>= _) _ _ s;calc ab<|ki j hd (x:=.v a) rb ?_;show ļ _ _ (if (Value.v a==Value.Ø)=Ĵ then _ else _) _ _ s;rw[Ĺ (show ¬((Value.v a==Value.Ø)=Ĵ) from cw)];show ļ _ _ (Ů (.v u) 1 >>= _) _ _ s;calc ab<|ki j hd (x:=.I i 0) rb ?_;show ļ _ _ (seqItems? (.v a) >>= _) _ _ s;calc ab<|ic B D ?_;simp only[cq,hx]
 first|refine ab<|gE<|ab<|lS j hd zr ?_|refine ab<|lS j hd zr ?_
 show ļ _ _ (newExc (.È "StopIteration") [] >>= _) _ _ _;calc ab ?_;simp only[newExc,newTuple];calc ab<|hG ?_ zS;calc ab (m:=firstArgMember _ _)<|qA (a:=Value.none) (by first|rfl|(simp only[firstArgMember];rfl)) ?_;calc hG ?_ zS;simp only[raiseNew];refine ab<|wpAny_handled ?_
 first|rw[show A.ę.õ=Ĳ from G]|rw[G]
 calc ab<|ah<|wpAny_throw ?_;show q _ _ (((e9 ..).â.Í _).Í _) %[0,_,a6 _ rb|rb]
def agv (J:A.õ=Ĳ)(u a:Ķ)(D:a≠u)(g:ŀ ĳ):Ų prog w A u [u,a] g.E (λi v=>g[i]?=į v) (λi h=>h.ħ u a i/\h.IsTuple a g) where
 live:=λ_ _ st=>let %[o,ho|_]:=st.1;%[o|ho]
 frame:=λ_ _ _ st hk=>%[st.1.at λo e=>hk u zr o e|let %[o,ho|r]:=st.2;%[0,o,hk a zr o ho|r]]
 item:=λi s Q E hi st F=>by calc abS st.1 st.2 (x:=g[i]) (by simp[hi]) λh' B j=>?_;show F _ h' s.Ý (by simp[hi]) %[B|let %[o,ho|r]:=st.2;%[0,o,j.â a o D ho|r]] j
 done:=λs Q E st G=>UJ J st.1 st.2 zr G
def newT (a)(g)(n)(dct)(sl):ų (Builtin.«enumerate.__new__» %[[.È "enumerate",.v a]|[]]) (λ_ R s=>s.C.Á a=į {cls:=.È "tuple",dict:=dct,data:=.ú g n,slots:=sl}/\
   R (.ok<|.ret<|.v (s.C.Í {cls:=.È "tuple_iterator",data:=.ä #[.v a,.I 0 0]}).Y.E)
    {s with heap:=(s.C.Í {cls:=.È "tuple_iterator",data:=.ä #[.v a,.I 0 0]}).Í {cls:=.È "enumerate",data:=.ä #[.Ø,.ĉ ķ,.v s.d,œ 0,.Ø,.Ø]} }):=
 .of_wp λprog w A R s h=>by
  let(hp,g,d,tk,os):=s;let(j,h):=h;let B:=sub_enumerate;let L:Heap.IsTuple (Shared.C %[hp,g,d,tk|os]) a _:=%[34,_,j,rb,n|rb]
  wp_walk using ww j
  refine wpAny_stack_any λst=>ah ?_
  split
  .rename_i c _ _ _ _ _;cases(c==Value.È "enumerate")
   .wp_walk using ww j,pT L
    show%[0,_,rb|h]
   .wp_walk using ww j,pT L
    show%[0,_,rb|h]
  .wp_walk using ww j,pT L
   show%[0,_,rb|h]
def aik (L:s.C.IsTuple a g)(q:∀h',Ũ h' (s.d+1) s.d 0 .Ø->h'.ħ s.d a 0->h'.Y.E=s.d+2->(∀b o,s.C.Á b=į o->h'.Á b=į o)->Q (.v<|s.d+1) {s with heap:=h' }):ļ (Ľ prog w) A (call (.È "enumerate") [.v a]) Q E s:=by
 let((c,B,G,sl),J,j,n,hd):=L;replace j:c=.È "tuple":=j;replace hd:G=.ú g n:=hd;subst j hd;calc callType_new tS zt (F.typeCall_enumerate_1 _) (F.newCall_enumerate_1 _) (λobj=>F.args_object_init_2 obj _) F.entry_enumerate_new (newT a g n B sl) %[J|?_];let hz:(s.C.Í {cls:=.È "tuple_iterator",data:=.ä #[.v a,.I 0 0]}).Y.E=s.d+1:=eM ..;show _/\_;rw[hz];let D:Ũ ((s.C.Í {cls:=.È "tuple_iterator",data:=.ä #[.v a,.I 0 0]}).Í {cls:=.È "enumerate",data:=.ä #[.Ø,.ĉ ķ,.v s.d,œ 0,.Ø,.Ø]}) (s.d+1) s.d 0 .Ø:=by have:=a6 (s.C.Í {cls:=.È "tuple_iterator",data:=.ä #[.v a,.I 0 0]}) (o:={cls:=.È "enumerate",data:=.ä #[.Ø,.ĉ ķ,.v s.d,œ 0,.Ø,.Ø]}) rfl;rw[hz]at this;show this
 show%[%[0,_,D|rb]|q _ D %[2,_,af _<|a6 _ rb,rb|rb] (by rw[eM,hz]) λb o x=>af _<|af _ x]
end
section
variable {X:Cx}{ao:AC}{T:St}{H:Hp}{s:Ļ}{h':Ň}
def aM.Jh {t':ı}{fp:İ Ķ}(I:aM X ao T H s)(k:∀b o,b∉fp->s.C.Á b=į o->h'.Á b=į o)(j:∀b∈fp,iB X ao H b):aM X ao T H {s with heap:=h',toks:=t' }:=by
 let B:∀b u,H b=į u->b∉fp:=λb u e z=>by rw[(j b z).1]at e;cases e
 refine I.step (g':=s.gens) (d':=s.drawn) (ch:=fp) (λb F=>?_) (λb o _ _ g e _=>k b o g e) (λb o _ _ g e _=>%[o.slots|k b o g e]) (λ_ _ _ _ n=>n)
  (λb o g e=>%[o|k b o g e]) (λ_ _ e=>e) (λ_ _ _ e=>e) (λb ps e=>%[#[]|by rw[e];simp]) (λm hm=>?_) (λb u e=>?_) I.bare
 .let(f0,f1,f2,f3,f4,f5):=j b F;show%[f3,f1,f4|f5]
 .let(o,es,ep,D,r):=hm;show%[31,o,es,ep,k _ o (λz=>(j _ z).2.1 rb) D|r]
 .refine(I.ì b u e).stay (λc v g q=>k c v ?_ q) (λ_ q=>q) λ_ _ q=>q
  rcases g with z|z;.rw[z];show B b u e
  .show B c _ z
def aM.pair {e it:Ķ}{i tk:ı}{x:V}{u:ĳ}{h1 F:Ň}(I:aM X ao T H s)(G:∀b∈[e,it],iB X ao H b)(le:e<s.d)(M:it<s.d)(N:bQ x u)(Y:h1.Á s.d=į {cls:=.È "tuple",data:=.ú #[.I i tk,u]})(hk:∀b o,b≠e->b≠it->s.C.Á b=į o->h1.Á b=į o)(hs:Heap.Ĉ e h1 F):aM X ao T (upd H s.d<|.Æ [.I i,x]) {s with heap:=F,toks:=tk+1}/\∀b∈[e,it],upd H s.d (.Æ [.I i,x]) b=Ĳ:=by
 let I2:aM X ao T (upd H s.d<|.Æ [.I i,x]) {s with heap:=s.C.Í {cls:=.È "tuple",data:=.ú #[.I i tk,u]},toks:=tk+1}:=I.Ĭ (λb v e=>af _ e) (ag _) %[12,zsz 2,[.I i tk,u],.Þ %[tk|rb]<|.Þ N .ê|%[34,_,a6 _ rb,rb,_|rb]]
 let ne:∀b∈[e,it],b≠s.d:=λb j=>by
  rcases a_.mp j with z|z;.rw[z];show bb le
  .rw[al.mp z];show bb M
 let fr:∀b∈[e,it],upd H s.d (.Æ [.I i,x]) b=Ĳ:=λb j=>by rw[aU (ne b j)];show(G b j).1
 let O:=aM.Jh (s:={s with heap:=s.C.Í {cls:=.È "tuple",data:=.ú #[.I i tk,u]},toks:=tk+1}) (h':=F) (fp:=[e,it]) (t':=tk+1) I2 (λb o j g=>?_) λb j=>?_
 .show%[O|fr]
 .let B:b≠e:=λz=>j (by simp[z])
  let D:b≠it:=λz=>j (by simp[z]);rw[hs.2 b B];rcases Heap.get?_push_cases g with⟨J,L⟩|z
  .rw[J,L];show Y
  .show hk b o B D z
 .let(f0,f1,f2,f3,f4,f5):=G b j;show%[fr b j,f1,f2,f3,f4|f5]
end
def abT (K:W.Ë)(a:Ķ):It:=%[λi H=>∃xs x,aQ K H a xs/\xs[i]?=į x,λi H v H'=>∃T y,H T=Ĳ/\v=.v T/\(∀xs,aQ K H a xs->xs[i]?=į y)/\H'=upd H T (.Æ [.I i,y])|λi H=>∃xs,aQ K H a xs/\xs.n<=i]
def Ji (l:İ ı):It:=%[λi _=>i<l.n,λi H v H'=>∃T c,H T=Ĳ/\v=.v T/\l[i]?=į c/\H'=upd H T (.Æ [.I i,.À (S [c])])|λi _=>l.n<=i]
section
variable {prog:ń}{w:ŉ}{A:ň}{E:AB}{s:Ļ}
def S7 {it:Ķ}{fp:İ Ķ}{n:ı}{B:ı->ĳ->Prop}{St:ı->Ň->Prop}(D:Ų prog w A it fp n B St)(k:ı):Ų prog w A it fp (k+n) (λj v=>∃i,j=k+i/\B i v) (λj h=>∃i,j=k+i/\St i h) where
 live:=λj h ⟨i,_,st⟩=>D.live i h st
 frame:=λj h h' ⟨i,e,st⟩ hk=>%[0,i,e|D.frame i h h' st hk]
 item:=λj s Q E J ⟨i,e,st⟩ F=>by subst e;show D.item i s Q E (by simp_all) st λv h' tk hp st' g=>F v h' tk %[0,i,rb|hp] %[0,i+1,rb|st'] g
 done:=λs Q E ⟨i,e,st⟩ G=>by
  have:i=n:=by lia
  subst this;show D.done s Q E st G
end
def Bo (l:İ ı)(k:ı):It:=%[λi _=>i<l.n,λi H v H'=>∃T c,H T=Ĳ/\v=.v T/\l[i]?=į c/\H'=upd H T (.Æ [.I ((k+i:ı):ĸ),.À (S [c])])|λi _=>l.n<=i]
def Gy {P:ń}{w:ŉ}{K:W.Ë}{elts:İ ŋ}{x1}{pos:Pos}{ty:ŕ}(J:ty="str_ascii_iterator"\/ty="str_iterator")(l:İ ı)(k:ı)(t:Tok)(it e:Ķ):Turn P w K (.ģ elts x1 pos) (Bo l k) [e,it] e (λi h=>e≠it/\i<=l.n/\(∃g,Ũ h e it ((k+i:ı):ĸ) g)/\h.Ġ it ty (S l) t i) where
 mem:=by simp
 obj:=λi h st b N=>by
  let(_,_,(g,B),o,L,_,hd):=st;rcases a_.mp N with z|z;.show%[0,_,by rw[z];show B|λv y=>by cases y]
  .show%[0,o,by rw[al.mp z];show L|λv y=>by rw[hd]at y;cases y]
 keep:=λi h h' st k=>by let(n,le,(g,B),o,L,r):=st;show%[n|%[20,le,%[g|k e zr _ B],o,k it zr o L|r]]
 item:=by
  intro X F hw hK hc i ao s T H E I Z st Y;subst F hw hK;let(ne,le,(g,B),hs):=st;let G:X.A.ę.õ=Ĳ:=by simp[I.ok.hd hc]
  let hg':k+i<k+(S l).Ĕ.E:=sv Y k;let M:∀(D:Ų X.Ï X.w X.A.ę it [it] (S l).Ĕ.E (λi v=>∃c u,(S l).Ĕ[i]?=į c/\v=.À ⟨#[c]⟩ u) (λi h=>h.Ġ it ty (S l) t i)),
    ļ (Ľ X.Ï X.w) X.A (pyNext<|.v e) (λr s1=>∃u,r=į u/\ļ (Ľ X.Ï X.w) X.A (letOwnedTupleGo (.ģ elts x1 pos) (.v e) u) (λ_ s2=>∃x H',aM X ao T H' s2/\bQ x u/\(Bo l k).Gj i H x H'/\(e≠it/\i+1<=l.n/\(∃g,Ũ s2.C e it ((k+(i+1):ı):ĸ) g)/\s2.C.Ġ it ty (S l) t (i+1))/\∀b∈[e,it],H' b=Ĳ) E s1) E s:=by
   intro D;calc wpAny_pyNext_enum_itemD (S7 D k) B %[0,i,rb|hs] hg' ne (by simp[ne]) λx h' tk F L j hT hsz hk=>?_;let(i',ei,c,u,hc',rfl):=F;let(i'',ei2,j):=j;obtain rfl:i'=i:=by lia
   obtain rfl:i''=i'+1:=by lia
   calc%[0,_,rb|wpAny_letOwnedTupleGo_enum L λh2 he2 O=>?_];let(o,ho2,r2):=j;let(oi,hoi,_):=id hs;let(I3,fr):=aM.pair (i:=k+i') (x:=.À (S [c])) I Z (a9 B) (a9 hoi) %[u|rb] hT hk O;refine%[7,.v s.d,_,I3,rb,%[13,s.d,c,I.ì.ß<|ag _,rb,by simpa [S] using hc'|rb],%[ne|%[20,Y,%[_|by simpa [Int.add_assoc] using he2],o,(O.2 it<|mI ne).X ho2|r2]]|fr]
  rcases J with rfl|rfl;.show M<|Draws.strAscii G it (S l) t
  .show M<|Draws.strWide G it (S l) t
 done:=by
  intro X F hw hK hc i ao s T H E I Z st Y;subst F hw hK;let(ne,le,(g,B),hs):=st;let G:X.A.ę.õ=Ĳ:=by simp[I.ok.hd hc]
  let hi:i=(S l).Ĕ.E:=qf le Y;let j:=hs;rw[hi]at j;let(f0,f1,f2,f3,f4,f5):=Z it zr;rcases J with rfl|rfl
  .show wpAny_pyNext_enum_endD (Draws.strAscii G it (S l) t) B j λh' eb=>%[rb|I.Ħ (t':=s.toks) (λb o N e=>eb b o N e) f0 f1 f3 f4 f5]
  .show wpAny_pyNext_enum_endD (Draws.strWide G it (S l) t) B j λh' eb=>%[rb|I.Ħ (t':=s.toks) (λb o N e=>eb b o N e) f0 f1 f3 f4 f5]
 self:=λA i s Q E st h=>by let(_,_,(g,B),_):=st;show rg B h
def WM {K:W.Ë}{elts:İ ŋ}{x1}{ty:ŕ}(j:ty="str_ascii_iterator"\/ty="str_iterator")(l:İ ı)(t:Tok)(it e:Ķ):Turn P w K (.ģ elts x1 pos) (Ji l) [e,it] e (λi h=>e≠it/\i<=l.n/\(∃g,Ũ h e it i g)/\h.Ġ it ty (S l) t i):=by
 let h:=Gy (P:=P) (w:=w) (K:=K) (elts:=elts) (x1:=x1) (pos:=pos) j l 0 t it e;let e1:Bo l 0=Ji l:=by unfold Bo Ji;simp only[iO]
 simp only[iO]at h;rw[e1]at h;show h
def WQ {P:ń}{w:ŉ}{K:W.Ë}{elts:İ ŋ}{x1}{pos:Pos}(a it e:Ķ):Turn P w K (.ģ elts x1 pos) (abT K a) [e,it] e (λi h=>(e≠it/\a≠e/\a≠it)/\(∃g,Ũ h e it i g)/\h.ħ it a i) where
 mem:=by simp
 obj:=λi h st b hb=>by
  let(_,(g,j),o,D,_,hd):=st;rcases a_.mp hb with z|z;.show%[0,_,by rw[z];show j|λv y=>by cases y]
  .show%[0,o,by rw[al.mp z];show D|λv y=>by rw[hd]at y;cases y]
 keep:=λi h h' st k=>by let(n,(g,j),o,D,r):=st;show%[20,n,%[g|k e zr _ j],o,k it zr o D|r]
 item:=by
  intro X J hw hK hc i ao s C H E I O st hg;subst J hw hK;let((ne,B,G),(g,j),hs):=st;let(xs,x,M,hx):=hg;let(its,rv,p,hz):=I.Ģ M;let(v,hv,ru):=rv.ď hx;let Z:X.A.ę.õ=Ĳ:=by simp[I.ok.hd hc]
  let Y:i<its.R.E:=by have:=(am.mp hv).1;simpa using this
  let hpa:s.C.IsTuple a its.R:=p;calc wpAny_pyNext_enum_itemD (agv Z it a G its.R) j %[hs|hpa] Y ne (by simp[ne,B.symm]) λy h' tk J D hs' N hsz hk=>?_;calc%[0,_,rb|wpAny_letOwnedTupleGo_enum D λh2 he2 L=>?_];let((o,ho2,r2),_):=hs';let(oi,hoi,_):=id hs;let ey:y=v:=by
   let h1:its[i]?=į y:=by simpa using J
   rw[hv]at h1;show(bg h1).Ò
  subst ey;let(I3,fr):=aM.pair (x:=x) I O (a9 j) (a9 hoi) ru N hk L;refine%[7,.v s.d,_,I3,rb,%[13,s.d,x,I.ì.ß<|ag _,rb,λys hy=>by rw[I.Ku hy M];show hx|rb],%[20,%[ne,B|G],%[_|by simpa using he2],o,(L.2 it<|mI ne).X ho2|r2]|fr]
 done:=by
  intro X J hw hK hc i ao s C H E I O st hg;subst J hw hK;let((ne,B,G),(g,j),hs):=st;let(xs,M,hx):=hg;let(its,rv,p,hz):=I.Ģ M;let hl:=rv.n;let Z:X.A.ę.õ=Ĳ:=by simp[I.ok.hd hc]
  let(f0,f1,f2,f3,f4,f5):=O it zr;let N:s.ċ (.v e) "enumerate":=%[0,_,j|rb]
  unfold pyNext;calc ab<|mP<|fS (name:=Str.ï "__next__") N F.slot_enumerate_next<|eI F.slot_enumerate_next N F.entry_enumerate_next ?_<|F.args_enumerate_next_1 _;show ļ _ _ (Ů (.v e) 2 >>= _) _ _ _;calc ab<|ki j rb (x:=.v it) rb ?_;calc ab<|UJ Z hs (show s.C.IsTuple a its.R from p) (by simp;simp_all) λh' x he' hx'=>?_;let(o,D,hc'):=hx';calc ab<|lh (T:="StopIteration") (b:=true) %[0,o,D|hc'] isSubtype_stop ?_;show ah %[rb|I.Ħ (t':=s.toks) (λb o hb e=>he' b o hb e) f0 f1 f3 f4 f5]
 self:=λA i s Q E st h=>by let(_,(g,j),_):=st;show rg j h
section
variable {X:Cx}{elts:İ ŋ}{x1:ı}{tp:Pos}
def agw (ta:TA):TI:=λT H R=>ta T H λvs H1=>∃l,vs=[.À (S l)]/\R (Ji l) H1
def agx (K:W.Ë)(ta:TA):TI:=λT H R=>ta T H λvs H1=>∃a,vs=[.v a]/\(∃xs,aQ K H1 a xs)/\R (abT K a) H1
def O7 (F:Gl X "enumerate")(hm:X.mg "enumerate"=Ĳ)(ha:QA X [a] ta)(hs:ŵ (Ņ [a] X.Ç=[(ķ,Ŏ a X.Ç)]) Ŷ):QI X (.ģ elts x1 tp) (.ĭ (.ë "enumerate" p) [a] [] pos) (agw ta):=⟨by
 intro ao s T H R I h;calc Call_<|nO I F hm boot_enumerate<|ip (bM (ha.Û pos ao s T H _ I h) λus s1 G=>?_) hs rb;let(vs,H1,I1,r1,q1):=G;let(l,e,q):=q1;subst e;cases r1 with
 | cons r rr=>
  cases rr;let(t,rfl):=r;let g:strIterType (S l)="str_ascii_iterator"\/strIterType (S l)="str_iterator":=by unfold strIterType;split <;> simp
  calc call_enumerate_str λh' B j hsz hk=>rg B ?_;calc%[16,s1.d+1,[s1.d+1,s1.d],_,_,H1,rb,I1.ě (t':=s1.toks) hk,WM g l t s1.d _,%[yo _,ci _,%[_|B]|j],λb D=>?_|q];rcases a_.mp D with z|z
  .rw[z];show I1.mH (fA _)<|I1.ì.ß<|fA _
  .rw[al.mp z];show I1.mH (ag _)<|I1.ì.ß<|ag _⟩
def abU (L:Gl X "enumerate")(hm:X.mg "enumerate"=Ĳ)(ha:QA X [a] ta)(hs:ŵ (Ņ [a] X.Ç=[(ķ,Ŏ a X.Ç)]) Ŷ):QI X (.ģ elts x1 tp) (.ĭ (.ë "enumerate" p) [a] [] pos) (agx X.K ta):=⟨by
 intro ao s T H R I h;calc Call_<|nO I L hm boot_enumerate<|ip (bM (ha.Û pos ao s T H _ I h) λus s1 M=>?_) hs rb;let(vs,H1,I1,r1,q1):=M;let(a,e,(xs,F),q):=q1;subst e;cases r1 with
 | cons r rr=>
  cases rr;cases r;let(its,N,D,hz):=I1.Ģ F;let g:a<s1.d:=by
   let(o,G,_):=(show s1.C.IsTuple a its.R from D)
   show a9 G
  calc aik (show s1.C.IsTuple a its.R from D) λh' B j hsz hk=>rg B ?_;calc%[16,s1.d+1,[s1.d+1,s1.d],_,_,H1,rb,I1.ě (t':=s1.toks) hk,WQ a s1.d _,%[%[yo _,bb<|ff g|bb g],%[_|B]|j],λb J=>?_|q];rcases a_.mp J with z|z
  .rw[z];show I1.mH (fA _)<|I1.ì.ß<|fA _
  .rw[al.mp z];show I1.mH (ag _)<|I1.ì.ß<|ag _⟩
end
def Zh {K:W.Ë}{a:Ķ}{xs:İ V}{g:TG}{tb:TS}{D:Ends}{I:St}{H:Hp}(j:ı->St->Hp->Prop)(G:j 0 I H)(B:∀i I H,i<=xs.n->j i I H->aQ K H a xs)(hs:∀i x I H T,xs[i]?=į x->j i I H->H T=Ĳ->g (.v T) I (upd H T<|.Æ [.I i,x]) λI2 F=>tb {D with nx:=j<|i+1,ct:=j<|i+1,bk:=D.nx} I2 F)(hd:∀I H,j xs.n I H->D.nx I H):Ao (abT K a) g tb D I H:=IW xs.n j G (λi I H h p=>%[%[4,xs,xs[i],B i I H (ar h) p|by simp[h]]|λx H' y=>by let(T,y,J,rfl,L,rfl):=y;show hs i y I _ T (L xs<|B i I H (ar h) p) p J]) λI H p=>%[%[0,xs,B _ I H (ag _) p|ag _]|hd I H p]
def Zi {l:İ ı}{f:St->St}{tt:TT}{KT:W.Ë}{D:Ķ}{te:TE}{I:St}{H:Hp}{R:Hp->Prop}(g:ı->İ V->Hp->Prop)(j:g 0 [] (upd H D<|.É []))(hs:∀i c ys H T,l[i]?=some c->g i ys H->H T=none->vK l.n i D (λv H Q=>∃a p q,v=.v a/\aQ KT H a [p,q]/\Q [į p,į q]) f I tt te (.v T) (upd H T<|.Æ [.I i,.À (S [c])]) ys (g<|i+1))(hd:∀ys H,g l.n ys H->R H):rK (Ji l) D H R (Ed (λv H Q=>∃a p q,v=.v a/\aQ KT H a [p,q]/\Q [į p,į q]) f I tt te):=Fb l.n g j (λi ys H h p=>%[h|λx H' y=>by let(T,c,F,rfl,B,rfl):=y;show hs i c ys H T B p F]) λys H p=>%[ag _|hd ys H p]
section
variable {X:Cx}
def O8 (N:X.ī=Ĵ):fD X (.Ó "any") (λxs H Q=>∃(p:Addr) (bs:İ ŏ),xs=[.v p]/\aZ X.K H p (bs.Q V.bl)/\Q (.bl<|bs.ġ id) H):=by
 intro ao s T H xs us Q I r h;let(p,bs,rfl,L,q):=h;let(u,rfl,g):=vals1 r;cases g;let(its,B,pl,hz):=I.ğ L;let F:p≠s.d:=by let(o,M,_):=pl.ü;show bb<|a9 M
 let O:∀(i:ı) (v:ĳ),its[i]?=į v->v=.ĉ (bs.Î i ķ):=λi v hv=>by
  let Y:=B.n;let hi:i<bs.n:=by have:=(am.mp hv).1;simp at Y;simp_all
  let(u,J,g):=B.ď (i:=i) (x:=.bl bs[i]) (by simp[hi]);rw[hv]at J;cases J;cases g;simp[List.getD,hi]
 calc call_any_walk<|oq pl.ü ?_;refine%[58,s.d,_,_,_,_,_,λi=>bs.Î i ķ,rb,Walks.ğ (A:=X.A.in1) (I.ok.hd N) s.d p F its.R,%[%[2,_,a6 _ rb,rb|rb]|pl.ü.at λo e=>af _ e],?_|λh' tk Z=>?_]
 .intro i v s' Q' E' hv j;let e:=O i v (by simpa using hv);subst e;show fe j
 .let I1:aM X ao T H {s with heap:=h',toks:=tk}:=I.ě λb o e=>Z b o (by
   intro hm;have:b=s.d:=by simpa using hm
   subst this;show Ł (a9 e)<|kP _)<|af _ e
  calc%[1,.bl<|bs.ġ id,H,I1,?_|q];show Value.ĉ _=Value.ĉ _;let Y:its.R.E=bs.n:=by have:=B.n;simp at this;simp[this]
  rw[Y];congr 1;let G:∀bs:İ ŏ,(List.ñ bs.n).ġ (λi=>bs.Î i ķ)=bs.ġ id:=λbs=>by
   rw[n5,yv,yv];constructor
   .intro z;let(i,hi,h):=z;let D:=cz.mp hi;show%[0,bs[i],aS _|by simpa [List.getD,D] using h]
   .intro z;let(x,hx,h):=z;let(i,hi,rfl):=cy.mp hx;show%[0,i,cz.á hi|by simpa [List.getD,hi] using h]
  show G bs
end
structure ZA (z ti to u v a b:Ķ):Prop where
 q1:ti≠z
 q2:to≠z
 q3:u≠z
 q4:v≠z
 q5:ti≠to
 q6:ti≠u
 q7:ti≠v
 q8:to≠u
 q9:to≠v
 p1:u≠v
 p2:a≠z
 p3:a≠to
 p4:a≠u
 p5:a≠v
 p6:b≠z
 p7:b≠to
 p8:b≠u
 p9:b≠v
section
variable {X:Cx}{ao:AC}{T:St}{H:Hp}{s:Ļ}
def aM.ail {fp:İ Ķ}{tk:ı}{x y:V}{p q:ĳ}{B:Ň}(I:aM X ao T H s)(D:∀b∈fp,iB X ao H b)(lt:∀b∈fp,b<s.d)(L:bQ x p)(J:bQ y q)(N:B.Á s.d=į {cls:=.È "tuple",data:=.ú #[p,q]})(hk:∀b o,b∉fp->s.C.Á b=į o->B.Á b=į o):aM X ao T (upd H s.d<|.Æ [x,y]) {s with heap:=B,toks:=tk}/\∀b∈fp,upd H s.d (.Æ [x,y]) b=Ĳ:=by
 let I2:aM X ao T (upd H s.d<|.Æ [x,y]) {s with heap:=s.C.Í {cls:=.È "tuple",data:=.ú #[p,q]},toks:=tk}:=I.Ĭ (λb v e=>af _ e) (ag _) %[12,zsz 2,[p,q],.Þ L<|.Þ J .ê|%[34,_,a6 _ rb,rb,_|rb]]
 let fr:∀b∈fp,upd H s.d (.Æ [x,y]) b=Ĳ:=λb j=>by rw[aU (bb<|lt b j)];show(D b j).1
 let M:=aM.Jh (s:={s with heap:=s.C.Í {cls:=.È "tuple",data:=.ú #[p,q]},toks:=tk}) (h':=B) (fp:=fp) (t':=tk) I2 (λb o j g=>?_) λb j=>?_
 .show%[M|fr]
 .rcases Heap.get?_push_cases g with⟨F,G⟩|z;.rw[F,G];show N
  .show hk b o j z
 .let(f0,f1,f2,f3,f4,f5):=D b j;show%[fr b j,f1,f2,f3,f4|f5]
def Zj:bootBuiltins "zip"=į (.È "zip"):=by decide +kernel
end
end L2
namespace HT
open PySem PySem.Spec PyProof.Rows
end HT
namespace L2
open PySem PySem.Spec PyProof.Rows PySem.W
section
variable {a:Ķ}
variable {X:Cx}
variable {o e f:ŋ}{apos cpos:Pos}{td ty tx:TE}
abbrev zl1 (h:Ň)(a:Ķ):Ň:=h.Í {cls:=.È "list_iterator",data:=.ä #[.v a,.I 0 0]}
open Classical in
def ain (K:W.Ë)(g:ŏ):R2:=λx y H Q=>∃n d es,n<=60/\eZ K H n d x/\eZ K H n (.É es) y/\Q (.bl<|if g then !ľ (d∈es) else ľ (d∈es)) H
def Jj (L:X.A.ã+64<cLine):gF X (compareOp .In) (ain X.K ķ):=by intro ao s T H x y v u Q I F D h;let(n,d,es,hn,hd,g,q):=h;let(as,J):=hd.reads I F;let(bs,B):=g.reads I D;let G:=hd.lay;let j:=g.lay;rw[toP]at B;simp only[toP,PyData.canLay0,PyData.depth]at j;calc SeqAt.in_list_reads B J j.1 G.1 (by have:=v_ (PyData.depthAll<|fM es) (toP d).depth;lia) %[1,.bl _,H,I,rb|?_];rw[Jf];show q
def qG (D:X.A.ã+1<cLine)(j:QE X o td)(g:QE X e ty)(B:QE X f tx)(m:M2 X o "get" apos e f cpos):QE X (.ĭ (.Ā o "get" apos) [e,f] [] cpos) (Y6 td ty tx):=⟨abG D j.Û g.Û B.Û m⟩
structure KDict (P:ń)(w:ŉ)(K:W.Ë)(a:Ķ)(kvs:İ (Key×V)):Prop where
 z:(a==sysModules)=ķ
 ex:∃o vs,K.Å a=į o/\KV kvs vs/\o.IsDictOf (cZ P w) vs
def agy (P:ń)(w:ŉ)(K:W.Ë)(td ty tx:TE):TE:=λT H Q=>td T H λx H1=>∃a kvs,x=.v a/\KDict P w K a kvs/\ty T H1 λy j=>tx T j λz g=>∃k,y=kV k/\Q ((dG kvs k).Î z) g
def O9 (O:QE X o td)(D:QE X e ty)(Z:QE X f tx)(m:M2 X o "get" apos e f cpos):QE X (.ĭ (.Ā o "get" apos) [e,f] [] cpos) (agy X.Ï X.w X.K td ty tx):=⟨by
 intro ao s T H Q I h;calc wpAny_Call_method m.ð m.few m.line PySem.F.plainAttrs_dict n9 PySem.F.type_dict_get<|bM (O.Û ao s T H _ I h) λu s1 zz=>?_;let(x,H1,I1,Y,a,kvs,ex,d,q1):=zz;subst ex;obtain rfl:u=Value.v a:=Y;let(ob,vs,hk,B,hd):=d.ex;let g:∀{s':Ļ} {T':St} {H':Hp},aM X ao T' H' s'->s'.C.DictOf (cZ X.Ï X.w) a vs:=λJ=>Heap.dictOf_iff.á %[0,ob,J.j7 a ob hk|hd];refine%[(g I1).typeIs,λb q=>?_|?_]
 .cases q;let(ob,_,_,h1,h2,_):=g I1;show%[0,ob,h1|h2.2.1]
 rw[m.trees];refine kN rb<|rX<|f_<|bM (D.Û ao s1 T H1 _ I1 q1) λiv s2 ⟨y,L,I2,M,q2⟩=>f_<|bM (Z.Û ao s2 T L _ I2 q2) λN s3 ⟨z,F,j,rz,k,G,q3⟩=>ox ?_
 subst G;calc call_meetsIn n9 (g j).typeIs vz (uB _ _ _) (meets_dict_get_default (cZ X.Ï X.w) a (Dg M) d.z N) %[0,_,(g j).mapOf|?_];show%[1,_,F,j.tok _,(B.val k).Î rz|q3]⟩
def aio:İ V->Hp->VK->Prop:=λxs H Q=>∃(l:İ ı) (n:Int),xs=[.À (S l)]/\l.n<=640/\PySem.intText? (S l)=į n/\Q (.I n) H
def Zk:fD X (.È "int") aio:=by intro ao s T H xs us Q I r h;let(l,n,rfl,g,hn,q):=h;let(u,rfl,t,rfl):=vals1 r;show KIN.call_text hn (by simpa [S,Str.length] using g) %[1,.I n,H,I.tok _,%[_|rb]|q]
def aei:V->İ V->Hp->VK->Prop:=λx vs H Q=>∃(l w:İ ı) (i:Nat) (rest:İ ı),x=.À (S l)/\vs=[.À (S w)]/\Builtin.Str.occurrences (S l) (S w) 0 (S l).n 1=i::rest/\Q (.I i) H
def Zm:xG X "str.index" aei:=by intro ao s T H x vs v us Q I B D h;let(l,w,i,rest,rfl,rfl,j,q):=h;let(t,rfl):=B;let(u,rfl,g):=D.one;let(t',rfl):=g;calc call_gives F.slot_str_index (typeIs_str s _ t) F.entry_str_index (F.args_str_index_2 _ _) (gives_str_index (S l) (S w) t t' i rest j) ?_;show EP X ao T Q _ _;show%[1,.I i,H,I.tok _,%[s.Ý|rb]|q]
def agz:İ V->Hp->VK->Prop:=λxs H Q=>∃(d:Addr) (kvs:İ (Key×V)),xs=[.v d]/\H d=į (.dK kvs)/\∀p:Ķ,H p=Ĳ->Q (.v p) (upd H p<|.dK kvs)
def Gz:fD X (.È "dict") agz:=by
 intro ao s T H xs us Q I r h;let(d,kvs,rfl,hd,q):=h;let(u,rfl,B):=vals1 r;cases B;let(hz,lo,vs,g,D):=Ww I.ì hd;calc kt_call_dict lo D (by rw[<-g.length];show hz) λh' j hs=>?_;let lt:sysModules<s.d:=I.big;refine%[1,.v s.d,_,I.Ĭ (o:=.dK kvs) (t':=s.toks) (λb u e=>?_) (ag _) %[20,hz,?_,vs,g|j],rb|q _<|I.ì.ß<|ag _]
 .show hs.â b u (bb<|a9 e)<|af _ e
 .show beq_eq_false_iff_ne.á<|ib lt
end
def Zn {l:İ ı}{g:TG}{tb:TS}{D:Ends}{I:St}{H:Hp}(j:ı->St->Hp->Prop)(F:j 0 I H)(hs:∀i c I H T,l[i]?=į c->j i I H->H T=Ĳ->g (.v T) I (upd H T<|.Æ [.I i,.À (S [c])]) λI2 B=>tb {D with nx:=j<|i+1,ct:=j<|i+1,bk:=D.nx} I2 B)(hd:∀I H,j l.n I H->D.nx I H):Ao (Ji l) g tb D I H:=IW l.n j F (λi I H h p=>%[h|λx H' y=>by let(T,c,J,rfl,G,rfl):=y;show hs i c I _ T G p J]) λI H p=>%[ag _|hd I H p]
def SetT (w:ŉ)(h:Ň)(a:Ķ)(es:ŀ (ĸ×ĳ))(ep:ı)(t:Ō):Prop:=∃o,h.Á a=į o/\o.ExactSet/\o.Ď=.ē es ep t/\t.fits es.E=Ĵ/\(w.è.é "set-order"=Ĵ\/t.led=Ĵ)/\(t.plain=ķ\/es.E=0)
def qH (e:ĸ×ĳ):İ ı:=match e.2 with| .À x _=>x.cps.toList| _=>[]
structure Bp (w:ŉ)(es:ŀ (ĸ×ĳ))(ws:AA):Prop where
 sh:∀e∈es.H,∃(l:İ ı) (u:Tok),e=(hashStr w<|S l,.À (S l) u)
 nd:(es.H.Q qH).Ö
 mem:∀l,l∈es.H.Q qH↔l∈ws
def SetT.mv {h h':Ň}(m:SetT w h a es ep t)(k:∀o,h.Á a=į o->h'.Á a=į o):SetT w h' a es ep t:=let %[o,p|q]:=m;%[0,o,k _ p|q]
def SetT.ty {s:Ļ}(m:SetT w s.C a es ep t):s.ċ (.v a) "set":=let %[o,p,q|_]:=m;%[0,o,p|q.1]
def SetT.lt (m:SetT w h a es ep t):a<h.Y.E:=let %[o,p|_]:=m;a9 p
def Bp.el (prog)(m:Bp w es ws):ElemsOf (PySem.strKind prog w) es.H:=λe g=>by let(l,u,rfl):=m.sh e g;show%[%[0,S l,strKind_is _ _ _ _|rb]|rb]
def Zo (t:Ō)(n):(t.orStandIn n).led=t.led:=by unfold SetTable.orStandIn;split <;> rfl
def aej (t)(es)(h)(x):(layNew t es h x).2.1.led=t.led:=by
 unfold layNew;split;.show Zo _ _
 .rfl
def Zq (t)(es)(n):(relayAll t es n).2.1.led=t.led:=by
 unfold relayAll SetTable.relaid SetTable.laid;cases h:SetTable.layClean (SetTable.sizeAbove n-1) (es.Q (·.1)) with| none=>rfl| some o=>dsimp only[bind,Option.bind,pure];split <;> rfl
def S8 (t:Ō)(es)(n)(hp:t.plain=ķ):(relayAll t es n).2.1.plain=ķ:=by
 unfold relayAll SetTable.relaid SetTable.laid;cases h:SetTable.layClean (SetTable.sizeAbove n-1) (es.Q (·.1)) with
 | none=>rfl
 | some o=>
  dsimp only[bind,Option.bind,pure];split;.show hp
  .rfl
def Bp.perm {es g:ŀ (ĸ×ĳ)}(m:Bp w es ws)(p:g.H.æ es.H):Bp w g ws:=%[λe j=>m.sh e<|p.à.mp j,(p.Q qH).nodup_iff.á m.nd|λl=>(p.Q qH).à.X<|m.mem l]
section
variable {prog:ń}{w:ŉ}{A:ň}{E:AB}{s:Ļ}{a:Ķ}{es:ŀ (ĸ×ĳ)}{ep:ı}{t:Ō}{ws:AA}
def tV {g:ŀ (ĸ×ĳ)}{t':Ō}(m:SetT w s.C a es ep t)(J:t'.fits g.E=Ĵ)(F:t'.led=t.led)(hp:t'.plain=ķ)(hz:g.E<scanBound)(q:∀h',Heap.Ĉ a s.C h'->SetT w h' a g (ep+1) t'->Q () {s with heap:=h' }):ļ (Ľ prog w) A (storeSet a g t') Q E s:=by let(o,D,j,hd,_,G,_):=m;calc wpAny_storeSet_of D hd (q _ (e9 s.C a<|Obj.putSet g t') ?_)<|fits_of_scanBound hz;let B:=gr (Obj.putSet g t') D (by rw[putSet_of g t' hd];rfl);rw[putSet_of g t' hd]at B;show%[38,_,B,j,rb,J,by rw[F];show G|.Â hp]
def abV (m:SetT w s.C a es ep t)(el:Bp w es ws)(hz:es.E+1<scanBound)(q:∀b h' D J t',Heap.Ĉ a s.C h'->SetT w h' a D J t'->Bp w D (ws++[l])->D.E<=es.E+1->Q b {s with heap:=h' }):ļ (Ľ prog w) A (setAddHashed a (.À (S l) u)<|hashStr w<|S l) Q E s:=by
 let hel:=el.el prog;let hkey:(PySem.strKind prog w).is (S l) (.À (S l) u)=Ĵ:=strKind_is _ _ _ _;let(o,ho,hex,hd,hf,hb,hp):=id m;unfold setAddHashed setAddHashedIn;calc eC<|ab<|fT ho hd hf ?_;dsimp only;rw[byScan_of (knd:=PySem.strKind prog w) rb (ar hz) hel];simp only[↓reduceIte];unfold setAddByScan;calc ab ?_;calc ab<|gE ?_;calc ab<|wpAny_setScan_of (knd:=PySem.strKind prog w) hkey ho hd hf hel ?_;let dU:∀e∈es.H,(PySem.strKind prog w).is (S l) e.2=ľ (qH e=l):=λe N=>by
  let(Y,u',rfl):=el.sh e N;show (Value.isStrOf (S l)<|.À (S Y) u')=ľ (Y=l);by_cases e:Y=l;.subst e;simp[Value.isStrOf]
  .have:¬S l=S Y:=λz=>e (pJ z).Ò
   simp[Value.isStrOf,e,this]
   try show λz=>this z.Ò
 cases hr:List.findIdx? (λe=>(PySem.strKind prog w).is (S l) e.2) es.H with
 | some j=>
  dsimp only;let(hj,hpj,_):=List.findIdx?_eq_some_iff_getElem.mp hr;let hl:l∈es.H.Q qH:=aI.á %[0,_,aS hj|by have:=dU _<|aS hj;rw[hpj]at this;simpa using this.symm];calc ah<|ah ?_;let e:s={s with heap:=s.C}:=by cases s;rfl
  rw[e];calc q _ s.C es ep t (Heap.Ĉ.Ę a s.C) m %[el.sh,el.nd|λY=>?_]<|fA _;rw[el.mem Y,a8,al];show%[.Â|λz=>z.í id λz=>z ▸ (el.mem l).mp hl]
 | none=>
  dsimp only;let hnl:l∉es.H.Q qH:=λz=>by let(e,N,ek):=aI.mp z;let h1:=List.findIdx?_eq_none_iff.mp hr e N;rw[dU e N,ek]at h1;simp at h1
  let hgw:∀(b:ŏ) {s₁:Ļ} {Q':Ş->Ļ->Prop},Q' () s₁->ļ (Ľ prog w) A (match b with|true=>rule "set.scan.the-table-gave-way"|false=>pure ()) Q' E s₁:=λb s₁ Q' hq=>by cases b <;> first|show ah hq|show gE hq
  let B:=layNew_perm t es (hashStr w<|S l)<|.À (S l) u;let F:=layNew_fits t es (hashStr w<|S l)<|.À (S l) u;let WR:=aej t es (hashStr w<|S l)<|.À (S l) u;let ajS:(PySem.strKind prog w).þ (S l)=hashStr w (S l):=rfl;generalize hL:layNew t es (hashStr w<|S l) (.À (S l) u)=L at B F WR ⊢;let(g,t1,M,gave):=L;dsimp only at B F WR ⊢;rw[f6]at B;let hsz1:g.E=es.E+1:=by rw[<-bu,B.length_eq,ax,bu];rfl
  let el1:Bp w g (ws++[l]):=by
   let el0:Bp w (es.Í (hashStr w<|S l,.À (S l) u)) (ws++[l]):=by
    refine%[λe N=>?_,?_|λY=>?_]
    .rw[f6]at N;rcases a8.mp N with N|N;.show el.sh e N
     .rw[al]at N;show%[6,l,u|N]
    .rw[f6,bo];calc rc.á %[el.nd,zr|λx hx y hy=>?_];have:y=l:=al.mp hy;subst this;show λz=>hnl<|z ▸ hx
    .rw[f6,bo,a8,a8,el.mem Y];rfl
   show el0.perm (by rw[f6];show B)
  let fin:∀{R:ĵ ŏ->Ļ->Prop} (G:Ō),G.fits g.E=Ĵ->G.led=t.led->G.plain=ķ->(∀h' D J t',Heap.Ĉ a s.C h'->SetT w h' a D J t'->Bp w D (ws++[l])->D.E<=es.E+1->R (į Ĵ) {s with heap:=h' })->
    ļ (Ľ prog w) A (do
     storeSet a g G
     if (!M&&G.tooFull)=Ĵ then do
       (match (relayAll G g<|SetTable.grown g.E).2.2 with|true=>rule "set.scan.the-table-gave-way"|false=>pure ())
       storeSet a (relayAll G g<|SetTable.grown g.E).1 (relayAll G g<|SetTable.grown g.E).2.1
       pure (į Ĵ)
      else pure (į Ĵ)) R E s:=by
   intro R G hf2 hl2 hp2 hR;calc ab<|tV m hf2 hl2 hp2 (by simp_all) λh1 UL m1=>?_;split
   .let O:=relayAll_perm G g<|SetTable.grown g.E;let hfr:=relayAll_fits G g<|SetTable.grown g.E;let hlr:=Zq G g<|SetTable.grown g.E;let Z:=S8 G g (SetTable.grown g.E) hp2;generalize hRl:relayAll G g (SetTable.grown g.E)=Rl at O hfr hlr Z ⊢;let(es2,t3,gave2):=Rl;dsimp only at O hfr hlr Z ⊢;let hsz:es2.E=g.E:=by rw[<-bu,O.length_eq,bu]
    calc ab<|hgw _ ?_;calc ab<|tV (s:={s with heap:=h1}) m1 hfr hlr Z (by simp[*]) λh2 sb2 m2=>?_;show ah<|hR h2 es2 _ t3 (UL.X sb2) m2 (el1.perm O) (by simp[*])
   .show ah<|hR h1 g _ G UL m1 el1<|gx hsz1
  calc ab<|hgw _ ?_;let hbv:hashByValue 8 (.À (S l) u)=pure ķ:=by simp[hashByValue]
  cases hp1:t1.plain with| true=>simp only[↓reduceIte];calc ab ?_;rw[hbv];calc ah ?_;simp only[be,↓reduceIte];show fin {t1 with plain:=ķ} (SetTable.fits_plain_off F) WR rb λh' D J t' sb m' e' z=>by dsimp only;show ah<|q _ h' D J t' sb m' e' z| false=>simp only[be,↓reduceIte];calc ab<|ah ?_;simp only[↓reduceIte];show fin t1 F WR hp1 λh' D J t' sb m' e' z=>by dsimp only;show ah<|q _ h' D J t' sb m' e' z
end
def jX (w:ŉ)(a:Ķ)(ws:AA)(k:ı):Ň->Prop:=λh=>∃es ep t,SetT w h a es ep t/\Bp w es ws/\es.E<=k
def jX.mv {h h':Ň}(m:jX w a ws n h)(k:∀o,h.Á a=į o->h'.Á a=į o):jX w a ws n h':=let %[es,ep,t,q|r]:=m;%[31,es,ep,t,q.mv k|r]
section
variable {prog:ń}{w:ŉ}{A:ň}{I:Ķ}{fp wr:İ Ķ}{n:ı}{P:ı->ĳ->Prop}{St:ı->Ň->Prop}{R:ű->Ļ->Prop}
def Zr (W:Ŵ prog w A.ę I fp wr n P St)(S0)(F:S0∉fp)(val:ı->İ ı)(D:∀i v,P i v->∃t,v=.À (S<|val i) t)(g:n+1<scanBound):∀(k i:ı) (s:Ļ),n-i=k->i<=n->St i s.C->jX w S0 ((List.ñ i).Q val) i s.C->
   (∀h' tk,(∀b o,b∉S0::wr->s.C.Á b=į o->h'.Á b=į o)->jX w S0 ((List.ñ n).Q val) n h'->R (.ok<|.ret .Ø) {s with heap:=h',toks:=tk})->
   codeAny (Ľ prog w) A (.Ó "set.update.loop" %[[.v S0,.v I]|[]]) R s:=by
 let J:S0∉wr:=λh=>F<|W.sub _ h;let sub:∀b,b∉S0::wr->b∉wr:=λb g h=>g<|ay _ h;intro k
 induction k with
 | zero=>intro i s hk hi j Y O;let dU:i=n:=zo;subst dU;calc iS pi ?_;rw[ko iE _];show ļ _ A.ę (pyNext (.v I) >>= _) _ _ s;calc ab<|W.done s _ _ j λh' tk hm=>?_;show ļ _ A.ę (ret Value.Ø) _ _ _;show ah<|O h' tk (λb o g e=>hm b o (sub b g) e)<|Y.mv λo e=>hm S0 o J e
 | succ k ih=>
  intro i s hk hi j Y O;let B:i<n:=Nat.lt_of_sub_eq_succ hk;calc iS pi ?_;rw[ko iE _];show ļ _ A.ę (pyNext (.v I) >>= _) _ _ s;calc ab<|W.item i s _ _ B j λv h1 tk hP G hm=>?_;let(t,rfl):=D i v hP;let(es,ep,tb,m1,e1,z1):=Y.mv (h':=h1) λo e=>hm S0 o J e;show ļ _ A.ę (holding [Value.À (S<|val i) t] (setAdd S0<|.À (S<|val i) t) >>= _) _ _ _;calc ab<|eC ?_;unfold setAdd;calc eC ?_;calc ab<|(PySem.strKind prog w).pyHash (k:=S (val i)) (strKind_is _ _ _ _) ?_;calc abV (s:={s with heap:=h1,toks:=tk+1}) m1 e1 zo λb h2 N L t2 Z m2 e2 z2=>?_;refine ah %[plainId_quiet iE _|ih (i+1) _ (fb zo) B (W.frame _ h1 _ G λb g o e=>?_) %[27,N,L,t2,m2,by rw[fz,bo];show e2|zo] λh3 M Zt m3=>?_]
  .show h2.Á b=į o;rw[Z.2 b (λh:b=S0=>F (by rw[<-h];show g))];show e
  .calc O h3 M (λb o g e=>Zt b o g ?_) m3;show h2.Á b=į o;rw[Z.2 b (λh:b=S0=>g (by rw[h];show aE))];show hm b o (sub b g) e
end
section
variable {prog:ń}{w:ŉ}{A:ň}{E:AB}{s:Ļ}
def z_ (a)(h:Q₁ (.v s.d) {s with heap:=s.C.Í {cls:=.È "set",dict:=Ĳ,data:=.ē #[] 0<|.ß 0 0<|!w.è.é "set-order"} }):codeAny (Ľ prog w) A (.call (.Ó "set.__new__") %[[.È "set",a]|[]]) (wants Q₁ E) s:=by
 calc wx ?_;show ļ _ A.ę (do checkBuiltinCall "set.__new__" %[[.È "set",a]|[]];again (.Ó "set.__new__" %[[.È "set",a]|[]])) _ _ s;calc ab<|qA (F.newCall_set_1 a)<|ah %[plainId_quiet F.plain_set_new _|iS F.entry_set_new ?_];rw[ko F.plain_set_new _];unfold Builtin.«set.__new__» Builtin.Frozenset.newClass;let j:=sub_set_self;let(hp,g,d,tk,os):=s;dsimp only
 wp_walk
 calc oI<|ah ?_;dsimp only;simp only[newObj];calc ab<|wpAny_alloc<|ah ?_;show ah h
def WT {h:Ň}(e:h.Á a=į {cls:=.È "set",dict:=Ĳ,data:=.ē #[] 0<|.ß 0 0<|!w.è.é "set-order"}):jX w a [] 0 h:=%[27,#[],0,_,⟨38,_,e,%[rb,rb|rb],rb,rb,by cases q:w.è.é "set-order" <;> simp[SetTable.fresh,q],.Ð rb⟩,%[λe g=>by simp at g,zr|λl=>by simp]|ag _]
def Zu (hh:A.õ=Ĳ)(hu:∀(M:ň) (E':AB) (D:Ş->Ļ->Prop) (h1:Ň),M.õ=Ĳ->h1.Y.E=s.d+1->jX w s.d [] 0 h1->(∀b o,s.C.Á b=į o->h1.Á b=į o)->
   (∀h' tk,(∀b o,s.C.Á b=į o->h'.Á b=į o)->jX w s.d ws n h'->D () {s with heap:=h',toks:=tk})->
   ļ (Ľ prog w) M (Builtin.Frozenset.updateFrom "set.__init__" s.d src) D E' {s with heap:=h1})
  (h:∀h' tk,(∀b o,s.C.Á b=į o->h'.Á b=į o)->jX w s.d ws n h'->Q (.v s.d) {s with heap:=h',toks:=tk}) :
  ļ (Ľ prog w) A (call (.È "set") [src]) Q E s:=by
 let(c,tl,J):=gh.mro;let j:=gh.made;let N:=gh.sub;calc ul<|wx ?_;show ļ _ _ (callAny (.È "set") _) _ _ _;calc ah %[xy _ zD|iS ye ?_];rw[xz (weight_type_call_type "set" [src] []) rfl];let h1:=gh.notType;let h2:=gh.canCreate;let hct:=F.typeCall_set_1 src
 repeat (any_goals (first|assumption|wp_step))
 calc iN (z_ src (E:=E) (Q₁:=λobj L=>obj=.v s.d/\L={s with heap:=s.C.Í {cls:=.È "set",dict:=Ĳ,data:=.ē #[] 0<|.ß 0 0<|!w.è.é "set-order"} }) %[rb|rb]) λr L B=>?_;cases r with
 | error e=>show B
 | ok fl=>
  cases fl with
  | ret obj=>
   let(rfl,rfl):=B;let O:(s.C.Í {cls:=.È "set",dict:=Ĳ,data:=.ē #[] 0<|.ß 0 0<|!w.è.é "set-order"}).Á s.d=į {cls:=.È "set",dict:=Ĳ,data:=.ē #[] 0<|.ß 0 0<|!w.è.é "set-order"}:=a6 _ rfl;let hT:Shared.ċ {s with heap:=s.C.Í {cls:=.È "set",dict:=Ĳ,data:=.ē #[] 0<|.ß 0 0<|!w.è.é "set-order"} } (.v s.d) "set":=%[0,_,O|rb]
   let hli:=gh.init.Å;let Z:=gh.init.bind<|.v s.d
   repeat (any_goals (first|assumption|wp_step))
   refine iN (r_ (R:=wants (λr G=>r=.Ø/\∃h' tk,G={s with heap:=h',toks:=tk}/\(∀b o,s.C.Á b=į o->h'.Á b=į o)/\jX w s.d ws n h') E) gh.init.plain F.entry_set_init<|check_set_init_1 hT ?_) λr₂ G g=>?_
   .unfold Builtin.«set.__init__» noKeywords;generalize Y:Builtin.Frozenset.updateFrom=U
    wp_walk
    subst Y;calc hu _ _ _ _ (by simp[hh]) (eM ..) (WT O) (λb o e=>af _ e) λh' tk k m=>?_;calc ah ?_;show%[17,rb,h',tk,rb,k|m]
   .cases r₂ with
    | error e=>show g
    | ok fl₂=>
     cases fl₂ with
     | ret r=>
      let(rfl,h',tk,rfl,k,m):=g
      repeat (any_goals (first|assumption|wp_step))
      show h _ _ k m
     | _=>show g.í
  | _=>show B.í
end
def sub_str_set:isSubtype (.È "str") (.È "set")=pure ķ:=by rw[isSubtype_type];kernel_rfl
def sub_str_frozenset:isSubtype (.È "str") (.È "frozenset")=pure ķ:=by rw[isSubtype_type];kernel_rfl
section
variable {prog:ń}{w:ŉ}{A:ň}{E:AB}{s:Ļ}
variable {X:Cx}
def abX {l:İ ı}(J:A.õ=Ĳ)(L:jX w S0 [] 0 s.C)(B:S0<s.d)(j:l.n+1<scanBound)(q:∀h' tk,(∀b o,b≠S0->s.C.Á b=į o->h'.Á b=į o)->jX w S0 ((List.ñ l.n).Q λi=>[l.Î i 0]) l.n h'->Q () {s with heap:=h',toks:=tk}):ļ (Ľ prog w) A (Builtin.Frozenset.updateFrom "set.__init__" S0<|.À (S l) t) Q E s:=by
 let D:=sub_str_set;let F:=sub_str_frozenset;let G:(Value.È "str" == Value.È "dict")=ķ:=by decide
 unfold Builtin.Frozenset.updateFrom;generalize g:pyIter=PI
 wp_walk
 subst g;calc wpAny_pyIter_str λo St W st=>?_;calc ab<|wpAny_runValue ?_;let hsz:(S l).Ĕ.E=l.n:=by simp[S]
 refine Zr (W _ (by simp[J])) S0 (by simp only[al];show bb B) (λi=>[l.Î i 0]) (λi v hv=>?_) (by rw[hsz];show j) ((S l).Ĕ.E-0) 0 _ hsz (ci _)
  st (L.mv λo e=>af _ e) λh' tk k m=>?_
 .let(c,t,e,rfl):=hv;calc%[t|?_];have:l[i]?=į c:=by simpa [S] using e
  rw[ap,this];rfl
 calc ah ?_;rw[hsz]at m;calc q h' tk (λb o j e=>k b o ?_<|af _ e) m;simp only[a_,fI,or_false,not_or];show%[j|bb<|a9 e]
def jX.ext (m:jX w a ws n h):dD P w H h a (.ext<|jX w a ws n):=by calc%[m,?_|λh1 j p k=>p.mv k];let(es,ep,t,(o,g,_),_):=m;show%[o|g]
def WW (l:İ ı):(List.ñ l.n).Q (λi=>[l.Î i 0])=l.Q λc=>[c]:=by
 apply hV;intro i;rw[bz,bz];by_cases h:i<l.n;.rw[nt h,ae h];simp[List.getD,h]
 .rw[dv (by simpa using h),dv (by simpa using h)];rfl
def Zv (w:ŉ):İ V->Hp->VK->Prop:=λxs H Q=>∃(l:İ ı),xs=[.À (S l)]/\l.n<=1000/\∀p,H p=Ĳ->Q (.v p) (upd H p<|.ext<|jX w p (l.Q λc=>[c]) l.n)
def WX (B:X.ī=Ĵ):fD X (.È "set") (Zv X.w):=by
 intro ao s T H xs us Q I r h;let(l,rfl,hz,q):=h;let(u,rfl,j):=vals1 r;let(t,rfl):=j;refine Zu (ws:=l.Q λc=>[c]) (n:=l.length) (I.ok.hd B) (λG F D h1 g s1 m1 k1 q1=>?_) λh' tk k m=>?_
 .refine abX (s:={s with heap:=h1}) g m1 (by show s.d<h1.Y.E;lia) (by show l.n+1<4096;lia) λh' tk k m=>?_
  rw[WW]at m;show q1 h' tk (λb o e=>k b o (bb<|a9 e)<|k1 b o e) m
 .show%[1,.v s.d,_,I.Ĭ (o:=.ext _) (t':=tk) k (ag _) m.ext,rb|q _ I.ß]
end
theorem yS {I:Type}:∀(l:İ I) (i:ı) (h:i<l.n),(l[i]::l.eraseIdx i).æ l
 | a::l,0,h=>.Ę _
 | a::l,i+1,h=>(List.æ.swap a _ _).X ((yS l i (by simpa using h)).Þ a)
def vM {I:Type}(g:ı->ı)(xs:ŀ I):(pickOrder g xs).H.æ xs.H:=by
 let j:∀(f k:ı) (l:İ I) (o:ŀ I),f=l.n->(pickOrder.go g f k l o).H.æ (o.H++l):=by
  intro f
  induction f with
  | zero=>intro k l o e;cases l with|nil=>simp[pickOrder.go]|cons a r=>simp at e
  | succ f ih=>intro k l o e;let B:0<l.n:=zo;let hi:g k%l.n<l.n:=qh _ B;unfold pickOrder.go;rw[ae hi];dsimp only;calc(ih _ _ _ (by rw[List.length_eraseIdx,ĺ hi];lia)).X ?_;rw[f6,b7];show i9 _ (by simpa using yS _ _ hi)
 have:=j xs.E 0 xs.H #[] zr;simpa [pickOrder] using this
section
variable {prog:ń}{w:ŉ}{A:ň}{E:AB}{s:Ļ}
def Ms (hn:n≠0)(h:∀i d,i<n->Q i {s with drawn:=d}):ļ (Ľ prog w) A (choose src n) Q E s:=λ_ _ _=>%[hn|h _ _<|qh _<|Nat.pos_of_ne_zero hn]
theorem Ef {I:Type}:∀(n:ı) (xs:İ I) {s:Ļ} {Q:İ I->Ļ->Prop},n=xs.n->(∀ys d,ys.æ xs->Q ys {s with drawn:=d})->ļ (Ľ prog w) A (drawOrder n xs) Q E s
 | 0,xs,s,Q,e,h=>by have:xs=[]:=ng.mp e.Ò;subst this;unfold drawOrder;show ah<|h [] s.drawn .ê
 | n+1,[],s,Q,e,h=>by simp at e
 | n+1,x::xs,s,Q,e,h=>by unfold drawOrder;calc ab<|Ms zr λi d hi=>?_;rw[ae hi];dsimp only;calc ab<|Ef n _ (by rw[List.length_eraseIdx,ĺ hi];simp_all) λys d' p=>ah ?_;calc h _ d' ?_;show((p.Þ _).X<|yS _ _ hi)
end
end L2
namespace PySem.F
def cA:Slot "set_iterator" "__next__" "set_iterator.__next__":=
 .of (owner:="set_iterator") (n:="__next__") (by rw[typeLookup_type,builtinLookup_eq_fast];kernel_rfl) zD zD zD
  (by first|show .Â zD|show .Ð zD) (by rw[isSubtype_type];kernel_rfl)
def nZ:Slot "set_iterator" "__iter__" "set_iterator.__iter__":=
 .of (owner:="set_iterator") (n:="__iter__") (by rw[typeLookup_type,builtinLookup_eq_fast];kernel_rfl) zD zD zD
  (by first|show .Â zD|show .Ð zD) (by rw[isSubtype_type];kernel_rfl)
def iu:entryFor table "set_iterator.__next__"=į Builtin.«set_iterator.__next__»:=entryFor_of_tree zC
def GC:entryFor table "set.__iter__"=į Builtin.«frozenset.__iter__»:=entryFor_alias (id':="frozenset.__iter__") zC rb zD zC
def rB:Manifest.owners.Å (String.ofList ['r','o','t','a','r','e','t','i','_','t','e','s'].ö)=į Manifest.sig_set_iterator:=by kernel_rfl
def gR (a):argsOk "set_iterator.__next__" %[[a]|[]]:=by unfold argsOk;rw[signature?_of (id:="set_iterator.__next__") (n:=['_','_','t','x','e','n','_','_']) (o:=['r','o','t','a','r','e','t','i','_','t','e','s']) zC rB];kernel_rfl
def ux:entryFor table "set_iterator.__iter__"=į Builtin.«dict_keyiterator.__iter__»:=entryFor_alias (id':="dict_keyiterator.__iter__") zC rb zD zC
def uy (a):argsOk "set_iterator.__iter__" %[[a]|[]]:=by unfold argsOk;rw[signature?_of (id:="set_iterator.__iter__") (n:=['_','_','r','e','t','i','_','_']) (o:=['r','o','t','a','r','e','t','i','_','t','e','s']) zC rB];kernel_rfl
end PySem.F
namespace L2
open PySem PySem.Spec PyProof.Rows PySem.W
def d8 (h:Ň)(it:Ķ)(first:ĳ)(i:ı)(a:Ķ)(n ep:ı):Prop:=∃o,h.Á it=į o/\o.cls=.È "set_iterator"/\o.Ď=.ä #[first,.I i 0,.v a,.I n 0,.I ep 0]
def d8.ty {s:Ļ}(x:d8 s.C it f i a n ep):s.ċ (.v it) "set_iterator":=let %[o,p,q|_]:=x;%[0,o,p|q]
def d8.mv {h h':Ň}(x:d8 h it f i a n ep)(k:∀o,h.Á it=į o->h'.Á it=į o):d8 h' it f i a n ep:=let %[o,p|q]:=x;%[0,o,k _ p|q]
section
variable {prog:ń}{w:ŉ}{A:ň}{E:AB}{s:Ļ}{a it:Ķ}{es:ŀ (ĸ×ĳ)}{ep i:ı}{t:Ō}{first:ĳ}
def Aa {slot k:ı}(x:d8 s.C it (.I slot u) i a es.E ep)(m:SetT w s.C a es ep t)(hn:∀(Y:ň) (M:AB) (B:ĵ (ĳ×ı)->Ļ->Prop),B (į (v,k)) s->ļ (Ľ prog w) Y (setNext a slot i ep) B M s)(q:∀h',d8 h' it (.I k 0) (i+1) a es.E ep->Heap.Ĉ it s.C h'->Q (į v) {s with heap:=h' }):ļ (Ľ prog w) A (pyNext<|.v it) Q E s:=by let T:=x.ty;let(y,j,J,g):=id x;let(o,L,N,hd,O,_,_):=m;unfold pyNext;calc ab<|mP<|fS (name:=Str.ï "__next__") T F.cA<|eI F.cA T F.iu ?_<|F.gR _;unfold Builtin.«set_iterator.__next__»;calc ab<|ah ?_;calc ab<|xm j g ?_;dsimp only;calc ab<|o0 L hd O ?_;rw[Ĺ zr];calc ab ?_;simp only[cq];calc hn _ _ _ ?_;dsimp only;calc ab<|lS j g zr ?_;let D:=gr (Obj.mapFields (·.ó 0<|œ (k:ĸ))) j<|oj<|fw g _;calc ab<|lS D (fw g _) zr ?_;let G:=gr (Obj.mapFields (·.ó 1<|œ<|(i:ĸ)+1)) D<|oj<|fw (fw g _) _;calc ah %[0,_,rb|ah ?_];calc q _ %[2,_,G,(u8 ..).X<|(u8 ..).X J|?_]<|(e9 ..).X<|e9 ..;rw[fw (fw g _)];simp[rawInt]
def Bq {slot:ı}(N:A.õ=Ĳ)(x:d8 s.C it (.I slot u) i a es.E ep)(m:SetT w s.C a es ep t)(hn:∀(M:ň) (G:AB) (g:ĵ (ĳ×ı)->Ļ->Prop),g Ĳ s->ļ (Ľ prog w) M (setNext a slot i ep) g G s)(q:∀h',Heap.ExtBut it s.C h'->Q Ĳ {s with heap:=h' }):ļ (Ľ prog w) A (pyNext<|.v it) Q E s:=by let T:=x.ty;let(y,j,O,B):=id x;let(o,D,J,hd,L,_,_):=m;unfold pyNext;calc ab<|mP<|fS (name:=Str.ï "__next__") T F.cA<|eI F.cA T F.iu ?_<|F.gR _;unfold Builtin.«set_iterator.__next__»;calc ab<|ah ?_;calc ab<|xm j B ?_;dsimp only;calc ab<|o0 D hd L ?_;rw[Ĺ zr];calc ab ?_;simp only[cq];calc hn _ _ _ ?_;dsimp only;calc ab<|lS j B zr ?_;calc ab ?_;simp only[PySem.newExc,newTuple];calc ab<|hG ?_ zS;calc ab (m:=firstArgMember _ _)<|qA (a:=Value.none) (by first|rfl|(simp only[firstArgMember];rfl))<|hG ?_ zS;simp only[raiseNew];calc ab<|wpAny_handled ?_;rw[show A.ę.õ=Ĳ from N];calc ab<|ah<|wpAny_throw ?_;calc ab (m:=ş _ _)<|lh (T:="StopIteration") (b:=true) %[0,_,a6 _ rb|rb] isSubtype_stop ?_;show ah<|q _<|((e9 ..).â.Í _).Í _
def Jk {N j:ı}{hv:ĸ}(x:d8 s.C it (.v tp) i a es.E ep)(m:SetT w s.C a es ep t)(h1:s.C.Á tp=į ot)(Y:ot.Ď=.ú ps N)(hp:ps[i]?=į (.I j u))(J:es[j]?=į (hv,v))(q:∀h',d8 h' it (.v tp) (i+1) a es.E ep->Heap.Ĉ it s.C h'->Q (į v) {s with heap:=h' }):ļ (Ľ prog w) A (pyNext<|.v it) Q E s:=by let T:=x.ty;let(y,B,L,g):=id x;let(o,D,M,hd,G,_,_):=m;unfold pyNext;calc ab<|mP<|fS (name:=Str.ï "__next__") T F.cA<|eI F.cA T F.iu ?_<|F.gR _;unfold Builtin.«set_iterator.__next__»;calc ab<|ah ?_;calc ab<|xm B g ?_;dsimp only;calc ab<|o0 D hd G ?_;rw[Ĺ zr];calc ab<|ic h1 Y ?_;dsimp only;simp only[cq,hp];calc ab ?_;unfold setNextDrawn;calc ab<|fT D hd G ?_;dsimp only;rw[Ĺ zr];simp only[J];calc ah ?_;calc ab<|lS B g zr ?_;let O:=gr (Obj.mapFields (·.ó 1<|œ<|(i:ĸ)+1)) B<|oj<|fw g _;calc ah %[0,_,rb|ah ?_];calc q _ %[2,_,O,(u8 ..).X L|?_]<|e9 ..;rw[fw g];simp[rawInt]
def Mt (J:A.õ=Ĳ)(x:d8 s.C it (.v tp) i a es.E ep)(m:SetT w s.C a es ep t)(h1:s.C.Á tp=į ot)(M:ot.Ď=.ú ps pe)(hp:ps[i]?=Ĳ)(q:∀h',Heap.ExtBut it s.C h'->Q Ĳ {s with heap:=h' }):ļ (Ľ prog w) A (pyNext<|.v it) Q E s:=by let T:=x.ty;let(y,j,N,g):=id x;let(o,B,D,hd,G,_,_):=m;unfold pyNext;calc ab<|mP<|fS (name:=Str.ï "__next__") T F.cA<|eI F.cA T F.iu ?_<|F.gR _;unfold Builtin.«set_iterator.__next__»;calc ab<|ah ?_;calc ab<|xm j g ?_;dsimp only;calc ab<|o0 B hd G ?_;rw[Ĺ zr];calc ab<|ic h1 M ?_;dsimp only;simp only[cq,hp];calc ab<|lS j g zr ?_;let L:=gr (Obj.mapFields (·.ó 0<|œ 0)) j<|oj<|fw g _;calc ab<|lS L (fw g _) zr ?_;calc ab ?_;simp only[PySem.newExc,newTuple];calc ab<|hG ?_ zS;calc ab (m:=firstArgMember _ _)<|qA (a:=Value.none) (by first|rfl|(simp only[firstArgMember];rfl))<|hG ?_ zS;simp only[raiseNew];calc ab<|wpAny_handled ?_;rw[show A.ę.õ=Ĳ from J];calc ab<|ah<|wpAny_throw ?_;calc ab (m:=ş _ _)<|lh (T:="StopIteration") (b:=true) %[0,_,a6 _ rb|rb] isSubtype_stop ?_;show ah<|q _<|(((e9 ..).X<|e9 ..).â.Í _).Í _
def abY (m:SetT w s.C a es ep t)(hz:es.E<=4000)(q1:(w.è.é "set-order"=Ĵ\/(w.è.é "set-order"=ķ/\es.E<=1))->Q (.v s.d) {s with heap:=s.C.Í {cls:=.È "set_iterator",data:=.ä #[.I 0 0,.I 0 0,.v a,.I es.E 0,.I ep 0]} })(q2:∀(ps:İ ı) (d:Drawn),ps.æ (List.ñ es.E)->Q (.v<|s.d+1) {s with heap:=(s.C.Í {cls:=.È "tuple",data:=.ú (ps.Q λi:Nat=>Value.I i 0).R}).Í {cls:=.È "set_iterator",data:=.ä #[.v s.d,.I 0 0,.v a,.I es.E 0,.I ep 0]},drawn:=d}):ļ (Ľ prog w) A (pyIter<|.v a) Q E s:=by
 let T:=m.ty;let(o,g,B,hd,j,D,hp):=m;calc wpAny_pyIter_slot T F.slot_set_iter<|eI F.slot_set_iter T F.GC ?_<|F.args_set_iter_1 _;unfold Builtin.«frozenset.__iter__» Builtin.Frozenset.slot0 Builtin.Frozenset.sizeOf;calc ab<|ab<|ah ?_;show ļ _ _ (pure a) _ _ _;calc ah ?_;calc ab<|ab<|o0 g hd j<|ah ?_;unfold setDrawn setsByText;calc ab<|ab<|fT g hd j ?_;dsimp only;calc ab<|ab<|oI<|ah ?_;calc ah ?_;split
 .rename_i h;let h:(!w.è.é "set-order" && (!t.plain&&ľ (es.E > 1)))=Ĵ:=h;calc ab<|Ef _ _ zr λps d pm=>?_;calc ab<|xo ?_ (by rw[aa,pm.length_eq,ef];show av hz zt);calc ab<|wpAny_setEpoch_of (a:=a) (o:=o) (es:=es) (ep:=ep) (t:=t) (af _ g) hd j ?_;calc ab<|hG<|ah %[52,_,rb,"set_iterator",_,%[0,_,a6 _ rb|rb],F.cA.Å|?_];have:=q2 ps d pm;simpa [rawInt,eM] using this
 .rename_i h;let h:¬(!w.è.é "set-order" && (!t.plain&&ľ (es.E > 1)))=Ĵ:=h;calc ab<|ah ?_;calc ab<|wpAny_setEpoch_of g hd j ?_;calc ab<|hG<|ah %[52,_,rb,"set_iterator",_,%[0,_,a6 _ rb|rb],F.cA.Å|?_];have:=q1 (by
   cases e:w.è.é "set-order" with
   | true=>show .Â rfl
   | false=>
    calc .Ð %[rb|?_];rcases hp with hp|hp;.simp[e,hp]at h;show h
    .lia)
  simpa [rawInt] using this
def abZ (B:s.ċ (.v a) "set")(h:Q ķ s):ļ (Ľ prog w) A (Builtin.List.listLengthHint<|.v a) Q E s:=by
 unfold Builtin.List.listLengthHint;calc ab<|p_ B PySem.F.slot_set_len.Å ?_;generalize j:("set.__len__":ŕ)=id0
 wp_delta
 rw[show splitId id0=į ("set","__len__") from by subst j;decide +kernel];subst j;calc ab<|lh (T:="set") (b:=true) B (by rw[isSubtype_type];kernel_rfl) ?_;calc wpAny_ite_split (λg=>Ł g zt) λ_=>?_;calc wpAny_ite_split (λ_=>?_) λg=>Ł zD g;calc ab<|wpAny_typeOf B ?_;show ah h
def Fe (x:d8 s.C it first i a n ep)(q:Q (.v it) s):ļ (Ľ prog w) A (pyIter<|.v it) Q E s:=by calc wpAny_pyIter_slot x.ty F.nZ<|eI F.nZ x.ty F.ux ?_<|F.uy _;show ļ _ _ (ret<|.v it) _ _ s;show ah %[52,_,rb,"set_iterator",_,x.ty,F.cA.Å|q]
def WY {tp:Ķ}{ps:İ ı}(Y:A.õ=Ĳ)(L:a≠it)(J:tp≠it)(hp:∀j∈ps,j<es.E)(O:ps.n=es.E):Ŵ prog w A it [it,tp,a] [it] es.E (λi v=>∃j e,ps[i]?=į j/\es[j]?=į e/\v=e.2)
   (λi h=>d8 h it (.v tp) i a es.E ep/\SetT w h a es ep t/\∃g,h.Á tp=į g/\g.Ď=.ú (ps.Q λi:ı=>Value.I i 0).R 0) where
 sub:=λb D=>by simp at D;simp[D]
 frame:=λ_ _ _ st hk=>%[st.1.mv λo e=>hk it zr o e,st.2.1.mv λo e=>hk a zr o e|let %[g,h1|F]:=st.2.2;%[0,g,hk tp zr _ h1|F]]
 item:=λi s Q E hi st G=>by
  let(x,m,g,h1,F):=st;let B:i<ps.n:=by simp_all
  let M:=hp _<|aS B;calc Jk x m h1 F (j:=ps[i]) (u:=0) (by simp[B]) (hv:=es[ps[i]].1) (v:=es[ps[i]].2) (by simp[M]) λh' N k=>?_;show G _ h' s.Ý %[1,ps[i],es[ps[i]],by simp[B],by simp[M]|rb] %[20,N,m.mv λo e=>k.â a o L e,g,k.â tp g J h1|F] λb o D e=>k.â b o (λy=>D (by simp[y])) e
 done:=λs Q E st G=>by let(x,m,g,h1,F):=st;show Mt Y x m h1 F (by simp[O]) λh' k=>G h' s.Ý λb o D e=>k b o (λy=>D (by simp[y])) e
 self:=λi s Q E st G=>Fe st.1 G
def KY (m:SetT w s.C a es ep t)(j:w.è.é "set-order"=Ĵ)(h:Q (((pickOrder (w.è.setOrder a ep) es)[i]?).Q λe=>(e.2,slot)) s):ļ (Ľ prog w) A (setNext a slot i ep) Q E s:=by let(o,g,D,hd,B,_,_):=m;unfold setNext setsByText;calc ab<|fT g hd B ?_;dsimp only;calc ab<|ab<|oI<|ah ?_;rw[ĺ (by show j)];rw[Ĺ zr];unfold setWalk setsByText;calc ab ?_;calc ab<|fT g hd B ?_;dsimp only;calc ab<|ab<|oI<|ah ?_;rw[ĺ (by show j)];calc ab<|oI<|ah ?_;show ah h
def GD (m:SetT w s.C a es ep t)(B:w.è.é "set-order"=ķ)(hz:es.E<=1)(h:Q (match es[SetTable.ĕ t.Ù slot]?,t.Ù[SetTable.ĕ t.Ù slot]? with|some (_,x),some j=>į (x,j+1)|_,_=>none) s):ļ (Ľ prog w) A (setNext a slot i ep) Q E s:=by
 let(o,D,F,hd,G,g,_):=m;let g:t.led=Ĵ:=by rcases g with z|z;rw[B]at z;cases z;show z
 unfold setNext setsByText;calc ab<|fT D hd G ?_;dsimp only;calc ab<|ab<|oI<|ah ?_;rw[Ĺ (by show ¬w.è.é "set-order"=Ĵ;rw[B];simp)];split
 .rename_i z;let z:(!t.plain&&ľ (es.E > 1))=Ĵ:=z;simp at z;lia
 .calc ab ?_;show ļ _ _ (if (!t.led && !es.isEmpty)=Ĵ then unsupported "set:maker-not-led" else pure ()) _ _ _;rw[Ĺ (by rw[g];simp)];show ah<|ah h
def Zw (M:A.õ=Ĳ)(D:a≠it)(g:w.è.é "set-order"=Ĵ):Ŵ prog w A it [it,a] [it] es.E (λi v=>∃e,(pickOrder (w.è.setOrder a ep) es)[i]?=į e/\v=e.2)
   (λi h=>d8 h it (.I (0:ı) 0) i a es.E ep/\SetT w h a es ep t) where
 sub:=λb g=>by simp at g;simp[g]
 frame:=λ_ _ _ st hk=>%[st.1.mv λo e=>hk it zr o e|st.2.mv λo e=>hk a zr o e]
 item:=λi s Q E hi st j=>by
  let hsz:(pickOrder (w.è.setOrder a ep) es).E=es.E:=by have:=(vM (w.è.setOrder a ep) es).Ē;simpa using this
  let B:i<(pickOrder (w.è.setOrder a ep) es).E:=by simp_all
  calc Aa (slot:=0) (k:=0) (v:=(pickOrder (w.è.setOrder a ep) es)[i].2) st.1 st.2 (λL J F q=>KY st.2 g (by rw[cp B];show q)) λh' G k=>?_;show j _ h' s.Ý %[0,_,by rw[cp B]|rb] %[G|st.2.mv λo e=>k.â a o D e] λb o g e=>k.â b o (λy=>g (by simp[y])) e
 done:=λs Q E st j=>by
  let hsz:(pickOrder (w.è.setOrder a ep) es).E=es.E:=by have:=(vM (w.è.setOrder a ep) es).Ē;simpa using this
  refine Bq M st.1 st.2 (λL J F q=>KY st.2 g (by rw[qB (gx hsz)];show q)) λh' k=>j h' s.Ý λb o g e=>k b o (λy=>g (by simp[y])) e
 self:=λi s Q E st j=>Fe st.1 j
def W0 {p:ŀ ı}(h:p.E=1):SetTable.ĕ p 0=0:=by unfold SetTable.below;rw[h];simp[SetTable.below.go]
def Zx {p:ŀ ı}(h:p.E=1):SetTable.ĕ p (p.Î 0 0+1)=1:=by
 let⟨l⟩:=p
 match l,h with| [x],_=>simp[SetTable.below,SetTable.below.go]
def W2 (N:A.õ=Ĳ)(F:a≠it)(g:w.è.é "set-order"=ķ)(hz:es.E<=1):Ŵ prog w A it [it,a] [it] es.E (λi v=>∃e,es[i]?=į e/\v=e.2) (λi h=>∃slot:Nat,d8 h it (.I slot 0) i a es.E ep/\SetT w h a es ep t/\t.Ù.E=es.E/\slot=(if i=0 then 0 else t.Ù.Î 0 0+1)) where
 sub:=λb g=>by simp at g;simp[g]
 frame:=λ_ _ _ st hk=>let %[slot,x,m|r]:=st;%[2,slot,x.mv λo e=>hk it zr o e,m.mv λo e=>hk a zr o e|r]
 item:=λi s Q E hi st j=>by
  let(slot,x,m,hp,hs):=st;let D:i=0:=zo;subst D;rw[ĺ rfl]at hs;subst hs;let h1:es.E=1:=zo;let B:t.Ù.E=1:=zo;refine Aa (slot:=0) (k:=t.Ù.Î 0 0+1) (v:=es[0].2) x m (λM L G q=>GD m g hz ?_) λh' J k=>?_
  .rw[W0 B,cp hi,cp (by lia:0<t.Ù.E)];let e:t.Ù.Î 0 0=t.Ù[0]:=by simp[Array.getD,B]
   rw[e]at q;show q
  .show j _ h' s.Ý %[0,es[0],by simp[h1]|rb] %[18,_,J,m.mv λo e=>k.â a o F e,hp|rb] λb o g e=>k.â b o (λy=>g (by simp[y])) e
 done:=λs Q E st j=>by
  let(slot,x,m,hp,hs):=st;calc Bq N x m (λM L G q=>GD m g hz ?_) λh' k=>j h' s.Ý λb o g e=>k b o (λy=>g (by simp[y])) e;rcases(show es.E=0\/es.E=1 by lia) with h0|h1
  .rw[qB zo];show q
  .rw[Ĺ zo]at hs;subst hs;rw[Zx zo,qB hz];show q
 self:=λi s Q E st j=>by let(slot,x,_):=st;show Fe x j
end
def Fg {l:İ ĳ}(h:ItemsOf P acc n)(F:l.n=n)(D:∀i v,P i v->l[i]?=į v):acc.H=l:=by
 apply hV;intro j;by_cases B:j<n
 .let g:j<acc.E:=by rw[h.1];show B
  let e:acc[j]?=į acc[j]:=by simp[g]
  rw[D j _ (h.2 j _ e),cx,e]
 .rw[dv (by rw[bu,h.1];show jn B),dv (by simp_all)]
section
variable {prog:ń}{w:ŉ}{A:ň}{E:AB}{s:Ļ}{a:Ķ}{es:ŀ (ĸ×ĳ)}{ep i:ı}{t:Ō}
variable {X:Cx}
def Fi {R:ű->Ļ->Prop}{rs:ŏ}{n:ı}{P:ı->ĳ->Prop}{St:ı->Ň->Prop}(W:Ŵ prog w A.ę I fp [I] n P St)(G:S0∉fp)(res:ĳ)(c₀:ı)(hS:s.C.Á S0=į {cls:=.È "list",data:=.ú #[] c₀})(st:St 0 s.C)(hn:n<=Ŀ)(hT:s.ċ (.v a) "set")(hR:∀h' tk g D,(∀b o,b≠S0->b≠I->s.C.Á b=į o->h'.Á b=į o)->h'.Á S0=į {cls:=.È "list",dict:=Ĳ,data:=.ú g D,slots:=#[]}->ItemsOf P g n->R (.ok<|.ret res) {s with heap:=h',toks:=tk}):ļ (Ľ prog w) A.ę (do
   let room <- holding [Value.v I] (Builtin.List.listLengthHint<|.v a)
   if room||rs then rule "list.extend.makes-room";Builtin.List.listTouch (.v S0)
   again (.Ó "list.extend.loop" %[[.v S0,.v I,res]|[]]))
   (λfin s'=>match fin with|.done f=>R (.ok f) s'|.again D=>D.quiet=Ĵ/\codeAny (Ľ prog w) A D R s') (λe s'=>R (.error e) s') s:=by
 let M:∀(h:Ň) (Z tk:ı),St 0 h->(∀b o,b≠S0->s.C.Á b=į o->h.Á b=į o)->
   h.Á S0=į {cls:=.È "list",data:=.ú #[] Z}->codeAny (Ľ prog w) A (.Ó "list.extend.loop" %[[.v S0,.v I,res]|[]]) R {s with heap:=h,toks:=tk}:=by
  intro h Z tk hst hk Y;calc codeAny_extend_loopS W.toS hn S0 G res n 0 _ #[] Z rb (ci _) hst Y (ItemsOf.ê _) λs' g D hm O L=>?_;rw[Moved.eq_with hm];calc hR s'.C s'.Ý g D (λb o B N e=>hm.C b o (λj=>?_)<|hk b o B e) O L;rcases a_.mp j with e'|j
  .show B e'
  .show N<|al.mp j
 calc ab<|eC<|abZ hT ?_;calc wpAny_ite_split (λ_=>?_) λ_=>ah %[plainId_quiet yi _|M _ c₀ _ st (λb o _ e=>e) hS];calc ab<|gE ?_;calc ab ?_;show ļ _ _ (updateSeq S0 (·.Í .Ø) >>= λ_=>updateSeq S0 (·.pop)) _ _ _;calc ab<|wpAny_updateSeq hS rb ?_;let F:=gr (Obj.ò (·.Í Value.Ø)) hS rfl;calc wpAny_updateSeq (hz:=by seq_fits) F rb ?_;let hS₃:=gr (Obj.ò (·.pop)) F rfl;refine ah %[plainId_quiet yi _|M _ _ _ ?_ (λb o B e=>?_) hS₃]
 .refine W.frame 0 _ _ st λb B o e=>?_
  let J:b≠S0:=λh=>G<|h ▸ B;show(kM _ _<|mI J).X<|(kM _ _<|mI J).X e
 .show(kM _ _<|mI B).X<|(kM _ _<|mI B).X e
def W3 (hh:A.õ=Ĳ)(m:SetT w s.C a es ep t)(hz:es.E<=4000)(S0)(O:S0≠a)(res)(c₀)(hS:s.C.Á S0=į {cls:=.È "list",data:=.ú #[] c₀})(hR:∀h' tk d g G,(∀b o,b≠S0->s.C.Á b=į o->h'.Á b=į o)->h'.Á S0=į {cls:=.È "list",dict:=Ĳ,data:=.ú g G,slots:=#[]}->g.H.æ (es.H.Q (·.2))->R (.ok<|.ret res) {s with heap:=h',toks:=tk,drawn:=d}):ļ (Ľ prog w) A.ę (Builtin.List.listExtendWith (.v S0) (.v a) res)
   (λfin s'=>match fin with|.done f=>R (.ok f) s'|.again G=>G.quiet=Ĵ/\codeAny (Ľ prog w) A G R s') (λe s'=>R (.error e) s') s:=by
 let n6:es.E<=Ŀ:=av hz zt;let M:=m.lt;let F:=a9 hS;unfold Builtin.List.listExtendWith;calc ab<|wpAny_typeOf (T:="set") m.ty ?_;let h1:Builtin.List.listSameRef (.v S0) (.v a)=ķ:=by simp[Builtin.List.listSameRef,O]
 let n1:(Value.È "set" == Value.È "list")=ķ:=by decide
 let n2:(Value.È "set" == Value.È "tuple")=ķ:=by decide
 simp only[h1,n1,n2,vT,be,if_false];refine ab<|abY m hz (λc=>?_) λps d pm=>?_
 .let N:SetT w (s.C.Í {cls:=.È "set_iterator",data:=.ä #[.I 0 0,.I 0 0,.v a,.I es.E 0,.I ep 0]}) a es ep t:=m.mv λo e=>af _ e
  let hx:d8 (s.C.Í {cls:=.È "set_iterator",data:=.ä #[.I 0 0,.I 0 0,.v a,.I es.E 0,.I ep 0]}) s.d (.I (0:ı) 0) 0 a es.E ep:=%[2,_,a6 _ rb,rb|rb]
  let J:S0∉[s.d,a]:=by simp only[a_,fI,or_false,not_or];show%[bb F|O]
  rcases c with c|⟨c,c1⟩
  .refine Fi (a:=a) (Zw (t:=t) hh (bb M) c) J res c₀ (af _ hS) %[hx|N] n6 (SetT.ty (s:={s with heap:=_}) N) λh' tk g G k D B=>?_
   let hsz:=(vM (w.è.setOrder a ep) es).Ē;calc hR h' tk s.drawn g G (λb o Z e=>k b o Z (bb<|a9 e)<|af _ e) D ?_;rw[Fg (l:=(pickOrder (w.è.setOrder a ep) es).H.Q (·.2)) B (by simpa using hsz) (λi v hv=>by let(e,Y,rfl):=hv;simp[Y])];show(vM _ _).Q _
  .refine Fi (a:=a) (W2 (t:=t) hh (bb M) c c1) J res c₀ (af _ hS) %[18,0,hx,N,?_|rb] n6 (SetT.ty (s:={s with heap:=_}) N) λh' tk g G k D B=>?_
   .let(o,_,_,_,hf,_):=m;simp only[SetTable.fits,eD,beq_iff_eq]at hf;show hf.1
   .calc hR h' tk s.drawn g G (λb o Z e=>k b o Z (bb<|a9 e)<|af _ e) D ?_;rw[Fg (l:=es.H.Q (·.2)) B zr (λi v hv=>by let(e,Y,rfl):=hv;simp[Y])]
 .generalize L:s.C.Í {cls:=.È "tuple",data:=.ú (ps.Q λi:ı=>Value.I i 0).R}=h1;let k1:∀b o,s.C.Á b=į o->h1.Á b=į o:=λb o e=>by rw[<-L];show af _ e
  let z1:h1.Y.E=s.d+1:=by rw[<-L];show eM ..
  let g1:h1.Á s.d=į {cls:=.È "tuple",data:=.ú (ps.Q λi:ı=>Value.I i 0).R}:=by rw[<-L];show a6 _ rfl
  let N:SetT w (h1.Í {cls:=.È "set_iterator",data:=.ä #[.v s.d,.I 0 0,.v a,.I es.E 0,.I ep 0]}) a es ep t:=m.mv λo e=>af _<|k1 _ _ e;let hx:d8 (h1.Í {cls:=.È "set_iterator",data:=.ä #[.v s.d,.I 0 0,.v a,.I es.E 0,.I ep 0]}) (s.d+1) (.v s.d) 0 a es.E ep:=%[2,_,by rw[<-z1];show a6 _ rb,rb|rb]
  let hp:∀j∈ps,j<es.E:=λj hj=>cz.mp<|pm.à.mp hj;let hl:ps.n=es.E:=by rw[pm.length_eq,ef]
  let J:S0∉[s.d+1,s.d,a]:=by simp only[a_,fI,or_false,not_or];show%[bb<|ff F,bb F|O]
  calc Fi (a:=a) (s:={s with heap:=h1.Í {cls:=.È "set_iterator",data:=.ä #[.v s.d,.I 0 0,.v a,.I es.E 0,.I ep 0]},drawn:=d}) (WY (t:=t) (tp:=s.heap.objs.size) (ps:=ps) hh (bb<|ff M) (bb<|fm _) hp hl) J res c₀ (af _<|k1 _ _ hS) %[20,hx,N,_,af _ g1|rb] n6 (SetT.ty (s:={s with heap:=_,drawn:=d}) N) λh' tk g G k D B=>?_;calc hR h' tk d g G (λb o Z e=>k b o Z (bb<|ff<|a9 e)<|af _<|k1 _ _ e) D ?_;rw[Fg (l:=ps.Q λj=>(es.Î j (0,.Ø)).2) B (by simp[hl]) (λi v hv=>by let(j,e,hj,Y,rfl):=hv;rw[bz,hj];simp[gt,Y])]
  calc(pm.Q _).X<|zd ?_;apply hV;intro j;rw[bz,bz];by_cases h:j<es.E;.rw[nt h];simp[h,gt]
  .rw[dv (by simpa using h),dv (by simpa using h)];rfl
def Eh (N:A.õ=Ĳ)(m:SetT w s.C a es ep t)(hz:es.E<=4000)(h:∀(h':Ň) (tk:ı) (d:Drawn) (F:İ ĳ),(∀b o,s.C.Á b=į o->h'.Á b=į o)->F.æ (es.H.Q (·.2))->R F {s with heap:=h',toks:=tk,drawn:=d}):ļ (Ľ prog w) A (collect<|.v a) R E s:=by
 let L:=m.lt;unfold collect;calc ab<|wpAny_runValue<|iS entry_proto_collect' ?_;rw[ko PySem.F.plain_proto_collect _];show ļ _ A.ę (newList [] >>= λl=>again (.Ó "list.__iadd__" %[[l,.v a]|[]])) _ _ s;calc ab<|hG ?_;calc ah %[plainId_quiet PySem.F.plain_list_iadd _|iS entry_list_iadd' ?_];rw[ko PySem.F.plain_list_iadd _];let G:(s.C.Í {cls:=.È "list",data:=.ú ([]:İ ĳ).R}).Á s.d=į {cls:=.È "list",data:=.ú #[]}:=a6 _ rfl;show ļ _ A.ę (Builtin.List.listExtendWith (.v s.d) (.v a)<|.v s.d) _ _ _;let M:=W3 (prog:=prog) (A:=A) (s:={s with heap:=s.C.Í {cls:=.È "list",data:=.ú ([]:İ ĳ).R} })
  (R:=λ(q:ű) (s':Ļ)=>∃(h':Heap) (tk:Nat) (d:Drawn) (g:ŀ ĳ) (D:Nat),q=.ok (.ret<|.v s.d)/\s'={s with heap:=h',toks:=tk,drawn:=d}/\
   (∀b o,s.C.Á b=į o->h'.Á b=į o)/\h'.Á s.d=į {cls:=.È "list",dict:=Ĳ,data:=.ú g D,slots:=#[]}/\g.H.æ (es.H.Q (·.2)))
  N (m.mv λo e=>af _ e) hz s.d (ib L) (.v s.d) 0 G
  λh' tk d g D hk B j=>%[29,h',tk,d,g,D,rb,rb,λb o e=>hk b o (bb<|a9 e)<|af _ e,B|j]
 refine fq M (λJ s' x=>?_) λe s' x=>?_
 .cases J with
  | done f=>let(h',tk,d,g,D,e,rfl,hk,B,j):=x;cases e;show ļ _ A (load s.d >>= _) _ _ _;calc ab<|wpAny_load B ?_;show ah<|h h' tk d g.H hk j
  | again c₁=>calc%[x.1|iN x.2 λq O y=>?_];let(h',tk,d,g,D,rfl,rfl,hk,B,j):=y;show ļ _ A (load s.d >>= _) _ _ _;calc ab<|wpAny_load B ?_;show ah<|h h' tk d g.H hk j
 .let(_,_,_,_,_,e,_):=x;cases e
def aM.adL {ao:AC}{C:St}{H:Hp}{s:Ļ}(I:aM X ao C H s)(d:Drawn):aM X ao C H {s with drawn:=d}:=%[I.ok,I.os,I.bare,I.ð,I.loc,I.ø,I.Õ,I.pB,I.pin,I.ì|I.đ]
def O_ (w:ŉ):İ V->Hp->VK->Prop:=λxs H Q=>∃(p:Addr) (ws:AA) (n:Nat),xs=[.v p]/\H p=į (.ext<|jX w p ws n)/\n<=1000/\(∀us:İ (İ ı),us.Ö->(∀l∈us,l∈ws)->us.n<64)/\
 ∀(j:Ķ) (g:AA),H j=Ĳ->g.Ö->(∀l,l∈g↔l∈ws)->g.Ä (λa b=>ľ (b<a)=ķ)->Q (.v j) (upd H j<|.É<|Ts g)
def ab0:∀(g:İ ĳ),(∀v∈g,∃(l:İ ı) (u:Tok),v=.À (S l) u)->Ŧ g ((g.Q λv=>qH (0,v)).Q S):=by
 intro g h
 induction g with| nil=>show .ê| cons v r ih=>let(l,u,rfl):=h v aE;show .Þ _ u<|ih λv hv=>h v<|ay _ hv
def Jl (hc:X.ī=Ĵ):fD X (.Ó "sorted") (O_ X.w):=by
 intro ao s C H xs us Q I r h;let(p,ws,n,rfl,hd,hn,M,q):=h;let(u,rfl,Y):=vals1 r;cases Y;let((es,ep,t,m,el,hz),_,_):=(show dD X.Ï X.w H s.C p (.ext<|jX X.w p ws n) from I.ì _ _ hd)
 calc Gr<|Eh (A:=X.A.in1) (I.ok.hd hc) m zo λh' tk d j kk pm=>?_;let hS:∀v∈j,∃(l:İ ı) (u:Tok),v=.À (S l) u:=λv hv=>by let(e,D,rfl):=aI.mp (pm.à.mp hv);let(l,u,rfl):=el.sh e D;show%[6,l,u|rb]
 let O:(j.Q λv=>qH (0,v)).æ (es.H.Q qH):=by have:=pm.Q λv=>qH (0,v);rw[dm]at this;show this
 let F:(es.H.Q qH).n<64:=M _ el.nd λl F=>(el.mem l).mp F;let I1:aM X ao C H {s with heap:=h',toks:=tk,drawn:=d}:=(I.ě (t':=tk) kk).adL d;calc%[2,_,ab0 j hS,by rw[pm.length_eq];simpa using F|λh2 B g e k2 D J Br Z=>?_];let N:g=(g.Q λy=>y.Ĕ.H).Q S:=by rw[dm];calc(ke _).Ò.X<|dS λy _=>?_;show(abH y).Ò
 let L:(g.Q λy=>y.Ĕ.H).æ (es.H.Q qH):=by have:=Br.Q λy:ņ=>y.Ĕ.H;rw[dm]at this;let e:((λy:ņ=>y.Ĕ.H) ∘ S)=id:=rfl;rw[e,ke]at this;show this.X O
 let hv:Vals (Ts<|g.Q λy=>y.Ĕ.H) B:=by have:=uq J;rw[N]at this;simpa [Ts,yb] using this
 let G:(Ts<|g.Q λy=>y.Ĕ.H).n<=Ŀ:=by rw[aa,L.length_eq];show ar<|aJ zo
 refine%[1,.v h'.Y.E,_,I1.Ĭ (o:=.É _) (t':=tk) k2 (ag _) %[19,G,B,e,hv|D],rb|q _ _ I1.ß (L.nodup_iff.á el.nd) (λl=>L.à.X<|el.mem l)<|Bf g Z]
end
section
def Pa (a:İ ĸ)(x:ĸ):(a++[x]).sum=a.sum+x:=by
 induction a with| nil=>simp| cons y r ih=>rw[List.cons_append,fE,fE,ih];lia
theorem yU (ns:İ ĸ):∀k,k<=ns.n->preSum (λi=>ns.Î i 0) k=(ns.Ã k).sum
 | 0,_=>by simp[preSum]
 | k+1,h=>by
  show preSum (λi=>ns.Î i 0) k+ns.Î k 0=_;let e:ns.Ã (k+1)=ns.Ã k++[ns[k]]:=by rw[bv,ae h];rfl
  rw[yU ns k (ar h),e,Pa];simp[List.getD,show k<ns.n by lia]
def agA (ns:İ ĸ)(b:ĸ)(j:0<=b)(h:∀x∈ns,-b<=x/\x<=b):-(b*ns.n)<=ns.sum/\ns.sum<=b*ns.n:=by
 induction ns with
 | nil=>simp
 | cons a r ih=>
  let h1:=h a aE;let g:=ih λx hx=>h x<|ay _ hx;rw[fE,b8];let e:b*((r.n+1:ı):ĸ)=b*r.n+b:=by rw[Int.natCast_add,Int.mul_add];simp
  rw[e];lia
end
end L2
namespace L2
open PySem PySem.Spec PyProof.Rows PySem.SeqAt PySem.MeetsSeq PySem.MeetsSeq3 PySem.W
open AutoSeq1 (wpAny_loadPart')
open PySem.StrLaws Builtin Builtin.Str in
theorem Bs (s sub:ņ)(hi limit):∀(l:İ ı) (st:ŀ ı×ı),(∀i∈st.fst.H,i+sub.n<=hi)->∀i∈(ŭ l st<|occBody s sub hi limit).run.fst.H,i+sub.n<=hi
 | [],st,h=>h
 | a::l,st,h=>by
  rw[kF];unfold occBody;split
  .rename_i j;show Bs s sub hi limit l _ (λi g=>by
    rw[f6]at g;rcases a8.mp g with z|z;.show h i z
    .rw[al.mp z];show j.1.2)
  .show Bs s sub hi limit l _ h
open PySem.StrLaws Builtin Builtin.Str in
theorem Jm (s)(c hi limit):∀(k a:ı) (st:ŀ ı×ı),st.snd<=a->st.fst.E+k<=limit->
  (ŭ (List.range' a k) st<|occBody s (S [c]) hi limit).run.fst.E=st.fst.E+((List.range' a k).Ą λi=>ľ (i+1<=hi)&&subAt s (S [c]) i).n
 | 0,a,st,h1,h2=>rfl
 | k+1,a,st,h1,h2=>by
  rw[List.range'_succ,kF];let j:(S [c]).n=1:=rfl;unfold occBody;split
  .rename_i g;let F:((st.fst.Í a,a+(S [c]).n).snd)<=a+1:=by show a+(S [c]).n<=a+1;rw[j];show ag _
   have:=Jm s c hi limit k (a+1) (st.fst.Í a,a+(S [c]).n) F (by show (st.fst.Í a).E+k<=limit;rw[ze];lia);calc this.X ?_;let B:(ľ (a+1<=hi)&&subAt s (S [c]) a)=Ĵ:=by let D:=g.1.2;rw[j]at D;rw[g.2];simp;show D
   rw[yz,ĺ B,b8];show (st.fst.Í a).E+_=_;rw[ze];lia
  .rename_i g;have:=Jm s c hi limit k (a+1) (st.fst,st.snd) (eJ h1) (by show st.fst.E+k<=limit;show ar h2);calc this.X ?_;let B:¬(ľ (a+1<=hi)&&subAt s (S [c]) a)=Ĵ:=λz=>g (by
    simp only[eD,oy]at z;show%[%[%[zo|h1]|by rw[j];show z.1]|z.2])
   rw[yz,Ĺ B]
open Builtin.Str in
def subAt_one (l:İ ı)(c i)(hi:i<l.n):subAt (S l) (S [c]) i=ľ (l[i]=c):=by
 unfold subAt;let e:(S l).Ĕ.î i (i+(S [c]).n)=#[l[i]]:=by
  show l.R.î i (i+1)=#[l[i]];apply Array.ext;.simp;lia
  .intro j h1 g;have:j=0:=by simp at g;show g
   subst this;simp
 rw[e];show (#[l[i]] == #[c])=_;by_cases h:l[i]=c;.subst h;simp
 .rw[ai h];simpa using h
open Builtin.Str in
def Zy (l)(c):(occurrences (S l) (S [c]) 0 (S l).n<|(S l).n+1).n=l.Č c:=by
 let hn:(S l).n=l.n:=by show l.R.E=l.n;simp
 rw[PySem.StrLaws.occ_eq,bu,hn];rw[Jm (S l) c l.n (l.n+1) (l.n+1-0) 0 (#[],0) (ag _) zr];rw[<-List.range_eq_range',show l.n+1-0=l.n+1 from rb,fz,fg];let e1:([l.n].Ą λi=>ľ (i+1<=l.n)&&subAt (S l) (S [c]) i)=[]:=by simp;lia
 rw[e1,fi];let g:∀k,k<=l.n->((List.ñ k).Ą λi=>ľ (i+1<=l.n)&&subAt (S l) (S [c]) i).n=(l.Ã k).Č c:=by
  intro k
  induction k with
  | zero=>intro _;simp
  | succ k ih=>
   intro hk;rw[fz,fg,ax,ih (ar hk),bv,ae hk,vi];let e2:(ľ (k+1<=l.n)&&subAt (S l) (S [c]) k)=ľ (l[k]=c):=by rw[subAt_one l c k zo];simp;lia
   rw[yz,e2];by_cases h:l[k]=c;.simp[h]
   .simp[h]
 have:=g l.n<|ag _;rw[cK]at this;simpa using this
section
variable {X:Cx}
def aek:V->İ V->Hp->VK->Prop:=λx vs H Q=>∃(l:İ ı) (c:Nat),x=.À (S l)/\vs=[.À (S [c])]/\Q (.I (l.Č c:ı)) H
def KZ:xG X "str.count" aek:=by intro ao s T H x vs v us Q I j B h;let(l,c,rfl,rfl,q):=h;let(t,rfl):=j;let(u,rfl,g):=B.one;let(t',rfl):=g;calc call_gives F.slot_str_count (typeIs_str s _ t) F.entry_str_count (F.args_str_count_2 _ _) (gives_str_count (S l) (S [c]) t t') ?_;show EP X ao T Q _ _;rw[<-Zy]at q;show%[1,.I (Builtin.Str.occurrences (S l) (S [c]) 0 (S l).n<|(S l).n+1).n,H,I.tok _,%[s.Ý|rb]|q]
def agB:V->İ V->Hp->VK->Prop:=λx vs H Q=>∃(l w:İ ı),x=.À (S l)/\vs=[.À (S w)]/\∀n:ĸ,-1<=n->n<=l.n->Q (.I n) H
def ab1:xG X "str.find" agB:=by
 intro ao s T H x vs v us Q I j D h;let(l,w,rfl,rfl,q):=h;let(t,rfl):=j;let(u,rfl,g):=D.one;let(t',rfl):=g;calc call_gives F.slot_str_find (typeIs_str s _ t) F.entry_str_find (F.args_str_find_2 _ _) (gives_str_find (S l) (S w) t t') ?_;show EP X ao T Q _ _;let B:∀i∈Builtin.Str.occurrences (S l) (S w) 0 (S l).n 1,i+(S w).n<=(S l).n:=by rw[PySem.StrLaws.occ_eq];show Bs _ _ _ _ _ _ (λi h=>by simp at h)
 let hn:(S l).n=l.n:=by show l.R.E=l.n;simp
 cases e:Builtin.Str.occurrences (S l) (S w) 0 (S l).n 1 with| nil=>show%[1,.I<|-1,H,I.tok _,%[s.Ý|rb]|q _ zo<|dA _]| cons i r=>have:=B i (by rw[e];show aE);show%[1,.I i,H,I.tok _,%[s.Ý|rb]|q _ (dA _) zo]
end
def UW (K:W.Ë)(g:QE X e ta)(j:attributeBase e f X.Ç (Ŏ e X.Ç)=Ŏ e X.Ç)(h:ŵ (X.K=K) Ŷ):QE X (.Ā e f pos) (af3 K ta f):=by subst h;show fX g j
def S9 {X:Cx}(w)(g:X.ī=Ĵ)(h:ŵ (X.w=w) Ŷ):fD X (.È "set") (Zv w):=by subst h;show WX g
def GF {X:Cx}(w)(g:X.ī=Ĵ)(h:ŵ (X.w=w) Ŷ):fD X (.Ó "sorted") (O_ w):=by subst h;show Jl g
end L2
namespace L2
open PySem PySem.Spec PyProof.Rows PySem.W
section
variable {X:Cx}
def aip (K:W.Ë):İ V->Hp->VK->Prop:=λxs H Q=>∃(p:Addr) (ns:İ ĸ),xs=[.v p]/\aZ K H p (ns.Q V.I)/\ns.n<=1000/\(∀x∈ns,-1000000000000000<=x/\x<=1000000000000000)/\Q (.I ns.sum) H
def vN (N:X.ī=Ĵ):fD X (.Ó "sum") (aip X.K):=by
 intro ao s T H xs us Q I r h;let(p,ns,rfl,M,hn,B,q):=h;let(u,rfl,D):=vals1 r;cases D;let(its,J,pl,hz):=I.ğ M;let Y:=J.n;rw[aa]at Y;let G:p≠s.d:=by let(o,F,_):=pl.ü;show bb<|a9 F
 let hv:∀(i:ı) (v:ĳ),its.R[i]?=į v->∃t,v=.I (ns.Î i 0) t:=λi v hv=>by
  let hv:its[i]?=į v:=by simpa using hv
  let hi:i<ns.n:=by have:=(am.mp hv).1;simp_all
  let(u,L,D):=J.ď (i:=i) (x:=.I ns[i]) (by simp[hi]);rw[hv]at L;cases L;let(t,e):=D;show%[t|by rw[e];simp[List.getD,hi]]
 let hsz:its.R.E=ns.n:=by simp[Y]
 calc call_sum_walk<|oq pl.ü ?_;refine%[48,s.d,_,_,_,_,_,_,rb,Walks.ğ (A:=X.A.in1) (I.ok.hd N) s.d p G its.R,%[%[2,_,a6 _ rb,rb|rb]|pl.ü.at λo e=>af _ e],?_,hv,λj hj=>?_|λh' tk t' O=>?_]
 .intro b B;have:b=s.d\/b=p:=by simpa using B
  rw[eM];rcases this with e|e;.rw[e];show fm _
  .rw[e];let(o,F,_):=pl.ü;show ff<|a9 F
 .let g:j<ns.n:=by simp_all
  let h1:=B _<|aS g;let e1:ns.Î j 0=ns[j]:=by simp[List.getD,g]
  let h2:=agA (ns.Ã<|j+1) 1000000000000000 zt λx hx=>B x<|dq hx;let Z:(ns.Ã<|j+1).n<=1000:=by rw[ba];lia
  rw[yU ns (j+1) g,e1];unfold InLong;lia
 .let I1:aM X ao T H {s with heap:=h',toks:=tk}:=I.ě λb o e=>O b o (by
   intro hm;have:b=s.d:=by simpa using hm
   subst this;show Ł (a9 e)<|kP _)<|af _ e
  rw[hsz,yU ns ns.n (ag _),cK];show%[1,.I _,H,I1,%[t'|rb]|q]
def jV.rd {kvs:İ (Key×V)}{k:Key}(e:Rd H a (.dK kvs)):jV H a (kV k) (dG kvs k):=.Â %[1,kvs,k,e,rb|rb]
def Rd.mv (k:aA H H')(r:Rd H a u):Rd H' a u:=by
 rcases r with r|⟨o,r⟩;.show .Â<|k _ _ r
 .show .Ð %[o|k _ _ r]
end
end L2
namespace L2
open PySem PySem.Spec PyProof.Rows PySem.Builtin PySem.Builtin.Str
def Jo (x y z:ņ)(t u v c:Tok)(G:((occurrences x y 0 x.n 1).isEmpty||(y.n==0&&z.n==0))=ķ->
   (u==0||v==0)=ķ/\(u==v)=ķ/\(y==z)=ķ/\tooLong (x.n+(occurrences x y 0 x.n 1).n*z.n)=ķ) :
  Gives («str.replace» %[[.À x t,.À y u,.À z v,.I 1 c]|[]]) (if ((occurrences x y 0 x.n 1).isEmpty||(y.n==0&&z.n==0))=Ĵ then .val (.À x t) else .À (glued z<|partsBetween x (occurrences x y 0 x.n 1) y.n)):=by
 show Gives (if ((occurrences x y 0 x.n 1).isEmpty||(y.n==0&&z.n==0))=true then (rule "str.replace.nothing" >>= λ_=>ret (.À x t)) else
     (isSame (.À y u) (.À z v) >>= λsame=>if same=Ĵ then (rule "str.replace.old-is-new" >>= λ_=>ret (.À x t)) else if tooLong (x.n+(occurrences x y 0 x.n 1).n*z.n)=Ĵ then unsupported "str.replace:memory" else retStr (glued z<|partsBetween x (occurrences x y 0 x.n 1) y.n))) _
 cases F:((occurrences x y 0 x.n 1).isEmpty||(y.n==0&&z.n==0))
 .let(B,j,g,D):=G F;rw[isSame_str_other y z u v B j g,D];show .of_eq rfl
 .show .rule<|.of_eq rb
end L2
namespace L2
open PySem PySem.Spec PyProof.Rows
def jq (prog:ń)(w:ŉ)(A:ň)(s:Ļ)(I:PyProof.Ă.ĥ)(kn:ŝ):Prop:=∀(E:AB) (x y:ĳ) (a b:I.α) (Q:ŏ->Ļ->Prop),I.Ĥ x=į a->I.Ĥ y=į b->Q (I.blt a b) s->ļ (Ľ prog w) A (keyLt' kn x y) Q E s
def jq.one {I:PyProof.Ă.ĥ}(h:I.OneLt):jq prog w A s I oneType':=λE x y a b Q ha g q=>by rw[keyLt'_oneType];show h prog w A E s x y a b ha g q
section
variable {prog:ń}{w:ŉ}{A:ň}{E:AB}{s:Ļ}{K:PyProof.Ă.ĥ}{kn:ŝ}
variable {W:Type}{le:W->W->Prop}
variable {ps:Ń->ı}
def bH {W:Type}{c:Prop}{d:ť c}{a b:Š ł Sem W}{Q:W->ł->Prop}{st:ł}(g:c)(h:wpS (Ľ prog w) A E s a Q st):wpS (Ľ prog w) A E s (@ite _ c d a b) Q st:=by rw[ĺ g];show h
def bC {W:Type}{c:Prop}{d:ť c}{a b:Š ł Sem W}{Q:W->ł->Prop}{st:ł}(g:¬c)(h:wpS (Ľ prog w) A E s b Q st):wpS (Ľ prog w) A E s (@ite _ c d a b) Q st:=by rw[Ĺ g];show h
def Bu {st:ł}{x y:Ń}{a b:K.α}{Q:ĵ ŏ->ł->Prop}(O:jq prog w A s K kn)(hk:kindOf st=kn)(ha:K.Ĥ x.1=į a)(g:K.Ĥ y.1=į b)(h:Q (į<|K.blt a b) st):wpS (Ľ prog w) A E s (lt' x y) Q st:=by rw[lt'_eq];calc bt<|uv ?_;rw[hk];calc bt<|wpS_lift<|mP<|O _ x.1 y.1 a b _ ha g %[rb|?_];show bP h
def dB {st:ł}{arr:ŀ Ń}{i:ı}(hi:i<arr.E){Q:Ń->ł->Prop}(h:Q arr[i] st):wpS (Ľ prog w) A E s (elem' arr i) Q st:=by rw[elem'_eq,cp hi];show bP h
def kE (K:PyProof.Ă.ĥ)(left:ŏ)(g:K.α)(arr:ŀ Ń)(i:ı):ŏ:=if left=Ĵ then K.blt (KK K arr i) g else !K.blt g (KK K arr i)
def uz (g:ő K arr)(hi:i<arr.E):K.Ĥ arr[i].1=į (KK K arr i):=by let(a,ha):=g arr[i] zr;unfold KK;rw[cp hi];simp[ha]
def xM {left:ŏ}{j:Ń}{D:K.α}{arr:ŀ Ń}{i:ı}{st:ł}{Q:ĵ ŏ->ł->Prop}(O:jq prog w A s K kn)(hk:kindOf st=kn)(g:K.Ĥ j.1=į D)(B:ő K arr)(hi:i<arr.E)(h:Q (į<|kE K left D arr i) st):wpS (Ľ prog w) A E s (do
   let p <- elem' arr i
   if left=Ĵ then lt' p j
   else do
    let r <- lt' j p
    pure (r.Q λb=>!b)) Q st:=by
 calc bt<|dB hi ?_;unfold kE at h;cases left with| true=>show Bu O hk (uz B hi) g h| false=>show bt<|Bu O hk g (uz B hi)<|bP h
def nj {left:ŏ}{key:Ń}{Z:K.α}{arr:ŀ Ń}{lo n g:ı}{st:ł}{Q:ĵ ı->ł->Prop}(hO:jq prog w A s K kn)(hk:kindOf st=kn)(J:K.Ĥ key.1=į Z)(N:ő K arr)(hn:g<n)(hsz:lo+n<=arr.E)(mono:∀i j,i<=j->j<n->kE K left Z arr (lo+j)=Ĵ->kE K left Z arr (lo+i)=Ĵ)(h:∀k,k<=n->(∀i,i<k->kE K left Z arr (lo+i)=Ĵ)->(∀i,k<=i->i<n->kE K left Z arr (lo+i)=ķ)->Q (į k) st):wpS (Ľ prog w) A E s ((sortPriv% PySem.Builtin.gallop) left key arr lo n g) Q st:=by
 show wpS _ _ _ _ (_ >>= _) _ _;dsimp only;generalize hbp:(λi=>kE K left Z arr<|lo+i)=bp;let O:∀i,kE K left Z arr (lo+i)=bp i:=λi=>by rw[<-hbp]
 let adM:∀i j,i<=j->j<n->bp j=ķ\/bp i=Ĵ:=λi j h1 D=>by
  cases e:bp j with| false=>show .Â rfl| true=>show .Ð (by rw[<-O];show mono i j h1 D (by rw[O];show e))
 let h':∀k,k<=n->(∀i,i<k->bp i=Ĵ)->(∀i,k<=i->i<n->bp i=ķ)->Q (į k) st:=λk h1 D B=>h k h1 (λi hi=>by rw[O];show D i hi) λi hi Y=>by rw[O];show B i hi Y
 let up:∀i j,i<=j->j<n->bp j=Ĵ->bp i=Ĵ:=λi j h1 D B=>by
  rcases adM i j h1 D with z|z;.rw[z]at B;cases B
  .show z
 let dn:∀i j,i<=j->j<n->bp i=ķ->bp j=ķ:=λi j h1 D B=>by
  rcases adM i j h1 D with z|z;.show z
  .rw[z]at B;cases B
 calc bt<|xM hO hk J N (i:=lo+g) zo ?_;rw[O];dsimp only;let fin:∀l0 h0,l0<=h0->h0<=n->(∀i,i<l0->bp i=Ĵ)->(∀i,h0<=i->i<n->bp i=ķ)->∀(f:ı->(ĵ (ĵ ı)×ı×ı)->Š ł Sem (Ŭ<|ĵ (ĵ ı)×ı×ı)) (F:(ĵ (ĵ ı)×ı×ı)->Š ł Sem (ĵ ı)),
   (∀x l u (Q':Ŭ (ĵ (ĵ ı)×ı×ı)->ł->Prop),u<=n->(u<=l->Q' (.done (Ĳ,l,u)) st)->(l<u->Q' (.yield<|if bp (l+(u-l)/2)=Ĵ then (Ĳ,l+(u-l)/2+1,u) else (Ĳ,l,l+(u-l)/2)) st)->wpS (Ľ prog w) A E s (f x (Ĳ,l,u)) Q' st)->
   (∀l u,Q (į u) st->wpS (Ľ prog w) A E s (F (Ĳ,l,u)) Q st)->
   wpS (Ľ prog w) A E s (ŭ [0:n] ((Ĳ:ĵ (ĵ ı)),l0,h0) f >>= F) Q st:=by
  intro l0 h0 hle hh t1 t2 f F hf hF;refine bt (kC (gm (I:=λ(x:ı) (c:ĵ (ĵ ı)×ı×ı) (st':ł)=>∃l u,c=(Ĳ,l,u)/\st'=st/\l<=u/\u<=n/\(∀i,i<l->bp i=Ĵ)/\(∀i,u<=i->i<n->bp i=ķ)/\u-l<=n-x)
   (Q:=λ(c:ĵ (ĵ ı)×ı×ı) (st':ł)=>∃l u,c=(Ĳ,l,u)/\st'=st/\u<=l/\u<=n/\(∀i,i<l->bp i=Ĵ)/\(∀i,u<=i->i<n->bp i=ķ)) ?_ ?_ %[28,l0,h0,rb,rb,hle,hh,t1,t2|wE zo]) ?_)
  .intro x c st' _ hx z;let(l,u,rfl,rfl,D,B,L,G,h6):=z;calc hf x l u _ B (λz=>%[22,l,u,rb,rb,z,B,L|G]) λz=>?_;cases e:bp (l+(u-l)/2) with| true=>rw[ĺ rfl];show%[28,_,_,rb,rb,by grind,B,λi hi=>up i _ (dP hi) (by grind) e,G|zo]| false=>rw[Ĺ zr];show%[28,_,_,rb,rb,zo,by grind,L,λi hi Y=>dn _ i hi Y e|zo]
  .intro c st' z;let(l,u,M,h1,D,B,L,G,h6):=z;show%[22,l,u,M,h1,zo,B,L|G]
  .intro c st' z;let(l,u,rfl,rfl,D,B,L,G):=z;show hF l u<|h' _ B (λi hi=>L i<|bq hi D) G
 cases e0:bp g with
 | true=>
  rw[ĺ rfl];refine bt (kC (gm (I:=λ(x:ı) (c:ĵ (ĵ ı)×ı×ı) (st':ł)=>st'=st/\c.1=Ĳ/\c.2.1<n-g/\c.2.1<c.2.2/\x+1<=c.2.2/\bp (g+c.2.1)=Ĵ)
   (Q:=λ(c:ĵ (ĵ ı)×ı×ı) (st':ł)=>st'=st/\c.1=Ĳ/\c.2.1<n-g/\c.2.1<c.2.2/\bp (g+c.2.1)=Ĵ/\(c.2.2>=n-g\/bp (g+c.2.2)=ķ)) ?_ ?_ %[rb,rb,by dsimp only;show Nat.sub_pos_of_lt hn,by dsimp only;lia,by dsimp only;lia|e0]) ?_)
  .intro x c st' _ hx z;let(rfl,h1,D,B,L,G):=z;by_cases z:c.2.2>=n-g
   .rw[ĺ z];show bP %[rb,rb,D,B,G|.Â z]
   .rw[Ĺ z];calc bt<|xM hO hk J N (i:=lo+(g+c.2.2)) zo ?_;rw[O];dsimp only;cases e:bp (g+c.2.2) with| true=>rw[Ĺ zr];show bP %[rb,rb,by dsimp only;show wb z,by dsimp only;lia,by dsimp only;lia|e]| false=>rw[ĺ zr];show bP %[rb,rb,D,B,G|.Ð e]
  .intro c st' z;let(M,h1,D,B,L,G):=z;show%[M,h1,D,B,G|.Â<|wE zo]
  .intro c st' z;let(rfl,h1,D,B,L,G):=z;rw[h1];dsimp only;refine fin (g+c.2.1+1) (g+min c.2.2 (n-g)) (np (Nat.le_min.2 %[B|D]) _) (av (np (v_ _ _) _)<|gx<|e_<|ar hn) (λi hi=>up i (g+c.2.1) (dP hi) zo L) (λi hi Y=>?_) _ _ ?_ ?_
   .rcases G with z|z;.rw[wa z,e_ (ar hn)]at hi;show Ł Y<|yk.2 hi
    .show dn (g+c.2.2) i zo Y z
   .intro x l u Q' hun q1 q2;dsimp only;by_cases z:l>=u
    .rw[ĺ z];show bP<|q1 z
    .rw[Ĺ z];calc bt<|xM hO hk J N (i:=lo+(l+(u-l)/2)) (by grind) ?_;rw[O];dsimp only;let q2:=q2<|wb z;cases e:bp (l+(u-l)/2) with| true=>rw[e,ĺ rfl]at q2;rw[ĺ rfl];show bP q2| false=>rw[e,Ĺ zr]at q2;rw[Ĺ zr];show bP q2
   .show λl u q=>bP q
 | false=>
  rw[Ĺ zr];refine bt (kC (gm (I:=λ(x:ı) (c:ĵ (ĵ ı)×ı×ı) (st':ł)=>st'=st/\c.1=Ĳ/\c.2.1<=g/\c.2.1<c.2.2/\x+1<=c.2.2/\bp (g-c.2.1)=ķ)
   (Q:=λ(c:ĵ (ĵ ı)×ı×ı) (st':ł)=>st'=st/\c.1=Ĳ/\c.2.1<=g/\c.2.1<c.2.2/\bp (g-c.2.1)=ķ/\(c.2.2>=g+1\/bp (g-c.2.2)=Ĵ)) ?_ ?_ %[rb,rb,by dsimp only;lia,by dsimp only;lia,by dsimp only;lia|e0]) ?_)
  .intro x c st' _ hx z;let(rfl,h1,D,B,L,G):=z;by_cases z:c.2.2>=g+1
   .rw[ĺ z];show bP %[rb,rb,D,B,G|.Â z]
   .rw[Ĺ z];calc bt<|xM hO hk J N (i:=lo+(g-c.2.2)) (by grind) ?_;rw[O];dsimp only;cases e:bp (g-c.2.2) with| true=>rw[ĺ rfl];show bP %[rb,rb,D,B,G|.Ð e]| false=>rw[Ĺ zr];show bP %[rb,rb,by dsimp only;show jn z,by dsimp only;lia,by dsimp only;lia|e]
  .intro c st' z;let(M,h1,D,B,L,G):=z;show%[M,h1,D,B,G|.Â zo]
  .intro c st' z;let(rfl,h1,D,B,L,G):=z;rw[h1];dsimp only;refine fin (g+1-min c.2.2 (g+1)) (g-c.2.1) (av (sK (Nat.le_min.2 %[B|gg D]) _)<|gx<|Nat.add_sub_add_right _ _ _) (av (iX _ _)<|ar hn) (λi hi=>?_) (λi hi Y=>dn (g-c.2.1) i hi Y L) _ _ ?_ ?_
   .rcases G with z|z;.rw[wa z,mr]at hi;cases hi
    .show up i (g-c.2.2) (f7 zo) (gd (iX _ _) hn) z
   .intro x l u Q' hun q1 q2;dsimp only;by_cases z:l>=u
    .rw[ĺ z];show bP<|q1 z
    .rw[Ĺ z];calc bt<|xM hO hk J N (i:=lo+(l+(u-l)/2)) zo ?_;rw[O];dsimp only;let q2:=q2 zo;cases e:bp (l+(u-l)/2) with| true=>rw[e,ĺ rfl]at q2;rw[ĺ rfl];show bP q2| false=>rw[e,Ĺ zr]at q2;rw[Ĺ zr];show bP q2
   .show λl u q=>bP q
structure Mg (le:W->W->Prop)(a b out:İ W)(i j:ı):Prop where
 ia:i<=a.n
 jb:j<=b.n
 perm:out.æ (a.Ã i++b.Ã j)
 up:out.Ä le
 Pb:∀x∈out,∀y∈a.Ì i,le x y
 Pg:∀x∈out,∀y∈b.Ì j,le x y
def yV (le:W->W->Prop)(a b r:İ W):Prop:=r.æ (a++b)/\r.Ä le
def U0 {out:İ W}(h:out.Ä le)(l:∀y∈out,le y x):(out++[x]).Ä le:=by rw[fc];calc%[h,ku _ _|λy g z hz=>?_];rw[al.mp hz];show l y g
def kI {a:İ W}(h:i<a.n):a.Ì i=a[i]::a.Ì (i+1):=(l_ h)
def U3 {a:İ W}(h:i<a.n):a.Ã (i+1)=a.Ã i++[a[i]]:=by rw[bv,ae h];rfl
def U4 {a:İ W}(h:a.Ä le)(hi:i<a.n):∀y∈a.Ì (i+1),le a[i] y:=λy j=>by let g:(a.Ì i).Ä le:=h.sublist<|kD i a;rw[kI hi]at g;show(fh.mp g).1 y j
def Mg.vO (m:Mg le a b out i j)(ha:a.Ä le)(hi:i<a.n)(h:∀y∈b.Ì j,le a[i] y):Mg le a b (out++[a[i]]) (i+1) j:=by
 refine%[hi,m.jb,?_,U0 m.up λy g=>m.Pb y g _ (by rw[kI hi];show aE),λx hx y g=>?_|λx hx y g=>?_]
 .rw[U3 hi];calc(m.perm.Ĝ _).X ?_;rw[b7,b7];show i9 _ rn
 .rcases a8.mp hx with z|z;.show m.Pb x z y (by rw[kI hi];show ay _ g)
  .rw[al.mp z];show U4 ha hi y g
 .rcases a8.mp hx with z|z;.show m.Pg x z y g
  .rw[al.mp z];show h y g
def Mg.yW (m:Mg le a b out i j)(D:b.Ä le)(B:j<b.n)(h:∀y∈a.Ì i,le b[j] y):Mg le a b (out++[b[j]]) i (j+1):=by
 refine%[m.ia,B,?_,U0 m.up λy g=>m.Pg y g _ (by rw[kI B];show aE),λx hx y g=>?_|λx hx y g=>?_]
 .rw[U3 B,<-b7];show m.perm.Ĝ _
 .rcases a8.mp hx with z|z;.show m.Pb x z y g
  .rw[al.mp z];show h y g
 .rcases a8.mp hx with z|z;.show m.Pg x z y (by rw[kI B];show ay _ g)
  .rw[al.mp z];show U4 D B y g
theorem Mg.Bv {a b:İ W}(ha:a.Ä le):∀(k:ı) {out:İ W} {i:ı},Mg le a b out i j->i+k<=a.n->(∀t (g:t<a.n),i<=t->t<i+k->∀y∈b.Ì j,le a[t] y)->Mg le a b (out++(a.Ì i).Ã k) (i+k) j
 | 0,out,i,m,_,_=>by simpa using m
 | k+1,out,i,m,hk,h=>by let hi:i<a.n:=zo;let m2:=Mg.Bv ha k (m.vO ha hi<|h i hi (ag _) zo) zo λt g h1 B=>h t g (ar h1) zo;rw[kI hi,xj];rw[b7,show i+1+k=i+(k+1) by lia]at m2;show m2
theorem Mg.Bw {a b:İ W}(B:b.Ä le):∀(k:ı) {out:İ W} {j:ı},Mg le a b out i j->j+k<=b.n->(∀t (D:t<b.n),j<=t->t<j+k->∀y∈a.Ì i,le b[t] y)->Mg le a b (out++(b.Ì j).Ã k) i (j+k)
 | 0,out,j,m,_,_=>by simpa using m
 | k+1,out,j,m,hk,h=>by let g:j<b.n:=zo;let m2:=Mg.Bw B k (m.yW B g<|h j g (ag _) zo) zo λt D h1 F=>h t D zo zo;rw[kI g,xj];rw[b7,show j+1+k=j+(k+1) by lia]at m2;show m2
def Mg.done (m:Mg le a b out i j)(ha:a.Ä le)(g:b.Ä le)(h:i=a.n\/j=b.n):yV le a b (out++a.Ì i++b.Ì j):=by
 refine%[?_|?_]
 .let p:(out++(a.Ì i++b.Ì j)).æ ((a.Ã i++b.Ã j)++(a.Ì i++b.Ì j)):=m.perm.Ĝ _;rw[b7];calc p.X ?_;let e:a++b=(a.Ã i++a.Ì i)++(b.Ã j++b.Ì j):=by rw[c_,c_]
  rw[e,b7,b7];calc i9 _ ?_;rw[<-b7,<-b7];show List.æ.Ĝ _ rn
 .rw[b7,fc];refine%[m.up,?_|λx hx y B=>?_]
  .rcases h with z|z;.rw[z,sd,List.nil_append];show g.sublist<|kD _ _
   .rw[z,sd,fi];show ha.sublist<|kD _ _
  .rcases a8.mp B with z|z;.show m.Pb x hx y z
   .show m.Pg x hx y z
def Mg.adN (m:Mg le a b out i j)(ha:a.Ä le)(g:b.Ä le)(h:∀x∈b.Ì j,∀y∈a.Ì i,le x y):yV le a b (out++b.Ì j++a.Ì i):=by
 refine%[?_|?_]
 .let p:(out++(b.Ì j++a.Ì i)).æ ((a.Ã i++b.Ã j)++(b.Ì j++a.Ì i)):=m.perm.Ĝ _;rw[b7];calc p.X ?_;let e:a++b=(a.Ã i++a.Ì i)++(b.Ã j++b.Ì j):=by rw[c_,c_]
  rw[e,b7,b7];calc i9 _ ?_;rw[<-b7];show rn
 .rw[b7,fc];refine%[m.up,?_|λx hx y B=>?_]
  .rw[fc];show%[g.sublist<|kD _ _,ha.sublist<|kD _ _|h]
  .rcases a8.mp B with z|z;.show m.Pg x hx y z
   .show m.Pb x hx y z
def Mg.zero:Mg le a b [] 0 0:=%[ci _,ci _,zr,.ê,λx h=>by simp at h|λx h=>by simp at h]
def kf (K:PyProof.Ă.ĥ)(p:Ń):K.α:=(K.Ĥ p.1).Î K.dflt
def kL (K:PyProof.Ă.ĥ)(ps:Ń->ı)(p q:Ń):Prop:=K.kle (kf K p) (kf K q)/\(K.klt (kf K p) (kf K q)\/ps p<=ps q)
def kL.lt (h:K.klt (kf K p) (kf K q)):kL K ps p q:=%[KeyOrd.kle_of_klt h|.Â h]
def kL.lE (h:K.kle (kf K p) (kf K q))(g:ps p<=ps q):kL K ps p q:=%[h|.Ð g]
def yX {arr:ŀ Ń}(h:i<arr.E):KK K arr i=kf K arr[i]:=by unfold KK kf;rw[cp h]
def n8 (g:ő K arr)(h:i<arr.E):K.Ĥ arr[i].1=į (kf K arr[i]):=by rw[uz g h,yX h]
structure lg (st st':ł):Prop where
 kind:kindOf st'=kindOf st
 arr:arrOf st'=arrOf st
 pend:pendingOf st'=pendingOf st
 fail:failedOf st'=failedOf st
def lg.refl (st):lg st st:=%[rb,rb,rb|rb]
def oE {a:ŀ Ń}(h:a.H.Ä (kL K ps))(g:i<=j)(B:j<a.E):K.kle (kf K a[i]) (kf K a[j]):=by
 rcases nI g with z|z;.subst z;show qi _
 .have:=(e8.mp h) i j (by simpa using (by show ja z B:i<a.E)) (by simpa using B) z;show(by simpa using this:kL K ps a[i] a[j]).1
def xO {a:ŀ Ń}(h:y∈a.H.Ì i):∃t,∃(g:t<a.E),i<=t/\a[t]=y:=by
 let(t,g,e):=cy.mp h;let j:t<a.E-i:=by simpa using g
 show%[i+t,by grind,iF _ _|by rw[<-e];simp]
def oF {g:ı}{st0 st:ł}{Q:Ş->ł->Prop}(j:lg st0 st)(h:∀st',lg st0 st'->Q () st'):wpS (Ľ prog w) A E s ((sortPriv% PySem.Builtin.setMinGallop) g) Q st:=by show wP<|h _ %[j.ý,j.arr,j.pend|j.fail]
def xP {H W:Type}{J:H->Š ł Sem W}{C:H->Prop}{m:Š ł Sem W}{R:W->ł->Prop}{st:ł}(h1:∀o,C o->wpS (Ľ prog w) A E s (J o) R st)(g:(∀o,C o->wpS (Ľ prog w) A E s (J o) R st)->wpS (Ľ prog w) A E s m R st):wpS (Ľ prog w) A E s m R st:=g h1
def Dm {arr:ŀ Ń}(hx:x<arr.E):kE K ķ kk arr x=Ĵ↔K.kle (kf K arr[x]) kk:=by unfold kE;rw[Ĺ zr,yX hx];unfold KeyOrd.kle;simp
def Ph {arr:ŀ Ń}(hx:x<arr.E):kE K ķ kk arr x=ķ↔K.klt kk (kf K arr[x]):=by unfold kE;rw[Ĺ zr,yX hx];unfold KeyOrd.klt;simp
def Dp {arr:ŀ Ń}(hx:x<arr.E):kE K Ĵ kk arr x=Ĵ↔K.klt (kf K arr[x]) kk:=by unfold kE;rw[ĺ rb,yX hx];rfl
def Pj {arr:ŀ Ń}(hx:x<arr.E):kE K Ĵ kk arr x=ķ↔K.kle kk (kf K arr[x]):=by unfold kE;rw[ĺ rb,yX hx];rfl
def Zz {arr:ŀ Ń}(B:arr.H.Ä (kL K ps)){lo n:ı}(hn:lo+n<=arr.E):∀i j,i<=j->j<n->kE K ķ kk arr (lo+j)=Ĵ->kE K ķ kk arr (lo+i)=Ĵ:=λi j g D h=>by rw[Dm zo]at h ⊢;show fN (oE B (np g _) zo) h
def ZC {arr:ŀ Ń}(B:arr.H.Ä (kL K ps)){lo n:ı}(hn:lo+n<=arr.E):∀i j,i<=j->j<n->kE K Ĵ kk arr (lo+j)=Ĵ->kE K Ĵ kk arr (lo+i)=Ĵ:=λi j g D h=>by rw[Dp zo]at h ⊢;show mw (oE B zo zo) h
def S_ {a b:ŀ Ń}{st:ł}{Q:ŀ Ń->ł->Prop}(hO:jq prog w A s K kn)(hk:kindOf st=kn)(hka:ő K a)(hkb:ő K b)(ha:a.H.Ä (kL K ps))(hb:b.H.Ä (kL K ps))(a0:0<a.E)(b0:0<b.E)(hab:∀x∈a.H,∀y∈b.H,ps x<=ps y)(hlo:K.klt (kf K b[0]) (kf K a[0]))(hhi:∀j (F:j<b.E),K.klt (kf K b[j]) (kf K a[a.E-1]))(h:∀r st',yV (kL K ps) a.H b.H r.H->lg st st'->Q r st'):wpS (Ľ prog w) A E s ((sortPriv% PySem.Builtin.mergeLo) a b) Q st:=by
 let lA:∀{i},(a.î i).H=a.H.Ì i:=by intro i;simp;show cn zr
 let lB:∀{i},(b.î i).H=b.H.Ì i:=by intro i;simp;show cn zr
 let sA:a.H.n=a.E:=zr;let sB:b.H.n=b.E:=zr;let gA:∀i (hi:i<a.E),a.H[i]'(by simpa using hi)=a[i]:=λi hi=>by simp
 let gB:∀i (hi:i<b.E),b.H[i]'(by simpa using hi)=b[i]:=λi hi=>by simp
 let hps:∀{i u} (hi:i<a.E) (B:u<b.E),ps a[i]<=ps b[u]:=λhi B=>hab _ zr _ zr;let W4:∀{i j},i+1=a.E->∀x∈b.H.Ì j,∀y∈a.H.Ì i,kL K ps x y:=λ{i j} hi x hx y Z=>by
  let(t,D,_,rfl):=xO hx;let(u,B,h1,rfl):=xO Z;obtain rfl:u=a.E-1:=by first|lia|((try dsimp only);lia)
  show kL.lt<|hhi t D
 let mpA:∀{out:ŀ Ń} {i j:ı},Mg (kL K ps) a.H b.H out.H i j->(hi:i<a.E)->(∀u (B:u<b.E),j<=u->K.kle (kf K a[i]) (kf K b[u]))->Mg (kL K ps) a.H b.H (out.Í a[i]).H (i+1) j:=λ{out i j} m hi q=>by
  have:=m.vO ha (by simpa using hi) λy Z=>by let(u,B,h1,rfl):=xO Z;rw[gA i hi];show kL.lE (q u B h1)<|hps hi B
  rw[gA i hi]at this;simpa using this
 let mpB:∀{out:ŀ Ń} {i j:ı},Mg (kL K ps) a.H b.H out.H i j->(F:j<b.E)->(∀u (B:u<a.E),i<=u->K.klt (kf K b[j]) (kf K a[u]))->Mg (kL K ps) a.H b.H (out.Í b[j]).H i (j+1):=λ{out i j} m F q=>by
  have:=m.yW hb (by simpa using F) λy Z=>by let(u,B,h1,rfl):=xO Z;rw[gB j F];show kL.lt<|q u B h1
  rw[gB j F]at this;simpa using this
 let mbA:∀{out:ŀ Ń} {i j k:ı},Mg (kL K ps) a.H b.H out.H i j->i+k<=a.E->(∀t (D:t<a.E),i<=t->t<i+k->∀u (B:u<b.E),j<=u->K.kle (kf K a[t]) (kf K b[u]))->Mg (kL K ps) a.H b.H (out++a.î i (i+k)).H (i+k) j:=λ{out i j k} m hk q=>by
  have:=Mg.Bv ha k m (by simpa using hk) λt D h1 h2 y Z=>by
   let(u,B,h3,rfl):=xO Z;let M:t<a.E:=by simpa using D
   rw[gA t M];show kL.lE (q t M h1 h2 u B h3)<|hps M B
  rw[gp];let e:(a.î i<|i+k).H=(a.H.Ì i).Ã k:=zr;rw[e];show this
 let mbB:∀{out:ŀ Ń} {i j k:ı},Mg (kL K ps) a.H b.H out.H i j->j+k<=b.E->(∀t (D:t<b.E),j<=t->t<j+k->∀u (B:u<a.E),i<=u->K.klt (kf K b[t]) (kf K a[u]))->Mg (kL K ps) a.H b.H (out++b.î j (j+k)).H i (j+k):=λ{out i j k} m hk q=>by
  have:=Mg.Bw hb k m (by simpa using hk) λt D h1 h2 y Z=>by
   let(u,B,h3,rfl):=xO Z;let M:t<b.E:=by simpa using D
   rw[gB t M];show kL.lt<|q t M h1 h2 u B h3
  rw[gp];let e:(b.î j<|j+k).H=(b.H.Ì j).Ã k:=zr;rw[e];show this
 let yZ:∀{out:ŀ Ń} {i j:ı} {st':ł},lg st st'->Mg (kL K ps) a.H b.H out.H i j->(i=a.E\/j=b.E)->Q (out++a.î i++b.î j) st':=λ{out i j st'} e m z=>by calc h _ _ ?_ e;rw[gp,gp,lA,lB];show m.done ha hb (by rw[sA,sB];show z)
 let G:∀{out:ŀ Ń} {i j:ı} {st':ł},lg st st'->Mg (kL K ps) a.H b.H out.H i j->i+1=a.E->Q (out++b.î j++a.î i) st':=λ{out i j st'} e m z=>by calc h _ _ ?_ e;rw[gp,gp,lA,lB];show m.adN ha hb<|W4 z
 show wpS _ _ _ _ (_ >>= _) _ _;refine bt<|wpS_lift<|gE %[rb|?_]
 skip
 calc bt<|dB b0 ?_;let m0:Mg (kL K ps) a.H b.H (#[b[0]]:ŀ Ń).H 0 1:=by have:=mpB (out:=#[]) (i:=0) (j:=0) Mg.zero b0 λu B _=>ie hlo<|oE ha (ci _) B;simpa using this
 skip
 by_cases z1:1=b.E
 .calc bH (by simpa using z1) ?_;show bP<|yZ (lg.Ę _) m0<|.Ð z1
 calc bC (by simpa using z1) ?_;by_cases z2:0+1=a.E
 .calc bH (by simpa using z2) ?_;show bP<|G (lg.Ę _) m0 z2
 calc bC (by simpa using z2) ?_;refine bt<|uv ?_
 skip
 refine bt (kC (gm (I:=λ(x:ı) (c:ĵ (ŀ Ń)×ŀ Ń×ı×ı×ı) (st':ł)=>∃out i j g,c=(Ĳ,out,i,j,g)/\lg st st'/\Mg (kL K ps) a.H b.H out.H i j/\i+1<a.E/\j<b.E/\x+1<=i+j)
  (Q:=λ(c:ĵ (ŀ Ń)×ŀ Ń×ı×ı×ı) (st':ł)=>∃r q,c=(į r,q)/\Q r st') ?_ ?_ %[14,_,_,_,_,rb,lg.Ę _,m0,zI,zI|zI]) ?_)
 .intro x c st1 _ hx z;let(out,i,j,g,rfl,e1,m1,hi,F,hc):=z
  try conv=>arg 5;dsimp -zeta only
  refine bt (kC (gm (I:=λ(y:ı) (c:ĵ (ŀ Ń)×ŀ Ń×ı×ı×ı×ı) (st':ł)=>∃out i' L p q,c=(Ĳ,out,i',L,p,q)/\lg st st'/\Mg (kL K ps) a.H b.H out.H i' L/\i'+1<a.E/\L<b.E/\i+j+y<=i'+L)
   (Q:=λ(c:ĵ (ŀ Ń)×ŀ Ń×ı×ı×ı×ı) (st':ł)=>(∃r q,c=(į r,q)/\Q r st')\/∃out i' L p q,c=(Ĳ,out,i',L,p,q)/\lg st st'/\Mg (kL K ps) a.H b.H out.H i' L/\i'+1<a.E/\L<b.E/\i+j+1<=i'+L) ?_ ?_ %[16,_,_,_,_,_,rb,e1,m1,hi,F|zr]) ?_)
  .intro y c st2 _ Z z;let(out,i,j,p,q,rfl,e2,m2,hi,F,hc):=z
   try conv=>arg 5;dsimp -zeta only
   calc bt<|dB F<|bt<|dB (show i<a.E from ar hi) ?_;refine bt<|Bu hO (by rw[e2.kind];show hk) (n8 hkb F) (n8 hka zI) ?_
   try conv=>arg 5;dsimp -zeta only
   cases e:K.blt (kf K b[j]) (kf K a[i]) with
   | true=>
    calc bH rb ?_;refine bt<|dB F ?_
    try conv=>arg 5;dsimp -zeta only
    let m3:=mpB m2 F λu B h1=>ie e<|oE ha h1 B;by_cases z:j+1=b.E
    .calc bH (by simpa using z) ?_;show bP<|.Â %[4,_,_,rb|yZ e2 m3<|.Ð z]
    .calc bC (by simpa using z) ?_;by_cases z':q+1>=g
     .calc bH z' ?_;show bP<|.Ð %[16,_,_,_,_,_,rb,e2,m3,hi,zI|zI]
     .calc bC z' ?_;show bP %[16,_,_,_,_,_,rb,e2,m3,hi,zI|zI]
   | false=>
    calc bC zr ?_;refine bt<|dB (show i<a.E by first|lia|((try dsimp only);lia)) ?_
    try conv=>arg 5;dsimp -zeta only
    let m3:=mpA m2 (show i<a.E by first|lia|((try dsimp only);lia)) λu B h1=>fN (show K.kle _ _ from e)<|oE hb h1 B;by_cases z:i+1+1=a.E
    .calc bH (by simpa using z) ?_;show bP<|.Â %[4,_,_,rb|G e2 m3 z]
    .calc bC (by simpa using z) ?_;by_cases z':p+1>=g
     .calc bH z' ?_;show bP<|.Ð %[16,_,_,_,_,_,rb,e2,m3,zI,F|zI]
     .calc bC z' ?_;show bP %[16,_,_,_,_,_,rb,e2,m3,zI,F|zI]
  .intro c st2 z;let(out,i',L,p,q,rfl,e2,m2,hi',hj',hc'):=z;exfalso;lia
  .rintro c st2 (⟨r,q,rfl,hq⟩|⟨out,i',L,p,q,rfl,e2,m2,hi',hj',hc'⟩)
   .try conv=>arg 5;dsimp -zeta only
    show bP %[4,_,_,rb|hq]
   .try conv=>arg 5;dsimp -zeta only
    refine bt<|wpS_lift<|gE %[rb|?_]
    try conv=>arg 5;dsimp -zeta only
    refine bt (kC (gm (I:=λ(y:ı) (c:ĵ (ŀ Ń)×ŀ Ń×ı×ı×ı×ı×ı) (st':ł)=>∃out Y O g p q,c=(Ĳ,out,Y,O,g,p,q)/\lg st st'/\Mg (kL K ps) a.H b.H out.H Y O/\Y+1<a.E/\O<b.E/\i'+L+y<=Y+O)
     (Q:=λ(c:ĵ (ŀ Ń)×ŀ Ń×ı×ı×ı×ı×ı) (st':ł)=>(∃r q,c=(į r,q)/\Q r st')\/∃out Y O g p q,c=(Ĳ,out,Y,O,g,p,q)/\lg st st'/\Mg (kL K ps) a.H b.H out.H Y O/\Y+1<a.E/\O<b.E/\i'+L<=Y+O) ?_ ?_ %[40,_,_,_,_,_,_,rb,e2,m2,hi',hj'|gx rb]) ?_)
    .intro y c st3 _ Z z;let(out,i,j,g,p,q,rfl,e3,m3,hi,F,hc):=z
     try conv=>arg 5;dsimp -zeta only
     extract_lets -underBinder +onlyGivenNames l1 l2 l3 l4 l5 l6 l7 l8 l9 l10 l11 jp1
     let q4:l4=i:=rfl;let q4b:l3.fst=i:=rfl;let q6:l6=j:=rfl;let q6b:l5.fst=j:=rfl;let q8:l8=g:=rfl;let q8b:l7.fst=g:=rfl;refine xP (J:=λg':ı=>jp1 () g') (C:=λ_=>True) (λg' _=>?_) λhJ=>?_
     rotate_left
     .by_cases z:g > 1
      .calc bH z ?_;show hJ (g-1) trivial
      .calc bC z ?_;show hJ g trivial
     try conv=>arg 5;dsimp -zeta only
     calc bt<|oF e3 λeV e4=>?_;calc bt<|dB F ?_;calc bt<|nj hO (by rw[e4.kind];show hk) (n8 hkb F) hka (Nat.sub_pos_of_lt zo) (by grind) (Zz ha<|gx<|e_<|ar<|Nat.lt_of_succ_lt hi) λk hk1 hk2 hk3=>?_;let kA:∀t (D:t<a.E),i<=t->t<i+k->K.kle (kf K a[t]) (kf K b[j]):=λt D h1 h2=>by have:=hk2 (t-i) (by grind);rw[show i+(t-i)=t from e_ h1,Dm D]at this;show this
     let kB:∀t (D:t<a.E),i+k<=t->K.klt (kf K b[j]) (kf K a[t]):=λt D h1=>by have:=hk3 (t-i) (Nat.le_sub_of_add_le' h1)<|wS (qE h1) D;rw[show i+(t-i)=t from e_ (qE h1),Ph D]at this;show this
     let N:i+k<a.E:=by
      rcases dQ (i+k) a.E with z|z;.show z
      .let h1:=kA (a.E-1) (by grind) (f7 zo) (by grind);show Ł (hhi j F)<|we h1
     try conv=>arg 5;dsimp -zeta only
     extract_lets -underBinder +onlyGivenNames ac jp2
     refine xP (J:=λo:ŀ Ń×ı=>jp2 () o.1 o.2) (C:=λo=>Mg (kL K ps) a.H b.H o.1.H o.2 j/\o.2=i+k/\o.2+1<a.E) (λo ho=>?_) λhJ=>?_
     .let(o1,o2):=o;let(mo,eo,sZ):=ho;let eo:o2=i+k:=eo;subst eo;let mo:Mg (kL K ps) a.H b.H o1.H (i+k) j:=mo;let sZ:i+k+1<a.E:=sZ
      try conv=>arg 5;dsimp -zeta only
      refine bt<|dB F ?_
      try conv=>arg 5;dsimp -zeta only
      let m5:=mpB mo F λu B h1=>kB u B h1;by_cases z:j+1=b.E
      .calc bH (by simpa using z) ?_;show bP<|.Â %[4,_,_,rb|yZ e4 m5<|.Ð z]
      calc bC (by simpa using z) ?_;calc bt<|dB N ?_;calc bt<|nj hO (by rw[e4.kind];show hk) (n8 hka N) hkb (f7 zo) (by grind) (ZC hb<|gx<|e_ F) λk2 h1 h2 h3=>?_;let lb:∀t (D:t<b.E),j+1<=t->t<j+1+k2->K.klt (kf K b[t]) (kf K a[i+k]):=λt D q1 q2=>by have:=h2 (t-(j+1)) (by grind);rw[show j+1+(t-(j+1))=t from e_ q1,Dp D]at this;show this
      let la:∀t (D:t<b.E),j+1+k2<=t->K.kle (kf K a[i+k]) (kf K b[t]):=λt D q1=>by have:=h3 (t-(j+1)) (Nat.le_sub_of_add_le' q1)<|wS (qE q1) D;rw[show j+1+(t-(j+1))=t from e_ (qE q1),Pj D]at this;show this
      try conv=>arg 5;dsimp -zeta only
      extract_lets -underBinder +onlyGivenNames bc jp3
      refine xP (J:=λo:ŀ Ń×ı=>jp3 () o.1 o.2) (C:=λo=>Mg (kL K ps) a.H b.H o.1.H (i+k) o.2/\o.2=j+1+k2/\o.2<b.E) (λo ho=>?_) λhJ=>?_
      .let(o1,o2):=o;let(mo,eo,sZ):=ho;let eo:o2=j+1+k2:=eo;subst eo;let mo:Mg (kL K ps) a.H b.H o1.H (i+k) (j+1+k2):=mo;let sZ:j+1+k2<b.E:=sZ
       try conv=>arg 5;dsimp -zeta only
       refine bt<|dB N ?_
       try conv=>arg 5;dsimp -zeta only
       let m6:=mpA mo N λu B h1=>la u B h1;by_cases z:i+k+1+1=a.E
       .calc bH (by simpa using z) ?_;show bP<|.Â %[4,_,_,rb|G e4 m6 z]
       calc bC (by simpa using z) ?_;by_cases z':(ľ (k<7)&&ľ (k2<7))=Ĵ
       .calc bH z' ?_;show bP<|.Ð %[40,_,_,_,_,_,_,rb,e4,m6,zI,sZ|zI]
       .calc bC z' ?_;show bP %[40,_,_,_,_,_,_,rb,e4,m6,zI,sZ|zI]
      .by_cases z3:k2 > 0
       .refine bH z3 ?_
        try conv=>arg 5;dsimp -zeta only
        let m6:=mbB (k:=k2) m5 zI λt D q1 q2 u B q3=>ie (lb t D q1 q2)<|oE ha q3 B;by_cases z4:j+1+k2=b.E
        .calc bH (by simpa using z4) ?_;show bP<|.Â %[4,_,_,rb|yZ e4 m6<|.Ð z4]
        .calc bC (by simpa using z4) ?_;show hJ (_,_) %[m6,rb|by dsimp only;lia]
       .calc bC z3 ?_;obtain rfl:k2=0:=qS z3;show hJ (_,_) %[m5,rb|by dsimp only;lia]
     .by_cases z3:k > 0
      .refine bH z3 ?_
       try conv=>arg 5;dsimp -zeta only
       let m6:=mbA (k:=k) m3 (ar N) λt D q1 q2 u B q3=>fN (kA t D q1 q2)<|oE hb q3 B;by_cases z4:i+k+1=a.E
       .calc bH (by simpa using z4) ?_;show bP<|.Â %[4,_,_,rb|G e4 m6 z4]
       .calc bC (by simpa using z4) ?_;calc bC (by simp;show bb N) ?_;show hJ (_,_) %[m6,rb|by dsimp only;lia]
      .calc bC z3 ?_;obtain rfl:k=0:=by first|lia|((try dsimp only);lia)
       show hJ (_,_) %[m3,rb|by dsimp only;lia]
    .intro c st3 z;let(out,Y,O,g,p,q,rfl,e3,m3,hi2,hj2,hc2):=z;exfalso;lia
    .rintro c st3 (⟨r,q,rfl,hq⟩|⟨out,Y,O,g,p,q,rfl,e3,m3,hi2,hj2,hc2⟩)
     .try conv=>arg 5;dsimp -zeta only
      show bP %[4,_,_,rb|hq]
     .try conv=>arg 5;dsimp -zeta only
      calc bt<|oF e3 λeV e4=>?_;show bP %[14,_,_,_,_,rb,e4,m3,hi2,hj2|zI]
 .intro c st1 z;let(out,i,j,g,rfl,e1,m1,hi,F,hc):=z;exfalso;lia
 .intro c st1 z;let(r,q,rfl,hq):=z;show bP hq
structure iI (K:PyProof.Ă.ĥ)(ps:Ń->ı)(a b out:ŀ Ń)(n m:ı):Prop where
 na:n<=a.E
 mb:m<=b.E
 mg:Mg (λx y=>kL K ps y x) b.H.ö a.H.ö out.H (b.E-m) (a.E-n)
def xQ {a:ŀ Ń}(h:a.H.Ä (kL K ps)):a.H.ö.Ä (λx y=>kL K ps y x):=by rw[List.pairwise_reverse];show h
def uD {a:ŀ Ń}(h:n<=a.E):a.H.ö.Ì (a.E-n)=(a.H.Ã n).ö:=by rw[List.drop_reverse];congr 2;simp;show fF h
def GJ {a:ŀ Ń}(hn:n<=a.E)(h:y∈a.H.ö.Ì (a.E-n)):∃u,∃(B:u<a.E),u<n/\a[u]=y:=by
 rw[uD hn,yT]at h;let(t,j,e):=cy.mp h;let g:t<n:=by have:=j;simp at this;simp_all
 show%[t,bq g hn,g|by rw[<-e];simp]
def ZD {a:ŀ Ń}(g:0<n)(hn:n<=a.E):∃h:a.E-n<a.H.ö.n,a.H.ö[a.E-n]=a[n-1]:=by calc%[by simp;show ed zo zo|?_];rw[List.getElem_reverse];simp only[Array.getElem_toList,bu];congr 1;lia
def iI.vO (g:iI K ps a b out n m)(ha:a.H.Ä (kL K ps))(B:0<n)(D:n-1<a.E)(h:∀u (j:u<b.E),u<m->kL K ps b[u] a[n-1]):iI K ps a b (out.Í a[n-1]) (n-1) m:=by
 let(h1,e1):=ZD B g.na;have:=g.mg.yW (xQ ha) h1 λy G=>by let(u,j,F,rfl):=GJ g.mb G;rw[e1];show h u j F
 rw[e1]at this;let hn:=g.na;calc%[ar D,g.mb|?_];rw[show a.E-(n-1)=a.E-n+1 from fb zo];simpa using this
def iI.yW (g:iI K ps a b out n m)(F:b.H.Ä (kL K ps))(B:0<m)(J:m-1<b.E)(h:∀u (j:u<a.E),u<n->kL K ps a[u] b[m-1]):iI K ps a b (out.Í b[m-1]) n (m-1):=by
 let(h1,e1):=ZD B g.mb;have:=g.mg.vO (xQ F) h1 λy G=>by let(u,j,D,rfl):=GJ g.na G;rw[e1];show h u j D
 rw[e1]at this;let hm:=g.mb;calc%[g.na,zo|?_];rw[show b.E-(m-1)=b.E-m+1 by lia];simpa using this
theorem iI.Bv {a b:ŀ Ń}(ha:a.H.Ä (kL K ps)):∀(k:ı) {out:ŀ Ń} {n:ı},iI K ps a b out n m->k<=n->(∀t (B:t<a.E),n-k<=t->t<n->∀u (G:u<b.E),u<m->kL K ps b[u] a[t])->iI K ps a b (out++(a.î (n-k) n).ö) (n-k) m
 | 0,out,n,g,_,_=>by
  let e:(a.î (n-0) n).ö=#[]:=by simp;show wT _ _
  rw[e];simpa using g
 | k+1,out,n,g,hk,h=>by
  let hn:=g.na;let D:=iI.Bv ha k (g.vO ha zo (ed zo zo)<|h (n-1) zo (sK zo _)<|uA zo zo) (yf hk) λt B h1 F=>h t B zo (by simp[dL,ee]at *;lia);let e:out++(a.î (n-(k+1)) n).ö=out.Í a[n-1]++(a.î (n-1-k)<|n-1).ö:=by apply kX.mp;rw[gp,gp,f6,b7];congr 1;rw[se,se,show n-1-k=n-(k+1) from tT n 1 k];let e2:=Array.extract_succ_right (as:=a) (i:=n-(k+1)) (j:=n-1) zo zo;rw[Nat.sub_add_cancel zo]at e2;rw[e2,f6,xk];rfl
  rw[e,show n-(k+1)=n-1-k from (tT n 1 k).Ò];show D
theorem iI.Bw {a b:ŀ Ń}(B:b.H.Ä (kL K ps)):∀(k:ı) {out:ŀ Ń} {m:ı},iI K ps a b out n m->k<=m->(∀t (D:t<b.E),m-k<=t->t<m->∀u (J:u<a.E),u<n->kL K ps a[u] b[t])->iI K ps a b (out++(b.î (m-k) m).ö) n (m-k)
 | 0,out,m,g,_,_=>by
  let e:(b.î (m-0) m).ö=#[]:=by simp;lia
  rw[e];simpa using g
 | k+1,out,m,g,hk,h=>by
  let hm:=g.mb;let F:=iI.Bw B k (g.yW B zo zo<|h (m-1) zo zo zo) zo λt D h1 G=>h t D zo zo;let e:out++(b.î (m-(k+1)) m).ö=out.Í b[m-1]++(b.î (m-1-k)<|m-1).ö:=by apply kX.mp;rw[gp,gp,f6,b7];congr 1;rw[se,se,show m-1-k=m-(k+1) from tT m 1 k];let e2:=Array.extract_succ_right (as:=b) (i:=m-(k+1)) (j:=m-1) zo zo;rw[Nat.sub_add_cancel zo]at e2;rw[e2,f6,xk];rfl
  rw[e,show m-(k+1)=m-1-k from (tT m 1 k).Ò];show F
def U5 {a b r:ŀ Ń}(h:yV (λx y=>kL K ps y x) b.H.ö a.H.ö r.H.ö):yV (kL K ps) a.H b.H r.H:=by calc%[?_|List.pairwise_reverse.mp h.2];calc(List.reverse_perm r.H).Ò.X<|h.1.X ?_;rw[<-xk];show List.reverse_perm _
def iI.done (g:iI K ps a b out n m)(ha:a.H.Ä (kL K ps))(j:b.H.Ä (kL K ps))(h:n=0\/m=0):yV (kL K ps) a.H b.H (a.î 0 n++b.î 0 m++out.ö).H:=by calc U5 ?_;have:=g.mg.done (xQ j) (xQ ha) (by simp;lia);rw[uD g.na,uD g.mb]at this;simpa using this
def iI.agC (g:iI K ps a b out n m)(ha:a.H.Ä (kL K ps))(F:b.H.Ä (kL K ps))(h:∀u (B:u<b.E),u<m->∀t (j:t<a.E),t<n->kL K ps b[u] a[t]):yV (kL K ps) a.H b.H (b.î 0 m++a.î 0 n++out.ö).H:=by
 calc U5 ?_;have:=g.mg.adN (xQ F) (xQ ha) λx hx y G=>by let(t,j,D,rfl):=GJ g.na hx;let(u,B,h1,rfl):=GJ g.mb G;show h u B h1 t j D
 rw[uD g.na,uD g.mb]at this;simpa using this
def iI.zero:iI K ps a b #[] a.E b.E:=%[ag _,ag _|by rw[mr,mr];show Mg.zero]
def Tc {a b:ŀ Ń}{st:ł}{Q:ŀ Ń->ł->Prop}(hO:jq prog w A s K kn)(hk:kindOf st=kn)(hka:ő K a)(hkb:ő K b)(ha:a.H.Ä (kL K ps))(hb:b.H.Ä (kL K ps))(a0:0<a.E)(b0:0<b.E)(hab:∀x∈a.H,∀y∈b.H,ps x<=ps y)(hlo:K.klt (kf K b[0]) (kf K a[0]))(hhi:∀j (hj:j<b.E),K.klt (kf K b[j]) (kf K a[a.E-1]))(h:∀r st',yV (kL K ps) a.H b.H r.H->lg st st'->Q r st'):wpS (Ľ prog w) A E s ((sortPriv% PySem.Builtin.mergeHi) a b) Q st:=by
 let hps:∀{i u} (hi:i<a.E) (D:u<b.E),ps a[i]<=ps b[u]:=λhi D=>hab _ zr _ zr;let hlow:∀t (B:t<a.E),K.klt (kf K b[0]) (kf K a[t]):=λt B=>ie hlo<|oE ha (ci _) B;let yZ:∀{out:ŀ Ń} {n m:ı} {st':ł},lg st st'->iI K ps a b out n m->(n=0\/m=0)->Q (a.î 0 n++b.î 0 m++out.ö) st':=λ{out n m st'} e g z=>h _ _ (g.done ha hb z) e;let F:∀{out:ŀ Ń} {n m:ı} {st':ł},lg st st'->iI K ps a b out n m->m=1->Q (b.î 0 m++a.î 0 n++out.ö) st':=λ{out n m st'} e g z=>h _ _ (g.agC ha hb λu D h1 t B h2=>by
  obtain rfl:u=0:=by simp_all
  show kL.lt<|hlow t B) e
 show wpS _ _ _ _ (_ >>= _) _ _;refine bt<|wpS_lift<|gE %[rb|?_]
 skip
 try conv=>arg 5;dsimp -zeta only
 calc bt<|dB (show a.E-1<a.E by first|lia|((try dsimp only);lia)) ?_;let m0:iI K ps a b (#[a[a.E-1]]:ŀ Ń) (a.E-1) b.E:=by have:=iI.vO (iI.zero (K:=K) (a:=a) (b:=b)) ha a0 zI λu D _=>kL.lt<|hhi u D;simpa using this
 try conv=>arg 5;dsimp -zeta only
 by_cases z1:a.E-1=0
 .calc bH (by simpa using z1) ?_;show bP<|yZ (lg.Ę _) m0<|.Â z1
 calc bC (by simpa using z1) ?_;by_cases z2:b.E=1
 .calc bH (by simpa using z2) ?_;show bP<|F (lg.Ę _) m0 z2
 calc bC (by simpa using z2) ?_;refine bt<|uv ?_
 try conv=>arg 5;dsimp -zeta only
 refine bt (kC (gm (I:=λ(x:ı) (c:ĵ (ŀ Ń)×ı×ı×ŀ Ń×ı) (st':ł)=>∃n m out g,c=(Ĳ,n,m,out,g)/\lg st st'/\iI K ps a b out n m/\1<=n/\2<=m/\n+m+x+1<=a.E+b.E)
  (Q:=λ(c:ĵ (ŀ Ń)×ı×ı×ŀ Ń×ı) (st':ł)=>∃r q,c=(į r,q)/\Q r st') ?_ ?_ %[14,_,_,_,_,rb,lg.Ę _,m0,zI,zI|zI]) ?_)
 .intro x c st1 _ hx z;let(n,m,out,g,rfl,e1,m1,hn,hm,hc):=z
  try conv=>arg 5;dsimp -zeta only
  refine bt (kC (gm (I:=λ(y:ı) (c:ĵ (ŀ Ń)×ı×ı×ŀ Ń×ı×ı) (st':ł)=>∃M L out p q,c=(Ĳ,M,L,out,p,q)/\lg st st'/\iI K ps a b out M L/\1<=M/\2<=L/\M+L+y<=n+m)
   (Q:=λ(c:ĵ (ŀ Ń)×ı×ı×ŀ Ń×ı×ı) (st':ł)=>(∃r q,c=(į r,q)/\Q r st')\/∃M L out p q,c=(Ĳ,M,L,out,p,q)/\lg st st'/\iI K ps a b out M L/\1<=M/\2<=L/\M+L+1<=n+m) ?_ ?_ %[16,_,_,_,_,_,rb,e1,m1,hn,hm|zr]) ?_)
  .intro y c st2 _ hy z;let(n,m,out,p,q,rfl,e2,m2,hn,hm,hc):=z;let hna:=m2.na;let hmb:=m2.mb;let ln:n-1<a.E:=ed zo zo;let G:m-1<b.E:=ed zo zo
   try conv=>arg 5;dsimp -zeta only
   calc bt<|dB G<|bt<|dB ln ?_;refine bt<|Bu hO (by rw[e2.kind];show hk) (n8 hkb G) (n8 hka ln) ?_
   try conv=>arg 5;dsimp -zeta only
   cases e:K.blt (kf K b[m-1]) (kf K a[n-1]) with
   | true=>
    refine bH rb ?_
    try conv=>arg 5;dsimp -zeta only
    refine bt<|dB ln ?_
    try conv=>arg 5;dsimp -zeta only
    let m3:=m2.vO ha hn ln λu D h1=>kL.lt<|mw (oE hb (show u<=m-1 from iL h1) G) e;by_cases z:n-1=0
    .calc bH (by simpa using z) ?_;show bP<|.Â %[4,_,_,rb|yZ e2 m3<|.Â z]
    .calc bC (by simpa using z) ?_;by_cases z':p+1>=g
     .calc bH z' ?_;show bP<|.Ð %[16,_,_,_,_,_,rb,e2,m3,zI,hm|zI]
     .calc bC z' ?_;show bP %[16,_,_,_,_,_,rb,e2,m3,zI,hm|zI]
   | false=>
    refine bC zr ?_
    try conv=>arg 5;dsimp -zeta only
    refine bt<|dB G ?_
    try conv=>arg 5;dsimp -zeta only
    let m3:=m2.yW hb (ar hm) G λu D h1=>kL.lE (fN (oE ha (show u<=n-1 from iL h1) ln)<|show K.kle _ _ from e)<|hps D G;by_cases z:m-1=1
    .calc bH (by simpa using z) ?_;show bP<|.Â %[4,_,_,rb|F e2 m3 z]
    .calc bC (by simpa using z) ?_;by_cases z':q+1>=g
     .calc bH z' ?_;show bP<|.Ð %[16,_,_,_,_,_,rb,e2,m3,hn,zI|zI]
     .calc bC z' ?_;show bP %[16,_,_,_,_,_,rb,e2,m3,hn,zI|zI]
  .intro c st2 z;let(M,L,out,p,q,rfl,e2,m2,hn',hm',hc'):=z;exfalso;lia
  .rintro c st2 (⟨r,q,rfl,hq⟩|⟨M,L,out,p,q,rfl,e2,m2,hn',hm',hc'⟩)
   .try conv=>arg 5;dsimp -zeta only
    show bP %[4,_,_,rb|hq]
   .try conv=>arg 5;dsimp -zeta only
    refine bt<|wpS_lift<|gE %[rb|?_]
    try conv=>arg 5;dsimp -zeta only
    refine bt (kC (gm (I:=λ(y:ı) (c:ĵ (ŀ Ń)×ı×ı×ŀ Ń×ı×ı×ı) (st':ł)=>∃O m2 out g p q,c=(Ĳ,O,m2,out,g,p,q)/\lg st st'/\iI K ps a b out O m2/\1<=O/\2<=m2/\O+m2+y<=M+L)
     (Q:=λ(c:ĵ (ŀ Ń)×ı×ı×ŀ Ń×ı×ı×ı) (st':ł)=>(∃r q,c=(į r,q)/\Q r st')\/∃O m2 out g p q,c=(Ĳ,O,m2,out,g,p,q)/\lg st st'/\iI K ps a b out O m2/\1<=O/\2<=m2/\O+m2<=M+L) ?_ ?_ %[40,_,_,_,_,_,_,rb,e2,m2,hn',hm'|gx rb]) ?_)
    .intro y c st3 _ hy z;let(n,m,out,g,p,q,rfl,e3,m3,hn,hm,hc):=z;let hna:=m3.na;let hmb:=m3.mb;let ln:n-1<a.E:=by first|lia|((try dsimp only);lia)
     let G:m-1<b.E:=by first|lia|((try dsimp only);lia)
     try conv=>arg 5;dsimp -zeta only
     extract_lets -underBinder +onlyGivenNames l1 l2 l3 l4 l5 l6 l7 l8 l9 l10 l11 jp1
     let q4:l2=n:=rfl;let q4b:l1.fst=n:=rfl;let q6:l4=m:=rfl;let q6b:l3.fst=m:=rfl;let q8:l8=g:=rfl;let q8b:l7.fst=g:=rfl;refine xP (J:=λg':ı=>jp1 () g') (C:=λ_=>True) (λg' _=>?_) λhJ=>?_
     rotate_left
     .by_cases z:g > 1
      .calc bH z ?_;show hJ (g-1) trivial
      .calc bC z ?_;show hJ g trivial
     try conv=>arg 5;dsimp -zeta only
     calc bt<|oF e3 λeV e4=>?_;calc bt<|dB G ?_;calc bt<|nj hO (by rw[e4.kind];show hk) (n8 hkb G) hka (uA zo zo) (by simp[*]) (Zz ha zI) λk hk1 hk2 hk3=>?_;let kA:∀t (B:t<a.E),t<k->K.kle (kf K a[t]) (kf K b[m-1]):=λt B h1=>by have:=hk2 t h1;rw[iO,Dm B]at this;show this
     let kB:∀t (B:t<a.E),k<=t->t<n->K.klt (kf K b[m-1]) (kf K a[t]):=λt B h1 h2=>by have:=hk3 t h1 h2;rw[iO,Ph B]at this;show this
     try conv=>arg 5;dsimp -zeta only
     extract_lets -underBinder +onlyGivenNames kx ac jp2
     let q10:kx=n-k:=rfl;let q11:ac=n-k:=rfl;refine xP (J:=λo:ı×ŀ Ń=>jp2 () o.1 o.2) (C:=λo=>iI K ps a b o.2 o.1 m/\o.1=k/\1<=o.1) (λo ho=>?_) λhJ=>?_
     .let(N,o2):=o;let(mo,eo,sZ):=ho;let eo:N=k:=eo;subst eo;let mo:iI K ps a b o2 N m:=mo;let sZ:1<=N:=sZ;let lk:N-1<a.E:=ed zo zo
      try conv=>arg 5;dsimp -zeta only
      try conv=>arg 5;dsimp -zeta only
      refine bt<|dB G ?_
      try conv=>arg 5;dsimp -zeta only
      let m5:=mo.yW hb zI G λu D h1=>kL.lE (kA u D h1)<|hps D G;by_cases z:m-1=1
      .calc bH (by simpa using z) ?_;show bP<|.Â %[4,_,_,rb|F e4 m5 z]
      calc bC (by simpa using z) ?_;calc bt<|dB lk ?_;calc bt<|nj hO (by rw[e4.kind];show hk) (n8 hka lk) hkb (by grind) zI (ZC hb zI) λk2 h1 h2 h3=>?_;let lb:∀t (B:t<b.E),t<k2->K.klt (kf K b[t]) (kf K a[N-1]):=λt B q1=>by have:=h2 t q1;rw[iO,Dp B]at this;show this
      let la:∀t (B:t<b.E),k2<=t->t<m-1->K.kle (kf K a[N-1]) (kf K b[t]):=λt B q1 q2=>by have:=h3 t q1 q2;rw[iO,Pj B]at this;show this
      let k20:0<k2:=by
       rcases nL k2 with z|z
       .let h4:=la 0 b0 (gx z)<|yf hm;show Ł (hlow (N-1) lk)<|we h4
       .show z
      try conv=>arg 5;dsimp -zeta only
      extract_lets -underBinder +onlyGivenNames ky bc jp3
      refine xP (J:=λo:ı×ŀ Ń=>jp3 () o.1 o.2) (C:=λo=>iI K ps a b o.2 N o.1/\o.1=k2/\2<=o.1) (λo ho=>?_) λhJ=>?_
      .let(p1,p2):=o;let(mo,eo,Z):=ho;let eo:p1=k2:=eo;subst eo;let mo:iI K ps a b p2 N p1:=mo;let Z:2<=p1:=Z
       try conv=>arg 5;dsimp -zeta only
       try conv=>arg 5;dsimp -zeta only
       refine bt<|dB lk ?_
       try conv=>arg 5;dsimp -zeta only
       let Y:=mo.vO ha sZ lk λu D h1=>kL.lt<|lb u D h1;by_cases z:N-1=0
       .calc bH (by simpa using z) ?_;show bP<|.Â %[4,_,_,rb|yZ e4 Y<|.Â z]
       calc bC (by simpa using z) ?_;by_cases z':(ľ (n-N<7)&&ľ (m-1-p1<7))=Ĵ
       .calc bH z' ?_;show bP<|.Ð %[40,_,_,_,_,_,_,rb,e4,Y,zI,Z|by grind]
       .calc bC z' ?_;show bP %[40,_,_,_,_,_,_,rb,e4,Y,zI,Z|by grind]
      .by_cases z3:m-1-k2 > 0
       .refine bH z3 ?_
        try conv=>arg 5;dsimp -zeta only
        let Y:=iI.Bw hb (m-1-k2) m5 (iX _ _) λt B q1 q2 u D q3=>kL.lE (fN (oE ha (show u<=N-1 from iL q3) lk)<|la t B (fF h1 ▸ q1) q2)<|hps D B;rw[show m-1-(m-1-k2)=k2 from fF h1]at Y;by_cases z4:k2=1
        .calc bH (by simpa using z4) ?_;show bP<|.Â %[4,_,_,rb|F e4 Y z4]
        .calc bC (by simpa using z4) ?_;calc bC (by simp;show ib k20) ?_;show hJ (_,_) %[Y,rb|by dsimp only;lia]
       .calc bC z3 ?_;obtain rfl:k2=m-1:=qf h1 (Nat.le_of_sub_eq_zero<|qS z3);show hJ (_,_) %[m5,rb|by dsimp only;lia]
     .by_cases z3:n-k > 0
      .refine bH z3 ?_
       try conv=>arg 5;dsimp -zeta only
       let Y:=iI.Bv ha (n-k) m3 (iX _ _) λt B q1 q2 u D q3=>kL.lt<|mw (oE hb (show u<=m-1 from iL q3) G)<|kB t B (fF hk1 ▸ q1) q2;rw[show n-(n-k)=k from fF hk1]at Y;by_cases z4:k=0
       .calc bH (by simpa using z4) ?_;show bP<|.Â %[4,_,_,rb|yZ e4 Y<|.Â z4]
       .calc bC (by simpa using z4) ?_;show hJ (_,_) %[Y,rb|by dsimp only;lia]
      .calc bC z3 ?_;obtain rfl:k=n:=qf hk1 (Nat.le_of_sub_eq_zero<|qS z3);show hJ (_,_) %[m3,rb|by dsimp only;lia]
    .intro c st3 z;let(O,m2',out,g,p,q,rfl,e3,m3,hn2,hm2,hc2):=z;exfalso;lia
    .rintro c st3 (⟨r,q,rfl,hq⟩|⟨O,m2',out,g,p,q,rfl,e3,m3,hn2,hm2,hc2⟩)
     .try conv=>arg 5;dsimp -zeta only
      show bP %[4,_,_,rb|hq]
     .try conv=>arg 5;dsimp -zeta only
      calc bt<|oF e3 λeV e4=>?_;show bP %[14,_,_,_,_,rb,e4,m3,hn2,hm2|zI]
 .intro c st1 z;let(n,m,out,g,rfl,e1,m1,hn,hm,hc):=z;exfalso;lia
 .intro c st1 z;let(r,q,rfl,hq):=z;show bP hq
def ael {T:Type}{x:T}{Q:PUnit->T->Prop}{st:T}(h:Q ⟨⟩ x):wpS M A E s (set x:Š T Sem PUnit) Q st:=by unfold wpS;rw[StateT.run_set];show ah %[rb|h]
theorem Pk:∀(m:İ Ń) (n:ı) (o:ı) (P X S:İ Ń) (arr:ŀ Ń),arr.H=P++(X++S)->X.n=m.n->P.n=o+n->((m.zipIdx n).foldl (λa (x:Ń×ı)=>a.ó (o+x.2) x.1) arr).H=P++(m++S)
 | [],n,o,P,X,S,arr,e,h,_=>by obtain rfl:X=[]:=ng.mp h;simpa using e
 | y::m,n,o,P,X,S,arr,e,h,hp=>by
  obtain⟨x,g,rfl⟩:∃x g,X=x::g:=by
   cases X with| nil=>simp at h| cons x g=>show%[6,x,g|rb]
  rw[yY,s_];let e2:(arr.ó (o+n) y).H=(P++[y])++(g++S):=by rw[xS,e,<-hp,List.set_append_right _ _ (ag _),mr];simp
  have:=Pk m (n+1) o (P++[y]) g S (arr.ó (o+n) y) e2 (by simpa using h) (by simp;lia);simpa using this
def seg_at {arr:ŀ Ń}{P X S:İ Ń}(e:arr.H=P++(X++S)){t:ı}(g:t<X.n):∃h:P.n+t<arr.E,arr[P.n+t]=X[t]:=by
 let j:arr.E=P.n+(X.n+S.n):=by rw[<-bu,e];simp
 calc%[by simp_all;lia|?_];let h1:arr.H[P.n+t]?=į X[t]:=by rw[e,du (iF _ _),iA,eW g,ae g]
 rw[cx,cp zo]at h1;show bg h1
def GK {X:İ Ń}(h:X.Ä (kL K ps))(g:i<=j)(B:j<X.n):K.kle (kf K X[i]) (kf K X[j]):=by
 rcases nI g with z|z;.subst z;show qi _
 .show((e8.mp h) i j (ja z B) B z).1
def Td {i sa na p1 sb nb p2:ı}{st:ł}{Pl X Y Sl:İ Ń}{Q:ŏ->ł->Prop}(hO:jq prog w A s K kn)(hk:kindOf st=kn)(hf:failedOf st=Ĳ)(F:ő K (arrOf st))(h1:(pendingOf st)[i]?=į (sa,na,p1))(h2:(pendingOf st)[i+1]?=į (sb,nb,p2))(e:(arrOf st).H=Pl++(X++(Y++Sl)))(lP:Pl.n=sa)(lX:X.n=na)(lY:Y.n=nb)(hsb:sb=sa+na)(x0:0<na)(y0:0<nb)(uX:X.Ä (kL K ps))(uY:Y.Ä (kL K ps))(ZF:∀x∈X,∀y∈Y,ps x<=ps y)(h:∀st' Z,kindOf st'=kindOf st->failedOf st'=Ĳ->pendingOf st'=((pendingOf st).ó i (sa,na+nb,p1)).eraseIdxIfInBounds (i+1)->(arrOf st').H=Pl++(Z++Sl)->Z.æ (X++Y)->Z.Ä (kL K ps)->Q Ĵ st'):wpS (Ľ prog w) A E s ((sortPriv% PySem.Builtin.mergeAt) i) Q st:=by
 subst hsb lP lX lY;let e':(arrOf st).H=(Pl++X)++(Y++Sl):=by rw[e];simp
 let gX:∀{t},(B:t<X.n)->∃h:Pl.n+t<(arrOf st).E,(arrOf st)[Pl.n+t]=X[t]:=λB=>seg_at e B;let gY:∀{t},(B:t<Y.n)->∃h:Pl.n+X.n+t<(arrOf st).E,(arrOf st)[Pl.n+X.n+t]=Y[t]:=λB=>by have:=seg_at e' B;rw[ax]at this;show this
 let hsz:(arrOf st).E=Pl.n+(X.n+(Y.n+Sl.n)):=by rw[<-bu,e];simp
 let(M,ey0):=gY y0;rw[y7]at M;let ajf:(arrOf st)[Pl.n+X.n]=Y[0]:=ey0;show wpS _ _ _ _ (_ >>= _) _ _;calc bt<|uv ?_;rw[h1,h2]
 try conv=>arg 5;dsimp -zeta only
 calc bt<|ael ?_;calc bt<|dB M ?_;refine bt<|nj hO hk (n8 F M) F x0 (show Pl.n+X.n<=(arrOf st).E from ar M) ?_ λk hk1 hk2 hk3=>?_
 .intro p q hpq hq hb;let(J,L):=gX hq;let(g3,g4):=gX (show p<X.n by lia);rw[Dm J,L]at hb;rw[Dm g3,g4];show fN (GK uX hpq hq) hb
 rw[ajf]at hk2 hk3;let kA:∀x∈X.Ã k,K.kle (kf K x) (kf K Y[0]):=λx hx=>by
  let(t,B,rfl):=cy.mp hx;let g:t<k:=by simp at B;simp_all
  let(J,L):=gX (show t<X.n from bq g hk1);have:=hk2 t g;rw[Dm J,L]at this;simpa using this
 let kB:∀x∈X.Ì k,K.klt (kf K Y[0]) (kf K x):=λx hx=>by
  let(t,B,rfl):=cy.mp hx;let g:k+t<X.n:=by simp at B;(simp[dL,ee]at *;lia)
  let(J,L):=gX g;have:=hk3 (k+t) (iF _ _) g;rw[Ph J,L]at this;simpa using this
 let yl:∀y∈Y,K.kle (kf K Y[0]) (kf K y):=λy D=>by let(t,B,rfl):=cy.mp D;show GK uY (ci _) B
 try conv=>arg 5;dsimp -zeta only
 by_cases z1:X.n-k=0
 .calc bH (by simpa using z1) ?_;calc bP<|h _ (X++Y) rb hf rb (by rw[b7];show e) (zk _) ?_;rw[fc];calc%[uX,uY|λx hx y D=>?_];have:X.Ã k=X:=cn zo;show kL.lE (fN (kA x (by rw[this];show hx))<|yl y D)<|ZF x hx y D
 calc bC (by simpa using z1) ?_;let hkx:k<X.n:=zo;let el:Pl.n+k+(X.n-k)-1=Pl.n+(X.n-1):=fb zo;let hx1:X.n-1<X.n:=uA x0 Nat.one_pos;let(hl0,hl1):=gX hx1;let hel:Pl.n+k+(X.n-k)-1<(arrOf st).E:=by grind
 let ex:(arrOf st)[Pl.n+k+(X.n-k)-1]=X[X.n-1]:=by rw[<-hl1];congr 1
 let aiq:∀x∈X,K.kle (kf K x) (kf K X[X.n-1]):=λx hx=>by let(t,B,rfl):=cy.mp hx;show GK uX (iL B) hx1
 let ajg:X[X.n-1]∈X.Ì k:=by calc cy.á %[X.n-1-k,by simp;show f7 zo|?_];rw[List.getElem_drop];congr 1;grind
 calc bt<|dB hel ?_;refine bt<|nj hO hk (n8 F hel) F (show Y.n-1<Y.n from uA y0 Nat.one_pos) (show Pl.n+X.n+Y.n<=(arrOf st).E by simp_all +arith) ?_ λk2 hy1 hy2 hy3=>?_
 .intro p q hpq hq hb;let(J,L):=gY hq;let(g3,g4):=gY (show p<Y.n by lia);rw[Dp J,L]at hb;rw[Dp g3,g4];show mw (GK uY hpq hq) hb
 rw[ex]at hy2 hy3;let yA:∀y∈Y.Ã k2,K.klt (kf K y) (kf K X[X.n-1]):=λy D=>by
  let(t,B,rfl):=cy.mp D;let g:t<k2:=by simp at B;lia
  let(J,L):=gY (show t<Y.n by lia);have:=hy2 t g;rw[Dp J,L]at this;simpa using this
 let yB:∀y∈Y.Ì k2,K.kle (kf K X[X.n-1]) (kf K y):=λy D=>by
  let(t,B,rfl):=cy.mp D;let g:k2+t<Y.n:=by simp at B;lia
  let(J,L):=gY g;have:=hy3 (k2+t) zo g;rw[Pj J,L]at this;simpa using this
 try conv=>arg 5;dsimp -zeta only
 let k20:0<k2:=by
  rcases nL k2 with z|z
  .subst z;let h3:=yB Y[0] zr;show Ł (kB _ ajg)<|we h3
  .show z
 refine bC (by simp;show ib k20) ?_
 try conv=>arg 5;dsimp -zeta only
 let O:((arrOf st).î (Pl.n+k)<|Pl.n+X.n).H=X.Ì k:=by rw[w_,tw,e,List.drop_length_add_append,List.drop_append_of_le_length hk1];show List.take_left' (by simp;lia)
 let N:((arrOf st).î (Pl.n+X.n)<|Pl.n+X.n+k2).H=Y.Ã k2:=by rw[w_,tw,e',show Pl.n+X.n=(Pl++X).n by simp,List.drop_left,iA,List.take_append_of_le_length hy1]
 generalize hga:(arrOf st).î (Pl.n+k) (Pl.n+X.n)=a at O;generalize hgb:(arrOf st).î (Pl.n+X.n) (Pl.n+X.n+k2)=b at N
 extract_lets -underBinder +onlyGivenNames xx yy jp
 let hJ:∀r st',yV (kL K ps) a.H b.H r.H->kindOf st'=kindOf st->arrOf st'=arrOf st->failedOf st'=Ĳ->pendingOf st'=((pendingOf st).ó i (Pl.n,X.n+Y.n,p1)).eraseIdxIfInBounds (i+1)->wpS (Ľ prog w) A E s (jp r) Q st':=by
  intro r st' fr e1 e2 e3 e4;rw[O,N]at fr
  try conv=>arg 5;dsimp -zeta only
  calc bt<|wP<|bt<|uv ?_;let hZ:∀z∈r.H,z∈X.Ì k\/z∈Y.Ã k2:=λz hz=>a8.mp<|fr.1.à.mp hz;let er:=Pk r.H 0 (Pl.n+k) (Pl++X.Ã k) (X.Ì k++Y.Ã k2) (Y.Ì k2++Sl) (arrOf st) (by
   rw[e];rw[b7,b7,<-b7 (Y.Ã k2),c_,<-b7 (X.Ã k),c_]) fr.1.Ē.Ò (by simp;lia)
  refine cast (Ő (λq=>wpS (Ľ prog w) A E s (pure q) Q _)<|show Ĵ=_ from ?_)<|bP<|h _ (X.Ã k++(r.H++Y.Ì k2)) e1 e3 e4 ?_ ?_ ?_
  .show Ĵ=(failedOf st').isNone;rw[e3];rfl
  .show (List.foldl _ (arrOf st') r.H.zipIdx).H=_;rw[e2];calc Eq.X ?_<|er.X zr;rfl
  .let p1:(r.H++Y.Ì k2).æ ((X.Ì k++Y.Ã k2)++Y.Ì k2):=fr.1.Ĝ _;let p2:=i9 (X.Ã k) p1;let e5:X.Ã k++((X.Ì k++Y.Ã k2)++Y.Ì k2)=X++Y:=by rw[b7,c_,<-b7,c_]
   rw[<-e5];show p2
  .rw[fc];refine%[uX.sublist<|u7 _ _,?_|λx hx z hz=>?_]
   .rw[fc];calc%[fr.2,uY.sublist<|kD _ _|λz hz y D=>?_];rcases hZ z hz with q|q;.show kL.lE (fN (aiq z<|f8 q)<|yB y D)<|ZF z (f8 q) y<|f8 D
    .show kL.lt<|ie (yA z q)<|yB y D
   .let hxy:K.kle (kf K x) (kf K Y[0]):=kA x hx;rcases a8.mp hz with q|q
    .rcases hZ z q with q|q;.show kL.lt<|mw hxy<|kB z q
     .show kL.lE (fN hxy<|yl z<|dq q)<|ZF x (dq hx) z<|dq q
    .show kL.lE (fN hxy<|yl z<|f8 q)<|ZF x (dq hx) z<|f8 q
 let hka:ő K a:=λp hp=>by rw[O]at hp;show F p (by rw[e];simp[f8 hp])
 let hkb:ő K b:=λp hp=>by rw[N]at hp;show F p (by rw[e];simp[dq hp])
 let sa:a.E=X.n-k:=by rw[<-bu,O];simp
 let sb:b.E=k2:=by rw[<-bu,N];simp;lia
 let gb0:∀j (G:j<b.E),b[j]∈Y.Ã k2:=λj G=>by rw[<-N];simp
 let gl:∀(G:a.E-1<a.E),a[a.E-1]=X[X.n-1]:=λG=>by
  let h4:a.H[a.E-1]?=į X[X.n-1]:=by rw[O,iq,sa,show k+(X.n-k-1)=X.n-1 by grind,ae zo]
  rw[cx,cp G]at h4;show bg h4
 let ajh:∀(G:0<b.E),b[0]=Y[0]:=λG=>by
  let h4:b.H[0]?=į Y[0]:=by rw[N,tN k20,ae y0]
  rw[cx,cp G]at h4;show bg h4
 let ga0:∀(G:0<a.E),a[0]∈X.Ì k:=λG=>by rw[<-O];simp
 let ua:a.H.Ä (kL K ps):=by rw[O];show uX.sublist<|kD _ _
 let ub:b.H.Ä (kL K ps):=by rw[N];show uY.sublist<|u7 _ _
 let hab:∀x∈a.H,∀y∈b.H,ps x<=ps y:=by rw[O,N];show λx hx y D=>ZF x (f8 hx) y<|dq D
 let a0:0<a.E:=zo;let b0:0<b.E:=zo;let hlo:K.klt (kf K b[0]) (kf K a[0]):=by rw[ajh b0];show kB _<|ga0 a0
 let hhi:∀j (G:j<b.E),K.klt (kf K b[j]) (kf K a[a.E-1]):=λj G=>by rw[gl zo];show yA _<|gb0 j G
 by_cases z5:X.n-k<=k2
 .calc bH z5 ?_;show bt<|S_ hO hk hka hkb ua ub a0 b0 hab hlo hhi λr st' fr q=>hJ r st' fr q.ý q.arr (q.fail.X hf) q.pend
 .calc bC z5 ?_;show bt<|Tc hO hk hka hkb ua ub a0 b0 hab hlo hhi λr st' fr q=>hJ r st' fr q.ý q.arr (q.fail.X hf) q.pend
structure SG (st0 st:ł)(lo hi:ı):Prop where
 kind:kindOf st=kindOf st0
 fail:failedOf st=failedOf st0
 pend:pendingOf st=pendingOf st0
 perm:(arrOf st).æ (arrOf st0)
 out:∀t:ı,t<lo\/hi<=t->(arrOf st)[t]?=(arrOf st0)[t]?
def SG.refl {st:ł}{lo hi:ı}:SG st st lo hi:=%[rb,rb,rb,Array.æ.Ę _|λ_ _=>rfl]
def SG.size {st0 st:ł}{lo hi:ı}(g:SG st0 st lo hi):(arrOf st).E=(arrOf st0).E:=g.perm.size_eq
def SG.keys {st0 st:ł}{lo hi:ı}(g:SG st0 st lo hi)(h:ő K (arrOf st0)):ő K (arrOf st):=λp hp=>h p ((sq.mp g.perm).à.mp hp)
def SG.arr {st0 st:ł}{lo hi:ı}(g:SG st0 st lo hi){xs:ŀ Ń}(hp:xs.æ (arrOf st))(B:∀t:ı,t<lo\/hi<=t->xs[t]?=(arrOf st)[t]?):SG st0 (setArr st xs) lo hi:=%[g.ý,g.fail,g.pend,hp.X g.perm|λt j=>(B t j).X<|g.Û t j]
def pA (ps:Ń->ı)(xs:ŀ Ń)(i:ı):ı:=(xs[i]?.Q ps).Î 0
def fQ (h:xs[i]?=ys[j]?):pA ps xs i=pA ps ys j:=by unfold pA;rw[h]
def kA (K:PyProof.Ă.ĥ)(ps:Ń->ı)(xs:ŀ Ń)(i j:ı):Prop:=K.kle (KK K xs i) (KK K xs j)/\(K.klt (KK K xs i) (KK K xs j)\/pA ps xs i<=pA ps xs j)
def kA.refl:kA K ps xs i i:=%[qi _|.Ð<|ag _]
def kA.lt (h:K.klt (KK K xs i) (KK K xs j)):kA K ps xs i j:=%[KeyOrd.kle_of_klt h|.Â h]
def kA.congr (h1:xs[i]?=ys[i']?)(g:xs[j]?=ys[j']?)(h:kA K ps ys i' j'):kA K ps xs i j:=by unfold kA;rw[KK_congr h1,KK_congr g,fQ h1,fQ g];show h
def mC (K:PyProof.Ă.ĥ)(ps:Ń->ı)(xs:ŀ Ń)(lo n:ı):Prop:=∀i j,i<=j->j<n->kA K ps xs (lo+i) (lo+j)
def rM (ps:Ń->ı)(xs:ŀ Ń)(lo m n:ı):Prop:=∀i k,m<=k->k<n->i<k->pA ps xs (lo+i)<=pA ps xs (lo+k)
def SG.pos {st0 st:ł}{lo G m n:ı}(g:SG st0 st lo (lo+m))(hn:lo+n<=(arrOf st0).E)(hm:G<=m)(p:rM ps (arrOf st0) lo G n):rM ps (arrOf st) lo m n:=by
 intro i k h1 F L;let z:=g.E;rw[fQ (g.Û (lo+k)<|.Ð<|np h1 _)];by_cases c:i<m
 .let e1:(arrOf st).H.Ã lo=(arrOf st0).H.Ã lo:=by
   apply hV;intro t;rw[jv,jv];split
   .rename_i y;rw[cx,cx];show g.Û t<|.Â y
   .rfl
  let e2:(arrOf st).H.Ì (lo+m)=(arrOf st0).H.Ì (lo+m):=by apply hV;intro t;rw[iq,iq,cx,cx];show g.Û _<|.Ð<|iF _ _
  let sp:∀l:İ Ń,l=l.Ã lo++((l.Ì lo).Ã m++l.Ì (lo+m)):=λl=>by rw[<-List.drop_drop,c_,c_]
  let pm:=sq.mp g.perm;rw[sp (arrOf st).H,sp (arrOf st0).H,e1,e2]at pm;let N:=(List.perm_append_right_iff _).mp<|(ym _).mp pm;let hi:lo+i<(arrOf st).E:=zo;let M:(arrOf st)[lo+i]∈((arrOf st).H.Ì lo).Ã m:=cy.á %[i,by simp;lia|zr];let(u,O,J):=cy.mp (N.à.mp M);let B:u<m/\lo+u<(arrOf st0).E:=by simp at O;grind
  let D:(arrOf st0)[lo+u]=(arrOf st)[lo+i]:=by rw[<-J];simp
  have:=p u k (av hm h1) F zo;rw[fQ (xs:=arrOf st) (ys:=arrOf st0) (i:=lo+i) (j:=lo+u) (by rw[cp hi,cp B.2,D])];show this
 .rw[fQ (g.Û (lo+i)<|.Ð (by simp_all))];show p i k zo F L
def SG.mono {st0 st:ł}{lo hi j:ı}(g:SG st0 st lo hi)(h:hi<=j):SG st0 st lo j:=%[g.ý,g.fail,g.pend,g.perm|λt B=>g.Û t zo]
def ud {st:ł}{i j:ı}{Q:ĵ ŏ->ł->Prop}(O:jq prog w A s K kn)(hk:kindOf st=kn)(g:ő K (arrOf st))(hi:i<(arrOf st).E)(B:j<(arrOf st).E)(h:Q (į<|K.blt (KK K (arrOf st) i)<|KK K (arrOf st) j) st):wpS (Ľ prog w) A E s ((sortPriv% PySem.Builtin.ltAt) i j) Q st:=
 by
 show wpS _ _ _ _ (ltAt' i j) Q st;rw[ltAt'_eq];calc bt<|uv ?_;show wpS _ _ _ _ (do let x <- elem' (arrOf st) i;let y <- elem' (arrOf st) j;lt' x y) Q st;show bt<|dB hi<|bt<|dB B<|Bu O hk (uz g hi) (uz g B) h
def W5 {lo n ok:ı}{st:ł}{Q:ŏ->ł->Prop}(hO:jq prog w A s K kn)(hk:kindOf st=kn)(hks:ő K (arrOf st))(hn:lo+n<=(arrOf st).E)(hok:ok<=n)(hs:mC K ps (arrOf st) lo ok)(hp:rM ps (arrOf st) lo ok n)(h:∀st',SG st st' lo (lo+n)->mC K ps (arrOf st') lo n->Q Ĵ st'):wpS (Ľ prog w) A E s ((sortPriv% PySem.Builtin.binarySort) lo n ok) Q st:=by
 show wpS _ _ _ _ (_ >>= _) _ _;refine bt (kC (gm (I:=λ(k:ı) (c:ĵ ŏ×Ş) (st':ł)=>c=(Ĳ,())/\SG st st' lo (lo+n)/\mC K ps (arrOf st') lo (min k n)/\rM ps (arrOf st') lo k n)
  (Q:=λ(c:ĵ ŏ×Ş) (st':ł)=>c=(Ĳ,())/\SG st st' lo (lo+n)/\mC K ps (arrOf st') lo n) ?_ ?_ %[rb,SG.Ę,?_|λi k q1=>hp i k zo]) ?_)
 .intro k c B hk1 Y z;let(rfl,M,L,p1):=z;rw[tq (ar Y)]at L;let z1:=M.E
  try conv=>arg 5;dsimp -zeta only
  refine bt (kC (gm (I:=λ(x:ı) (c:ĵ ŏ×ı×ı) (st':ł)=>∃l r,c=(Ĳ,l,r)/\st'=B/\l<=r/\r<=k/\r-l<=k-x/\(∀i,i<l->K.kle (KK K (arrOf B)<|lo+i) (KK K (arrOf B)<|lo+k))/\(∀i,r<=i->i<k->K.klt (KK K (arrOf B)<|lo+k) (KK K (arrOf B)<|lo+i)))
   (Q:=λ(c:ĵ ŏ×ı×ı) (st':ł)=>∃l r,c=(Ĳ,l,r)/\st'=B/\l<=k/\(∀i,i<l->K.kle (KK K (arrOf B)<|lo+i) (KK K (arrOf B)<|lo+k))/\(∀i,l<=i->i<k->K.klt (KK K (arrOf B)<|lo+k) (KK K (arrOf B)<|lo+i))) ?_ ?_ ⟨28,0,k,rb,rb,ci _,ag _,iX _ _,λi hi=>(by cases hi),λi h1 D=>(Ł D<|Nat.not_lt_of_ge h1)⟩) ?_)
  .intro x c g _ hx z;let(l,r,rfl,rfl,h1,D,h3,h4,Z):=z
   try conv=>arg 5;dsimp -zeta only
   by_cases z:l>=r
   .calc bH z ?_;show bP %[7,l,r,rb,rb,av h1 D,h4|λi q1 q2=>Z i (av z q1) q2]
   refine bC z ?_
   try conv=>arg 5;dsimp -zeta only
   refine bt<|ud hO (M.ý.X hk) (M.keys hks) zo zo ?_
   try conv=>arg 5;dsimp -zeta only
   cases e:K.blt (KK K (arrOf g)<|lo+k) (KK K (arrOf g)<|lo+(l+r)/2) with| true=>calc bH rb ?_;show bP %[28,l,(l+r)/2,rb,rb,zo,zo,zo,h4|λi q1 q2=>ie e (L _ _ q1 q2).1]| false=>calc bC zr ?_;show bP %[28,(l+r)/2+1,r,rb,rb,sf zo,D,zo,λi q1=>fN (L i ((l+r)/2) (dP q1)<|sf zo).1<|show K.kle _ _ from e|Z]
  .intro c g z;let(l,r,rfl,rfl,h1,D,h3,h4,Z):=z;show%[7,l,r,rb,rb,av h1 D,h4|λi q1 q2=>Z i (by simp_all;lia) q2]
  .intro c g z;let(l,r,rfl,rfl,h1,h4,Z):=z
   try conv=>arg 5;dsimp -zeta only
   let N:lo+k<(arrOf g).E:=zo;calc bt ?_;show wpS _ _ _ _ (moveDown' (lo+k)<|lo+l) _ _;rw[moveDown'_eq];let kb:∀t,t<=k->(bubble (arrOf g) (lo+k)<|lo+k-(lo+l))[lo+t]?=if t=l then (arrOf g)[lo+k]? else if l<t then (arrOf g)[lo+(t-1)]? else (arrOf g)[lo+t]?:=λt ht=>by
    rw[getElem?_bubble N _ (iX _ _)];by_cases q1:t=l;.rw[ĺ (by rw[fF zo];lia),ĺ q1]
    .rw[Ĺ (by rw[fF zo];lia),Ĺ q1];by_cases q2:l<t;.rw[ĺ (by rw[fF zo];lia),ĺ q2,show lo+t-1=lo+(t-1) from fb zo]
     .rw[Ĺ (by rw[fF zo];lia),Ĺ q2]
   let O:∀t,t<=k->t=l->(bubble (arrOf g) (lo+k)<|lo+k-(lo+l))[lo+t]?=(arrOf g)[lo+k]?:=λt h1 D=>by rw[kb t h1,ĺ D]
   let F:∀t,t<=k->l<t->(bubble (arrOf g) (lo+k)<|lo+k-(lo+l))[lo+t]?=(arrOf g)[lo+(t-1)]?:=λt h1 D=>by rw[kb t h1,Ĺ (ib D),ĺ D]
   let J:∀t,t<=k->t<l->(bubble (arrOf g) (lo+k)<|lo+k-(lo+l))[lo+t]?=(arrOf g)[lo+t]?:=λt h1 D=>by rw[kb t h1,Ĺ (bb D),Ĺ (by simp[Nat.sub_sub];lia)]
   let kb4:∀t,k<t->(bubble (arrOf g) (lo+k)<|lo+k-(lo+l))[lo+t]?=(arrOf g)[lo+t]?:=λt h1=>by rw[getElem?_bubble N _ (iX _ _),Ĺ (by rw[fF zo];lia),Ĺ (by simp[*])]
   calc wP<|bP %[rb,M.arr (bubble_perm _ _ _) λt ht=>?_,?_|?_];.rw[getElem?_bubble N _ (iX _ _),Ĺ (by rw[fF zo];lia),Ĺ (by rw[fF zo];lia)]
   .rw[tq Y];intro i j G hj;show kA K ps (bubble (arrOf g) (lo+k)<|lo+k-(lo+l)) (lo+i)<|lo+j;rcases mM i l with i1|i1|i1
    .rcases mM j l with j1|j1|j1;.show kA.congr (J i zo i1) (J j zo j1)<|L _ _ G<|bq j1 h1
     .show kA.congr (J i zo i1) (O j (dP hj) j1) %[h4 i i1|.Ð<|p1 i k (ag _) Y<|bq i1 h1]
     .show kA.congr (J i zo i1) (F j (dP hj) j1)<|L _ _ (f7 zo)<|ed zo zo
    .rcases nI G with j1|j1;.rw[j1];show kA.Ę
     .show kA.congr (O i zo i1) (F j zo zo)<|kA.lt<|Z (j-1) (iL zo)<|ed zo zo
    .show kA.congr (F i (by calc av (by assumption) ?_;lia) i1) (F j zo<|bq i1 G)<|L _ _ (Nat.sub_le_sub_right zo _)<|ed zo zo
   .intro i k' q1 q2 q3;show pA ps (bubble (arrOf g) (lo+k)<|lo+k-(lo+l)) (lo+i)<=pA ps (bubble (arrOf g) (lo+k)<|lo+k-(lo+l)) (lo+k');rw[fQ (kb4 k' q1)];rcases dQ k i with y|y;.rw[fQ (kb4 i y)];show p1 _ _ (ar q1) q2 q3
    .rcases mM i l with i1|i1|i1;.rw[fQ (J i y i1)];show p1 _ _ zo q2 q3
     .rw[fQ (O i y i1)];show p1 _ _ zo q2 zo
     .rw[fQ (F i y i1)];show p1 _ _ zo q2<|gd (iX _ _) q3
 .intro c B z;let(rfl,M,L,_):=z;refine%[rb,M|?_]
  rwa [show min (max (max ok 1) n) n=n by lia]at L
 .intro i j G hj;by_cases z:ok=0
  .obtain rfl:i=j:=by simp_all;lia
   show kA.Ę
  .show hs i j G zo
 .intro c B z;let(rfl,M,L):=z;show bP<|h _ M L
def Dq {i j:ı}{st:ł}{Q:Ş->ł->Prop}(h:Q () (setArr st<|mirror (arrOf st) i j<|(j-i)/2)):wpS (Ľ prog w) A E s ((sortPriv% PySem.Builtin.reverseSlice) i j) Q st:=by show wpS _ _ _ _ (reverseSlice' i j) _ _;rw[reverseSlice'_eq];show wP h
def SG.rev {st0 st:ł}{lo hi i j:ı}(g:SG st0 st lo hi)(h1:lo<=i)(D:j<=hi)(B:j<=(arrOf st).E):SG st0 (setArr st<|mirror (arrOf st) i j<|(j-i)/2) lo hi:=g.arr (mirror_perm _ _ _ _) λt F=>by rw[getElem?_mirror_all B,Ĺ zo]
def ab3 {lo m:ı}(h1:1<=m)(h:mC K ps xs lo m)(q:K.kle (KK K xs<|lo+(m-1)) (KK K xs<|lo+m))(p:∀i,i<m->pA ps xs (lo+i)<=pA ps xs (lo+m)):mC K ps xs lo (m+1):=λi j g B=>by
 rcases dQ j m with z|z;.show h i j g z
 .obtain rfl:j=m:=by lia
  rcases dQ i j with y|y;.show%[fN (h i (j-1) (iL y)<|uA (gd (ci _) y) Nat.one_pos).1 q|.Ð<|p i y]
  .obtain rfl:i=j:=qf g y;show kA.Ę
def Pq {lo n j:ı}{st:ł}{f:ı->(ĵ (ĵ ı)×ı)->Š ł Sem (Ŭ<|ĵ (ĵ ı)×ı)}(m1:1<=j)(M:j<=n)(J:mC K ps (arrOf st) lo j)(N:rM ps (arrOf st) lo j n)(L:∀x m (D:Ŭ (ĵ (ĵ ı)×ı)->ł->Prop),1<=m->m<n->(K.blt (KK K (arrOf st)<|lo+m) (KK K (arrOf st)<|lo+m-1)=Ĵ->D (.done (Ĳ,m)) st)->(K.blt (KK K (arrOf st)<|lo+m) (KK K (arrOf st)<|lo+m-1)=false->D (.yield (none,m+1)) st)->wpS (model prog w) A E s (f x (none,m)) D st):wpS (model prog w) A E s (forIn [j:n] ((none:Option (Option Nat)),j) f) (λc st'=>st'=st/\∃m,c=(Ĳ,m)/\1<=m/\j<=m/\m<=n/\mC K ps (arrOf st) lo m/\(m=n\/K.klt (KK K (arrOf st)<|lo+m) (KK K (arrOf st)<|lo+m-1))) st:=by
 refine gm (I:=λ(x:ı) (c:ĵ (ĵ ı)×ı) (st':ł)=>st'=st/\c=(Ĳ,x)/\j<=x/\mC K ps (arrOf st) lo x) ?_ ?_ %[rb,rb,ag _|J]
 .intro x c G h1 F z;let(rfl,rfl,g,B):=z;refine L x x _ (av m1 g) F (λe=>%[rb|%[38,x,rb,zo,g,ar F,B|.Ð e]]) λe=>%[rb,rb,eJ g|ab3 zo B ?_ λi y=>N i x g F y]
  rw[show lo+(x-1)=lo+x-1 by lia];show e
 .intro c G z;let(rfl,rfl,g,B):=z;rw[Nat.max_eq_right M]at g B ⊢;show%[rb|%[38,n,rb,av m1 g,g,ag _,B|.Â rb]]
def nA (K:PyProof.Ă.ĥ)(ps:Ń->ı)(xs:ŀ Ń)(lo n q:ı):Prop:=∀i j,i<=j->j<n->K.kle (KK K xs<|lo+j) (KK K xs<|lo+i)/\(K.klt (KK K xs<|lo+j) (KK K xs<|lo+i)\/(j<n-1-q/\pA ps xs (lo+j)<=pA ps xs (lo+i))\/n-1-q<=i)
def vP (K:PyProof.Ă.ĥ)(ps:Ń->ı)(xs:ŀ Ń)(lo n:ı):Prop:=∀i j,i<=j->j<n->kA K ps xs (lo+j) (lo+i)
def nA.all {lo n:ı}(h:nA K ps xs lo n 0):vP K ps xs lo n:=λi j h1 g=>by
 let(a,b):=h i j h1 g;rcases b with b|b|b;.show%[a|.Â b]
 .show%[a|.Ð b.2]
 .obtain rfl:i=j:=by simp_all;lia
  show kA.Ę
def vP.snoc {lo m:ı}(h1:1<=m)(h:vP K ps xs lo m)(q:K.klt (KK K xs<|lo+m) (KK K xs<|lo+m-1)):nA K ps xs lo (m+1) 0:=λi j g B=>by
 rcases dQ j m with z|z
 .let(a,b):=h i j g z;show%[a|b.imp id λb=>.Â %[z|b]]
 .obtain rfl:j=m:=by lia
  rcases dQ i j with y|y
  .let a:=(h i (j-1) zo zo).1;rw[show lo+(j-1)=lo+j-1 by lia]at a;let b:=ie q a;show%[KeyOrd.kle_of_klt b|.Â b]
  .obtain rfl:i=j:=by lia
   show%[qi _|.Ð<|.Ð y]
def nA.same {lo m q:ı}(h1:1<=m)(D:q<m)(h:nA K ps xs lo m q)(B:KK K xs (lo+m-1)=KK K xs (lo+m)):nA K ps xs lo (m+1) (q+1):=λi j g F=>by
 rcases dQ j m with z|z
 .let(a,b):=h i j g z;show%[a|b.imp id λb=>b.imp (λb=>%[zo|b.2]) λb=>by lia]
 .obtain rfl:j=m:=by lia
  rcases dQ i j with y|y
  .let a:=h i (j-1) zo zo;rw[show lo+(j-1)=lo+j-1 by lia,B]at a;calc%[a.1|a.2.imp id λb=>.Ð ?_];rcases b with b|b <;> (simp[dL,ee]at *;lia)
  .obtain rfl:i=j:=by lia
   show%[qi _|.Ð<|.Ð<|iX _ _]
def nA.turn {xs:ŀ Ń}{lo m q:ı}(hs:lo+m<=xs.E)(G:q<m)(h:nA K ps xs lo m q)(eq:∀t,m-1-q<=t->t<m->KK K xs (lo+t)=KK K xs (lo+m-1))(F:∀i j,m-1-q<=i->i<=j->j<m->pA ps xs (lo+i)<=pA ps xs (lo+j)):(∀t,KK K (mirror xs (lo+m-(q+1)) (lo+m)<|(lo+m-(lo+m-(q+1)))/2) t=KK K xs t)/\vP K ps (mirror xs (lo+m-(q+1)) (lo+m)<|(lo+m-(lo+m-(q+1)))/2) lo m:=by
 let g:∀t,KK K (mirror xs (lo+m-(q+1)) (lo+m)<|(lo+m-(lo+m-(q+1)))/2) t=KK K xs t:=KK_mirror_equal hs λu q1 q2=>by have:=eq (u-lo) (by simp_all;lia) zo;rw[show lo+(u-lo)=u by simp_all;lia]at this;show this
 let D:=λt=>getElem?_mirror_all (xs:=xs) (i:=lo+m-(q+1)) (j:=lo+m) hs t;generalize mirror xs (lo+m-(q+1)) (lo+m) ((lo+m-(lo+m-(q+1)))/2)=ys at g D ⊢;let in1:∀t,m-1-q<=t->t<m->pA ps ys (lo+t)=pA ps xs (lo+(m-1-q+(m-1)-t)):=λt h1 B=>fQ (by rw[D,ĺ (by simp_all;lia)];congr 1;(simp[dL,ee]at *;lia));let out:∀t,t<m-1-q->pA ps ys (lo+t)=pA ps xs (lo+t):=λt h1=>fQ (by rw[D,Ĺ (by simp[dL,ee]at *;lia)]);calc%[g|λi j h1 B=>?_];let(a,b):=h i j h1 B;unfold kA;rw[g,g];calc%[a|?_];rcases b with b|b|b
 .show .Â b
 .rw[out j b.1,out i zo];show .Ð b.2
 .rw[in1 j (av b h1) B,in1 i b (gd h1 B)];show .Ð<|F _ _ (f7 zo) (sK h1 _) zo
def ZG {lo n:ı}{st:ł}{Q:ĵ ı->ł->Prop}(hO:jq prog w A s K kn)(hk:kindOf st=kn)(L:ő K (arrOf st))(hn:lo+n<=(arrOf st).E)(n1:1<=n)(p0:rM ps (arrOf st) lo 0 n)(h:∀st' m,SG st st' lo (lo+n)->1<=m->m<=n->mC K ps (arrOf st') lo m->rM ps (arrOf st') lo m n->Q (į m) st'):wpS (Ľ prog w) A E s ((sortPriv% PySem.Builtin.countRun) lo n) Q st:=by
 let one:∀xs,mC K ps xs lo 1:=λxs i j h1 h2=>by
  obtain rfl:i=j:=by simp_all
  show kA.Ę
 show wpS _ _ _ _ (_ >>= _) _ _
 try conv=>arg 5;dsimp -zeta only
 refine bt<|kC (Pq (K:=K) (ag 1) n1 (one _) (λi k q1=>p0 i k<|ci _) ?_) ?_
 .intro x m Q' h1 h2 q1 q2
  try conv=>arg 5;dsimp -zeta only
  refine bt<|ud hO hk L zo (jI zo) ?_
  try conv=>arg 5;dsimp -zeta only
  cases e:K.blt (KK K (arrOf st)<|lo+m) (KK K (arrOf st)<|lo+m-1) with| true=>calc bH rb ?_;show bP<|q1 e| false=>calc bC zr ?_;show bP<|q2 e
 intro c g z;let(rfl,m,rfl,h1,_,h2,u1,h3):=z;let pm:rM ps (arrOf g) lo m n:=λi k q1=>p0 i k zo
 try conv=>arg 5;dsimp -zeta only
 by_cases z:m=n
 .calc bH (by simpa using z) ?_;show bP<|h _ _ SG.Ę h1 h2 u1 pm
 calc bC (by simpa using z) ?_;let ZJ:K.klt (KK K (arrOf g)<|lo+m) (KK K (arrOf g)<|lo+m-1):=h3.resolve_left z
 extract_lets -underBinder +onlyGivenNames jp
 let zs1:lo+n<=(arrOf g).E:=hn;let hJ:∀J,SG g J lo (lo+(m+1))->nA K ps (arrOf J) lo (m+1) 0->(∀t,m<=t->(arrOf J)[lo+t]?=(arrOf g)[lo+t]?)->wpS (Ľ prog w) A E s (jp ()) Q J:=by
  intro J g2 d2 un2
  try conv=>arg 5;dsimp -zeta only
  refine bt<|wpS_lift<|gE %[rb|?_]
  try conv=>arg 5;dsimp -zeta only
  refine bt (kC (gm (I:=λ(x:ı) (c:ĵ (ĵ ı)×ı×ı) (st':ł)=>∃q,c=(Ĳ,x,q)/\SG g st' lo (lo+x)/\nA K ps (arrOf st') lo x q/\q<x/\m+1<=x/\(∀t,x-1-q<=t->t<x->KK K (arrOf st') (lo+t)=KK K (arrOf st') (lo+x-1))/\∀t,x-1-q<=t->(arrOf st')[lo+t]?=(arrOf g)[lo+t]?)
   (Q:=λ(c:ĵ (ĵ ı)×ı×ı) (st':ł)=>∃x q,c=(Ĳ,x,q)/\SG g st' lo (lo+x)/\nA K ps (arrOf st') lo x q/\q<x/\m+1<=x/\x<=n/\(∀t,x-1-q<=t->t<x->KK K (arrOf st') (lo+t)=KK K (arrOf st') (lo+x-1))/\∀t,x-1-q<=t->(arrOf st')[lo+t]?=(arrOf g)[lo+t]?) ?_ ?_ %[49,0,rb,g2,d2,gL _,ag _,λt q1 q2=>by rw[show lo+t=lo+(m+1)-1 by simp_all;lia]|λt q1=>un2 t q1]) ?_)
  .intro x c B hx1 hx2 z;let(q,rfl,G,M,N,F,eq,un):=z;let z3:=G.E;let pu:∀i j,x-1-q<=i->i<=j->j<x->pA ps (arrOf B) (lo+i)<=pA ps (arrOf B) (lo+j):=λi j y1 y2 y3=>by
    rw[fQ (un i y1),fQ (un j<|av y1 y2)];rcases nI y2 with y|y;.rw[y];show ag _
    .show p0 i j (ci _) (ja y3 hx2) y
   try conv=>arg 5;dsimp -zeta only
   refine bt<|ud hO (G.ý.X hk) (G.keys L) zo (jI zo) ?_
   try conv=>arg 5;dsimp -zeta only
   skip
   cases e:K.blt (KK K (arrOf B)<|lo+x) (KK K (arrOf B)<|lo+x-1) with
   | true=>
    refine bH rb ?_
    skip
    let done:∀D,SG g D lo (lo+x)->(∀t,KK K (arrOf D) t=KK K (arrOf B) t)->vP K ps (arrOf D) lo x->(∀t,x<=t->(arrOf D)[lo+t]?=(arrOf B)[lo+t]?)->∃q,((Ĳ:ĵ (ĵ ı)),x+1,0)=(Ĳ,x+1,q)/\SG g D lo (lo+(x+1))/\nA K ps (arrOf D) lo (x+1) q/\q<x+1/\m+1<=x+1/\(∀t,x+1-1-q<=t->t<x+1->KK K (arrOf D) (lo+t)=KK K (arrOf D) (lo+(x+1)-1))/\∀t,x+1-1-q<=t->(arrOf D)[lo+t]?=(arrOf g)[lo+t]?:=λD g4 O Y un4=>by calc%[49,0,rb,g4.Ô zr,Y.snoc (av (kG _ _) F) ?_,zo,eJ F,λt q1 q2=>by rw[show lo+t=lo+(x+1)-1 by lia]|λt q1=>(un4 t zo).X<|un t (by simp[dL,ee]at *;lia)];rw[O,O];show e
    by_cases Z:q > 0
    .calc bH Z ?_;calc bt<|Dq ?_;let(O,Y):=M.turn zo N eq pu;show bP (done _ (G.rev (f7 zo) (ag _) zo) O Y λt ht=>by show (mirror (arrOf B) (lo+x-(q+1)) (lo+x) _)[lo+t]?=_;rw[getElem?_mirror_all zo,Ĺ (by simp[*])])
    .calc bC Z ?_;obtain rfl:q=0:=qS Z;show bP<|done _ G (λt=>rfl) M.all λt _=>rfl
   | false=>
    calc bC zr ?_;refine bt<|ud hO (G.ý.X hk) (G.keys L) (jI zo) zo ?_
    try conv=>arg 5;dsimp -zeta only
    cases e2:K.blt (KK K (arrOf B)<|lo+x-1) (KK K (arrOf B)<|lo+x) with
    | true=>calc bH rb ?_;show bP %[60,x,q,rb,G,M,N,F,zo,eq|un]
    | false=>
     calc bC zr ?_;let ek:KK K (arrOf B) (lo+x-1)=KK K (arrOf B) (lo+x):=K.total _ _ e2 e;calc bP %[49,q+1,rb,G.Ô zo,M.same zo N ek,ny N,zo,λt q1 q2=>?_|λt q1=>un t zo];rw[show lo+(x+1)-1=lo+x from rfl];rcases dQ t x with y|y;.rw[eq t zo y,ek]
     .rw[show t=x by lia]
  .intro c B z;let(q,rfl,G,M,N,F,eq,un):=z;rw[Nat.max_eq_right zo]at G M N F eq un ⊢;show%[60,n,q,rb,G,M,N,F,ag _,eq|un]
  .intro c B z;let(x,q,rfl,G,M,N,F,hxn,eq,un):=z;let z3:=G.E
   try conv=>arg 5;dsimp -zeta only
   extract_lets -underBinder +onlyGivenNames lr ls n1 nq
   let q1:n1=x:=rfl;let q2:nq=q:=rfl
   conv=>arg 5;dsimp -zeta only[lr]
   extract_lets -underBinder +onlyGivenNames jp2
   let hJ2:∀D,SG g D lo (lo+x)->vP K ps (arrOf D) lo x->wpS (Ľ prog w) A E s (jp2 ()) Q D:=by
    intro D g4 Y;let Z:=g4.E
    try conv=>arg 5;dsimp -zeta only
    calc bt<|Dq ?_;let g5:=g4.rev (i:=lo) (j:=lo+x) (ag _) (ag _) zo;let u5:mC K ps (arrOf<|setArr D<|mirror (arrOf D) lo (lo+x)<|(lo+x-lo)/2) lo x:=λi j q1 q2=>by
     let at5:∀t,t<x->(mirror (arrOf D) lo (lo+x)<|(lo+x-lo)/2)[lo+t]?=(arrOf D)[lo+(x-1-t)]?:=λt ht=>by rw[getElem?_mirror_all zo,ĺ (by simp_all),show lo+(lo+x)-1-(lo+t)=lo+(x-1-t) from fb zo]
     show kA.congr (at5 i zo) (at5 j q2)<|Y _ _ (sK q1 _)<|jI zo
    generalize setArr D (mirror (arrOf D) lo (lo+x)<|(lo+x-lo)/2)=Kw at g5 u5;let z5:=g5.E;let p5:rM ps (arrOf Kw) lo x n:=g5.pos zs1 (ci _) p0;refine bt<|kC (Pq (K:=K) (av (kG _ _) F) hxn u5 p5 ?_) ?_
    .intro y p Q' h1 h2 q1 q2
     try conv=>arg 5;dsimp -zeta only
     refine bt<|ud hO (g5.ý.X hk) (g5.keys L) zo (jI zo) ?_
     try conv=>arg 5;dsimp -zeta only
     cases e:K.blt (KK K (arrOf Kw)<|lo+p) (KK K (arrOf Kw)<|lo+p-1) with| true=>calc bH rb ?_;show bP<|q1 e| false=>calc bC zr ?_;show bP<|q2 e
    .intro c st6 z;let(rfl,p,rfl,h1,h0,h2,u6,_):=z;show bP<|h _ _ (g5.Ô<|np hxn _) h1 h2 u6 λi k y1=>p5 i k<|av h0 y1
   by_cases Z:q > 0
   .calc bH Z ?_;calc bt<|Dq ?_;calc hJ2 _ (G.rev (by simp_all;lia) (ag _) zo) (M.turn zo N eq λi j y1 y2 y3=>?_).2;rw[fQ (un i y1),fQ (un j zo)];rcases nI y2 with y|y;.rw[y];show ag _
    .show p0 i j (ci _) (bq y3 hxn) y
   .calc bC Z ?_;obtain rfl:q=0:=by lia
    show hJ2 _ G M.all
 by_cases z2:m > 1
 .calc bH z2 ?_;refine bt<|ud hO hk L zo (jI zo) ?_
  try conv=>arg 5;dsimp -zeta only
  cases e:K.blt (KK K (arrOf g) lo) (KK K (arrOf g)<|lo+m-1) with
  | true=>calc bH rb ?_;show bP<|h _ _ SG.Ę h1 h2 u1 pm
  | false=>
   calc bC zr ?_;calc bt<|Dq ?_;let eqA:∀t,t<m->KK K (arrOf g) (lo+t)=KK K (arrOf g) (lo+m-1):=λt ht=>by let a1:=(u1 t (m-1) (iL ht) zo).1;let a2:=(u1 0 t zo ht).1;rw[show lo+(m-1)=lo+m-1 by lia]at a1;rw[y7]at a2;show KeyOrd.kle_antisymm a1<|fN (show K.kle _ _ from e) a2
   let dn:nA K ps (arrOf g) lo m (m-1):=λi j q1 q2=>%[by rw[eqA i zo,eqA j q2];show qi _|.Ð<|.Ð zo]
   let(O,Y):=dn.turn zo zo (λt _ ht=>eqA t ht) λi j y1 y2 y3=>by
    rcases nI y2 with y|y;.rw[y];show ag _
    .show p0 i j (ci _) (by grind) y
   rw[show lo+m-(m-1+1)=lo by simp_all]at O Y;refine hJ _ ((SG.Ę.rev (i:=lo) (j:=lo+m) (ag _) (ag _) zo).Ô zo) (vP.snoc h1 Y ?_) λt ht=>?_
   .show K.klt (KK K (mirror (arrOf g) lo (lo+m)<|(lo+m-lo)/2)<|lo+m)<|KK K (mirror (arrOf g) lo (lo+m)<|(lo+m-lo)/2)<|lo+m-1;rw[O,O];show ZJ
   .show (mirror (arrOf g) lo (lo+m) _)[lo+t]?=_;rw[getElem?_mirror_all zo,Ĺ (by simp_all)]
 .calc bC z2 ?_;obtain rfl:m=1:=by lia
  calc hJ _ SG.Ę (vP.snoc (ag _) (λi j q1 q2=>?_) ZJ) λt _=>rfl;obtain rfl:i=j:=by lia
  show kA.Ę
def jr:ı->İ (İ Ń)->İ (ı×ı×ı)->Prop
 | _,[],[]=>True
 | o,r::rs,p::ps=>p.1=o/\p.2.1=r.n/\jr (o+r.n) rs ps
 | _,_,_=>False
def jr.len:∀{rs:İ (İ Ń)} {ps:İ (ı×ı×ı)} {o:ı},jr o rs ps->ps.n=rs.n:=by
 intro rs
 induction rs with
 | nil=>intro ps _ h;cases ps;rfl;cases h
 | cons r rs ih=>
  intro ps _ h;cases ps with
  | nil=>cases h
  | cons p ps=>rw[b8,b8,ih h.2.2]
def jr.app:∀{F G:İ (İ Ń)} {f g:İ (ı×ı×ı)} {o:ı},jr o F f->jr (o+F.Ê.n) G g->jr o (F++G) (f++g):=by
 intro F G f g o h1 j
 induction F generalizing f o with
 | nil=>cases f;simpa using j;cases h1
 | cons r F ih=>
  cases f with
  | nil=>cases h1
  | cons p f=>show%[h1.1,h1.2.1|ih h1.2.2 (by rw[fo,ax]at j;rw[mS];show j)]
def jr.split:∀{F G:İ (İ Ń)} {ps:İ (ı×ı×ı)} {o:ı},jr o (F++G) ps->∃f g,ps=f++g/\f.n=F.n/\jr o F f/\jr (o+F.Ê.n) G g:=by
 intro F G ps o h
 induction F generalizing ps o with
 | nil=>show%[13,[],ps,rb,rb,trivial|by simpa using h]
 | cons r F ih=>
  cases ps with
  | nil=>cases h
  | cons p ps=>let(f,g,e,l,h1,j):=ih h.2.2;calc%[13,p::f,g,by rw[e];rfl,by simp[l],%[h.1,h.2.1|h1]|?_];rw[fo,ax];rw[mS]at j;show j
structure fY (K:PyProof.Ă.ĥ)(ps:Ń->ı)(kn:ŝ)(a0:İ Ń)(st:ł)(rs:İ (İ Ń))(rest:İ Ń):Prop where
 kind:kindOf st=kn
 fail:failedOf st=Ĳ
 keys:ő K (arrOf st)
 perm:(arrOf st).H.æ a0
 arr:(arrOf st).H=rs.Ê++rest
 pend:jr 0 rs (pendingOf st).H
 up:∀r∈rs,r.Ä (kL K ps)
 ne:∀r∈rs,r≠[]
 sep:rs.Ä λX Y=>∀x∈X,∀y∈Y,ps x<=ps y
 far:∀x∈rs.Ê,∀y∈rest,ps x<=ps y
def keys_perm {a b:ŀ Ń}(p:a.H.æ b.H)(h:ő K b):ő K a:=λx hx=>h x (p.à.mp hx)
def Ab {a0:İ Ń}{i:ı}{st:ł}{F G:İ (İ Ń)}{X Y rest:İ Ń}{Q:ŏ->ł->Prop}(hO:jq prog w A s K kn)(R:fY K ps kn a0 st (F++X::Y::G) rest)(hi:F.n=i)(h:∀st' Z,fY K ps kn a0 st' (F++Z::G) rest->Q Ĵ st'):wpS (Ľ prog w) A E s ((sortPriv% PySem.Builtin.mergeAt) i) Q st:=by
 subst hi;let(f,g,ep,D,h1,h2):=R.pend.split;obtain⟨p,q,g',rfl⟩:∃p q g',g=p::q::g':=by
  match g,h2 with| p::q::g',_=>show%[5,p,q,g'|rb]
 let(L,pb,pc):=p;let(qa,B,qc):=q;let(e1,e2,e3,e4,M):=h2;let e1:L=0+F.Ê.n:=e1;let e2:pb=X.n:=e2;let e3:qa=0+F.Ê.n+X.n:=e3;let e4:B=Y.n:=e4;let M:jr (0+F.Ê.n+X.n+Y.n) G g':=M;let nX:0<X.n:=o6.á<|R.ne X zr;let nY:0<Y.n:=o6.á<|R.ne Y zr;let N:(pendingOf st)[F.n]?=į (L,pb,pc):=by rw[<-cx,ep,<-D];simp
 let J:(pendingOf st)[F.n+1]?=į (qa,B,qc):=by rw[<-cx,ep,<-D,du (iF _ _)];simp
 let(sF,sR,O):=fc.mp R.sep;let(sX,sR):=fh.mp sR;let(sY,sG):=fh.mp sR;calc Td (Pl:=F.flatten) (X:=X) (Y:=Y) (Sl:=G.Ê++rest) hO R.ý R.fail R.keys N J (by rw[R.arr];simp) zo e2.Ò e4.Ò (by simp_all) (by simp_all) zo (R.up X zr) (R.up Y zr) (sX Y aE) λst' Z k1 k2 k3 k4 j k6=>?_;let pm:(arrOf st').H.æ (arrOf st).H:=by rw[k4,R.arr];simp only[ph,fo,b7];calc i9 _ ?_;rw[<-b7 X];show j.Ĝ _
 refine h st' Z %[k1.X R.ý,k2,keys_perm pm R.keys,pm.X R.perm,by rw[k4];simp,?_,λr hr=>?_,λr hr=>?_,fc.á %[sF,fh.á %[λg hg z hz=>?_|sG]|λa ha b hb x hx y hy=>?_]|λx hx=>R.far x ?_]
 .let e5:(pendingOf st').H=f++(L,pb+B,pc)::g':=by
   rw[k3,Array.toList_eraseIdxIfInBounds,xS,ep,<-D];rw[List.set_append_right _ _ (ag _),mr,List.eraseIdx_append_of_length_le zo];simp
  rw[e5];refine jr.app h1 %[e1,?_|?_]
  .show pb+B=Z.n;rw[j.length_eq,e2,e4,ax]
  .rw[j.length_eq,ax,<-mS];show M
 .rcases a8.mp hr with z|z;.show R.up r (by simp[z])
  .rcases a_.mp z with z|z;.rw[z];show k6
   .show R.up r (by simp[z])
 .rcases a8.mp hr with z|z;.show R.ne r (by simp[z])
  .rcases a_.mp z with z|z
   .rw[z];intro y;have:=j.Ē;rw[y,ax]at this;simp at this;simp_all
   .show R.ne r (by simp[z])
 .rcases a8.mp (j.à.mp hz) with q|q;.show sX g (ay _ hg) z q
  .show sY g hg z q
 .rcases a_.mp hb with q|q
  .rw[q]at hy;rcases a8.mp (j.à.mp hy) with q|q;.show O a ha X aE x hx y q
   .show O a ha Y (ay _ aE) x hx y q
  .show O a ha b (ay _<|ay _ q) x hx y hy
 .let p2:(F++Z::G).Ê.æ (F++X::Y::G).Ê:=by
   simp only[ph,fo];calc i9 _ ?_;rw[<-b7 X];show j.Ĝ _
  show p2.à.mp hx
def ab4 {W:Type}{l:İ W}(h:2<=l.n):∃F x y,l=F++[x,y]:=by
 calc%[5,l.Ã<|l.n-2,l[l.n-2],l[l.n-1]|?_];let e1:l.Ì (l.n-2)=[l[l.n-2],l[l.n-1]]:=by rw[kI (show l.n-2<l.n by lia),kI (show l.n-2+1<l.n by simp_all +arith),List.drop_eq_nil_of_le (by simp_all +arith)];congr 2;congr 1;lia
 rw[<-e1,c_]
def uE {rs:İ (İ Ń)}(h:∀r∈rs,r≠[]):rs.n<=rs.Ê.n:=by
 induction rs with| nil=>simp| cons r rs ih=>have h1:=o6.á<|h r aE;let g:=ih λx hx=>h x<|ay _ hx;rw[b8,fo,ax];lia
def U6 {H W:Type}{J:H->Š ł Sem W}{C:H->ł->Prop}{m:Š ł Sem W}{R:W->ł->Prop}{st:ł}(h1:∀o st',C o st'->wpS (Ľ prog w) A E s (J o) R st')(g:(∀o st',C o st'->wpS (Ľ prog w) A E s (J o) R st')->wpS (Ľ prog w) A E s m R st):wpS (Ľ prog w) A E s m R st:=g h1
def jr.congr:∀{rs:İ (İ Ń)} {ps g:İ (ı×ı×ı)} {o:ı},jr o rs ps->g.Q (λp=>(p.1,p.2.1))=ps.Q (λp=>(p.1,p.2.1))->jr o rs g:=by
 intro rs ps g o h e
 induction rs generalizing ps g o with
 | nil=>
  cases ps
  .cases g;.trivial
   .simp at e
  .cases h
 | cons r rs ih=>
  cases ps with
  | nil=>cases h
  | cons p ps=>
   cases g with
   | nil=>simp at e
   | cons q g=>rw[bX,bX]at e;injection e with e1 e2;injection e1 with e3 e4;show%[e3.X h.1,e4.X h.2.1|ih h.2.2 e2]
def fY.len {a0:İ Ń}{st:ł}{rs:İ (İ Ń)}{rest:İ Ń}(R:fY K ps kn a0 st rs rest):rs.Ê.n+rest.n=a0.n:=by rw[<-R.perm.length_eq,R.arr,ax]
def fY.size {a0:İ Ń}{st:ł}{rs:İ (İ Ń)}{rest:İ Ń}(R:fY K ps kn a0 st rs rest):(arrOf st).E=a0.n:=by rw[<-R.perm.length_eq,bu]
def fY.seg {a0:İ Ń}{st st':ł}{rs:İ (İ Ń)}{rest:İ Ń}{n hi:ı}(R:fY K ps kn a0 st rs rest)(g:SG st st' rs.Ê.n hi)(u:mC K ps (arrOf st') rs.Ê.n n)(hn:n<=rest.n)(O:rM ps (arrOf st') rs.Ê.n n rest.n):∃sg L,sg.n=n/\sg.Ä (kL K ps)/\fY K ps kn a0 st' rs (sg++L)/\(∀x∈sg,∀y∈L,ps x<=ps y)/\L.Ä λx y=>ps x<=ps y:=by
 let z:=R.E;let z':=g.E;let ln:=R.đ;let e1:(arrOf st').H.Ã rs.Ê.n=rs.Ê:=by
  apply hV;intro t;rcases dQ t rs.Ê.n with y|y;.rw[tN y,cx,g.Û t (.Â y),<-cx,R.arr,eW y]
  .rw[dv (by rw[ba];grind),dv y]
 let pm:(arrOf st').H.æ (arrOf st).H:=sq.mp g.perm;let Y:(arrOf st').H=rs.Ê++(arrOf st').H.Ì rs.Ê.n:=by
  conv=>lhs;rw[<-c_ rs.Ê.n (arrOf st').H]
  rw[e1]
 let pr:((arrOf st').H.Ì rs.Ê.n).æ rest:=by have:=pm;rw[Y,R.arr]at this;show(ym _).mp this
 let B:∀t,(h:t<((arrOf st').H.Ì rs.Ê.n).n)->pA ps (arrOf st') (rs.Ê.n+t)=ps ((arrOf st').H.Ì rs.Ê.n)[t]:=λt h=>by
  let Z:rs.Ê.n+t<(arrOf st').E:=by rw[cS,bu]at h;(simp[dL,ee]at *;lia)
  unfold pA;rw[cp Z];simp
 let N:=pr.Ē;calc%[7,((arrOf st').H.Ì rs.Ê.n).Ã n,((arrOf st').H.Ì rs.Ê.n).Ì n,?_,?_,%[g.ý.X R.ý,g.fail.X R.fail,keys_perm pm R.keys,pm.X R.perm,?_,by rw[g.pend];show R.pend,R.up,R.ne,R.sep|?_],?_|?_];.rw[ba,cS,bu];grind
 .rw[e8];intro i j hi F D;let G:j<n:=by simp at F;lia
  let J:rs.Ê.n+j<(arrOf st').E:=by simp at F;lia
  have:=u i j (ar D) G;unfold kA at this;rw[yX (show rs.Ê.n+i<(arrOf st').E by calc bq ?_ (by assumption);lia),yX J,B i (by rw[N];lia),B j (by rw[N];show bq G hn)]at this;show K.kle _ _/\(K.klt _ _\/_<=_)
  simpa using this
 .rw[c_];show Y
 .rw[c_];show λx hx y M=>R.far x hx y<|pr.à.mp M
 .intro x hx y M;let(i,hi,rfl):=cy.mp hx;let(j,F,rfl):=cy.mp M;rw[ba]at hi;rw[cS]at F;have:=O i (n+j) (iF _ _) zo zo;rw[B i zo,B (n+j) zo]at this;simpa [mS] using this
 .rw[e8];intro i j hi F D;rw[cS]at hi F;have:=O (n+i) (n+j) zo zo<|sv D _;rw[B (n+i) (by grind),B (n+j) zo]at this;simpa [mS] using this
def fY.aji {a0:İ Ń}{st:ł}{rs:İ (İ Ń)}{rest:İ Ń}{N:ı}(R:fY K ps kn a0 st rs rest)(B:rest.Ä λx y=>ps x<=ps y)(D:N<=rest.n):rM ps (arrOf st) rs.Ê.n 0 N:=λi k _ G j=>by
 let F:=R.đ;let z:=R.E;let g:∀t,(h:t<rest.n)->pA ps (arrOf st) (rs.Ê.n+t)=ps rest[t]:=λt h=>by unfold pA;rw[<-cx,R.arr,du (iF _ _),iA,ae h];rfl
 rw[g i zo,g k zo];show(e8.mp B) i k zo zo j
def aem {c:Prop} [ť c] (h1:a+1<n)(g:b+1<n):(if c then a else b)+1<n:=by split <;> assumption
def Jp {a0:İ Ń}{i:ı}{st:ł}{rs:İ (İ Ń)}{rest:İ Ń}{Q:ŏ->ł->Prop}(O:jq prog w A s K kn)(R:fY K ps kn a0 st rs rest)(hi:i+1<rs.n)(h:∀st' g,fY K ps kn a0 st' g rest->g.n+1=rs.n->Q Ĵ st'):wpS (Ľ prog w) A E s ((sortPriv% PySem.Builtin.mergeAt) i) Q st:=by
 let e:rs=rs.Ã i++rs[i]::rs[i+1]::rs.Ì (i+2):=by rw[<-kI hi,<-kI (show i<rs.n by lia),c_]
 let B:=R;rw[e]at B;calc Ab O B (by rw[ba];lia) λj Z D=>h j _ D ?_;rw[ax,ba,b8,cS]
 grind
def Pr {st:ł}{Q:Ş->ł->Prop}(hO:jq prog w A s K kn)(hk:kindOf st=kn)(hf:failedOf st=Ĳ)(hp:pendingOf st=#[])(hks:ő K (arrOf st))(hps:(arrOf st).H.Ä λx y=>ps x<=ps y)(h:∀st',failedOf st'=Ĳ->(arrOf st').H.æ (arrOf st).H->(arrOf st').H.Ä (kL K ps)->Q () st'):wpS (Ľ prog w) A E s (sortPriv% PySem.Builtin.sortRuns) Q st:=by
 obtain⟨N,hN⟩:∃N,(arrOf st).E=N:=%[_|rb]
 let hl:(arrOf st).H.n=N:=by rw[bu,hN]
 let R0:fY K ps kn (arrOf st).H st [] (arrOf st).H:=%[hk,hf,hks,zk _,zr,by rw[hp];trivial,λr h=>by simp at h,λr h=>by simp at h,.ê|λx h=>by simp at h]
 generalize (arrOf st).H=a0 at hl R0 h hps;show wpS _ _ _ _ (_ >>= _) _ _;refine bt<|uv ?_
 try conv=>arg 5;dsimp -zeta only
 rw[hN];refine bt (kC (gm (I:=λ(x:ı) (c:ĵ Ş×ı) (st':ł)=>∃rs rest,c=(Ĳ,rs.Ê.n)/\fY K ps kn a0 st' rs rest/\(x<=rs.Ê.n\/rest=[])/\rest.Ä λx y=>ps x<=ps y)
  (Q:=λ(c:ĵ Ş×ı) (st':ł)=>∃rs l,c=(Ĳ,l)/\fY K ps kn a0 st' rs []) ?_ ?_ %[13,[],a0,rb,R0,.Â zr|hps]) ?_)
 .intro x c M _ hx z;let(rs,rest,rfl,R,hpr,hrp):=z;let ln:=R.đ
  try conv=>arg 5;dsimp -zeta only
  by_cases z:rs.Ê.n>=N
  .calc bH z ?_;obtain rfl:rest=[]:=ng.mp zo;show bP %[4,rs,_,rb|R]
  calc bC z ?_;let hxl:x<=rs.Ê.n:=by
   rcases hpr with y|y;.show y
   .rw[y,tm]at ln;simp_all
  let zs:=R.E;refine bt<|ZG hO R.ý R.keys (show rs.Ê.n+(N-rs.Ê.n)<=(arrOf M).E by grind) (f7 zo) (R.aji hrp (by simp_all +arith)) λL m O m1 m2 u2 p2=>?_
  try conv=>arg 5;dsimp -zeta only
  extract_lets -underBinder +onlyGivenNames nn jp
  let qn:nn=m:=rfl;refine U6 (J:=λn:ı=>jp () n) (C:=λn B=>SG M B rs.Ê.n (rs.Ê.n+(N-rs.Ê.n))/\mC K ps (arrOf B) rs.Ê.n n/\1<=n/\n<=N-rs.Ê.n/\rM ps (arrOf B) rs.Ê.n n (N-rs.Ê.n)) (λn B hc=>?_) λhJ=>?_
  .let(g3,u3,n1,n2,p3):=hc;let(sg,vQ,ls,us,R3,fs,hr2):=R.seg g3 u3 zo (by rw[show rest.n=N-rs.Ê.n by lia];show p3)
   try conv=>arg 5;dsimp -zeta only
   refine bt<|uv ?_
   try conv=>arg 5;dsimp -zeta only
   extract_lets -underBinder +onlyGivenNames jp2
   refine U6 (J:=λ_:Ş=>jp2 ()) (C:=λ_ D=>∃g,fY K ps kn a0 D g (sg++vQ)/\g.Ê.n=rs.Ê.n) (λ_ D hc=>?_) λhJ=>?_
   .let(g,j,l4):=hc
    try conv=>arg 5;dsimp -zeta only
    refine bt<|wP<|bP %[13,g++[sg],vQ,?_,%[j.ý,j.fail,j.keys,j.perm,?_,?_,λr hr=>?_,λr hr=>?_,fc.á %[j.sep,ku _ _|λa ha b hb x hx y hy=>j.far x (si.á %[0,a,ha|hx]) y<|rV _ (by rw[<-al.mp hb];show hy)]|λx hx y hy=>?_],.Â ?_|hr2]
    .rw[ph,ax];simp[ls,l4]
    .show (arrOf D).H=_;rw[j.arr];simp
    .show jr 0 (g++[sg]) ((pendingOf D).Í (rs.Ê.n,n,0)).H;rw[f6];show jr.app j.pend %[by rw[l4];simp,ls.Ò|trivial]
    .rcases a8.mp hr with y|y;.show j.up r y
     .rw[al.mp y];show us
    .rcases a8.mp hr with y|y;.show j.ne r y
     .rw[al.mp y];intro q;rw[q]at ls;simp at ls;lia
    .rw[ph,fo,List.flatten_nil,fi]at hx;rcases a8.mp hx with q|q;.show j.far x q y<|de _ hy
     .show fs x q y hy
    .rw[ph,ax,fo,List.flatten_nil,fi,l4,ls];grind
   .cases hb:(pendingOf B).back? with
    | none=>
     try conv=>arg 5;dsimp -zeta only
     show hJ () B %[0,rs,R3|rb]
    | some v=>
     let(v1,v2,v3):=v
     try conv=>arg 5;dsimp -zeta only
     refine bt (kC (gm (I:=λ(y:ı) (c:ĵ Ş×Ş) (st':ł)=>c=(Ĳ,())/\∃g,fY K ps kn a0 st' g (sg++vQ)/\g.Ê.n=rs.Ê.n)
      (Q:=λ(c:ĵ Ş×Ş) (st':ł)=>c=(Ĳ,())/\∃g,fY K ps kn a0 st' g (sg++vQ)/\g.Ê.n=rs.Ê.n) ?_ ?_ %[12,rb,rs,R3|rb]) ?_)
     .intro y c D _ hy z;let(rfl,g,j,l4):=z;refine bt<|uv ?_
      conv=>arg 5;dsimp only
      let lp:(pendingOf D).E=g.n:=by rw[<-bu];show j.pend.đ
      by_cases z4:(pendingOf D).E > 1
      .rw[ĺ z4];let(F,X,Y,rfl):=ab4 (show 2<=g.n by simp_all +arith);let lF:(pendingOf D).E=F.n+2:=by rw[lp];simp
       rw[cp (show (pendingOf D).E-2<(pendingOf D).E by simp_all)];generalize (pendingOf D)[(pendingOf D).E-2]=v;let(v4,v5,v6):=v
       try conv=>arg 5;dsimp -zeta only
       by_cases z5:v6<=(sortPriv% PySem.Builtin.power) N (2*v1+v2) (2*v1+v2+v2+n) N
       .calc bH z5 ?_;show bP %[12,rb,_,j|l4]
       .calc bC z5 ?_;calc bt<|Ab hO (F:=F) (G:=[]) j (show F.n=(pendingOf D).E-2 by simp_all) λKw Z R5=>?_;calc bC zr ?_;let l5:=R5.đ;let l6:=j.đ;show bP %[12,rb,_,R5|zo]
      .rw[Ĺ z4]
       try conv=>arg 5;dsimp -zeta only
       show bP %[12,rb,_,j|l4]
     .rintro c D hc;show hc
     .intro c D z;let(rfl,g,j,l4):=z
      try conv=>arg 5;dsimp -zeta only
      calc bt<|wP ?_;calc hJ () _ %[0,g,%[j.ý,j.fail,j.keys,j.perm,j.arr,?_,j.up,j.ne,j.sep|j.far]|l4];calc j.pend.congr ?_;apply hV;intro t;rw[bz,bz,cx,cx];show Option.Q _ ((pendingOf D).modify _ _)[t]?=_;rw[Array.getElem?_modify];split
      .cases(pendingOf D)[t]? <;> rfl
      .rfl
  .by_cases z2:m<(sortPriv% PySem.Builtin.minRun) N N 0
   .calc bH z2 ?_;refine bt<|wpS_lift<|gE %[rb|?_]
    try conv=>arg 5;dsimp -zeta only
    let z2':=O.E;calc bt<|W5 hO (O.ý.X R.ý) (O.keys R.keys) (by grind) (by grind) u2 (λi k q1 q2=>p2 i k q1 (by grind)) λB g3 u3=>?_;refine bC zr ?_
    try conv=>arg 5;dsimp -zeta only
    refine hJ _ B %[%[g3.ý.X O.ý,g3.fail.X O.fail,g3.pend.X O.pend,g3.perm.X O.perm|λt ht=>(g3.Û t (by grind)).X<|O.Û t ht],u3,by calc av (by assumption) ?_;lia,wT _ _|g3.pos (by grind) zo p2]
   .calc bC z2 ?_;show hJ m L %[O,u2,m1,m2|p2]
 .intro c M z;let(rs,rest,rfl,R,hpr,_):=z;let ln:=R.đ;obtain rfl:rest=[]:=by
   rcases hpr with y|y;.show ng.mp zo
   .show y
  show%[4,rs,_,rb|R]
 .intro c M z;let(rs,l,rfl,R):=z
  try conv=>arg 5;dsimp -zeta only
  let ln:=R.đ;rw[tm]at ln;let lr:=uE R.ne;refine bt (kC (gm (I:=λ(x:ı) (c:ĵ Ş×Ş) (st':ł)=>c=(Ĳ,())/\∃g,fY K ps kn a0 st' g []/\(g.n+x<=N\/g.n<=1))
   (Q:=λ(c:ĵ Ş×Ş) (st':ł)=>c=(Ĳ,())/\∃g,fY K ps kn a0 st' g []/\g.n<=1) ?_ ?_ %[12,rb,rs,R|.Â (by simp_all)]) ?_)
  .intro x c L _ hx z;let(rfl,g,R2,h2):=z
   try conv=>arg 5;dsimp -zeta only
   refine bt<|uv ?_
   try conv=>arg 5;dsimp -zeta only
   let lp:(pendingOf L).E=g.n:=by rw[<-bu];show R2.pend.đ
   by_cases z:(pendingOf L).E<=1
   .calc bH z ?_;show bP %[12,rb,g,R2|by simp_all]
   refine bC z ?_
   try conv=>arg 5;dsimp -zeta only
   let lp':(pendingOf L).E-2+1<g.n:=by simp_all +arith
   calc bt<|Jp hO R2 ?_ λB rs3 R3 l3=>?_;.show aem (show (pendingOf L).E-2-1+1<g.n by lia) lp'
   .calc bC zr ?_;show bP %[12,rb,_,R3|by simp_all;lia]
  .intro c L z;let(rfl,g,R2,h2):=z;show%[12,rb,g,R2|by simp_all;lia]
  .intro c L z;let(rfl,g,R2,h2):=z;calc bP<|h _ R2.fail R2.perm ?_;rw[R2.arr,fi]
   match g,h2,R2.up with| [],_,_=>show List.Ä.ê| [r],_,u=>simpa using u r zr
end
end L2
namespace L2
open PySem PySem.Spec PyProof.Rows PySem.W
mutual
inductive mQ (K:W.Ë) (H:Hp):ı->ū->V->Prop
 | non {n}:mQ K H n .Ø .ă
 | bl {n} (b:ŏ):mQ K H n (.ĉ b) (.bl b)
 | int {n} (i:ĸ):mQ K H n (.I i) (.I i)
 | str {n} (l:İ ı) (h:∀c∈l,c<128):mQ K H n (.À<|S l) (.À<|S l)
 | tup {n a ds xs} (h:aQ K H a xs) (hs:GQ K H n ds xs):mQ K H (n+1) (.Ģ ds) (.v a)
inductive GQ (K:W.Ë) (H:Hp):ı->İ ū->İ V->Prop
 | nil {n}:GQ K H n [] []
 | cons {n d ds x xs} (h:mQ K H n d x) (hs:GQ K H n ds xs):GQ K H n (d::ds) (x::xs)
end
def mQ.lay {K:W.Ë}:∀{n:ı} {d:ū} {x:V},mQ K H n d x->d.canLay0=Ĵ/\d.depth<=n/\PyData.eqv d d=Ĵ:=by
 intro n d x h;calc mQ.rec (motive_1:=λn d _ _=>d.canLay0=Ĵ/\d.depth<=n/\PyData.eqv d d=Ĵ) (motive_2:=λn d _ _=>PyData.canLayAll0 d=Ĵ/\PyData.depthAll d<=n/\PyData.eqvAll d d=Ĵ) ?_ (λ_=>?_) (λ_=>?_) (λl h=>?_) (λ_ _ i=>?_) ?_ (λ_ _ a b=>?_) h;.simp[PyData.canLay0,PyData.depth,PyData.eqv]
 .simp[PyData.canLay0,PyData.depth,PyData.eqv]
 .simp[PyData.canLay0,PyData.depth,PyData.eqv]
 .simp only[PyData.canLay0,PyData.depth,PyData.eqv];show%[Uz h,ci _|zr]
 .simp only[PyData.canLay0,PyData.depth,PyData.eqv];show%[i.1,gg i.2.1|i.2.2]
 .simp[PyData.canLayAll0,PyData.depthAll,PyData.eqvAll]
 simp only[PyData.canLayAll0,PyData.depthAll,PyData.eqvAll,eD];show%[%[a.1|b.1],Nat.max_le.á %[a.2.1|b.2.1],a.2.2|b.2.2]
def mQ.d9 {K:W.Ë}(st:∀a xs,aQ K H a xs->aQ K H' a xs):∀{n:ı} {d:ū} {x:V},mQ K H n d x->mQ K H' n d x:=by intro n d x h;show mQ.rec (motive_1:=λn d x _=>mQ K H' n d x) (motive_2:=λn d x _=>GQ K H' n d x) .ă .bl .I .À (λh _ i=>.Æ (st _ _ h) i) .ê (λ_ _=>.Þ) h
section
variable {X:Cx}
variable {prog:ń}{w:ŉ}
def mQ.reads {ao:AC}{T:St}{H:Hp}{s:Ļ}(I:aM X ao T H s):∀{n:ı} {d:ū} {x:V} {u:ĳ},mQ X.K H n d x->bQ x u->∃as,ũ s.C u d as:=by
 intro n d x u h r;calc mQ.rec (motive_1:=λ_ d x _=>∀u,bQ x u->∃as,ũ s.C u d as) (motive_2:=λ_ d x _=>∀u,Vals x u->∃as,ţ s.C u d as) (λu r=>?_) (λb u r=>?_) (λi u r=>?_) (λl h u r=>?_) (λh _ i u r=>?_) (λu r=>?_) (λ_ _ i j u r=>?_) h u r;.cases r;show%[[]|.Ø]
 .cases r;show%[[]|.ĉ b]
 .let(t,rfl):=r;show%[[]|.I i t]
 .let(t,rfl):=r;show%[[]|.À _ t]
 .cases r;let(its,D,pl,_):=I.Ģ h;let(as,F):=i _ D;let(o,g,B,n,hd):=pl;show%[as|.Ģ g B hd (by simpa using F)]
 .cases r;show%[[]|.ê]
 cases r with| cons q t=>let(as,a):=i _ q;let(bs,b):=j _ t;show%[as++bs|.Þ a b]
inductive xR (prog:ń) (w:ŉ) (hp:Ň) (u:ı):İ ĳ->İ ĸ->ı->Prop
 | nil:xR prog w hp u [] [] 0
 | cons {v:ĳ} {x:ĸ} {d:ı} {vs:İ ĳ} {xs:İ ĸ} {ds:ı} (hv:∀(A:ň) (E:AB) (s:Ļ) (Q:ĸ->Ļ->Prop),A.ã<=u->s.C=hp->Q x {s with toks:=s.Ý+d}->ļ (Ľ prog w) A (pyHash v) Q E s)
   (t:xR prog w hp u vs xs ds):xR prog w hp u (v::vs) (x::xs) (d+ds)
def ab5 {A:ň}{s:Ļ}(L:A.ã<cLine)(G:s.C.Á a=į o)(J:o.cls=.È "tuple")(hd:o.Ď=.ú its n)(M:xR prog w s.C (A.ã+1) its.H hs dr)(q:Q (reduceHash<|Builtin.ģ.tupleHashOf hs) {s with toks:=s.Ý+(dr+1)}):ļ (Ľ prog w) A (pyHash<|.v a) Q E s:=by
 let B:s.ċ (.v a) "tuple":=%[0,o,G|J]
 unfold pyHash
 first|unfold pyHashByItsType|skip
 first|refine ab<|wpAny_cRoomFor_or (Or.Ð L) ?_|skip
 calc ab<|p_ B rh.Å ?_;rw[show (į (Value.Ó "tuple.__hash__")==į Value.Ø)=ķ from beq_builtin_none _];simp only[be,if_false];calc ab<|p_ B rh.Å ?_;calc ab<|wpAny_callSpecialIfBoundUnlessNone?_slot B rh<|eI rh B F.entry_tuple_hash ?_<|F.args_tuple_hash_1 _;show ļ _ _ (Builtin.ģ.tupleItemsOf (Value.v a) >>= _) _ _ s;calc ab<|qk G hd<|ab ?_;rw[<-nN];refine oP _ (λrest (b:ŀ ĸ) s1=>∃(left:İ ĸ) (g j:Nat),hs=b.H++left/\xR prog w s.C (A.ã+1) rest left j/\g+j=dr/\s1={s with toks:=s.Ý+g}) _ ?_ ?_ _ _ %[11,hs,0,dr,rb,M,iO _|rb]
 .intro x rest b s1 z;let(left,g,j,e1,D,e2,rfl):=z;cases D with| @cons v h d vs xs ds hv t=>calc ab<|hv _ _ _ _ (ag _) rb ?_;show ah %[11,xs,g+d,ds,by rw[e1];simp,t,zo|by simp[mS]]
 .intro b s1 z;let(left,g,j,e1,D,e2,rfl):=z;cases D;let e1:hs=b.H:=by simpa using e1
  let e2:g=dr:=e2;subst e1 e2;calc wpAny_ret_mkInt ?_;show ļ _ _ (pyHashByItsType.reduced<|Builtin.ģ.tupleHashOf b.H) Q E _;unfold pyHashByItsType.reduced;unfold reduceHash at q;split
  .rename_i z;rw[ĺ z]at q;show ah (by simpa [mS] using q)
  .rename_i z;rw[Ĺ z]at q;show ab<|gE<|ah (by simpa [mS] using q)
inductive uF (prog:ń) (w:ŉ) (hp:Ň) (u:ı):İ ĳ->İ ĳ->ŏ->Prop
 | nil:uF prog w hp u [] [] Ĵ
 | left {y:ĳ} {ys:İ ĳ}:uF prog w hp u [] (y::ys) ķ
 | right {x:ĳ} {xs:İ ĳ}:uF prog w hp u (x::xs) [] ķ
 | cons {x y:ĳ} {xs ys:İ ĳ} {b c:ŏ} (hv:∀(A:ň) (E:AB) (s:Ļ) (Q:ŏ->Ļ->Prop),A.ã<=u->s.C=hp->Q b s->ļ (Ľ prog w) A (eqBool x y) Q E s)
   (t:b=Ĵ->uF prog w hp u xs ys c) (f:b=ķ->c=ķ):uF prog w hp u (x::xs) (y::ys) c
def aen {A:ň}{s:Ļ}(ha:s.C.Á a=į oa)(D:oa.Ď=.ú xs na)(J:s.C.Á b=į ob)(B:ob.cls=.È "tuple")(F:ob.Ď=.ú ys nb)(M:uF prog w s.C A.ã xs.H ys.H c)(q:R (.done<|.ret<|.ĉ c) s):ļ (Ľ prog w) A (Builtin.«tuple.__eq__» %[[.v a,.v b]|[]]) R E s:=by
 let G:s.ċ (.v b) "tuple":=%[0,ob,J|B]
 show ļ _ _ (ş (Value.v b) (.È "tuple") >>= _) _ _ s;calc ab<|lh G xF ?_;simp only[fR,be,if_false];calc ab<|qk ha D<|ab<|qk J F<|ab ?_;refine oP _ (λrest r s1=>r.1=Ĳ/\s1=s/\∃us vs,rest=List.Ĩ us vs/\uF prog w s.C A.ã us vs c/\(us.n==vs.n)=(xs.E==ys.E)) _ ?_ ?_ _ _ %[rb|%[17,rb,_,_,rb,M|zr]]
 .rintro⟨u,v⟩ rest r s1 ⟨g,rfl,us,vs,hz,hi,j⟩;cases hi with
  | nil=>simp at hz
  | left=>simp at hz
  | right=>simp at hz
  | @cons x y xs1 ys1 b1 _ hv ht hf=>
   simp only[List.zip_cons_cons,List.cons.injEq,Prod.mk.injEq]at hz;let((rfl,rfl),rfl):=hz;calc ab<|hv _ _ _ _ (ag _) rb ?_;cases b1 with| true=>simp only[fR,be,if_false];show ah %[rb|%[17,rb,xs1,ys1,rb,ht rb|by simpa using j]]| false=>simp only[nB,if_true];rw[hf rfl]at q;show ab<|ah<|ah<|ah q
 .rintro⟨r1,N⟩ s1 ⟨g,rfl,us,vs,hz,hi,j⟩;let g:r1=Ĳ:=g;subst g;let L:(xs.E==ys.E)=c:=by
   rw[<-j];cases hi with| nil=>rfl| left=>simp| right=>simp| cons=>simp at hz
  calc ah ?_;show R (.done<|.ret<|.ĉ<|xs.E==ys.E) s1;rw[L];show q
def agD {A:ň}{s:Ļ}(O:A.ã<cLine)(ha:s.C.Á a=į oa)(D:oa.cls=.È "tuple")(B:oa.Ď=.ú xs na)(M:s.C.Á b=į ob)(j:ob.cls=.È "tuple")(J:ob.Ď=.ú ys nb)(N:uF prog w s.C (A.ã+1) xs.H ys.H c)(L:a=b->c=Ĵ)(q:Q c s):ļ (Ľ prog w) A (eqBool (.v a)<|.v b) Q E s:=by
 let g:s.ċ (.v a) "tuple":=%[0,oa,ha|D]
 let G:s.ċ (.v b) "tuple":=%[0,ob,M|j]
 unfold eqBool
 try with_reducible refine eC ?_
 by_cases z:(Value.v a==Value.v b)=Ĵ
 .rw[ĺ z];let e:a=b:=by have:=eq_of_beq z;injection this
  rw[L e]at q;show ab<|gE<|ah q
 .rw[Ĺ z];show ab<|wpAny_richCompare_same_room (op:=.Eq) g G F.slot_tuple_eq (eI F.slot_tuple_eq g F.entry_tuple_eq (aen ha B M j J N ⟨2,_,rb,(λe=>nomatch e),fe q⟩)<|F.args_tuple_eq_2 _ _) O
def ZK {s:Ļ}(D:s.C.Á a=į o)(L:o.cls=.È "tuple")(hd:o.Ď=.ú its n)(M:∀v∈its.H,∀(B:ŏ->Ļ->Prop) (J:AB),B Ĵ s->ļ (Ľ prog w) A (eqIsQuiet d v) B J s)(q:Q Ĵ s):ļ (Ľ prog w) A (eqIsQuiet (d+1)<|.v a) Q E s:=by
 let G:s.ċ (.v a) "tuple":=%[0,o,D|L]
 unfold eqIsQuiet;calc ab<|p_ G F.slot_tuple_eq.Å ?_;show ļ _ _ (ş (Value.v a) (.È "tuple") >>= _) _ _ s;calc ab<|lh G xF ?_;simp only[fR,be,if_false];calc ab<|ic D hd<|ab ?_;show ļ _ _ (ŭ its _ _) _ _ s;rw[<-nN];refine oP _ (λrest r s1=>r.1=Ĳ/\s1=s/\∀v∈rest,v∈its.H) _ ?_ ?_ _ _ %[rb,rb|λv hv=>hv]
 .intro v rest r s1 z;let(j,rfl,g):=z;calc ab<|M v (g v aE) _ _ ?_;simp only[fR,be,if_false];show ah %[rb,rb|λx hx=>g x<|ay _ hx]
 .rintro⟨r1,N⟩ s1 ⟨j,rfl,_⟩;let j:r1=Ĳ:=j;subst j;show ah q
end
structure gG (prog:ń)(w:ŉ)(κ:Type) [ō κ] where
 is:Ň->κ->ĳ->Prop
 hash:κ->ĸ
 draws:κ->ı
 deep:ı
 inj:∀{h:Ň} {v:ĳ} {x y:κ},is h x v->is h y v->x=y
 keeps:∀{h h':Ň} {k:κ} {v:ĳ} {d:Ķ} {o:Obj} {es ep},is h k v->h.Á d=į o->o.Ď=.dict es ep->Heap.Ĉ d h h'->is h' k v
 pyHash:∀{A:ň} {E:AB} {s:Ļ} {k:κ} {v:ĳ} {Q:ĸ->Ļ->Prop},A.ã+deep<cLine+1->is s.C k v->Q (hash k) {s with toks:=s.Ý+draws k}->ļ (Ľ prog w) A (PySem.pyHash v) Q E s
 eqBool:∀{A:ň} {E:AB} {s:Ļ} {x y:κ} {u v:ĳ} {Q:ŏ->Ļ->Prop},A.ã+deep<cLine+1->is s.C x u->is s.C y v->Q (ľ<|x=y) s->ļ (Ľ prog w) A (PySem.eqBool u v) Q E s
 quiet:∀{A:ň} {E:AB} {s:Ļ} {k:κ} {v:ĳ} {Q:ŏ->Ļ->Prop} (n:ı),deep<=n->is s.C k v->Q Ĵ s->ļ (Ľ prog w) A (eqIsQuiet n v) Q E s
def vR {prog:ń}{w:ŉ}{I:Type} [ō I] (knd:KeyKind prog w I):gG prog w I where
 is:=λ_ k v=>knd.is k v=Ĵ
 hash:=knd.þ
 draws:=λ_=>1
 deep:=0
 inj:=λh1 g=>knd.inj _ _ _ h1 g
 keeps:=λh _ _ _=>h
 pyHash:=λ_ h q=>knd.pyHash h q
 eqBool:=λ_ h1 g q=>knd.eqBool h1 g q
 quiet:=λn _ h q=>by rw[PySem.eqIsQuiet_byValue n (knd.byValue _ _ h)];show ah q
section
variable {prog:ń}{w:ŉ}{I I1 I2:Type}[ō I][ō I1][ō I2]
def ZL {h h':Ň}(h1:h.Á a=į o1)(B:o1.Ď=.ú its n)(j:h.Á d=į o)(hd:o.Ď=.dict es ep)(hs:Heap.Ĉ d h h'):h'.Á a=į o1:=by
 let g:a≠d:=by rintro rfl;rw[h1]at j;cases j;rw[B]at hd;cases hd
 show(hs.2 a g).X h1
def n_ (vk:gG prog w I)(h:Ň):İ I->İ ĳ->Prop
 | [],[]=>True
 | k::ks,v::vs=>vk.is h k v/\n_ vk h ks vs
 | _,_=>False
def n_.inj {vk : gG prog w I}{h : Ň} : ∀{x y : İ I} {vs : İ ĳ}, n_ vk h x vs -> n_ vk h y vs -> x = y := by
  intro x y vs a b
  induction x generalizing y vs with
  | nil => cases vs <;> cases y <;> (try contradiction)
           rfl
  | cons p x ih =>
    cases vs <;> cases y <;> (try contradiction)
    rw[vk.inj a.1 b.1, ih a.2 b.2]
def n_.keeps {vk:gG prog w I}{h h':Ň}{d:Ķ}{o:Obj}{es:ŀ DictEntry}{ep:ı}(g:h.Á d=į o)(hd:o.Ď=.dict es ep)(hs:Heap.Ĉ d h h'):∀{x:İ I} {vs:İ ĳ},n_ vk h x vs->n_ vk h' x vs:=by
 intro x vs a
 induction x generalizing vs with
 | nil=>cases vs;trivial;cases a
 | cons p x ih=>
  cases vs with
  | nil=>cases a
  | cons v vs=>show%[vk.Ğ a.1 g hd hs|ih a.2]
def n_.hashes {vk:gG prog w I}(F:u+vk.deep<cLine+1):∀{x:İ I} {vs:İ ĳ},n_ vk h x vs->xR prog w h u vs (x.Q vk.þ) (x.Q vk.draws).sum:=by
 intro x vs a
 induction x generalizing vs with
 | nil=>cases vs;show .ê;cases a
 | cons p x ih=>
  cases vs with
  | nil=>cases a
  | cons v vs=>rw[bX,bX,fE];show .Þ (λB D s' j ha hs g=>vk.pyHash zo (by rw[hs];show a.1) g)<|ih a.2
def n_.eqs {vk:gG prog w I}(F:u+vk.deep<cLine+1):∀{x y:İ I} {us vs:İ ĳ},n_ vk h x us->n_ vk h y vs->uF prog w h u us vs (ľ<|x=y):=by
 intro x y us vs a b
 induction x generalizing y us vs with
 | nil=>
  cases us <;> cases y <;> cases vs <;> (try contradiction)
  .show .ê
  .simpa using uF.left
 | cons p x ih=>
  cases us <;> cases y <;> cases vs <;> (try contradiction)
  .simpa using uF.right
  rename_i q y _ _;refine .Þ (b:=ľ (p=q)) (λD B s' j ha hs g=>vk.eqBool zo (by rw[hs];show a.1) (by rw[hs];show b.1) g) (λe=>?_) λe=>?_
  .have:=ih a.2 b.2;let e:=eK e
   rwa [show ľ (p::x=q::y)=ľ (x=y) from by simp[e]]
  .let e:=qo e;simp[e]
def n_.mem {vk:gG prog w I}{h:Ň}:∀{x:İ I} {vs:İ ĳ} {v:ĳ},n_ vk h x vs->v∈vs->∃k,vk.is h k v:=by
 intro x vs v a hv
 induction x generalizing vs with
 | nil=>
  cases vs;.simp at hv
  .cases a
 | cons p x ih=>
  cases vs with
  | nil=>cases a
  | cons w vs=>
   rcases a_.mp hv with e|e;.show%[_|by rw[e];show a.1]
   .show ih a.2 e
def tupK (vk:gG prog w I):gG prog w (İ I) where
 is:=λh ks v=>∃(a:Addr) (o:Obj) (n:Nat) (its:ŀ ĳ),v=.v a/\h.Á a=į o/\o.cls=.È "tuple"/\o.Ď=.ú its n/\n_ vk h ks its.H
 hash:=λks=>reduceHash<|Builtin.ģ.tupleHashOf<|ks.Q vk.þ
 draws:=λks=>(ks.Q vk.draws).sum+1
 deep:=vk.deep+1
 inj:=by rintro h v x y ⟨a,o,n,its,rfl,h1,_,B,D⟩ ⟨Z,o',O,its',e,j,_,g,F⟩;cases e;rw[h1]at j;cases j;rw[B]at g;injection g with e1 _;subst e1;show D.inj F
 keeps:=by intro h h' k v d o es ep z N hd hs;let(a,J,n,its,rfl,h1,G,B,D):=z;show%[3,a,J,n,its,rb,ZL h1 B N hd hs,G,B|D.Ğ N hd hs]
 pyHash:=by intro A E s k v Q hu z q;let(a,J,n,its,rfl,h1,G,B,D):=z;show ab5 zo h1 G B (D.hashes zo) q
 eqBool:=by rintro A E s x y u v Q hu ⟨a,J,n,its,rfl,h1,G,B,D⟩ ⟨Z,Y,O,its',rfl,j,M,g,F⟩ q;calc agD (c:=ľ (x=y)) zo h1 G B j M g (D.eqs zo F) ?_ q;rintro rfl;rw[h1]at j;cases j;rw[B]at g;injection g with e1 _;subst e1;show aw<|D.inj F
 quiet:=by
  intro A E s k v Q n hn z q;let(a,J,n1,its,rfl,h1,G,B,D):=z;obtain⟨m,rfl⟩:∃m,n=m+1:=%[n-1|zo]
  calc ZK h1 G B (λv hv Q' E' q'=>?_) q;let(k',L):=D.mem hv;show vk.quiet m (dP hn) L q'
end
def S5:ı->ı
 | 0=>0
 | d+1=>5*S5 d+1
theorem GR:∀d,5^d=4*S5 d+1
 | 0=>rfl
 | d+1=>by rw[mx,GR d,S5];lia
theorem Pu (a):∀b,S5 (a+b)=5^a*S5 b+S5 a
 | 0=>by rw[S5,Nat.mul_zero,iO];rfl
 | b+1=>by
  show 5*S5 (a+b)+1=5^a*(5*S5 b+1)+S5 a;let h:=GR a;rw[Pu a b,zg,zg,zh,h];let e:5*((4*S5 a+1)*S5 b)=(4*S5 a+1)*(5*S5 b):=by rw[<-oo,gy 5 (4*S5 a+1),oo]
  lia
def agE (e):S5 (e+e)=S5 e*(4*S5 e+2):=by
 rw[Pu,GR];have:(4*S5 e+1)*S5 e+S5 e=S5 e*(4*S5 e+1)+S5 e:=by rw[gy]
 rw[this,<-Nat.mul_succ]
theorem ZM:∀d,S5 d%2=d%2
 | 0=>rfl
 | d+1=>by have:=ZM d;show (5*S5 d+1)%2=(d+1)%2;lia
def ab6 (h:2^(k+1) ∣ x*(4*y+2)):2^k ∣ x*(2*y+1):=by
 let(c,g):=h;calc%[c|?_];let e:x*(4*y+2)=2*(x*(2*y+1)):=by rw[show 4*y+2=2*(2*y+1) by lia,<-oo,gy x 2,oo]
 rw[e,mx,gy (2^k) 2,oo]at g;show Nat.eq_of_mul_eq_mul_left zt g
theorem Jq:∀{k x y:ı},2^k ∣ x*(2*y+1)->2^k ∣ x
 | 0,x,_,_=>by rw[y8];show Nat.one_dvd x
 | k+1,x,y,h=>by
  let g:2 ∣ x*(2*y+1):=Nat.dvd_trans %[2^k|by rw[mx,gy]] h;let hx:x%2=0:=by have:=Nat.mod_eq_zero_of_dvd g;rw[Nat.mul_mod]at this;let j:(2*y+1)%2=1:=zr;rw[j,zh,Nat.mod_mod]at this;show this
  obtain⟨z,rfl⟩:∃z,x=2*z:=%[x/2|zo]
  rw[mx,gy (2^k) 2,oo]at h;have:=Nat.dvd_of_mul_dvd_mul_left zt h;rw[mx,gy (2^k) 2];show Nat.mul_dvd_mul_left 2<|Jq this
theorem ZP:∀{k d:ı},2^k ∣ S5 d->2^k ∣ d
 | 0,d,_=>by rw[y8];show Nat.one_dvd d
 | k+1,d,h=>by
  let g:2 ∣ S5 d:=Nat.dvd_trans %[2^k|by rw[mx,gy]] h;let hd:d%2=0:=by rw[<-ZM d];show Nat.mod_eq_zero_of_dvd g
  obtain⟨e,rfl⟩:∃e,d=e+e:=%[d/2|zo]
  rw[agE]at h;have:=ZP<|Jq<|ab6 h;rw[mx,gy (2^k) 2,show e+e=2*e by lia];show Nat.mul_dvd_mul_left 2 this
def tu (m:ı):ı->ı->ı
 | 0,x=>x
 | n+1,x=>tu m n ((x*5+1)%m)
theorem U7 (m):∀n x,tu m n x%m=(5^n*x+S5 n)%m
 | 0,x=>by rw[tu,y8,Nat.one_mul];rfl
 | n+1,x=>by
  rw[tu,U7 m n];let e1:5^(n+1)*x+S5 (n+1)=5^n*(x*5+1)+S5 n:=by rw[Pu n 1,zg,zh,mx,gy x 5,oo];show _+(5^n*1+S5 n)=_;lia
  rw[e1,Nat.add_mod,Nat.mul_mod,Nat.mod_mod,<-Nat.mul_mod,<-Nat.add_mod]
theorem Px (hm:0<m):∀n x,x<m->tu m n x<m
 | 0,_,h=>h
 | n+1,_,_=>Px hm n _ (qh _ hm)
theorem U8 (m):∀a b x,tu m (a+b) x=tu m b (tu m a x)
 | 0,b,x=>by rw[iO];rfl
 | a+1,b,x=>by rw[Nat.succ_add];show U8 m a b _
def ab7 (hx:x<2^k)(h:tu (2^k) d x=x):2^k ∣ d:=by
 let hm:=U7 (2^k) d x;rw[h,GR]at hm;let e:(4*S5 d+1)*x+S5 d=x+S5 d*(2*(2*x)+1):=by rw[Nat.add_mul,Nat.one_mul,zg,zh,gy 4 (S5 d),oo,show 2*(2*x)=4*x by lia];lia
 rw[e]at hm;let hd:2^k ∣ S5 d*(2*(2*x)+1):=by have:=Nat.sub_mod_eq_zero_of_mod_eq hm.Ò;rw[iA]at this;show Nat.dvd_of_mod_eq_zero this
 show ZP<|Jq hd
def aeo (hx:x<2^k)(ha:a<2^k)(j:b<2^k)(h:tu (2^k) a x=tu (2^k) b x):a=b:=by
 let g:∀a b,a<=b->b<2^k->tu (2^k) a x=tu (2^k) b x->a=b:=by intro a b B j h;let(d,rfl):=Nat.exists_eq_add_of_le B;rw[U8]at h;let D:=Px (Nat.two_pow_pos k) a x hx;have:=ab7 D h.Ò;let hd:d=0:=Nat.eq_zero_of_dvd_of_lt this<|gd (kG _ _) j;lia
 rcases Nat.le_total a b with z|z;.show g a b z j h
 .show(g b a z ha h.Ò).Ò
def agF {l:İ ı}(nd:l.Ö)(j:l.n=M)(hs:∀x∈l,x<M)(g:y<M):y∈l:=by
 apply i6;intro hn;have:=(io.á %[hn|nd]).Ė (l₂:=List.ñ M) λx hx=>by
  rcases a_.mp hx with e|e;.rw[e];show cz.á g
  .show cz.á<|hs x e
 rw[b8,ef]at this;lia
def aep (hx:x<2^k)(g:y<2^k):∃n,n<2^k/\tu (2^k) n x=y:=by
 let nd:((List.ñ<|2^k).Q λn=>tu (2^k) n x).Ö:=eL.á<|wc.imp_of_mem λ{a b} ha hb hne z=>hne<|aeo hx (cz.mp ha) (cz.mp hb) z;have:=agF nd (by rw[aa,ef]) (λz hz=>by let(n,_,rfl):=aI.mp hz;show Px (Nat.two_pow_pos k) n x hx) g
 let(n,hn,e):=aI.mp this;show%[0,n,cz.mp hn|e]
def jO (mask:ı):ı->ı×ı->ı×ı
 | 0,p=>p
 | n+1,p=>jO mask n (SetTable.leap mask p.1 p.2)
theorem K1 (mask):∀a b p,jO mask (a+b) p=jO mask b (jO mask a p)
 | 0,b,p=>by rw[iO];rfl
 | a+1,b,p=>by rw[Nat.succ_add];show K1 mask a b _
theorem GX (mask):∀n p,(jO mask n p).2=p.2/32^n
 | 0,p=>by rw[jO,y8,Nat.div_one]
 | n+1,p=>by rw[jO,GX mask n];show p.2/32/32^n=p.2/32^(n+1);rw[Nat.div_div_eq_div_mul,mx,gy 32]
theorem Py:∀n p,p.1<=mask->(jO mask n p).1<=mask
 | 0,_,h=>h
 | n+1,p,_=>Py n _ (dP<|qh _<|gL mask)
theorem GZ (mask):∀n i,jO mask n (i,0)=(tu (mask+1) n i,0)
 | 0,i=>rfl
 | n+1,i=>by
  have:SetTable.leap mask i 0=((i*5+1)%(mask+1),0):=by unfold SetTable.leap;simp
  rw[jO,this,GZ mask n];rfl
def K4 (hm:mask+1=2^k)(hi:i<=mask)(hp:p<2^64)(B:y<=mask):∃n,n<=mask+13/\(jO mask n (i,p)).1=y:=by
 let g:(jO mask 13 (i,p)).2=0:=by rw[GX];show Nat.div_eq_of_lt<|bq hp zt
 let j:=Py (mask:=mask) 13 (i,p) hi;let(n,hn,e):=aep (k:=k) (x:=(jO mask 13 (i,p)).1) (y:=y) zo zo;calc%[0,13+n,zo|?_];rw[K1,show jO mask 13 (i,p)=((jO mask 13 (i,p)).1,0) from xp rb g,GZ,hm];show e
def stp (t:Ō):ı->SetTable.Probe->SetTable.Probe
 | 0,p=>p
 | s+1,p=>stp t s (t.advance p)
theorem xT (t):∀a b p,stp t (a+b) p=stp t b (stp t a p)
 | 0,b,p=>by rw[iO];rfl
 | a+1,b,p=>by rw[Nat.succ_add];show xT t a b _
def nF (t:Ō)(q:ı×ı)(d:ĵ ı):SetTable.Probe:={j:=q.1,more:=SetTable.runEnd t.ç q.1-q.1,i:=q.1,perturb:=q.2,dummy:=d}
def agG (mask i):SetTable.runEnd mask i-i<=9:=by unfold SetTable.runEnd;split <;> simp
theorem Jr (t):∀(m:ı) (p:SetTable.Probe),p.more=m->stp t (m+1) p=nF t (SetTable.leap t.ç p.i p.perturb) p.dummy
 | 0,p,h=>by show t.advance p=_;unfold SetTable.advance nF;rw[Ĺ zo]
 | m+1,p,h=>by
  show stp t (m+1) (t.advance p)=_;let e:t.advance p={p with j:=p.j+1,more:=p.more-1}:=by unfold SetTable.advance;rw[ĺ zo]
  rw[e];show Jr t m _ (by show p.more-1=m;show fb zo)
theorem K5 (t)(d):∀(n:ı) (q:ı×ı),∃s,s<=10*n/\stp t s (nF t q d)=nF t (jO t.ç n q) d
 | 0,q=>%[0,0,ag _|rb]
 | n+1,q=>by let h1:=Jr t _ (nF t q d) rfl;let(s,hs,e):=K5 t d n (SetTable.leap t.ç q.1 q.2);let g:(nF t q d).more<=9:=agG t.ç q.1;calc%[0,(nF t q d).more+1+s,zo|?_];rw[xT,h1];show e
def ZQ (t:Ō)(h):t.ÿ h=nF t (SetTable.bits h%(t.ç+1),SetTable.bits h) Ĳ:=rfl
def U9 (h):SetTable.bits h<2^64:=by
 unfold SetTable.bits;let h1:=og h (show (2^64:ĸ)≠0 by decide);let B:=lI h (show (0:ĸ)<2^64 by decide);let j:=Int.toNat_of_nonneg h1;let g:(((2:ı)^64:ı):ĸ)=(2^64:ĸ):=by decide
 simp_all
def aer {t:Ō}(hm:t.ç+1=2^k)(h)(g:y<=t.ç):∃s,s<=10*(t.ç+13)/\(stp t s<|t.ÿ h).j=y:=by let(n,hn,e):=K4 (i:=SetTable.bits h%(t.ç+1)) (p:=SetTable.bits h) hm (dP<|qh _<|gL _) (U9 h) g;let(s,hs,es):=K5 t Ĳ n (SetTable.bits h%(t.ç+1),SetTable.bits h);calc%[0,s,zo|?_];rw[ZQ,es];show e
def K6 (t:Ō)(p:SetTable.Probe):(t.advance p).dummy=p.dummy:=by unfold SetTable.advance;split <;> rfl
theorem U_ (t : Ō)(hs : ı -> ĸ)(h)(hd : ∀j, t.slot j ≠ .dummy) : ∀(g : ı) (p : SetTable.Probe), p.dummy = Ĳ -> (∃s, s<g /\ t.slot (stp t s p).j = .empty) ->
    ∃s, s<g /\ (∀s', s'<s -> ∃i, t.slot (stp t s' p).j = .live i /\ hs i ≠ h) /\
      ((t.slot (stp t s p).j = .empty /\ SetTable.probe.go t hs h g p = į (.empty (stp t s p).j Ĳ)) \/
       ∃i, t.slot (stp t s p).j = .live i /\ hs i = h /\ SetTable.probe.go t hs h g p = į (.candidate (stp t s p).j i<|stp t (s+1) p))
  | 0, _, _, ⟨_, h, _⟩ => Ł h (kH _)
  | g+1, p, hp, ⟨s, hs1, hs2⟩ => by
    cases e : t.slot p.j with
    | empty => show%[2,0, gL _, λs' z => Ł z<|kH _| .Â %[e| by unfold SetTable.probe.go; rw[e, hp]; rfl]]
    | dummy => show Ł e<|hd _
    | live i =>
      by_cases hh : hs i = h
      · refine%[2,0, gL _, λs' z => Ł z<|kH _| .Ð %[2,i, e, hh| ?_]]
        unfold SetTable.probe.go;rw[e];simp only[hh, beq_self_eq_true, if_true];rfl
      · have hne : s ≠ 0 := by
          rintro rfl;have : t.slot p.j = .empty := hs2;rw[e]at this; cases this
        obtain⟨s1, rfl⟩ : ∃s1, s = s1+1 := %[s-1| by lia]
        obtain⟨r, F, D, B⟩ := U_ t hs h hd g (t.advance p) (by rw[K6]; show hp) %[0,s1, dP hs1| hs2];have eg : SetTable.probe.go t hs h (g+1) p = SetTable.probe.go t hs h g (t.advance p) := by
          conv => lhs; unfold SetTable.probe.go
          rw[e];simp[hh]
        refine%[2,r+1, ny F, λs' z => ?_| ?_]
        · cases s' with| zero => show%[0,i, e| hh]| succ s' => show D s' zo
        · rw[eg]
          show B
def Ac (xs:İ ı):Prop:=xs.Ä (λa b=>a<b)
def Ac.at_ {xs:İ ı}(h:Ac xs){i j a b:ı}(g:i<j)(ha:xs[i]?=į a)(D:xs[j]?=į b):a<b:=by let(h1,e1):=am.mp ha;let(B,e2):=am.mp D;have:=e8.mp h i j h1 B g;rw[e1,e2]at this;show this
structure Blw (xs:İ ı)(j k:ı):Prop where
 le:k<=xs.n
 lo:∀(i a:ı),i<k->xs[i]?=į a->a<j
 hi:∀(i a:ı),k<=i->xs[i]?=į a->j<=a
theorem Fj {xs:ŀ ı}{j:ı}(hs:Ac xs.H):∀(g lo hi:ı),lo<=hi->hi<=xs.E->hi-lo<=g->(∀(i a:ı),i<lo->xs.H[i]?=į a->a<j)->(∀(i a:ı),hi<=i->xs.H[i]?=į a->j<=a)->Blw xs.H j (SetTable.ĕ.go xs j g lo hi)
 | 0,lo,hi,h1,h2,h3,h4,h5=>by
  have:lo=hi:=by rw[dL]at *;lia
  subst this;unfold SetTable.below.go;show%[by simpa using h2,h4|h5]
 | g+1,lo,hi,h1,h2,h3,h4,h5=>by
  unfold SetTable.below.go;by_cases z:lo<hi
  .rw[ĺ z];let hm:(lo+hi)/2<xs.E:=sf zo;let D:xs.H[(lo+hi)/2]?=į (xs.Î ((lo+hi)/2) j):=by
    rw[cx,cp hm,gt,cp hm];rfl
   by_cases c:xs.Î ((lo+hi)/2) j<j
   .simp only[c,if_true];calc Fj hs g _ _ (sf zo) h2 (by simp_all;lia) (λi a B ha=>?_) h5;rcases dQ i ((lo+hi)/2) with y|y;.have:=hs.Ć y ha D;show ja this c
    .have:i=(lo+hi)/2:=by lia
     rw[this,D]at ha;cases ha;show c
   .simp only[c,if_false];calc Fj hs g _ _ zo (ar hm) (by simp_all;lia) h4 λi a B ha=>?_;rcases dQ ((lo+hi)/2) i with y|y;.have:=hs.Ć y D ha;lia
    .have:i=(lo+hi)/2:=qf y B;rw[this,D]at ha;cases ha;show jn c
  .rw[Ĺ z];have:lo=hi:=by lia
   subst this;show%[by simpa using h2,h4|h5]
def Fl {xs:ŀ ı}(hs:Ac xs.H)(j):Blw xs.H j (SetTable.ĕ xs j):=
 Fj hs xs.E 0 xs.E (ci _) (ag _) zo (λi a h=>Ł h<|kH _) (λi a h ha=>by have:=(am.mp ha).1;rw[bu]at this;lia)
def lq {t:Ō}(hs:Ac t.Ù.H):t.slot j=.live i↔t.Ù.H[i]?=į j:=by
 let B:=Fl hs j;constructor
 .intro h;unfold SetTable.slot at h;dsimp only at h;split at h
  .rename_i e;cases h;rw[cx];show eq_of_beq e
  .split at h <;> cases h
 .intro h;let hi:SetTable.ĕ t.Ù j=i:=by
   rcases mM (SetTable.ĕ t.Ù j) i with z|z|z
   .let(g,_):=am.mp h;obtain⟨a,ha⟩:∃a,t.Ù.H[SetTable.ĕ t.Ù j]?=į a:=%[_|ae<|ja z g]
    let h1:=B.hi _ a (ag _) ha;let D:=hs.Ć z ha h;lia
   .show z
   .have:=B.lo i j z h;lia
  unfold SetTable.slot;dsimp only;rw[hi,<-cx,h];simp
def zc {t:Ō}(hs:Ac t.Ù.H)(hd:t.dummies=#[]):t.slot j=.empty↔j∉t.Ù.H:=by
 constructor
 .intro h hm;let(i,hi):=kq hm;rw[(lq hs).á hi]at h;cases h
 .intro h;cases e:t.slot j with
  | empty=>rfl
  | live i=>show Ł (a7<|(lq hs).mp e) h
  | dummy=>
   exfalso;unfold SetTable.slot at e;dsimp only at e;split at e;.cases e
   .split at e
    .rename_i z;unfold SetTable.has at z;rw[hd]at z;simp at z
    .cases e
def W6 {t:Ō}(hs:Ac t.Ù.H)(hd:t.dummies=#[])(j):t.slot j≠.dummy:=by
 intro e;by_cases h:j∈t.Ù.H
 .let(i,hi):=kq h;rw[(lq hs).á hi]at e;cases e
 .rw[(zc hs hd).á h]at e;cases e
def ab8 {t t':Ō}(h:t.ç=t'.ç)(p:SetTable.Probe):t.advance p=t'.advance p:=by unfold SetTable.advance;rw[h]
theorem Pz {t t':Ō}(h:t.ç=t'.ç):∀s p,stp t s p=stp t' s p
 | 0,_=>rfl
 | s+1,p=>by rw[stp,stp,ab8 h,Pz h s]
def W7 {t t':Ō}(h:t.ç=t'.ç)(x):t.ÿ x=t'.ÿ x:=by unfold SetTable.probeStart;rw[h]
def gC (t:Ō)(h:ĸ)(s:ı):ı:=(stp t s<|t.ÿ h).j
def G3 {t t':Ō}(e:t.ç=t'.ç)(h)(s):gC t h s=gC t' h s:=by unfold gC;rw[W7 e,Pz e]
def Way (t:Ō)(pl:İ ı)(h:ĸ)(j:ı):Prop:=∃s,gC t h s=j/\∀s',s'<s->gC t h s'∈pl
structure kJ (t:Ō)(hs:İ ĸ):Prop where
 Ad:Ac t.Ù.H
 len:t.Ù.H.n=hs.n
 PB:t.dummies=#[]
 two:∃k,3<=k/\k<=13/\t.ç+1=2^k
 le:∀j∈t.Ù.H,j<=t.ç
 few:hs.n<=t.ç
 way:∀(i j:ı) (h:ĸ),hs[i]?=į h->t.Ù.H[i]?=į j->Way t t.Ù.H h j
def lQ {I:Type}(xs:ŀ I)(p)(x:I):(SetTable.insertAt xs p x).H=xs.H.Ã p++x::xs.H.Ì p:=by unfold SetTable.insertAt;simp[w_,tw];show cn zr
def mR {I:Type}{l:İ I}{p:ı}{x:I}(hp:p<=l.n){i:ı}{y:I}(h:(l.Ã p++x::l.Ì p)[i]?=į y):(i<p/\l[i]?=į y)\/(i=p/\y=x)\/(p<i/\l[i-1]?=į y):=by
 let g:(l.Ã p).n=p:=by rw[ba];lia
 rcases mM i p with z|z|z
 .rw[eW (by simp[*]),jv,ĺ z]at h;show .Â %[z|h]
 .rw[du (by simp[*]),g,z,mr]at h;show .Ð<|.Â %[z|by simpa using h.symm]
 .rw[du zo,g,show i-p=(i-p-1)+1 by lia,uC,iq,show p+(i-p-1)=i-1 by lia]at h;show .Ð<|.Ð %[z|h]
def aes (hs:Ac xs)(B:Blw xs j p)(hn:j∉xs):Ac (xs.Ã p++j::xs.Ì p):=by
 unfold Ac;rw[fc,fh];refine%[hs.sublist<|u7 p xs,%[λa ha=>?_|hs.sublist<|kD p xs]|λa ha b g=>?_]
 .let(i,hi):=kq ha;rw[iq]at hi;let h1:=B.hi _ a zo hi;let D:a≠j:=λz=>hn (by rw[<-z];show a7 hi);lia
 .let(i,hi):=kq ha;rw[jv]at hi;split at hi
  .rename_i z;let h1:=B.lo i a z hi;rcases a_.mp g with e|e;.simp_all
   .let(m,hm):=kq e;rw[iq]at hm;have:=B.hi _ b zo hm;show bq h1 this
  .cases hi
def Way.mono {t t':Ō}(w:Way t pl h j)(e:t.ç=t'.ç)(hs:∀x∈pl,x∈pl'):Way t' pl' h j:=by let(s,h1,g):=w;show%[0,s,by rw[<-G3 e];show h1|λs' z=>by rw[<-G3 e];show hs _<|g s' z]
def ZR (t:Ō)(j):(t.put j).1.Ù=SetTable.insertAt t.Ù (SetTable.ĕ t.Ù j) j:=rfl
def kJ.put (I:kJ t hs)(G:j<=t.ç)(hn:j∉t.Ù.H)(w:Way t t.Ù.H h j)(J:hs.n+1<=t.ç):kJ (t.put j).1 (hs.Ã (SetTable.ĕ t.Ù j)++h::hs.Ì (SetTable.ĕ t.Ù j)):=by
 let B:=Fl I.Ad j;let Z:(t.put j).1.Ù.H=t.Ù.H.Ã (SetTable.ĕ t.Ù j)++j::t.Ù.H.Ì (SetTable.ĕ t.Ù j):=by rw[ZR,lQ]
 let mem:∀x∈t.Ù.H,x∈(t.put j).1.Ù.H:=λx hx=>by
  rw[Z];rw[<-c_ (SetTable.ĕ t.Ù j) t.Ù.H]at hx;rcases a8.mp hx with z|z;.show rV _ z
  .show de _<|ay _ z
 let D:=B.le;let Y:=I.đ;refine%[by rw[Z];show aes I.Ad B hn,?_,?_,I.two,λx hx=>?_,?_|λi y g h1 F=>?_]
 .rw[Z];simp only[ax,ba,b8,cS];simp_all
 .show (if SetTable.has t.dummies j=Ĵ then _ else t.dummies)=#[];rw[I.PB];simp[SetTable.has]
 .rw[Z]at hx;rcases a8.mp hx with z|z;.show I.le x<|dq z
  .rcases a_.mp z with z|z;.rw[z];show G
   .show I.le x<|f8 z
 .simp only[ax,ba,b8,cS];show _<=t.ç;simp_all +arith
 .rw[Z]at F;rcases mR (by simp_all) h1 with⟨a,b⟩|⟨a,b⟩|⟨a,b⟩
  .rcases mR D F with⟨c,d⟩|⟨c,d⟩|⟨c,d⟩;.show(I.way i y g b d).Ô rb mem
   .lia
   .lia
  .rcases mR D F with⟨c,d⟩|⟨c,d⟩|⟨c,d⟩;.lia
   .rw[b,d];show w.Ô rb mem
   .lia
  .rcases mR D F with⟨c,d⟩|⟨c,d⟩|⟨c,d⟩;.lia
   .lia
   .show(I.way (i-1) y g b d).Ô rb mem
section
variable {P:ń}{w:ŉ}{T:Type}[ō T]
def lG (vk:gG P w T):Prop:=∀{A:ň} {E:AB} {s:Ļ} {k:T} {v:ĳ} {Q:ŏ->Ļ->Prop} (n:ı),vk.deep<=n->vk.is s.C k v->Q ķ s->ļ (Ľ P w) A (ofAClassStatement n v) Q E s
structure G4 (vk:gG P w T)(h:Ň)(es:ŀ (ĸ×ĳ))(ks:İ T):Prop where
 len:ks.n=es.H.n
 at_:∀(i:ı) e k,es.H[i]?=į e->ks[i]?=į k->vk.is h k e.2/\e.1=vk.þ k/\∃b,e.2=.v b
 nd:ks.Ö
def kJ.fits {es:ŀ (ĸ×ĳ)}(I:kJ t (es.H.Q (·.1))):t.fits es.E=Ĵ:=by let h1:=I.đ;let g:=I.few;rw[aa,bu]at h1 g;rw[bu]at h1;unfold SetTable.fits SetTable.fill;rw[I.PB];simp;simp_all
def kJ.odd (I:kJ t hs):t.gaveWay=ķ:=by
 let(k,g,_,e):=I.two;obtain⟨m,rfl⟩:∃m,k=m+1:=%[k-1|zo]
 rw[mx]at e;unfold SetTable.gaveWay;have:t.ç%2=1:=by lia
 rw[this];rfl
def kJ.hole (I:kJ t hs)(h):∃s,s<=10*(t.ç+13)/\gC t h s∉t.Ù.H:=by
 let h1:=I.đ;let D:=I.few;have:∃y,y<=t.ç/\y∉t.Ù.H:=by apply i6;intro hn;let j:∀y,y<=t.ç->y∈t.Ù.H:=λy g=>i6 λz=>hn %[0,y,g|z];have:=(wc (n:=t.ç+1)).Ė (l₂:=t.place.toList) λy g=>j y (by have:=cz.mp g;show dP this);rw[ef]at this;lia
 let(y,g,hn):=this;let(k,_,_,e):=I.two;let(s,hs,B):=aer e h g;show%[0,s,hs|by unfold gC;rw[B];show hn]
def ZV (t)(h)(s):gC t h s<=t.ç:=by
 let j:∀s p,p.i<=t.ç->p.j+p.more<=t.ç->(stp t s p).j<=t.ç:=by
  intro s
  induction s with
  | zero=>intro p _ h;show p.j<=t.ç;lia
  | succ s ih=>
   intro p h1 B;show (stp t s<|t.advance p).j<=t.ç;unfold SetTable.advance;split;.show ih _ h1 (by show p.j+1+(p.more-1)<=t.ç;lia)
   .let g:(SetTable.leap t.ç p.i p.perturb).1<=t.ç:=dP<|qh _<|gL _;calc ih _ g ?_;show (SetTable.leap t.ç p.i p.perturb).1+(SetTable.runEnd t.ç (SetTable.leap t.ç p.i p.perturb).1-(SetTable.leap t.ç p.i p.perturb).1)<=t.ç;unfold SetTable.runEnd;split <;> simp_all
 let g:SetTable.bits h%(t.ç+1)<=t.ç:=dP<|qh _<|gL _;calc j s (t.ÿ h) g ?_;show SetTable.bits h%(t.ç+1)+(SetTable.runEnd t.ç (SetTable.bits h%(t.ç+1))-SetTable.bits h%(t.ç+1))<=t.ç;unfold SetTable.runEnd;split <;> simp_all
variable {vk:gG P w T}{A:ň}{E:AB}{s:Ļ}
def aeu (F:vk.deep<=8)(J:lG vk){x:ĳ}{k:T}(hx:vk.is s.C k x){g:İ ĳ}(G:∀y∈g,∃B,vk.is s.C B y){Q:ŏ->Ļ->Prop}(h:Q ķ s):ļ (Ľ P w) A (searchCouldBeSeen x g) Q E s:=by
 unfold searchCouldBeSeen;calc ab ?_;refine oP _ (λrest r s'=>s'=s/\r=(Ĳ,())/\∀y∈rest,∃B,vk.is s.C B y) _ ?_ ?_ _ _ %[rb,rb|G]
 .intro y rest r s' z;let(rfl,rfl,L):=z;let(B,D):=L y aE;let j:∀z∈rest,∃B,vk.is s'.C B z:=λz hz=>L z<|ay _ hz;dsimp only
  split
  all_goals
   split;.show ah %[rb,rb|j]
   .calc ab<|vk.quiet 8 F hx ?_;simp only[fR,be,if_false];calc ab<|vk.quiet 8 F D ?_;simp only[fR,be,if_false];calc ab<|J 8 F hx ?_;simp only[be,if_false];calc ab<|J 8 F D ?_;simp only[be,if_false];show ah %[rb,rb|j]
 .intro r s' z;let(rfl,rfl,_):=z;show ah h
theorem Ei (jP:vk.deep<=8)(nc:lG vk)(hu:A.ã+vk.deep<cLine+1)(ho:s.C.Á a=į o)(hd:o.Ď=.ē es ep t)(I:kJ t (es.H.Q (·.1)))(K:G4 vk s.C es ks)(hx:vk.is s.C k x)(h1:k∈ks->Q (.there Ĳ) s)(h2:k∉ks->∀j,j<=t.ç->j∉t.Ù.H->Way t t.Ù.H (vk.þ k) j->Q (.Õ j ķ) s)(he:gC t (vk.þ k) e0∉t.Ù.H)(hel:e0<=10*(t.ç+13)):∀(D r:ı) (F:ĵ SetTable.Probe),e0-r<D->F.Î (t.ÿ<|vk.þ k)=stp t r (t.ÿ<|vk.þ k)->(∀Z,Z<r->gC t (vk.þ k) Z∈t.Ù.H/\∀i:ı,t.Ù.H[i]?=į (gC t (vk.þ k) Z)->ks[i]?≠į k)->
   ļ (Ľ P w) A (setSearchFrom a x (vk.þ k) Ĵ D F) Q E s
 | 0,_,_,h,_,_=>Ł h (kH _)
 | D+1,r,F,hf,G5,hpre=>by
  let hre:r<=e0:=by
   rcases dQ e0 r with z|z;.show Ł (hpre e0 z).1 he
   .show z
  rw[setSearchFrom];calc ab<|fT ho hd I.fits ?_;dsimp only;rw[I.odd];simp only[be,if_false];rw[G5];let hdm:(stp t r<|t.ÿ<|vk.þ k).dummy=Ĳ:=by
   have:∀n p,(stp t n p).dummy=p.dummy:=by
    intro n
    induction n with| zero=>intro p;rfl| succ n ih=>intro p;rw[stp,ih,K6]
   rw[this];rfl
  let hw:∀n,(stp t n<|stp t r<|t.ÿ<|vk.þ k).j=gC t (vk.þ k) (r+n):=λn=>by unfold gC;rw[xT]
  let(n,hn,hall,hend):=U_ t (λi=>(es[i]?.Q (·.1)).Î 0) (vk.þ k) (W6 I.Ad I.PB) (10*SetTable.turns t.ç) _ hdm %[0,e0-r,by unfold SetTable.turns;show jI zo|by rw[hw,show r+(e0-r)=e0 from e_ hre];show(zc I.Ad I.PB).á he];let Gs:∀m,m<n->∃i:Nat,t.Ù.H[i]?=į (gC t (vk.þ k)<|r+m)/\(es[i]?.Q λe:Int×Value=>e.1).Î 0≠vk.þ k:=λm hm=>by let(i,e1,e2):=hall m hm;rw[hw]at e1;show%[0,i,(lq I.Ad).mp e1|e2]
  let jt:t.Ù.H.n=ks.n:=by rw[I.len,aa,K.len]
  let hnot:∀m,m<r+n->∀i:ı,t.Ù.H[i]?=į (gC t (vk.þ k) m)->ks[i]?≠į k:=λm hm i hi hk=>by
   rcases dQ m r with z|z;.show(hpre m z).2 i hi hk
   .let(i',e1,e2):=Gs (m-r) (ed zo zo);rw[show r+(m-r)=m from e_ z]at e1;let hii:i=i':=by
     let a1:=(lq I.Ad).á hi;rw[(lq I.Ad).á e1]at a1;cases a1;rfl
    subst hii;obtain⟨e,hes⟩:∃e,es.H[i]?=į e:=%[_|ae (by rw[<-K.len,<-jt];show(am.mp hi).1)]
    have:=(K.Ć i e k hes hk).2.1;rw[<-cx,hes]at e2;show e2 this
  let dU:∀m,m<r+n->gC t (vk.þ k) m∈t.Ù.H:=λm hm=>by
   rcases dQ m r with z|z;.show(hpre m z).1
   .let(i',e1,_):=Gs (m-r) zo;rw[show r+(m-r)=m by lia]at e1;show a7 e1
  rw[hw]at hend;rcases hend with⟨J,L⟩|⟨i,J,hhash,L⟩
  .let M:=(zc I.Ad I.PB).mp J;split
   .rename_i met G;let g:SetTable.probe.go t (λi=>(es[i]?.Q (·.1)).Î 0) (vk.þ k) (10*SetTable.turns t.ç) (stp t r<|t.ÿ<|vk.þ k)=į met:=G;rw[L]at g;cases g;dsimp only;calc ah<|h2 (λhk=>?_) _ (ZV t _ _) M %[0,r+n,rb|dU];let(i0,hi0):=kq hk;let N:=(am.mp hi0).1;obtain⟨j0,hj0⟩:∃j,t.Ù.H[i0]?=į j:=%[_|ae (by simp[*])]
    obtain⟨e,hes⟩:∃e,es.H[i0]?=į e:=%[_|ae (by rw[<-K.len];show N)]
    let hh:=(K.Ć i0 e k hes hi0).2.1;let(s0,w1,w2):=I.way i0 j0 (vk.þ k) (by rw[bz,hes,<-hh];rfl) hj0;rcases mM s0 (r+n) with z|z|z;.show hnot s0 z i0 (by rw[w1];show hj0) hi0
    .rw[z]at w1;show M (by rw[w1];show a7 hj0)
    .show M<|w2 _ z
   .rename_i G;let g:SetTable.probe.go t (λi=>(es[i]?.Q (·.1)).Î 0) (vk.þ k) (10*SetTable.turns t.ç) (stp t r<|t.ÿ<|vk.þ k)=Ĳ:=by
     cases hq:SetTable.probe.go t (λi=>(es[i]?.Q (·.1)).Î 0) (vk.þ k) (10*SetTable.turns t.ç) (stp t r<|t.ÿ<|vk.þ k) with| none=>rfl| some m=>show Ł hq<|G m
    rw[L]at g;cases g
  .let O:=(lq I.Ad).mp J;let N:=(am.mp O).1;obtain⟨e,hes⟩:∃e,es.H[i]?=į e:=%[_|ae (by rw[<-K.len,<-jt];show N)]
   obtain⟨Y,hk'⟩:∃Y,ks[i]?=į Y:=%[_|ae (by rw[<-jt];show N)]
   let(hy,hh,b,hb):=K.Ć i e Y hes hk';let W8:es[i]?=į e:=by rw[<-cx];show hes
   split
   .rename_i met G;let g:SetTable.probe.go t (λi=>(es[i]?.Q (·.1)).Î 0) (vk.þ k) (10*SetTable.turns t.ç) (stp t r<|t.ÿ<|vk.þ k)=į met:=G;rw[L]at g;cases g;dsimp only;let hsm:t.sameMemory t.moves t.ç=į Ĵ:=by unfold SetTable.sameMemory;simp
    let hr0:r≠e0:=by
     rintro rfl;rcases nL n with z|z
     .rw[z,y7]at O;show he<|a7 O
     .let(i',e1,_):=Gs 0 z;show he<|a7 e1
    let tail:∀B:¬Y=k,ļ (Ľ P w) A (setSearchFrom a x (vk.þ k) Ĵ D<|į<|stp t (n+1)<|stp t r<|t.ÿ<|vk.þ k) Q E s:=λB=>
     Ei jP nc hu ho hd I K hx h1 h2 he hel D (r+n+1) _ (by grind) (by rw[y9,<-xT,mS]) λZ hr'=>by
      rcases dQ Z (r+n) with z|z;.show%[dU Z z|hnot Z z]
      .have:Z=r+n:=by lia
       subst this;calc%[a7 O|λi2 hi2=>?_];let hii:i=i2:=by let a1:=(lq I.Ad).á hi2;rw[J]at a1;cases a1;rfl
       rw[<-hii,hk'];show λz=>B<|bg z
    let hst:∀y∈List.Q (λx=>x.snd) (Array.Ą (λx=>x.fst==vk.þ k) es).H,∃Y,vk.is s.C Y y:=λy hy=>by
     let(e',he',rfl):=aI.mp hy;let hm:e'∈es.H:=by have:=wo.mp he';rw[Array.mem_filter]at this;show wo.á this.1
     let(i3,hi3):=kq hm;obtain⟨k3,hk3⟩:∃k3,ks[i3]?=į k3:=%[_|ae (by rw[K.len];show(am.mp hi3).1)]
     show%[k3|(K.Ć i3 e' k3 hi3 hk3).1]
    let(eh,ev):=e;let hb:ev=.v b:=hb;subst hb;cases hl:t.led
    .simp only[nB,if_true];calc ab<|aeu jP nc hx hst ?_;simp only[be,if_false];rw[W8];dsimp only;calc ab<|eC<|vk.eqBool hu hy hx ?_;calc ab<|fT ho hd I.fits ?_;dsimp only;by_cases B:Y=k
     .rw[aw B];show ah<|h1<|B ▸ a7 hk'
     .rw[ai B];simp only[oz,be,if_false];rw[hsm];simp only[if_true];rw[J];dsimp only;rw[W8];dsimp only;calc ab<|wpAny_isSame_ref_self ?_;show ab<|ah<|tail B
    .simp only[fR,be,if_false];rw[W8];dsimp only;calc ab<|eC<|vk.eqBool hu hy hx ?_;calc ab<|fT ho hd I.fits ?_;dsimp only;by_cases B:Y=k
     .rw[aw B];show ah<|h1<|B ▸ a7 hk'
     .rw[ai B];simp only[oz,be,if_false];rw[hsm];simp only[if_true];rw[J];dsimp only;rw[W8];dsimp only;calc ab<|wpAny_isSame_ref_self ?_;show ab<|ah<|tail B
   .rename_i G;let g:SetTable.probe.go t (λi=>(es[i]?.Q (·.1)).Î 0) (vk.þ k) (10*SetTable.turns t.ç) (stp t r<|t.ÿ<|vk.þ k)=Ĳ:=by
     cases hq:SetTable.probe.go t (λi=>(es[i]?.Q (·.1)).Î 0) (vk.þ k) (10*SetTable.turns t.ç) (stp t r<|t.ÿ<|vk.þ k) with| none=>rfl| some m=>show Ł hq<|G m
    rw[L]at g;cases g
end
def tM (mask:ı):Ō:={mask:=mask,place:=#[],dummies:=#[],finger:=0,led:=ķ,moves:=0,plain:=ķ}
def Taken (ow:ŀ (ĵ ı))(j:ı):Prop:=(ow.Î j<|į 0).isNone=ķ
def agH (t:Ō)(d):∀(q:ı×ı) (m:ı),m<=SetTable.runEnd t.ç q.1-q.1->(stp t m<|nF t q d).j=q.1+m:=by
 intro q m hm;let g:∀(m:ı) (p:SetTable.Probe),m<=p.more->(stp t m p).j=p.j+m:=by
  intro m
  induction m with
  | zero=>intro p _;rfl
  | succ m ih=>
   intro p h;show (stp t m<|t.advance p).j=_;let e:t.advance p={p with j:=p.j+1,more:=p.more-1}:=by unfold SetTable.advance;rw[ĺ zo]
   rw[e,ih _ (by show m<=p.more-1;show yf h)];show p.j+1+m=p.j+(m+1)
   lia
 show g m (nF t q d) hm
theorem K7 (mask)(ow):∀(g:ı) (q:ı×ı),(∃n,n<g/\¬Taken ow (jO mask n q).1)->
  ∃s,SetTable.layClean.Õ mask ow g q.1 q.2=į (stp (tM mask) s<|nF (tM mask) q Ĳ).j/\¬Taken ow (stp (tM mask) s<|nF (tM mask) q Ĳ).j/\∀s',s'<s->Taken ow (stp (tM mask) s'<|nF (tM mask) q Ĳ).j
 | 0,_,⟨_,h,_⟩=>Ł h (kH _)
 | g+1,q,⟨n,hn,hfree⟩=>by
  let L:=agH (tM mask) Ĳ q;cases e:(List.ñ<|SetTable.runEnd mask q.1+1-q.1).find? λk=>(ow.Î (q.1+k)<|į 0).isNone with
  | some k=>
   let h1:=List.find?_some e;let N:=cz.mp<|yn e;let hk:k<=SetTable.runEnd mask q.1-q.1:=f7 zo;refine%[2,k,?_,?_|λs' G=>?_]
   .unfold SetTable.layClean.free;rw[e,L k hk]
   .rw[L k hk];unfold Taken;rw[h1];decide
   .rw[L s' (av (ar G) hk)];let(as,bs,el,B):=(List.find?_eq_some_iff_append.mp e).2;let hm:s'∈as:=by
     have:(List.ñ<|SetTable.runEnd mask q.1+1-q.1)[s']?=į s':=nt<|ja G N;let F:(List.ñ<|SetTable.runEnd mask q.1+1-q.1)[as.n]?=į k:=by rw[el,du (ag _),mr];rfl
     let O:as.n<SetTable.runEnd mask q.1+1-q.1:=by have:=(am.mp F).1;rwa [ef]at this
     rw[nt O]at F;let Y:as.n=k:=bg F;rw[el,eW (by simp_all)]at this;show a7 this
    have:=B s' hm;unfold Taken;simpa using this
  | none=>
   let B:=List.find?_eq_none.mp e;let htk:∀m,m<=SetTable.runEnd mask q.1-q.1->q.1<=SetTable.runEnd mask q.1->Taken ow (q.1+m):=λm hm D=>by have:=B m<|cz.á<|Nat.lt_sub_of_add_lt zo;unfold Taken;show vj.á this
   let D:q.1<=SetTable.runEnd mask q.1:=by unfold SetTable.runEnd;split <;> lia
   let hn0:n≠0:=by rintro rfl;show hfree<|htk 0 (ci _) D
   obtain⟨M,rfl⟩:∃M,n=M+1:=%[n-1|zo]
   let(s,h1,N,Z):=K7 mask ow g (SetTable.leap mask q.1 q.2) %[0,M,dP hn|hfree];let J:=Jr (tM mask) _ (nF (tM mask) q Ĳ) rfl;let j:∀m,stp (tM mask) ((nF (tM mask) q Ĳ).more+1+m) (nF (tM mask) q Ĳ)=stp (tM mask) m (nF (tM mask) (SetTable.leap mask q.1 q.2) Ĳ):=λm=>by rw[xT,J];rfl
   refine%[2,(nF (tM mask) q Ĳ).more+1+s,?_,?_|λs' G=>?_]
   .rw[j,<-h1]
    conv=>lhs;unfold SetTable.layClean.free
    rw[e]
   .rw[j];show N
   .rcases dQ s' ((nF (tM mask) q Ĳ).more+1) with z|z
    .let hm:s'<=SetTable.runEnd mask q.1-q.1:=dP z;rw[L s' hm];show htk s' hm D
    .obtain⟨m,rfl⟩:∃m,s'=(nF (tM mask) q Ĳ).more+1+m:=%[s'-((nF (tM mask) q Ĳ).more+1)|by simp_all]
     rw[j];show Z m (by simp_all)
structure Own (mask:ı)(hs:İ ĸ)(ow:ŀ (ĵ ı))(pos:ı->ı):Prop where
 size:ow.E=mask+1
 le:∀i,i<hs.n->pos i<=mask
 at_:∀i,i<hs.n->ow[pos i]?=į (į i)
 only:∀j i:ı,ow[j]?=į (į i)->i<hs.n/\j=pos i
 way:∀(i:ı) h,hs[i]?=į h->∃s,gC (tM mask) h s=pos i/\∀s',s'<s->∃i',i'<hs.n/\gC (tM mask) h s'=pos i'
def Bx {ow:ŀ (ĵ ı)}(g:j<ow.E):Taken ow j↔∃i,ow[j]?=į (į i):=by
 unfold Taken;rw[gt,cp g,y9];cases ow[j] with| none=>simp| some i=>simp
def Own.step (O:Own mask hs ow pos)(hm:mask+1=2^k)(hf:hs.n<=mask)(h):∃j,SetTable.layClean.Õ mask ow (SetTable.turns mask) (SetTable.bits h%(mask+1)) (SetTable.bits h)=į j/\Own mask (hs++[h]) (ow.ó j<|some hs.n) λi=>if i=hs.n then j else pos i:=by
 let hinj:∀a b,a<hs.n->b<hs.n->pos a=pos b->a=b:=λa b ha hb e=>by let h1:=O.Ć a ha;rw[e,O.Ć b hb]at h1;show(bg<|bg h1).Ò
 obtain⟨y,M,hny⟩:∃y,y<=mask/\∀i,i<hs.n->pos i≠y:=by apply i6;intro hn;let L:∀y,y<=mask->y∈(List.ñ hs.n).Q pos:=λy M=>i6 λz=>hn %[0,y,M|λi hi e=>z<|aI.á %[0,i,cz.á hi|e]];have:=(wc (n:=mask+1)).Ė (l₂:=(List.ñ hs.n).Q pos) λy M=>L y (by have:=cz.mp M;show dP this);rw[ef,aa,ef]at this;lia
 let N:SetTable.bits h%(mask+1)<=mask:=dP<|qh _<|gL _;let(n,hn,en):=K4 hm N (U9 h) M;let hsz:=O.E;let(s,e1,e2,e3):=K7 mask ow (SetTable.turns mask) (SetTable.bits h%(mask+1),SetTable.bits h) %[0,n,by unfold SetTable.turns;lia|λz=>by rw[en,Bx zo]at z;let(i,hi):=z;let(h1,h2):=O.only y i hi;show hny i h1 h2.Ò]
 let zf:∀m,(stp (tM mask) m<|nF (tM mask) (SetTable.bits h%(mask+1),SetTable.bits h) none).j=gC (tM mask) h m:=λm=>rfl;rw[zf]at e1 e2;calc%[0,_,e1|?_];let Y:gC (tM mask) h s<=mask:=by apply i6;intro z;apply e2;unfold Taken;rw[gt,qB zo];rfl
 let F:∀i,i<hs.n->pos i≠gC (tM mask) h s:=λi hi e=>e2<|(Bx zo).á %[i|by rw[<-e];show O.Ć i hi];generalize hj:gC (tM mask) h s=j at *
 let D:∀m:ı,(ow.ó j<|some hs.n)[m]?=if j=m then some (some hs.n) else ow[m]?:=λm=>by
  rw[Array.getElem?_setIfInBounds];split
  .rename_i z;simp;lia
  .rfl
 refine%[by rw[Array.size_setIfInBounds];show hsz,λi hi=>?_,λi hi=>?_,λm i B=>?_|λi g J=>?_]
 .split;.show Y
  .show O.le i (by rw[ax]at hi;simp at hi;lia)
 .rw[ax]at hi;simp at hi;rw[D];by_cases z:i=hs.n;.rw[ĺ z,ĺ rb,z]
  .rw[Ĺ z,Ĺ λy=>F i zo y.Ò];show O.Ć i zo
 .rw[D]at B;rw[ax];simp only[b8,tm];split at B
  .rename_i z;have:hs.n=i:=by simpa using B
   subst this;show%[fm _|by rw[ĺ rb,z]]
  .let(h1,h2):=O.only m i B;show%[ff h1|by rw[Ĺ (bb h1)];show h2]
 .rcases dQ i hs.n with z|z
  .rw[eW z]at J;let(s2,w1,w2):=O.way i g J;calc%[0,s2,by rw[Ĺ zo];show w1|λs' G=>?_];let(i',a1,a2):=w2 s' G;show%[0,i',by rw[ax];simp;show ff a1|by rw[Ĺ zo];show a2]
  .let hi0:i=hs.n:=by
    have:=(am.mp J).1;rw[ax]at this;simp at this;lia
   subst hi0;rw[du (ag _),mr]at J;let J:h=g:=by simpa using J
   subst J;calc%[0,s,by rw[ĺ rfl];show hj|λs' G=>?_];let ht:=e3 s' G;rw[zf]at ht;let Z:gC (tM mask) h s'<ow.E:=by
    have:gC (tM mask) h s'<=mask:=ZV (tM mask) h s'
    (simp[Nat.sub_sub];lia)
   let(i',hi'):=(Bx Z).mp ht;let(a1,a2):=O.only _ i' hi';show%[0,i',by rw[ax];simp;lia|by rw[Ĺ zo];show a2]
def W9 (mask:ı)(g:ĵ (ŀ (ĵ ı)×ı))(h:ĸ):ĵ (ŀ (ĵ ı)×ı):=do
 let (owner,k) <- g
 let j <- SetTable.layClean.Õ mask owner (SetTable.turns mask) (SetTable.bits h%(mask+1)) (SetTable.bits h)
 pure (owner.ó j<|į k,k+1)
theorem PJ (hm:mask+1=2^k):∀(hs pre:İ ĸ) (ow:ŀ (ĵ ı)) (pos:ı->ı),Own mask pre ow pos->pre.n+hs.n<=mask->
  ∃g pos',hs.foldl (W9 mask) (į (ow,pre.n))=į (g,(pre++hs).n)/\Own mask (pre++hs) g pos'
 | [],pre,ow,pos,O,_=>%[4,ow,pos,zr|by rw[fi];show O]
 | h::hs,pre,ow,pos,O,hl=>by
  rw[b8]at hl;let(j,e,D):=O.step hm zo h;let es:W9 mask (į (ow,pre.n)) h=į (ow.ó j<|į pre.n,(pre++[h]).n):=by unfold W9;simp[e]
  let(g,pos',e2,B):=PJ hm hs (pre++[h]) _ _ D (by rw[ax];simp;lia);calc%[4,g,pos',?_|?_];.rw[s_,es,e2];simp
  .rw[b7]at B;show B
def aev (mask):Own mask [] (Array.Ñ (mask+1) Ĳ) λ_=>0:=by calc%[zr,λi h=>by simp at h,λi h=>by simp at h,λj i h=>?_|λi h e=>by simp at e];rw[Array.getElem?_replicate]at h;split at h <;> simp at h
def Te (hm:mask+1=2^k)(hs:ŀ ĸ)(g:hs.E<=mask):∃ow pos,SetTable.layClean mask hs=į ow/\Own mask hs.H ow pos:=by
 let(ow,pos,e,O):=PJ hm hs.H [] _ _ (aev mask) (by simpa using g);calc%[4,ow,pos,?_|by simpa using O];have:SetTable.layClean mask hs=(hs.H.foldl (W9 mask)<|į (Array.Ñ (mask+1) Ĳ,0)).Q (·.1):=by rw[Array.foldl_toList];rfl
 rw[this,show (0:ı)=([]:İ ĸ).n from rb,e];rfl
def mD (mask:ı)(ow:ŀ (ĵ ı)):İ (ı×ı):=(List.ñ<|mask+1).ô λj=>(ow.Î j Ĳ).Q (j,·)
def oR (O:Own mask hs ow pos):(j,i)∈mD mask ow↔i<hs.n/\j=pos i:=by
 unfold mD;rw[tz];constructor
 .intro z;let(B,g,e):=z;let D:B<ow.E:=by rw[O.size];show cz.mp g
  rw[gt,cp D,y9]at e;cases hx:ow[B] with
  | none=>rw[hx]at e;cases e
  | some x=>rw[hx]at e;let e:(B,x)=(j,i):=bg e;cases e;show O.only j i (by rw[cp D,hx])
 .rintro⟨hi,rfl⟩;calc%[0,pos i,cz.á<|rj<|O.le i hi|?_];rw[gt,O.Ć i hi];rfl
def PL (mask)(ow):Ac ((mD mask ow).Q (·.1)):=by
 let B:∀l:İ ı,l.Ä (λa b=>a<b)->((l.ô λj=>(ow.Î j Ĳ).Q (j,·)).Q (·.1)).Sublist l:=by
  intro l _
  induction l with
  | nil=>show .slnil
  | cons j l g=>
   rename_i D;let g:=g (fh.mp D).2;rw[nk];cases ow.Î j Ĳ with| none=>show g.Þ _| some x=>show g.cons_cons _
 show List.pairwise_lt_range.sublist<|B _ List.pairwise_lt_range
def ZW (O:Own mask hs ow pos):((mD mask ow).Q (·.2)).æ (List.ñ hs.n):=by
 let g:((mD mask ow).Q (·.1)).Ö:=(PL mask ow).imp λh=>bb h;let Z:((mD mask ow).Q (·.2)).Ö:=by calc eL.á<|(eL.mp g).imp_of_mem λ{a b} ha hb hne e=>hne ?_;let(_,h1):=(oR O (j:=a.1) (i:=a.2)).mp ha;let(_,B):=(oR O (j:=b.1) (i:=b.2)).mp hb;rw[h1,B,e]
 calc(List.perm_ext_iff_of_nodup Z wc).á λi=>?_;rw[aI,cz];constructor
 .rintro⟨⟨j,i'⟩,hm,rfl⟩;show((oR O).mp hm).1
 .intro hi;show%[0,(pos i,i),(oR O).á %[hi|rb]|rb]
def aew (hm:mask+1=2^k)(Z:3<=k)(F:k<=13)(hs:ŀ ĸ)(N:hs.E<=mask)(finger moves)(led plain):∃t g,SetTable.Ĭ mask finger moves led plain hs=į (t,g)/\t.ç=mask/\t.led=led/\t.plain=plain/\g.H.æ (List.ñ hs.E)/\kJ t (g.H.Q λi=>hs.H.Î i 0):=by
 let(ow,pos,e,O):=Te hm hs N;let hsz:hs.H.n=hs.E:=bu;let B:=ZW O;rw[hsz]at B;refine%[22,{mask:=mask,place:=((mD mask ow).Q (·.1)).R,dummies:=#[],finger:=finger,led:=led,moves:=moves,plain:=plain},((mD mask ow).Q (·.2)).R,?_,rb,rb,rb,by simpa using B|?_]
 .unfold SetTable.laid;rw[e];rfl
 .let bY:(mD mask ow).n=hs.E:=by have:=B.Ē;rwa [aa,ef]at this
  refine%[by simpa using PL mask ow,zr,rb,%[2,k,Z,F|hm],λj D=>?_,by simpa [bY] using N|λi j h e1 e2=>?_]
  .let D:j∈(mD mask ow).Q (·.1):=by simpa using D
   let((j',i),M,rfl):=aI.mp D;let(L,J):=(oR O).mp M;show j'<=mask;rw[J];show O.le i L
  .let e2:((mD mask ow).Q (·.1))[i]?=į j:=by simpa using e2
   let e1:(((mD mask ow).Q (·.2)).Q λi=>hs.H.Î i 0)[i]?=į h:=by simpa using e1
   rw[bz]at e2;rw[bz,bz]at e1;cases hx:(mD mask ow)[i]? with
   | none=>rw[hx]at e2;cases e2
   | some x=>
    rw[hx]at e1 e2;let e2:x.1=j:=bg e2;let e1:hs.H.Î x.2 0=h:=bg e1;let(L,J):=(oR O (j:=x.1) (i:=x.2)).mp (a7 hx);let(s,w1,Y):=O.way x.2 h (by rw[<-e1,ap,ae L];rfl);refine Way.Ô (t:=tM mask) (pl:=(mD mask ow).Q (·.1)) %[0,s,w1.X<|J.Ò.X e2|λs' G=>?_] rb λx hx=>by simpa using hx
    let(i',b1,b2):=Y s' G;rw[b2];show aI.á %[0,_,(oR O).á %[b1|rb]|rb]
section
variable {P:ń}{w:ŉ}{T:Type}[ō T]
def xU (vk:gG P w T):Prop:=∀{h h':Ň} {k:T} {v:ĳ} {d:Ķ} {o:Obj},vk.is h k v->h.Á d=į o->(∀its n,o.Ď≠.ú its n)->Heap.Ĉ d h h'->vk.is h' k v
def PN (vk:gG P w T):Prop:=∀{A:ň} {E:AB} {s:Ļ} {k:T} {v:ĳ} {Q:ŏ->Ļ->Prop},vk.is s.C k v->Q ķ s->ļ (Ľ P w) A (hashByValue 8 v) Q E s
variable {vk:gG P w T}{A:ň}{E:AB}{s:Ļ}
def kJ.aex (I:kJ t hs):t.ç<=8191:=by let(k,_,h,e):=I.two;have:2^k<=2^13:=xa zt h;lia
def Z0 (L:vk.deep<=8)(D:lG vk)(J:A.ã+vk.deep<cLine+1)(F:s.C.Á a=į o)(hd:o.Ď=.ē es ep t)(I:kJ t (es.H.Q (·.1)))(K:G4 vk s.C es ks)(hx:vk.is s.C k x)(h1:k∈ks->Q (.there Ĳ) s)(G:k∉ks->∀j,j<=t.ç->j∉t.Ù.H->Way t t.Ù.H (vk.þ k) j->Q (.Õ j ķ) s):ļ (Ľ P w) A (setSearch a x (vk.þ k) Ĵ) Q E s:=by let(M,g,B):=I.hole (vk.þ k);have:=I.aex;show Ei L D J F hd I K hx h1 G B g 100000 0 Ĳ zo rb λN h=>Ł h<|kH _
def G4.put (K:G4 vk h es ks)(kp:∀k v,vk.is h k v->vk.is h' k v)(hx:vk.is h k (.v b))(hn:k∉ks)(hp:p<=es.H.n):G4 vk h' (SetTable.insertAt es p (vk.þ k,.v b)) (ks.Ã p++k::ks.Ì p):=by
 let M:=K.đ;refine%[?_,λi e L h1 F=>?_|?_]
 .rw[lQ];simp only[ax,ba,b8,cS];simp_all
 .rw[lQ]at h1;rcases mR hp h1 with⟨J,b1⟩|⟨J,b1⟩|⟨J,b1⟩
  .rcases mR (by simp_all) F with⟨j,g⟩|⟨j,g⟩|⟨j,g⟩
   .let(D,B,G):=K.Ć i e L b1 g;show%[kp _ _ D,B|G]
   .lia
   .lia
  .rcases mR zo F with⟨j,g⟩|⟨j,g⟩|⟨j,g⟩;.lia
   .subst b1 g;show%[kp _ _ hx|%[8,rb,b|rb]]
   .lia
  .rcases mR zo F with⟨j,g⟩|⟨j,g⟩|⟨j,g⟩;.lia
   .lia
   .let(D,B,G):=K.Ć (i-1) e L b1 g;show%[kp _ _ D,B|G]
 .have:(ks.Ã p++k::ks.Ì p).æ (k::ks):=by
   calc List.perm_middle.X<|.Þ _ ?_;rw[c_]
  show this.nodup_iff.á<|io.á %[hn|K.nd]
def ab9 (es:ŀ (ĸ×ĳ))(p:ı)(h:ĸ)(x:ĳ):(SetTable.insertAt es p (h,x)).H.Q (·.1)=(es.H.Q (·.1)).Ã p++h::(es.H.Q (·.1)).Ì p:=by rw[lQ,bo,bX,List.map_take,List.map_drop]
def kJ.flag {t t':Ō}(I:kJ t hs)(h1:t'.ç=t.ç)(g:t'.Ù=t.Ù)(B:t'.dummies=t.dummies):kJ t' hs:=by calc%[by rw[g];show I.Ad,by rw[g];show I.đ,by rw[B];show I.PB,by rw[h1];show I.two,by rw[h1,g];show I.le,by rw[h1];show I.few|λi j h e1 e2=>?_];rw[g]at e2 ⊢;show(I.way i j h e1 e2).Ô h1.Ò λx hx=>hx
def Six (m:ı):Prop:=m=7\/m=31\/m=127\/m=511\/m=2047\/m=8191
def aey (h:Six m):∃k,3<=k/\k<=13/\m+1=2^k:=by
 rcases h with rfl|rfl|rfl|rfl|rfl|rfl;.show%[2,3,zt,zt|rb]
 .show%[2,5,zt,zt|rb]
 .show%[2,7,zt,zt|rb]
 .show%[2,9,zt,zt|rb]
 .show%[2,11,zt,zt|rb]
 .show%[2,13,zt,zt|rb]
def ab_ (h:Six m)(h1:5*n<3*m)(g:3*m<=5*(n+1))(hn:n+1<=4000):Six (SetTable.sizeAbove (SetTable.grown<|n+1)-1)/\n+1<=SetTable.sizeAbove (SetTable.grown<|n+1)-1/\5*(n+1)<3*(SetTable.sizeAbove (SetTable.grown<|n+1)-1)/\SetTable.sizeAbove (SetTable.grown<|n+1)<=Ŀ:=by
 rcases h with rfl|rfl|rfl|rfl|rfl|rfl
 .obtain rfl:n=4:=by lia
  show%[.Ð<|.Â zt,zt,zt|zt]
 .obtain rfl:n=18:=by lia
  show%[.Ð<|.Ð<|.Â zt,zt,zt|zt]
 .obtain rfl:n=76:=by lia
  show%[.Ð<|.Ð<|.Ð<|.Â zt,zt,zt|zt]
 .obtain rfl:n=306:=by lia
  show%[.Ð<|.Ð<|.Ð<|.Ð<|.Â zt,zt,zt|zt]
 .obtain rfl:n=1228:=by lia
  show%[.Ð<|.Ð<|.Ð<|.Ð<|.Ð zt,zt,zt|zt]
 .lia
theorem BJ {C:Type}(xs:İ C):∀(l:İ ı),(∀i∈l,i<xs.n)->∀m:ı,(l.ô λi=>xs[i]?)[m]?=(l[m]?).bind λi=>xs[i]?
 | [],_,m=>by simp
 | i::l,h,m=>by
  let hi:=h i aE;rw[nk,ae hi];cases m with| zero=>simp[hi]| succ m=>simpa using BJ xs l (λj g=>h j<|ay _ g) m
def acd {C:Type}(xs:İ C):(List.ñ xs.n).ô (λi=>xs[i]?)=xs:=by
 apply hV;intro m;rw[BJ xs _ λi hi=>cz.mp hi];by_cases h:m<xs.n;.rw[nt h];rfl
 .rw[dv (by simpa using h),dv (jn h)];rfl
theorem G6 {C:Type}(xs:İ C):∀(l:İ ı),(∀i∈l,i<xs.n)->(l.ô λi=>xs[i]?).n=l.n
 | [],_=>rfl
 | i::l,h=>by rw[nk,ae (h i aE),b8,b8,G6 xs l λj g=>h j (ay _ g)]
def G4.perm (K:G4 vk h es ks)(kp:∀k v,vk.is h k v->vk.is h' k v){g:ŀ ı}(hp:g.H.æ (List.ñ es.E)):∃D,D.æ ks/\G4 vk h' (g.ô (es[·]?)) D/\(g.ô (es[·]?)).E=es.E/\(g.ô (es[·]?)).H.Q (·.1)=g.H.Q λi=>(es.H.Q (·.1)).Î i 0:=by
 let L:=K.đ;let hsz:es.H.n=es.E:=bu;let j:∀i∈g.H,i<es.H.n:=λi hi=>by rw[hsz];show cz.mp<|hp.à.mp hi
 let B:∀i∈g.H,i<ks.n:=λi hi=>by rw[L];show j i hi
 let F:(g.ô (es[·]?)).H=g.H.ô λi=>es.H[i]?:=by rw[Array.toList_filterMap];congr 1;funext i;rw[cx]
 let J:(g.H.ô λi=>ks[i]?).æ ks:=by have:=hp.ô λi=>ks[i]?;rw[<-hsz,<-L,acd]at this;show this
 let G:g.H.n=es.E:=by rw[hp.length_eq,ef]
 calc%[18,g.H.ô λi=>ks[i]?,J,%[?_,λi e k e1 e2=>?_|J.nodup_iff.á K.nd],?_|?_];.rw[F,G6 _ _ j,G6 _ _ B]
 .rw[F,BJ _ _ j]at e1;rw[BJ _ _ B]at e2;cases hi:g.H[i]? with
  | none=>rw[hi]at e1;cases e1
  | some m=>rw[hi]at e1 e2;let(N,M,O):=K.Ć m e k e1 e2;show%[kp _ _ N,M|O]
 .rw[<-bu,F,G6 _ _ j,G]
 .rw[F];apply hV;intro i;rw[bz,BJ _ _ j,bz];cases hi:g.H[i]? with| none=>rfl| some m=>have hm:=j m<|a7 hi;show ((es.H[m]?).Q (·.1))=į ((es.H.Q (·.1)).Î m 0);rw[ap,bz,ae hm];rfl
end
section
variable {P:ń}{w:ŉ}{T:Type}[ō T]{vk:gG P w T}{A:ň}{E:AB}{s:Ļ}
def rN (vk:gG P w T)(h:Ň)(a:Ķ)(ks:İ T):Prop:=∃es ep t,SetT w h a es ep t/\kJ t (es.H.Q (·.1))/\G4 vk h es ks/\Six t.ç/\5*es.E<3*t.ç
def ace (I:kJ t hs):t.tooFull=ľ (3*t.ç<=5*hs.n):=by let h1:=I.đ;rw[bu]at h1;unfold SetTable.tooFull SetTable.fill;rw[I.PB,h1];simp[gy]
def acf (jP:vk.deep<=8)(nc:lG vk)(kps:xU vk)(hbv:PN vk)(hu:A.ã+vk.deep<cLine+1)(m:rN vk s.C a ks)(hx:vk.is s.C k (.v b))(hz:ks.n+1<=4000)(q1:k∈ks->Q ķ s)(q2:k∉ks->∀h' J,Heap.Ĉ a s.C h'->rN vk h' a J->J.æ (k::ks)->Q Ĵ {s with heap:=h' }):ļ (Ľ P w) A (setAddHashed a (.v b)<|vk.þ k) Q E s:=by
 let(es,ep,t,(o,ho,hex,hd,hf,hb,hpl),I,K,S6,H5):=m;let hsz:es.H.n=es.E:=bu;let kl:=K.đ;let hds:∀its n,o.Ď≠.ú its n:=λits n z=>by rw[hd]at z;cases z
 unfold setAddHashed setAddHashedIn;calc eC<|ab<|fT ho hd hf ?_;dsimp only;let hbs:byScan (.v b) es=ķ:=by unfold byScan Value.scannable;rfl
 rw[hbs];simp only[be,if_false];calc ab<|Z0 jP nc hu ho hd I K hx (λhk=>ah<|q1 hk) λhk j hj hn hw=>?_;dsimp only;calc ab<|fT ho hd hf ?_;dsimp only;let B:=Fl I.Ad j;let bY:=I.đ;rw[aa]at bY;let few:=I.few;rw[aa]at few;let hp:SetTable.ĕ t.Ù j<=es.H.n:=by have:=B.le;simp_all
 let mle:7<=t.ç:=by rcases S6 with e|e|e|e|e|e <;> simp_all
 let I1:=I.put hj hn hw (by rw[aa,hsz];lia);let hn1:es.E+1<=4000:=zo;let N:(SetTable.insertAt es (SetTable.ĕ t.Ù j) (vk.þ k,Value.v b)).E=es.E+1:=by rw[<-bu,lQ];simp only[ax,ba,b8,cS];grind
 let F:∀g:Ō,g.ç=t.ç->g.Ù=(t.put j).1.Ù->g.dummies=(t.put j).1.dummies->g.led=t.led->g.plain=ķ->
   ļ (Ľ P w) A (storeSet a (SetTable.insertAt es (SetTable.ĕ t.Ù j) (vk.þ k,Value.v b)) g >>= λ_=>if (!ķ&&g.tooFull)=Ĵ then (setRelay a (SetTable.grown<|es.E+1) >>= λ_=>pure Ĵ) else pure Ĵ) Q E s:=by
  intro g c1 c2 c3 c4 c5;let I2:kJ g ((SetTable.insertAt es (SetTable.ĕ t.Ù j) (vk.þ k,Value.v b)).H.Q (·.1)):=by rw[ab9];show I1.flag c1 c2 c3
  calc ab<|tV (w:=w) %[38,o,ho,hex,hd,hf,hb|hpl] I2.fits c4 c5 (by rw[N];show es.E+1<4096;lia) λh1 UL m1=>?_;let P0:∀k v,vk.is s.C k v->vk.is h1 k v:=λk v z=>kps z ho hds UL;let K2:=K.put P0 hx hk hp;let pm:(ks.Ã (SetTable.ĕ t.Ù j)++k::ks.Ì (SetTable.ĕ t.Ù j)).æ (k::ks):=by calc List.perm_middle.X<|.Þ _ ?_;rw[c_]
  let Z:=ace I2;rw[aa,bu,N,c1]at Z;rw[Z];by_cases D:3*t.ç<=5*(es.E+1)
  .rw[aw D];simp only[nB,Bool.and_self,if_true];let(g1,g2,g3,g4):=ab_ S6 H5 D hn1;let(o1,M,ajj,O,hf1,hb1,ajk):=m1;let(kk,k3,k13,ek):=aey g1;let Y:((SetTable.insertAt es (SetTable.ĕ t.Ù j) (vk.þ k,Value.v b)).Q (·.1)).E=es.E+1:=by rw[Array.size_map,N]
   let(t3,G,el,f1,f2,f3,fp,I3):=aew ek k3 k13 ((SetTable.insertAt es (SetTable.ĕ t.Ù j) (vk.þ k,Value.v b)).Q (·.1)) (by rw[Y];show g2) g.finger (g.movedTo<|SetTable.sizeAbove (SetTable.grown<|es.E+1)-1) g.led g.plain;let erl:g.relaid ((SetTable.insertAt es (SetTable.ĕ t.Ù j) (vk.þ k,Value.v b)).Q (·.1)) (SetTable.grown<|es.E+1)=į (t3,G):=el;calc ab ?_;unfold setRelay;calc ab<|fT (s:={s with heap:=h1}) M O hf1 ?_;dsimp only;rw[Ĺ (yk.á g4),erl];rw[Y,<-N]at fp;let(_,_,_,L,hh3):=K2.perm (λk v z=>z) fp;rw[oQ,<-hh3]at I3;calc ab ?_;show ļ _ _ (if ((G.ô λi=>(SetTable.insertAt es (SetTable.ĕ t.Ù j) (vk.þ k,Value.v b))[i]?).E != (SetTable.insertAt es (SetTable.ĕ t.Ù j) (vk.þ k,Value.v b)).E)=Ĵ then _ else _) _ _ _;rw[L];simp only[bne_self_eq_false,be,if_false];calc ah ?_;dsimp only;calc tV (w:=w) (s:={s with heap:=h1}) %[38,o1,M,ajj,O,hf1,hb1|ajk] I3.fits f2 (f3.X c5) (by rw[L,N];show es.E+1<4096;lia) λh2 sb2 m2=>?_;let ajl:∀its n,o1.Ď≠.ú its n:=λits n z=>by rw[O]at z;cases z
   let(J,pk,K3,_,_):=K2.perm (h':=h2) (λk v z=>kps z M ajl sb2) fp;show ah<|q2 hk h2 J (UL.X sb2) %[10,_,_,t3,m2,I3,K3,by rw[f1];show g1|by rw[L,N,f1];show g3]<|pk.X pm
  .rw[ai D];simp only[nB,oz,be,if_false];show ah<|q2 hk h1 _ UL %[10,_,_,g,m1,I2,K2,by rw[c1];show S6|by rw[N,c1];show wb D] pm
 let ajm:(t.put j).snd=SetTable.ĕ t.Ù j:=rfl;rw[ajm];cases hpt:(t.put j).1.plain with
 | true=>simp only[if_true];calc ab<|hbv hx ?_;simp only[be,if_false];show F _ rb rb rb rb rfl
 | false=>
  simp only[be,if_false]
  first| show F _ rb rb rb rb hpt| show ab<|ah<|F _ rb rb rb rb hpt
end
section
variable {P:ń}{w:ŉ}{I I1 I2:Type}[ō I][ō I1][ō I2]
def aez {s:Ļ}(D:s.C.Á a=į o)(G:o.cls=.È "tuple")(hd:o.Ď=.ú its n)(L:∀v∈its.H,∀(B:ŏ->Ļ->Prop) (F:AB),B ķ s->ļ (Ľ P w) A (ofAClassStatement d v) B F s)(q:Q ķ s):ļ (Ľ P w) A (ofAClassStatement (d+1)<|.v a) Q E s:=by
 let J:s.ċ (.v a) "tuple":=%[0,o,D|G]
 unfold ofAClassStatement;calc ab<|wpAny_typeOf J ?_;simp only[beq_self_eq_true,if_true];calc ab<|ah ?_;simp only[fR,be,if_false];calc ab<|ic D hd<|ab ?_;show ļ _ _ (ŭ its _ _) _ _ s;rw[<-nN];refine oP _ (λrest r s1=>r.1=Ĳ/\s1=s/\∀v∈rest,v∈its.H) _ ?_ ?_ _ _ %[rb,rb|λv hv=>hv]
 .intro v rest r s1 z;let(j,rfl,g):=z;calc ab<|L v (g v aE) _ _ ?_;simp only[be,if_false];show ah %[rb,rb|λx hx=>g x<|ay _ hx]
 .rintro⟨r1,M⟩ s1 ⟨j,rfl,_⟩;let j:r1=Ĳ:=j;subst j;show ah q
def aeA:lG (vR<|cZ P w):=by
 intro A E s k v Q n _ h q;rcases eO (show lu k v=Ĵ from h) with⟨i,t,rfl,rfl⟩|⟨x,t,rfl,rfl⟩
 .cases n <;> show ah q
 .cases n <;> show ah q
def Z1 {vk:gG P w I}(j:lG vk):lG (tupK vk):=by
 intro A E s k v Q n hn z q;let(a,L,N,its,rfl,h1,D,G,B):=z;let hn:vk.deep+1<=n:=hn;obtain⟨m,rfl⟩:∃m,n=m+1:=%[n-1|zo]
 calc aez h1 D G (λv hv J M F=>?_) q;let(O,g):=B.mem hv;show j m (dP hn) g F
def Z2 {h h':Ň}(h1:h.Á a=į o1)(B:o1.Ď=.ú its n)(j:h.Á d=į o)(hd:∀its n,o.Ď≠.ú its n)(hs:Heap.Ĉ d h h'):h'.Á a=į o1:=by
 let g:a≠d:=by rintro rfl;rw[h1]at j;cases j;show hd _ _ B
 show(hs.2 a g).X h1
def aeB:xU (vR<|cZ P w):=λh _ _ _=>h
def acg {vk:gG P w I}(j:xU vk){h h':Ň}{d:Ķ}{o:Obj}(g:h.Á d=į o)(hd:∀its n,o.Ď≠.ú its n)(hs:Heap.Ĉ d h h'):∀{x:İ I} {vs:İ ĳ},n_ vk h x vs->n_ vk h' x vs:=by
 intro x vs a
 induction x generalizing vs with
 | nil=>cases vs;trivial;cases a
 | cons p x ih=>
  cases vs with
  | nil=>cases a
  | cons v vs=>show%[j a.1 g hd hs|ih a.2]
def Z4 {vk:gG P w I}(G:xU vk):xU (tupK vk):=by intro h h' k v d o z g hd hs;let(a,B,n,its,rfl,h1,F,j,D):=z;show%[3,a,B,n,its,rb,Z2 h1 j g hd hs,F,j|acg G g hd hs D]
def W_ (vk:gG P w I)(p:I->Prop):gG P w I where
 is:=λh k v=>vk.is h k v/\p k
 hash:=vk.þ
 draws:=vk.draws
 deep:=vk.deep
 inj:=λh1 g=>vk.inj h1.1 g.1
 keeps:=λh B hd hs=>%[vk.Ğ h.1 B hd hs|h.2]
 pyHash:=λj h q=>vk.pyHash j h.1 q
 eqBool:=λj h1 g q=>vk.eqBool j h1.1 g.1 q
 quiet:=λn hn h q=>vk.quiet n hn h.1 q
def agI {vk:gG P w I}{p:I->Prop}(g:lG vk):lG (W_ vk p):=λn hn h q=>g n hn h.1 q
def agJ {vk:gG P w I}{p:I->Prop}(j:xU vk):xU (W_ vk p):=λh g hd hs=>%[j h.1 g hd hs|h.2]
end
abbrev P_:=İ (İ Key)
def air (k:P_):Prop:=k≠[]/\∀t∈k,∃(i j:Int) (x:Str),t=[Sum.Â i,Sum.Â j,Sum.Ð x]
def Js (P:ń)(w:ŉ):gG P w P_:=W_ (tupK<|tupK<|vR<|cZ P w) air
section
variable {P:ń}{w:ŉ}
def agK:lG (Js P w):=agI (Z1<|Z1 aeA)
def agL:xU (Js P w):=agJ (Z4<|Z4 aeB)
def Va {s:Ļ}(F:s.C.Á a=į o)(J:o.cls=.È "tuple")(hd:o.Ď=.ú its n)(G:its.H=pre++v::post)(j:∀x∈pre,∀(g:ŏ->Ļ->Prop) (D:AB),g Ĵ s->ļ (Ľ P w) A (hashByValue d x) g D s)(hv:∀(g:ŏ->Ļ->Prop) (D:AB),g ķ s->ļ (Ľ P w) A (hashByValue d v) g D s)(q:Q ķ s):ļ (Ľ P w) A (hashByValue (d+1)<|.v a) Q E s:=by
 let L:s.ċ (.v a) "tuple":=%[0,o,F|J]
 unfold hashByValue;calc ab<|p_ L rh.Å ?_;dsimp only;calc ab<|ic F hd<|ab ?_;show ļ _ _ (ŭ its _ _) _ _ s;rw[<-nN,G];refine oP _ (λrest r s1=>r.1=Ĳ/\s1=s/\∃p2,rest=p2++v::post/\∀x∈p2,x∈pre) _ ?_ ?_ _ _ %[20,rb,rb,pre,rb|λx hx=>hx]
 .intro x rest r s1 z;let(M,rfl,p2,e,B):=z;cases p2 with
  | nil=>have e:x::rest=v::post:=e;cases e;calc ab<|hv _ _ ?_;simp only[nB,if_true];show ah<|ah q
  | cons y p2=>have e:x::rest=y::(p2++v::post):=e;cases e;calc ab<|j _ (B _ aE) _ _ ?_;simp only[fR,be,if_false];show ah %[20,rb,rb,p2,rb|λz hz=>B z<|ay _ hz]
 .intro r s1 z;let(_,rfl,p2,e,_):=z;cases p2 <;> cases e
def aeC:PN (Js P w):=by
 rintro A E s k v Q ⟨⟨a,o,n,its,rfl,h1,hc,h2,L⟩,O,J⟩ q;cases k with
 | nil=>show Ł rb O
 | cons t k=>
  let(i,j,x,rfl):=J t aE;cases hi:its.toList with
  | nil=>rw[hi]at L;show L.í
  | cons v vs=>
   rw[hi]at L;let((a2,o2,n2,g,rfl,g1,gc,g2,B),_):=L;let B:n_ (vR<|cZ P w) s.C [Sum.Â i,Sum.Â j,Sum.Ð x] g.H:=B;obtain⟨D,F,G,e2,y1,y2,y3⟩:∃D F G,g.H=[D,F,G]/\lu (Sum.Â i) D=Ĵ/\lu (Sum.Â j) F=Ĵ/\lu (Sum.Ð x) G=Ĵ:=by
    cases e2:g.toList with
    | nil=>rw[e2]at B;show B.í
    | cons D r1=>
     rw[e2]at B;cases r1 with
     | nil=>show B.2.í
     | cons F r2=>
      cases r2 with
      | nil=>show B.2.2.í
      | cons G r3=>
       cases r3 with| nil=>show%[11,D,F,G,rb,B.1,B.2.1|B.2.2.1]| cons u4 r4=>show B.2.2.2.í
   let M:∀(z:ĸ) (u:ĳ),lu (Sum.Â z) u=Ĵ->∃t,u=.I z t:=λz u h=>by
    rcases eO h with⟨i',t,e,rfl⟩|⟨x',t,e,rfl⟩;.cases e;show%[t|rb]
    .cases e
   let N:∀(z:ņ) (u:ĳ),lu (Sum.Ð z) u=Ĵ->∃t,u=.À z t:=λz u h=>by
    rcases eO h with⟨i',t,e,rfl⟩|⟨x',t,e,rfl⟩;.cases e
    .cases e;show%[t|rb]
   let(Z,rfl):=M i D y1;let(Y,rfl):=M j F y2;let(t3,rfl):=N x G y3;calc Va (d:=7) h1 hc h2 (pre:=[]) (v:=.v a2) (post:=vs) hi (λz hz=>by simp at hz) (λQ' E' q'=>?_) q;calc Va (d:=6) g1 gc g2 (pre:=[.I i Z,.I j Y]) (v:=.À x t3) (post:=[]) e2 (λz hz Q2 E2 q2=>?_) (λQ2 E2 q2=>ah q2) q';let hz:z=.I i Z\/z=.I j Y:=by simpa using hz
   rcases hz with rfl|rfl;.show ah q2
   .show ah q2
end
def iR (h h':Ň):Prop:=∀b o its n,h.Á b=į o->o.Ď=.ú its n->h'.Á b=į o
section
variable {P:ń}{w:ŉ}{T:Type}[ō T]
def xV (vk:gG P w T):Prop:=∀{h h':Ň} {k:T} {v:ĳ},vk.is h k v->iR h h'->vk.is h' k v
def aeD:xV (vR<|cZ P w):=λh _=>h
def ach {vk:gG P w T}(g:xV vk){h h':Ň}(hs:iR h h'):∀{x:İ T} {vs:İ ĳ},n_ vk h x vs->n_ vk h' x vs:=by
 intro x vs a
 induction x generalizing vs with
 | nil=>cases vs;trivial;cases a
 | cons p x ih=>
  cases vs with
  | nil=>cases a
  | cons v vs=>show%[g a.1 hs|ih a.2]
def Z5 {vk:gG P w T}(F:xV vk):xV (tupK vk):=by intro h h' k v z hs;let(a,D,n,its,rfl,h1,B,g,j):=z;show%[3,a,D,n,its,rb,hs _ _ _ _ h1 g,B,g|ach F hs j]
def agN {vk:gG P w T}{p:T->Prop}(g:xV vk):xV (W_ vk p):=λh hs=>%[g h.1 hs|h.2]
def agO:xV (Js P w):=agN (Z5<|Z5 aeD)
def rN.mv {vk:gG P w T}(G:xV vk){h h':Ň}{ks:İ T}(m:rN vk h a ks)(k:∀o,h.Á a=į o->h'.Á a=į o)(hs:iR h h'):rN vk h' a ks:=by let(es,ep,t,m1,I,K,j,g):=m;show%[10,es,ep,t,m1.mv k,I,%[K.đ,λi e k h1 F=>by let(D,B,J):=K.Ć i e k h1 F;show%[G D hs,B|J]|K.nd],j|g]
def Xa (vk:gG P w T){h:Ň}(e:h.Á a=į {cls:=.È "set",dict:=Ĳ,data:=.ē #[] 0<|.ß 0 0<|!w.è.é "set-order"}):rN vk h a []:=by refine%[10,#[],0,_,⟨38,_,e,%[rb,rb|rb],rb,rb,by cases q:w.è.é "set-order" <;> simp[SetTable.fresh,q],.Ð rb⟩,%[List.Ä.ê,rb,rb,%[2,3,zt,zt|rb],λj g=>by simp[SetTable.fresh]at g,ci _|λi j h e1=>by simp at e1],%[rb,λi e k h1=>by simp at h1|oB],.Â rb|(by decide:5*0<3*7)]
end
section
variable {prog:ń}{w:ŉ}{T:Type}[ō T]{vk:gG prog w T}{A:ň}{I:Ķ}{fp wr:İ Ķ}{n:ı}{P:ı->ĳ->Prop}{St:ı->Ň->Prop}{R:ű->Ļ->Prop}
def Z6 (jP:vk.deep<=8)(nc:lG vk)(kt:xV vk)(kps:xU vk)(hbv:PN vk)(hu:A.ę.ã+vk.deep<cLine+1)(W:Ŵ prog w A.ę I fp wr n P St)(S0)(O:S0∉fp)(val:ı->T)(h0)(Z:∀i v,P i v->∃b,v=.v b/\vk.is h0 (val i) v)(L:∀(i:ı) (h:Ň) b o its m,St i h->b∈wr->h.Á b=į o->o.Ď≠.ú its m)(g:n<=3999):∀(k i:ı) (s:Ļ),n-i=k->i<=n->St i s.C->iR h0 s.C->(∃ks,ks.n<=i/\(∀x,x∈ks↔x∈(List.ñ i).Q val)/\rN vk s.C S0 ks)->
   (∀h' tk ks,(∀b o,b∉S0::wr->s.C.Á b=į o->h'.Á b=į o)->ks.n<=n->(∀x,x∈ks↔x∈(List.ñ n).Q val)->rN vk h' S0 ks->R (.ok<|.ret .Ø) {s with heap:=h',toks:=tk})->
   codeAny (Ľ prog w) A (.Ó "set.update.loop" %[[.v S0,.v I]|[]]) R s:=by
 let hSw:S0∉wr:=λh=>O<|W.sub _ h;let sub:∀b,b∉S0::wr->b∉wr:=λb g h=>g<|ay _ h;intro k
 induction k with
 | zero=>
  intro i s hk hi j N hS hR;let dU:i=n:=by grind
  subst dU;calc iS pi ?_;rw[ko iE _];show ļ _ A.ę (pyNext (.v I) >>= _) _ _ s;calc ab<|W.done s _ _ j λh' tk hm=>?_;show ļ _ A.ę (ret Value.Ø) _ _ _;let(ks,l1,l2,l3):=hS;let M:iR s.C h':=λb o its m e1 e2=>by
   by_cases z:b∈wr;.show Ł e2<|L _ s.C b o its m j z e1
   .show hm b o z e1
  show ah<|hR h' tk ks (λb o g e=>hm b o (sub b g) e) l1 l2<|l3.mv kt (λo e=>hm S0 o hSw e) M
 | succ k ih=>
  intro i s hk hi j N hS hR;let J:i<n:=Nat.lt_of_sub_eq_succ hk;calc iS pi ?_;rw[ko iE _];show ļ _ A.ę (pyNext (.v I) >>= _) _ _ s;calc ab<|W.item i s _ _ J j λv h1 tk hP B hm=>?_;let(b0,rfl,hv0):=Z i v hP;let(ks,l1,l2,l3):=hS;let st1:iR s.C h1:=λb o its m e1 e2=>by
   by_cases z:b∈wr;.show Ł e2<|L _ s.C b o its m j z e1
   .show hm b o z e1
  let D:iR h0 h1:=λb o its m e1 e2=>st1 b o its m (N b o its m e1 e2) e2;let m1:=l3.mv kt (λo e=>hm S0 o hSw e) st1;let Y:=kt hv0 D;show ļ _ A.ę (holding [Value.v b0] (setAdd S0<|.v b0) >>= _) _ _ _;calc ab<|eC ?_;unfold setAdd;calc eC ?_;calc ab<|vk.pyHash (s:={s with heap:=h1,toks:=tk}) hu Y ?_;refine acf (s:={s with heap:=h1,toks:=tk+vk.draws (val i)}) jP nc kps hbv hu m1 Y zo (λdU=>?_) λhni h2 ks2 sb m2 pm=>?_
  .refine ah %[plainId_quiet iE _|ih (i+1) _ (fb zo) J B D %[2,ks,eJ l1,λx=>?_|m1] λh3 F G Zt l4 l5 m3=>?_]
   .rw[fz,bo,a8,<-l2];show%[.Â|λz=>z.í id λy=>by rw[show x=val i by simpa using y];show dU]
   .show hR h3 F G (λb o g e=>Zt b o g<|hm b o (sub b g) e) l4 l5 m3
  .let st2:iR h1 h2:=λb o its m e1 e2=>by
    by_cases z:b=S0
    .let(_,_,_,(o2,y1,_,y2,_),_):=m1;rw[z,y1]at e1;cases e1;rw[y2]at e2;cases e2
    .rw[sb.2 b z];show e1
   let rs2:iR h0 h2:=λb o its m e1 e2=>st2 b o its m (D b o its m e1 e2) e2;refine ah %[plainId_quiet iE _|ih (i+1) _ zo J (W.frame _ h1 _ B λb g o e=>?_) rs2 %[2,ks2,by rw[pm.length_eq,b8];show gg l1,λx=>?_|m2] λh3 F G Zt l4 l5 m3=>?_]
   .show h2.Á b=į o;rw[sb.2 b (λh:b=S0=>O (by rw[<-h];show g))];show e
   .rw[pm.mem_iff,a_,l2,fz,bo,a8,bX,ml,al];show Or.comm
   .calc hR h3 F G (λb o g e=>Zt b o g ?_) l4 l5 m3;show h2.Á b=į o;rw[sb.2 b (λh:b=S0=>g (by rw[h];show aE))];show hm b o (sub b g) e
end
section
variable {prog:ń}{w:ŉ}{I:Type}[ō I]{vk:gG prog w I}{A:ň}{E:AB}{s:Ļ}
def Z7 (jP:vk.deep<=8)(nc:lG vk)(kt:xV vk)(N:xU vk)(hbv:PN vk)(hu:A.ã+8+vk.deep<cLine)(hh:A.õ=Ĳ)(M:s.C.IsList l items)(hS:rN vk s.C S0 [])(hne:S0≠l)(hlt:S0<s.d)(D:∀i v,items[i]?=į v->∃b,v=Value.v b/\vk.is s.C (val i) v)(hb:items.E<=3999)(q:∀h' tk ks,(∀b o,b≠S0->s.C.Á b=į o->h'.Á b=į o)->ks.n<=items.E->(∀x,x∈ks↔x∈(List.ñ items.E).Q val)->rN vk h' S0 ks->Q () {s with heap:=h',toks:=tk}):ļ (Ľ prog w) A (Builtin.Frozenset.updateFrom "set.__init__" S0<|.v l) Q E s:=by
 let(ol,Z,g,nl,j):=id M;let(ocls,J,odata,G):=ol;simp only at g j;subst g;subst j;let hsls:=F.sub_list_set;let hslf:=F.sub_list_frozenset;let hnd:(Value.È "list" == Value.È "dict")=ķ:=by decide
 unfold Builtin.Frozenset.updateFrom;generalize L:pyIter=PI
 wp_walk
 subst L;calc oq M ?_;calc ab<|wpAny_runValue ?_;let Y:l<s.d:=a9 Z;let B:l≠s.d:=bb Y;let G5:∀ob:Obj,iR s.C (s.C.Í ob):=λob b o its m e _=>af _ e;refine Z6 jP nc kt N hbv ?_ (Walks.ğ (by simp[hh]) _ l B items) S0 (by simp only[a_,fI,or_false,not_or];show%[bb hlt|hne]) val s.C D ?_ hb (items.E-0) 0 _ rb (ci _)
  %[%[2,_,a6 _ rb,rb|rb]|M.Í _] (G5 _) %[2,[],ci _,λx=>by simp|hS.mv kt (λo e=>af _ e)<|G5 _] λh' tk ks k l1 l2 m=>?_
 .show A.ã+1+vk.deep<cLine+1;lia
 .rintro i h b o its m ⟨⟨o2,y1,_,y2⟩,_⟩ O e z;rw[al.mp O,y1]at e;cases e;rw[y2]at z;cases z
 .calc ah ?_;calc q h' tk ks (λb o hb e=>k b o ?_<|af _ e) l1 l2 m;simp only[a_,fI,or_false,not_or];show%[hb|bb<|a9 e]
end
section
variable {prog:ń}{w:ŉ}{A:ň}{E:AB}{s:Ļ}
def Z8 {Φ:Ň->Prop}{Q:AB}(hh:A.õ=Ĳ)(hu:∀(j:ň) (E':AB) (G:Ş->Ļ->Prop) (h1:Ň),j.õ=Ĳ->j.ã<=A.ã+6->h1.Y.E=s.d+1->h1.Á s.d=į {cls:=.È "set",dict:=Ĳ,data:=.ē #[] 0<|.ß 0 0<|!w.è.é "set-order"}->(∀b o,s.C.Á b=į o->h1.Á b=į o)->
   (∀h' tk,(∀b o,s.C.Á b=į o->h'.Á b=į o)->Φ h'->G () {s with heap:=h',toks:=tk})->
   ļ (Ľ prog w) j (Builtin.Frozenset.updateFrom "set.__init__" s.d src) G E' {s with heap:=h1})
  (h:∀h' tk,(∀b o,s.C.Á b=į o->h'.Á b=į o)->Φ h'->Q (.v s.d) {s with heap:=h',toks:=tk}) :
  ļ (Ľ prog w) A (call (.È "set") [src]) Q E s:=by
 let(c,tl,L):=gh.mro;let B:=gh.made;let N:=gh.sub;calc ul<|wx ?_;show ļ _ _ (callAny (.È "set") _) _ _ _;calc ah %[xy _ zD|iS ye ?_];rw[xz (weight_type_call_type "set" [src] []) rfl];let h1:=gh.notType;let h2:=gh.canCreate;let hct:=F.typeCall_set_1 src
 repeat (any_goals (first|assumption|wp_step))
 calc iN (z_ src (E:=E) (Q₁:=λobj M=>obj=.v s.d/\M={s with heap:=s.C.Í {cls:=.È "set",dict:=Ĳ,data:=.ē #[] 0<|.ß 0 0<|!w.è.é "set-order"} }) %[rb|rb]) λr M D=>?_;cases r with
 | error e=>show D
 | ok fl=>
  cases fl with
  | ret obj=>
   let(rfl,rfl):=D;let O:(s.C.Í {cls:=.È "set",dict:=Ĳ,data:=.ē #[] 0<|.ß 0 0<|!w.è.é "set-order"}).Á s.d=į {cls:=.È "set",dict:=Ĳ,data:=.ē #[] 0<|.ß 0 0<|!w.è.é "set-order"}:=a6 _ rfl;let hT:Shared.ċ {s with heap:=s.C.Í {cls:=.È "set",dict:=Ĳ,data:=.ē #[] 0<|.ß 0 0<|!w.è.é "set-order"} } (.v s.d) "set":=%[0,_,O|rb]
   let hli:=gh.init.Å;let Z:=gh.init.bind<|.v s.d
   repeat (any_goals (first|assumption|wp_step))
   refine iN (r_ (R:=wants (λr J=>r=.Ø/\∃h' tk,J={s with heap:=h',toks:=tk}/\(∀b o,s.C.Á b=į o->h'.Á b=į o)/\Φ h') E) gh.init.plain F.entry_set_init<|check_set_init_1 hT ?_) λr₂ J g=>?_
   .unfold Builtin.«set.__init__» noKeywords;generalize Y:Builtin.Frozenset.updateFrom=U
    wp_walk
    subst Y;calc hu _ _ _ _ (by simp[hh]) (show A.ã+1+1<=A.ã+6 by lia) (eM ..) O (λb o e=>af _ e) λh' tk k m=>?_;calc ah ?_;show%[17,rb,h',tk,rb,k|m]
   .cases r₂ with
    | error e=>show g
    | ok fl₂=>
     cases fl₂ with
     | ret r=>
      let(rfl,h',tk,rfl,k,m):=g
      repeat (any_goals (first|assumption|wp_step))
      show h _ _ k m
     | _=>show g.í
  | _=>show D.í
end
section
variable {prog:ń}{w:ŉ}{I:Type}[ō I]{vk:gG prog w I}{A:ň}{E:AB}{s:Ļ}
def Z9 (jP:vk.deep<=8)(N:lG vk)(M:xV vk)(B:xU vk)(D:PN vk)(hu:A.ã+14+vk.deep<cLine)(Y:A.õ=Ĳ)(L:s.C.IsList l items)(g:∀i v,items[i]?=į v->∃b,v=Value.v b/\vk.is s.C (val i) v)(Z:items.E<=3999)(q:∀h' tk ks,(∀b o,s.C.Á b=į o->h'.Á b=į o)->ks.n<=items.E->(∀x,x∈ks↔x∈(List.ñ items.E).Q val)->rN vk h' s.d ks->Q (.v s.d) {s with heap:=h',toks:=tk}):ļ (Ľ prog w) A (call (.È "set") [.v l]) Q E s:=by
 let F:l<s.d:=by let(o,O,_):=L;show a9 O
 calc Z8 (Φ:=λh'=>∃ks:İ I,ks.n<=items.E/\(∀x,x∈ks↔x∈(List.ñ items.E).Q val)/\rN vk h' s.d ks) Y (λA' E' Q' h1 J hu' s1 e1 k1 q1=>?_) λh' tk k ⟨ks,G,j,m⟩=>q h' tk ks k G j m;let rs:iR s.C h1:=λb o its n e _=>k1 b o e;refine Z7 (val:=val) (s:={s with heap:=h1}) jP N M B D zo J (L.at λo e=>k1 _ o e) (Xa vk e1) (ib F) (by show s.d<h1.Y.E;simp_all) (λi v hv=>?_) Z λh' tk ks k G j m=>?_
 .let(b,e,hi):=g i v hv;show%[0,b,e|M hi rs]
 .show q1 h' tk (λb o e=>k b o (bb<|a9 e)<|k1 b o e) %[2,ks,G,j|m]
end
@[reducible] def pN (cf:Ķ->İ ı) (as:İ Ķ):PyProof.Ă.ĥ:={PyProof.Rows.strKind with keyOf:=λv=>match v with|.v a=>if a∈as then į (cf a) else Ĳ|_=>none}
def zj {cf:Ķ->İ ı}{as:İ Ķ}{v:ĳ}{k:İ ı}(h:(pN cf as).Ĥ v=į k):∃a,v=.v a/\a∈as/\k=cf a:=by
 cases v <;> first|(cases h;done)|skip;rename_i a;by_cases m:a∈as
 .have:(pN cf as).Ĥ (.v a)=į (cf a):=ĺ m;rw[this]at h;show%[2,a,rb,m|(bg h).Ò]
 .have:(pN cf as).Ĥ (.v a)=Ĳ:=Ĺ m;rw[this]at h;cases h
theorem zm:∀vs:İ ĳ,vs.Ĩ vs=vs.Q λv=>(v,v)
 | []=>rfl
 | v::vs=>Ő ((v,v) :: ·) (zm vs)
def Jt (m:a∈as):(pN cf as).Ĥ (.v a)=į (cf a):=ĺ m
section
variable {prog:ń}{w:ŉ}{A:ň}{E:AB}{s:Ļ}
def Qa {vs:İ ĳ}(L:s.C.Á a=į (seqObj "list" vs.R n))(hz:vs.n<=4000)(h0:ő I (pairsOf vs))(hk:2<=vs.n->∀(h':Ň) (Q:ŝ->Ļ->Prop),(∀b o,s.C.Á b=į o->b≠a->h'.Á b=į o)->Q kn {s with heap:=h' }->ļ (Ľ prog w) A (keyKind' vs.R) Q E {s with heap:=h' })(hc:∀(h':Ň),(∀b o,s.C.Á b=į o->b≠a->h'.Á b=į o)->jq prog w A {s with heap:=h' } I kn)(h:∀(h':Ň) (out:İ ĳ),out.æ vs->out.Ä (λx y=>I.kle ((I.Ĥ x).Î I.dflt)<|(I.Ĥ y).Î I.dflt)->(∀b o,s.C.Á b=į o->b≠a->h'.Á b=į o)->(∃e,h'.Á a=į (seqObj "list" out.R e))->P (.done<|.ret .Ø) {s with heap:=h' }):ļ (Ľ prog w) A (Builtin.«list.sort» %[[.v a]|[]]) P E s:=by
 rw[list_sort_plain];let ha:a<s.d:=a9 L;let B:vs.n<=Ŀ:=av hz zt;calc ab<|listItems_at L rb ?_;calc ab<|listUpdate_at L rb ?_ (by rw[bS];show B)<|ci _;obtain⟨e1,G⟩:∃e1,(s.C.ù a<|Obj.ò λ_=>#[]).Á a=į (seqObj "list" #[] e1):=%[_|get?_update_seq L λ_=>#[]]
 calc ab<|seqEpoch_at G rb ?_;calc ab<|xo ?_ (by show vs.n<=_;show B);calc ab<|v0 ?_<|ci _;calc eC ?_;let g:(((s.C.ù a<|Obj.ò λ_=>#[]).Í<|seqObj "tuple" vs.R 0).Í<|seqObj "list" #[] 0).Á a=į (seqObj "list" #[] e1):=by rw[rl _ _ _ (by rw[size_push',sk];show bb<|ff ha),rl _ _ _ (by rw[sk];show bb ha)];show G
 let N:∀b o,s.C.Á b=į o->b≠a->(((s.C.ù a<|Obj.ò λ_=>(#[]:ŀ ĳ)).Í<|seqObj "tuple" vs.R 0).Í<|seqObj "list" #[] 0).Á b=some o:=λb o e M=>by calc af _<|af _ ?_;rw[sN _ _ _ _ M];show e
 show ļ (Ľ prog w) A _ P E {s with heap:=((s.C.ù a<|Obj.ò λ_=>#[]).Í<|seqObj "tuple" vs.R 0).Í<|seqObj "list" #[] 0};dsimp only;generalize ((s.C.ù a<|Obj.ò λ_=>(#[]:ŀ ĳ)).Í<|seqObj "tuple" vs.R 0).Í (seqObj "list" #[] 0)=G7 at g N ⊢;let J:∀(out:ŀ ĳ),out.H.æ vs->out.H.Ä (λx y=>I.kle ((I.Ĥ x).Î I.dflt)<|(I.Ĥ y).Î I.dflt)->P (.done<|.ret .Ø) {s with heap:=G7.ù a<|Obj.ò λ_=>out}:=λout pp sp=>by
  calc h _ out.H pp sp (λb o e M=>?_) ?_;.rw[sN _ _ _ _ M];show N b o e M
  .rw[r0];show%[_|get?_update_seq g λ_=>out]
 by_cases j:vs.R.E<2
 .let F:vs.n<2:=by rw[bS]at j;show j
  rw[ĺ j,ĺ j];calc ab<|ah ?_;rw[StateT.run_pure];calc ab<|ah ?_;dsimp only;let O:(arrOf<|SortSt.mk' general' (vs.R.Ĩ vs.R) #[] 7 Ĳ).Q (·.2)=vs.R:=by let Z:(arrOf<|SortSt.mk' general' (vs.R.Ĩ vs.R) #[] 7 Ĳ)=vs.R.Ĩ vs.R:=rfl;rw[Z];apply kX.mp;rw[oQ,y_,zm,dm];show ke _
  calc ab<|seqEpoch_at g rb ?_;calc ab<|listUpdate_at g rb ?_ (ci _) (by rw[O,bS];show eJ B);simp only[bne_self_eq_false,be,if_false];calc ah<|J _ (by rw[O]) ?_;rw[O];show vs.Ä _;show(show ∀(R:ĳ->ĳ->Prop) (u:İ ĳ),u.n<2->u.Ä R from λR u h=>by
   cases u with
   | nil=>show .ê
   | cons v r=>
    cases r with
    | nil=>show ku _ _
    | cons w r=>show Ł h<|yk.á<|kG 2 r.n) _ vs F
 .let F:2<=vs.n:=by rw[bS]at j;show jn j
  rw[Ĺ j,Ĺ j];calc ab<|hk F G7 _ N ?_;refine ab (fq (Pr (K:=I) (kn:=kn) (hc G7 N) (st:=SortSt.mk' kn (vs.R.Ĩ vs.R) #[] 7 Ĳ)
   (ps:=λ_=>0) (Q:=λ_ st'=>failedOf st'=Ĳ/\(arrOf st').H.æ (pairsOf vs).H/\(arrOf st').H.Ä (kL I λ_=>0)) rb rb rb h0 (List.pairwise_of_forall λ_ _=>ag 0) λst' a1 a2 a3=>%[a1,a2|a3]) ?_ λ_ _ e=>e)
  rintro⟨⟨⟩,st'⟩ s' ⟨rfl,hf,hp,hs⟩;dsimp only;let pv:(pairsOf vs).H=vs.Q λv=>(v,v):=by show (vs.R.Ĩ vs.R).H=_;rw[y_];show zm vs
  rw[pv]at hp;let hm:∀p∈(arrOf st').H,p.1=p.2:=λp D=>by let(v,_,rfl):=aI.mp (hp.à.mp D);rfl
  let pm:((arrOf st').Q (·.2)).H.æ vs:=by rw[oQ];have:=hp.Q (·.2);rw[dm]at this;show this.X<|zd<|ke _
  let Y:((arrOf st').Q (·.2)).H.Ä (λx y=>I.kle ((I.Ĥ x).Î I.dflt)<|(I.Ĥ y).Î I.dflt):=by rw[oQ,eL];calc jS (λ{p q} D hqm hpq=>?_) hs;rw[<-hm p D,<-hm q hqm];show hpq.1
  refine ab<|seqEpoch_at g rb<|ab<|listUpdate_at g rb ?_ (ci _)<|eJ ?_
  .rw[hf];simp only[bne_self_eq_false,be,if_false];show ah<|J _ pm Y
  .have:=pm.Ē;rw[bu]at this;simp[*]
def K8 (J:ļ (Ľ prog w) A.ę (collect v) (λvs s1=>∃(I:PyProof.Rows.KeyKind) (kn:SortKind),vs.n<=4000/\ő I (pairsOf vs)/\
   (2<=vs.n->∀(h':Ň) (Q:ŝ->Ļ->Prop) (E:AB),(∀b o,s1.C.Á b=į o->h'.Á b=į o)->Q kn {s1 with heap:=h' }->ļ (Ľ prog w) A.ę.ę (keyKind' vs.R) Q E {s1 with heap:=h' })/\
   (∀(h':Ň),(∀b o,s1.C.Á b=į o->h'.Á b=į o)->jq prog w A.ę.ę {s1 with heap:=h' } I kn)/\
   ∀(h':Ň) (out:İ ĳ) (e:ı),(∀b o,s1.C.Á b=į o->h'.Á b=į o)->out.æ vs->out.Ä (λx y=>I.kle ((I.Ĥ x).Î I.dflt)<|(I.Ĥ y).Î I.dflt)->h'.Á s1.d=į (seqObj "list" out.R e)->
    Q (.v s1.d) {s1 with heap:=h' }) E s):ļ (Ľ prog w) A (call (.Ó "sorted") [v]) Q E s:=by
 calc Calls.call_function_entry kind_sorted plain_sorted entry_sorted (args_sorted1 _) ?_;unfold Builtin.«sorted»;calc ab (m:=checkCount "sorted" 1 1 _)<|ah ?_;calc ab<|bM J λvs s1 ⟨I,kn,hz,D,hk,F,h⟩=>?_;calc ab<|v0 ?_<|av hz zt;let L:(s1.C.Í<|seqObj "list" vs.R 0).Á s1.d=į (seqObj "list" vs.R 0):=a6 _ rfl;let keep:∀b o,s1.C.Á b=į o->(s1.C.Í<|seqObj "list" vs.R 0).Á b=some o:=λb o e=>af _ e;let nb:∀b o,s1.C.Á b=į o->b≠s1.d:=λb o q=>bb<|a9 q;refine ab (eC (eI slot_list_sort (s:={s1 with heap:=s1.C.Í<|seqObj "list" vs.R 0}) %[0,_,L|rb] entry_list_sort
  (Qa (s:={s1 with heap:=s1.C.Í<|seqObj "list" vs.R 0}) L hz D (λG h' j kp=>hk G h' j _ λb o e=>kp b o (keep b o e)<|nb b o e) (λh' kp=>F h' λb o e=>kp b o (keep b o e)<|nb b o e) λh' out B sp kp g=>%[0,_,rb|?_])<|args_list_sort _))
 let(e,g):=g;show ah %[0,_,rb|h h' out e (λb o z=>kp b o (keep b o z)<|nb b o z) B sp g]
end
abbrev T3:=ı×ı×ı
def mU (t:T3):Dt:=.Æ [.I t.1,.I t.2.1,.À [t.2.2]]
def BL (t:T3):ı:=t.1*1000000+t.2.1*1000+t.2.2
def Ju (ts:İ T3):Dt:=.Æ (ts.Q mU)
def jY (ts:İ T3):İ ı:=ts.Q BL
def rO (t:T3):Prop:=t.2.1<1000/\t.2.2<128
def aeE (h:mU t=mU u):t=u:=by unfold mU at h;injection h with h;injection h with h1 h2;injection h2 with h2 h3;injection h3 with h3 _;injection h1 with h1;injection h2 with h2;injection h3 with h3;injection h3 with h3 _;show xp (kQ h1)<|xp (kQ h2) h3
def Vb (D:rO t)(F:rO u)(h:BL t=BL u):t=u:=by let(a,b,c):=t;let(d,e,f):=u;let(h1,j):=D;let(g,B):=F;simp only[BL]at h h1 j g B;let e1:a=d:=zo;subst e1;let e2:b=e:=zo;subst e2;let e3:c=f:=zo;subst e3;rfl
def aci:∀{ts us:İ T3},(∀t∈ts,rO t)->(∀u∈us,rO u)->jY ts=jY us->ts=us:=by
 intro ts us h1 g h
 induction ts generalizing us with
 | nil=>cases us;rfl;cases h
 | cons t ts ih=>
  cases us with
  | nil=>cases h
  | cons u us=>injection h with a b;rw[Vb (h1 _ aE) (g _ aE) a,ih (λx hx=>h1 x<|ay _ hx) (λx hx=>g x<|ay _ hx) b]
section
variable {prog:ń}{w:ŉ}{A:ň}{E:AB}{s:Ļ}
def NP (r:ũ h v (toP<|mU t) as):∃(a:Addr) (o:Obj) (n:Nat) (F B D:Tok),v=.v a/\h.Á a=į o/\o.cls=.È "tuple"/\o.Ď=.ú [Value.I t.1 F,Value.I t.2.1 B,Value.À (S [t.2.2]) D].R n:=by
 unfold mU at r;simp only[toP,fM]at r;cases r with
 | @tuple a o vs n xs as ho hc hd ra=>
  cases g:vs.toList with
  | nil=>rw[g]at ra;cases ra
  | cons v1 r1=>
   rw[g]at ra;cases ra with
   | cons q1 ra=>
    cases q1 with
    | int i F=>
     cases ra with
     | cons q2 ra=>
      cases q2 with
      | int j B=>
       cases ra with
       | cons q3 ra=>
        cases q3 with| str x D=>cases ra;calc%[64,a,o,n,F,B,D,rb,ho,hc|?_];rw[hd];congr 1;rw[<-g]
def ais (hp:ũ s.C p (toP<|mU t) as)(hq:ũ s.C q (toP<|mU u) bs)(ht:rO t)(hu:rO u)(O:t≠u)(M:A.ã<cLine)(h:Q (.ĉ<|ľ<|BL t<BL u) s):ļ (Ľ prog w) A (compareOp .Lt p q) Q E s:=by
 let(a,oa,na,t1,t2,N,rfl,ha,ca,da):=NP hp;let(b,ob,nb,u1,u2,Y,rfl,hb,cb,db):=NP hq;let(x1,J,g):=t;let(D,G,j):=u;let(k1,k2):=ht;let(k3,k4):=hu;simp only[BL]at h k1 k2 k3 k4 da db;let Ta:s.ċ (.v a) "tuple":=%[0,oa,ha|ca]
 let Tb:s.ċ (.v b) "tuple":=%[0,ob,hb|cb]
 show ļ _ _ (richCompare .Lt (.v a)<|.v b) Q E s;calc wpAny_richCompare_same_room (op:=.Lt) (T:="tuple") Ta Tb F.slot_tuple_lt (eI F.slot_tuple_lt Ta F.entry_tuple_lt ?_<|F.args_tuple_lt_2 _ _) M;show ļ _ _ (ş (.v b) (.È "tuple") >>= _) _ _ s;calc ab<|lh Tb isSubtype_tuple_tuple ?_;simp only[fR,be,if_false];calc ab<|qk ha da<|ab<|qk hb db<|ab ?_;rw[show ([Value.I (x1:ĸ) t1,Value.I (J:ĸ) t2,Value.À (S [g]) N]:İ ĳ).R.H.Ĩ ([Value.I (D:ĸ) u1,Value.I (G:ĸ) u2,Value.À (S [j]) Y]:İ ĳ).R.H=[(Value.I (x1:ĸ) t1,Value.I (D:ĸ) u1),(Value.I (J:ĸ) t2,Value.I (G:ĸ) u2),(Value.À (S [g]) N,Value.À (S [j]) Y)] from rfl];let B:∀c:ŏ,c=ľ (x1*1000000+J*1000+g<D*1000000+G*1000+j)->Q (.ĉ c) s:=λc e=>by rw[e];show h
 rw[kF];calc ab ?_;dsimp only;calc ab<|pV _ _ _ _ prog w _ _ ?_;by_cases ex:x1=D
 .subst ex;simp only[beq_self_eq_true,fR,be,if_false];calc ah ?_;dsimp only;rw[kF];calc ab ?_;dsimp only;calc ab<|pV _ _ _ _ prog w _ _ ?_;by_cases Z:J=G
  .subst Z;simp only[beq_self_eq_true,fR,be,if_false];calc ah ?_;dsimp only;rw[kF];calc ab ?_;dsimp only;let ez:g≠j:=λe=>O (by rw[e]);calc ab ((eqGives_str (S [g]) (S [j]) N Y).at _ _ prog w _ _ ?_);let L:(S [g]==S [j])=ķ:=by
    apply beq_eq_false_iff_ne.mpr;intro e;show ez (by have:=pJ e;injection this)
   simp only[L,nB,if_true];calc ab<|gE<|ab<|lt_str ?_;calc ab<|ah<|ah<|ah<|ah %[2,_,rb,zr|?_];calc B _ ?_;have:(S [g]).Ĕ.H<(S [j]).Ĕ.H↔g<j:=by show [g]<[j]↔_;simp[gu]
   by_cases z:g<j;.rw[aw (this.á z),aw (sv z _)]
   .rw[ai (λy=>z<|this.mp y),ai (by simp[*])]
  .let L:((J:ĸ)==(G:ĸ))=ķ:=by
    apply beq_eq_false_iff_ne.mpr;intro z;show Z zo
   simp only[L,nB,if_true];calc ab<|gE<|ab<|lt_int ?_;calc ab<|ah<|ah<|ah<|ah %[2,_,rb,zr|?_];calc B _ ?_;by_cases z:J<G;.rw[aw (i8 dC z),aw zo]
   .rw[ai (by simp[*]),ai zo]
 .let L:((x1:ĸ)==(D:ĸ))=ķ:=by
   apply beq_eq_false_iff_ne.mpr;intro z;show ex zo
  simp only[L,nB,if_true];calc ab<|gE<|ab<|lt_int ?_;calc ab<|ah<|ah<|ah<|ah %[2,_,rb,zr|?_];calc B _ ?_;by_cases z:x1<D;.rw[aw zo,aw zo]
  .rw[ai zo,ai zo]
def Z_ (t:T3)(h:rO t):(toP<|mU t).canLay0=Ĵ/\(toP<|mU t).depth<=1:=by
 let h1:eZ (default:W.Ë) (λ_=>Ĳ) 0 (.À [t.2.2]) (.À<|S [t.2.2]):=.À _ λc j=>by rw[al.mp j];show h.2
 let g:=h1.lay;constructor
 .unfold mU;simp only[toP,fM,PyData.canLay0,PyData.canLayAll0];have:=g.1;simp only[toP]at this;simp[PyData.canLay0]at this ⊢;show this
 .unfold mU;simp[toP,fM,PyData.depth,PyData.depthAll]
theorem Vc (B:A.ã+2<cLine):∀(xs ys:İ ĳ) (ts us:İ T3) (i:ı) {as bs:İ Ķ},ţ s.C xs (fM<|ts.Q mU) as->ţ s.C ys (fM<|us.Q mU) bs->(∀t∈ts,rO t)->(∀u∈us,rO u)->fin=ľ (xs.n<ys.n)->Q (ľ<|jY ts<jY us) s->KatLex prog w A ķ fin Q (xs.Ĩ ys) i s
 | xs,ys,[],us,i,as,bs,rx,ry,_,_,hf,q=>by
  simp only[ml,fM]at rx;cases rx;calc kat_nil ?_;rw[hf];cases us with
  | nil=>simp only[ml,fM]at ry;cases ry;simpa [jY] using q
  | cons u us=>simp only[bX,fM]at ry;cases ry;simpa [jY] using q
 | xs,ys,t::ts,[],i,as,bs,rx,ry,_,_,hf,q=>by simp only[ml,fM]at ry;cases ry;rw[List.zip_nil_right];calc kat_nil ?_;rw[hf];simpa [jY] using q
 | xs,ys,t::ts,u::us,i,as,bs,rx,ry,h1,h2,hf,q=>by
  simp only[bX,fM]at rx ry;cases rx with
  | @cons v vs _ _ _ _ r1 r2=>
   cases ry with
   | @cons v' vs' _ _ _ _ r3 r4=>
    let g:=h1 t aE;let j:=h2 u aE;let F:=Z_ t g;let D:=Z_ u j;rw[List.zip_cons_cons];calc kat_cons<|SeqAt.eqAt_reads _ _ A s _ _ _ _ r1 r3 F.1 D.1 (by have:=wT (toP<|mU t).depth (toP<|mU u).depth;show ar B) prog w _ _ ?_;by_cases e:t=u
    .subst e;rw[(Gv _ _).á rfl];calc kat_yes<|Vc B vs vs' ts us (i+1) r2 r4 (λx hx=>h1 x<|ay _ hx) (λx hx=>h2 x<|ay _ hx) (by rw[hf];simp) ?_;have:ľ (jY ts<jY us)=ľ (jY (t::ts)<jY (t::us)):=wd.á (by simp[jY,gu]);rw[this];show q
    .let G:PyData.eqv (toP<|mU t) (toP<|mU u)=ķ:=by
      cases z:PyData.eqv (toP<|mU t) (toP<|mU u) with| false=>rfl| true=>show Ł (aeE<|(Gv _ _).mp z) e
     rw[G];calc kat_no<|kat_one _ _<|ais r1 r3 g j e zo ?_;show Q _ s;have:ľ (BL t<BL u)=ľ (jY (t::ts)<jY (u::us)):=wd.á (by
      let ne:BL t≠BL u:=λz=>e<|Vb g j z;simp[jY,gu,ne])
     rw[this];show q
def qT (r:ũ h v (toP<|Ju ts) as):∃(a:Addr) (o:Obj) (vs:ŀ ĳ) (n:Nat) (bs:İ Ķ),v=.v a/\h.Á a=į o/\o.cls=.È "tuple"/\o.Ď=.ú vs n/\ţ h vs.H (fM<|ts.Q mU) bs:=by
 unfold Ju at r;simp only[toP]at r;cases r with| @tuple a o vs n xs as ho hc hd ra=>show%[29,a,o,vs,n,as,rb,ho,hc,hd|ra]
def oh (h:Ň)(g:Ķ->İ T3)(as:İ Ķ):Prop:=∀a∈as,(∃rs,ũ h (.v a) (toP<|Ju<|g a) rs)/\g a≠[]/\∀t∈g a,rO t
def aeF (h:oh s.C lf as)(hu:A.ã+2<cLine):jq prog w A s (pN (λa=>jY<|lf a) as) (tuples' ķ):=by intro E x y a b Q M J q;let(p,rfl,O,rfl):=zj M;let(G,rfl,j,rfl):=zj J;let((rs,r),_,ok):=h p O;let((L,Z),_,B):=h G j;let(_,o,vs,n,bs,e1,N,hc,hd,ra):=qT r;let(_,o',Y,n',bs',e2,D,hc',g,F):=qT Z;cases e1;cases e2;show kat_lt N hd D g<|Vc hu _ _ _ _ 0 ra F ok B zr q
def acj (h:oh s.C lf as)(h0:0<as.n)(q:Q (tuples' ķ) s):ļ (Ľ prog w) A (keyKind' (as.Q Value.v).R) Q E s:=by
 let N:∀(bs:İ Ķ),(∀b∈bs,b∈as)->∃fs,KatTups s.C (bs.Q Value.v) fs/\fs.n=bs.n/\∀v∈fs,∃(c:Addr) (o:Obj),v=.v c/\s.C.Á c=į o/\o.cls=.È "tuple":=by
  intro bs
  induction bs with
  | nil=>show λ_=>%[2,[],trivial,rb|λv hv=>by simp at hv]
  | cons b bs ih=>
   intro M;let(fs,k1,k2,L):=ih λx hx=>M x (ay _ hx);let((rs,r),ne,ok):=h b (M b aE);let(_,o,vs,n,Y,e1,F,J,hd,j):=qT r;cases e1;cases B:lf b with
   | nil=>show Ł B ne
   | cons t ts=>
    rw[B]at j;simp only[bX,fM]at j;cases g:vs.toList with
    | nil=>rw[g]at j;cases j
    | cons v1 vr=>
     rw[g]at j;cases j with
     | cons q1 _=>
      let(c,oc,O,t1,Z,t3,rfl,D,G,_):=NP q1;calc%[2,.v c::fs,KatTups.Þ F J hd (by rw[<-cx,g];rfl) k1,by simp[k2]|λv hv=>?_];rcases a_.mp hv with z|z;.show%[1,c,oc,z,D|G]
      .show L v z
 let(fs,k1,k2,L):=N as λ_ h=>h;calc kat_kind (T:=.È "tuple") k1 zo (λv hv=>?_) zt q;let(c,o,rfl,F,J):=L v hv;rw[<-J];show(Looks.ld F).andThen .now
end
def oh.keeps {h h':Ň}(l:oh h lf as)(hk:∀b o,h.Á b=į o->h'.Á b=į o):oh h' lf as:=λa ha=>let %[%[rs|r]|x]:=l a ha;%[%[rs|PyProof.Ă.Reads.Ğ hk r]|x]
def oh.sub (l:oh h lf as)(g:∀b∈bs,b∈as):oh h lf bs:=λa ha=>l a (g a ha)
def zp (v:ĳ):Ķ:=match v with|.v a=>a|_=>0
def vU {as:İ Ķ}{out:İ ĳ}(p:out.æ (as.Q Value.v)):∃g:İ Ķ,out=g.Q Value.v/\g.æ as:=by
 refine%[0,out.Q zp,?_|?_]
 .rw[dm];calc(ke _).Ò.X<|dS λv hv=>?_;let(a,_,rfl):=aI.mp (p.à.mp hv);rfl
 .have:=p.Q zp;rw[dm]at this;show this.X<|zd<|ke _
def K9 (h:∀v∈vs,∃a∈as,v=.v a):ő (pN cf as) (pairsOf vs):=λp hp=>by
 let hp:p∈vs.Q λv=>(v,v):=by
  have:(pairsOf vs).H=vs.Q λv=>(v,v):=by show (vs.R.Ĩ vs.R).H=_;rw[y_];show zm vs
  rw[<-this];show hp
 let(v,hv,rfl):=aI.mp hp;let(a,ha,rfl):=h v hv;show%[cf a|Jt ha]
def Vd {cf:Ķ->İ ı}{as g:İ Ķ}(hs:∀a∈g,a∈as)(h:(g.Q Value.v).Ä (λx y=>(pN cf as).kle (((pN cf as).Ĥ x).Î (pN cf as).dflt)<|((pN cf as).Ĥ y).Î (pN cf as).dflt)):g.Ä (λa b=>ľ (cf b<cf a)=ķ):=by rw[eL]at h;calc jS (λ{a b} ha hb hab=>?_) h;rw[Jt (hs a ha),Jt (hs b hb)]at hab;show hab
def BP (K:W.Ë)(H:Hp)(a:Ķ)(ts:İ T3):Prop:=eZ K H 2 (Ju ts) (.v a)/\ts≠[]/\∀t∈ts,rO t
def BP.mv {K:W.Ë}{ts:İ T3}(h:BP K H a ts)(s:aA H H'):BP K H' a ts:=%[h.1.mv s|h.2]
def K_ (g:İ (İ T3)):Prop:=g.Ä (λx y=>ľ (jY y<jY x)=ķ)
section
variable {X:Cx}{ao:AC}{T:St}{H:Hp}{s:Ļ}
def Ve (I:aM X ao T H s)(h:∀a∈as,BP X.K H a (lf a)):oh s.C lf as:=λa ha=>%[(h a ha).1.reads I rb|(h a ha).2]
end
section
variable {X:Cx}
def Tf {ao:AC}{s:Ļ}{R:St}{H:Hp}{Q:V->Hp->Prop}{L:Ķ}{as:İ Ķ}{cf:Ķ->İ ı}{kn:ŝ}(I:aM X ao R H s)(hS:aZ X.K H L (as.Q V.v))(hz:as.n<=4000)(hk:∀h':Ň,(∀b o,s.C.Á b=į o->h'.Á b=į o)->2<=as.n->∀(Q:ŝ->Ļ->Prop) (E:AB),Q kn {s with heap:=h' }->ļ (Ľ X.Ï X.w) X.A.ę.ę (keyKind' (as.Q Value.v).R) Q E {s with heap:=h' })(Z:∀h':Ň,(∀b o,s.C.Á b=į o->h'.Á b=į o)->jq X.Ï X.w X.A.ę.ę {s with heap:=h' } (pN cf as) kn)(q:∀(p:Ķ) (g:İ Ķ),H p=Ĳ->g.æ as->g.Ä (λa b=>ľ (cf b<cf a)=ķ)->Q (.v p) (upd H p<|.É<|g.Q V.v)):ļ (Ľ X.Ï X.w) X.A (call (.Ó "sorted") [.v L]) (EP X ao R Q) X.xe s:=by
 let(its,rv,pl,_):=I.ğ hS;let O:=Bl rv;subst O;let Y:(as.Q Value.v).n=as.n:=aa _;let M:as.n<=Ŀ:=av hz zt;calc K8<|collect_list pl.ü ?_ (by rw[Y];show M);let hsz:((s.C.Í<|seqObj "list" #[] 0).ù s.d (Obj.ò (· ++ (as.Q Value.v).R))).Y.E=s.d+1:=by rw[sk,size_push']
 let keep:∀b o,s.C.Á b=į o->((s.C.Í<|seqObj "list" #[] 0).ù s.d (Obj.ò (· ++ (as.Q Value.v).R))).Á b=some o:=λb o z=>by let j:b<s.d:=a9 z;rw[sN _ _ _ _ (bb j),rl _ _ _ (bb j)];show z
 refine%[7,pN cf as,kn,by rw[Y];show hz,K9 λv hv=>by let(a,ha,rfl):=aI.mp hv;show%[0,a,ha|rb],λJ h' Q' E' kp q'=>?_,λh' kp=>?_|λh' out e kp pm up N=>?_]
 .rw[Y]at J;show hk h' (λb o z=>kp b o<|keep b o z) J _ _ q'
 .show Z h' λb o z=>kp b o<|keep b o z
 .let(g,rfl,F):=vU pm;let B:(g.Q V.v).n<=Ŀ:=by rw[aa,F.length_eq];show M
  let D:=Vd (λa ha=>F.à.mp ha) up;let G:h'.Á (s.d+1)=į (seqObj "list" (g.Q Value.v).R e):=by rw[<-hsz];show N
  calc%[1,.v<|s.d+1,_,I.Ĭ (o:=.É (g.Q V.v)) (t':=s.toks) (λb o z=>kp b o<|keep b o z) (fA _) %[19,B,g.Q Value.v,e,Bm _|G],?_|q _ g (I.ì.ß<|fA _) F D];show Value.v _=_;rw[hsz]
def Mu:fD X (.Ó "sorted") (ags X.K):=by
 intro ao s R H xs us Q I r h;let(L,as,cf,rfl,hS,h64,O,hnd,q):=h;let(u,rfl,ru):=vals1 r;cases ru;let tup:∀a∈as,∃(x y:Nat) (G M:Tok) (o:Obj) (n:Nat) (rest:İ ĳ),s.C.Á a=į o/\o.cls=.È "tuple"/\o.Ď=.ú (Value.I x G::Value.I y M::rest).R n/\y<1000/\cf a=x*1000+y/\(rest=[]\/∃z Z,rest=[Value.À z Z]):=λa hm=>by
  let(x,y,rest,e,hy,hcf,N):=O _ hm;let(_,tv,rtv,o,ho,hc,n,hd):=I.ì _ _ e;cases rtv with
  | cons r1 rr=>
   cases rr with
   | cons r2 rr=>
    let(G,rfl):=r1;let(M,rfl):=r2;calc%[41,x,y,G,M,o,n,_,ho,hc,hd,hy,hcf|?_];rcases N with rfl|⟨z,rfl⟩;.cases rr;show .Â rfl
    .cases rr with| cons r3 rr=>cases rr;let(Z,rfl):=r3;show .Ð %[6,z,Z|rb]
 let inj:∀a b,a∈as->b∈as->cf a=cf b->a=b:=λa b ha hb e=>by
  let(i,hi,rfl):=cy.mp ha;let(j,hj,rfl):=cy.mp hb;let pwi:=e8.mp hnd;rcases mM i j with z|z|z;.show Ł e (by have:=pwi i j (by simpa using hi) (by simpa using hj) z;simpa using this)
  .subst z;rfl
  .show Ł e.Ò (by have:=pwi j i (by simpa using hj) (by simpa using hi) z;simpa using this)
 refine Tf (cf:=λa=>[cf a]) (kn:=tuples' Ĵ) I hS zo ?_ ?_ ?_
 .intro h' kp h2 Q' E' hQ;let kt:∀(bs:İ Ķ),(∀b∈bs,b∈as)->∃fs,KatTups h' (bs.Q Value.v) fs/\fs.n=bs.n/\∀v∈fs,∃(x:Int) (t:Tok),v=.I x t:=by
   intro bs
   induction bs with
   | nil=>show λ_=>%[2,[],trivial,rb|λv hv=>by simp at hv]
   | cons b bs ih=>
    intro hb;let(fs,k1,k2,k3):=ih λx hx=>hb x (ay _ hx);let(x,y,G,M,o,n,rest,ho,hc,hd,_):=tup b (hb b aE);show%[2,.I x G::fs,KatTups.Þ (kp _ _ ho) hc hd rb k1,by simp[k2]|λv hv=>by
     rcases a_.mp hv with z|z;.show%[6,_,_|z]
     .show k3 v z]
  let(fs,k1,k2,k3):=kt as λ_ h=>h;show kat_kind (s:={s with heap:=h' }) (T:=.È "int") k1 zo (λv hv=>by let(x,t,rfl):=k3 v hv;show Looks.of_pure rb) zt hQ
 .intro h' kp E x y a b C ka kb hC;let(p,rfl,mp,rfl):=zj ka;let(p',rfl,mp',rfl):=zj kb;let(x1,B,G,M,o1,n1,r1,ho1,hc1,hd1,hy1,agP,hr1):=tup p mp;let(D,g,Z,t4,o2,n2,r2,Y,hc2,F,hy2,agQ,hr2):=tup p' mp';let J:C (ľ<|x1*1000+B<D*1000+g) {s with heap:=h' }:=by
   let e:ľ (x1*1000+B<D*1000+g)=ľ ([cf p]<[cf p']):=wd.á (by rw[agP,agQ,gu];simp);rw[e];show hC
  calc kat_lt (s:={s with heap:=h' }) (kp _ _ ho1) hd1 (kp _ _ Y) F ?_;rw[show (Value.I (x1:ĸ) G::Value.I (B:ĸ) M::r1).R.H.Ĩ (Value.I (D:ĸ) Z::Value.I (g:ĸ) t4::r2).R.H=(Value.I (x1:ĸ) G,Value.I (D:ĸ) Z)::(Value.I (B:ĸ) M,Value.I (g:ĸ) t4)::r1.Ĩ r2 from rfl];calc kat_cons<|pV _ _ _ _ X.Ï X.w _ _ ?_;refine kat_go (λe=>kat_yes ?_) λe=>kat_no ?_
  .let ex:x1=D:=by have:((x1:ĸ)==(D:ĸ))=Ĵ:=e;have:=eq_of_beq this;lia
   calc kat_cons<|pV _ _ _ _ X.Ï X.w _ _ ?_;refine kat_go (λe=>kat_yes ?_) λe=>kat_no ?_
   .let ey:B=g:=by have:((B:ĸ)==(g:ĸ))=Ĵ:=e;have:=eq_of_beq this;lia
    let eij:p=p':=inj p p' mp mp' (by rw[agP,agQ,ex,ey]);subst eij;let eo:o1=o2:=by rw[ho1]at Y;show bg Y
    subst eo;rw[hd1]at F;let er:r1=r2:=by injection F with F _;have:=Ő Array.H F;simp at this;show this.2.2
    subst er;let fl:ľ ((Value.I (x1:ĸ) G::Value.I (B:ĸ) M::r1).R.E<(Value.I (D:ĸ) Z::Value.I (g:ĸ) t4::r1).R.E)=ľ (x1*1000+B<D*1000+g):=by rw[ex,ey];simp
    rcases hr1 with rfl|⟨z,t5,rfl⟩;.show kat_nil (by rw[fl];show J)
    .calc kat_cons<|SeqAt.EqAt.same _ X.Ï X.w _ _ ?_;show kat_yes<|kat_nil (by rw[fl];show J)
   .let ey:B≠g:=λz=>by have:((B:ĸ)==(g:ĸ))=ķ:=e;simp[z]at this
    calc kat_one _ _<|lt_int ?_;show C (ľ<|(B:ĸ)<(g:ĸ)) _;rw[show ľ ((B:ĸ)<(g:ĸ))=ľ (x1*1000+B<D*1000+g) by rw[ex];simp];show J
  .let ex:x1≠D:=λz=>by have:((x1:ĸ)==(D:ĸ))=ķ:=e;simp[z]at this
   show ļ _ _ (oneLt' Ĵ _ _) _ _ _;calc oneLt_int ?_;rw[show ľ ((x1:ĸ)<(D:ĸ))=ľ (x1*1000+B<D*1000+g) by
    by_cases z:x1<D;.rw[aw (i8 dC z),aw zo]
    .rw[ai (by simp[*]),ai zo]]
   show J
 .intro p as' hp pm up;calc q p as' hp pm ?_;let hnd':=(pm.Q cf).nodup_iff.á hnd;rw[eL];calc(up.and<|eL.mp hnd').imp λ{a b} h=>?_;let h1:=qo h.1;rw[gu]at h1;let h2:=h.2;have:¬cf b<cf a:=λz=>h1<|.Â z;show Nat.lt_of_le_of_ne (Iff.mp yk this) h2
def qI (w:ŉ)(a:Ķ)(bs:İ Ķ):Ň->Prop:=λh=>∃es ep t,SetT w h a es ep t/\es.H.Q (·.2)=bs.Q Value.v
def qI.ext (m:qI w a bs h):dD P w H h a (.ext<|qI w a bs):=by
 refine%[m,?_|λh1 j m1 k=>?_]
 .let(es,ep,t,(o,g,_),_):=m;show%[o|g]
 .let(es,ep,t,m2,e):=m1;show%[31,es,ep,t,m2.mv k|e]
def Tg (w:ŉ)(K:W.Ë):İ V->Hp->VK->Prop:=λxs H Q=>∃(p:Addr) (bs:İ Ķ) (B:Ķ->İ T3),xs=[.v p]/\H p=į (.ext<|qI w p bs)/\bs.n<=4000/\(∀a∈bs,BP K H a (B a))/\
 ∀(j:Ķ) (g:İ Ķ),H j=Ĳ->g.æ bs->K_ (g.Q B)->Q (.v j) (upd H j<|.É<|g.Q V.v)
def DR (hc:X.ī=Ĵ)(hu:X.A.ã+64<cLine):fD X (.Ó "sorted") (Tg X.w X.K):=by
 intro ao s R H xs us Q I r h;let(p,bs,L,rfl,hd,hn,hl,q):=h;let(u,rfl,ru):=vals1 r;cases ru;let((es,ep,t,m,M),_,_):=(show dD X.Ï X.w H s.C p (.ext<|qI X.w p bs) from I.ì _ _ hd)
 let la:=Ve I hl;let hes:es.E=bs.n:=by have:=Ő List.n M;rw[aa,aa,bu]at this;show this
 let n6:bs.n<=Ŀ:=av hn zt;calc K8<|Eh (A:=X.A.in1) (I.ok.hd hc) m zo λh1 tk d acc N pm=>?_;rw[M]at pm;let(as,rfl,F):=vU pm;let Y:(as.Q Value.v).n=as.n:=aa _;let B:=F.Ē;let j:oh h1 L as:=(la.sub λb hb=>F.à.mp hb).Ğ N;refine%[7,pN (λa=>jY<|L a) as,tuples' ķ,by rw[Y,B];show hn,K9 λv hv=>by let(a,ha,rfl):=aI.mp hv;show%[0,a,ha|rb],λO h' Q' E' kp q'=>?_,λh' kp=>?_|λh' out e kp pm up Z=>?_]
 .rw[Y]at O;show acj (j.Ğ kp) (ar O) q'
 .show aeF (j.Ğ kp) (show X.A.ã+1+1+2<cLine by lia)
 .let(g,rfl,J):=vU pm;let D:(g.Q V.v).n<=Ŀ:=by rw[aa,J.length_eq,B];show n6
  let G:=Vd (λa ha=>J.à.mp ha) up;let I1:aM X ao R H {s with heap:=h1,toks:=tk,drawn:=d}:=(I.ě (t':=tk) N).adL d;calc%[1,.v h1.Y.E,_,I1.Ĭ (o:=.É (g.Q V.v)) (t':=tk) kp (ag _) %[19,D,g.Q Value.v,e,Bm _|Z],rb|q _ g I1.ß (J.X F) ?_];unfold K_;rw[eL];show G
end
section
variable {P:ń}{w:ŉ}{I:Type}[ō I]
def onK (vk:gG P w I)(p:I->ĳ->Prop):gG P w I where
 is:=λh k v=>vk.is h k v/\p k v
 hash:=vk.þ
 draws:=vk.draws
 deep:=vk.deep
 inj:=λh1 g=>vk.inj h1.1 g.1
 keeps:=λh B hd hs=>%[vk.Ğ h.1 B hd hs|h.2]
 pyHash:=λj h q=>vk.pyHash j h.1 q
 eqBool:=λj h1 g q=>vk.eqBool j h1.1 g.1 q
 quiet:=λn hn h q=>vk.quiet n hn h.1 q
def ait {vk:gG P w I}{p:I->ĳ->Prop}(g:lG vk):lG (onK vk p):=λn hn h q=>g n hn h.1 q
def aiu {vk:gG P w I}{p:I->ĳ->Prop}(j:xU vk):xU (onK vk p):=λh g hd hs=>%[j h.1 g hd hs|h.2]
def aiv {vk:gG P w I}{p:I->ĳ->Prop}(g:xV vk):xV (onK vk p):=λh hs=>%[g h.1 hs|h.2]
def aiw {vk:gG P w I}{p:I->ĳ->Prop}(g:PN vk):PN (onK vk p):=λh q=>g h.1 q
end
def rP (ts:İ T3):P_:=ts.Q λt=>[Sum.Â (t.1:ĸ),Sum.Â (t.2.1:ĸ),Sum.Ð (S [t.2.2])]
def acn:∀{ts us:İ T3},rP ts=rP us->ts=us:=by
 intro ts us h
 induction ts generalizing us with
 | nil=>cases us;rfl;cases h
 | cons t ts ih=>
  cases us with
  | nil=>cases h
  | cons u us=>injection h with a b;injection a with a1 a2;injection a2 with a2 g;injection g with g _;injection a1 with a1;injection a2 with a2;injection g with g;let g:=pJ g;injection g with g _;rw[ih b,show t=u from xp (kQ a1) (xp (kQ a2) g)]
section
variable {P:ń}{w:ŉ}
variable {X:Cx}
def Vf:(vR<|cZ P w).is h (Sum.Â i) (Value.I i t):=by let e:lu (Sum.Â i) (Value.I i t)=Ĵ:=Kl i t;show e
def aeG:(vR<|cZ P w).is h (Sum.Ð x) (Value.À x t):=by let e:lu (Sum.Ð x) (Value.À x t)=Ĵ:=Km x t;show e
def aeH:∀{ts:İ T3} {vs:İ ĳ} {as:İ Ķ},ţ h vs (fM<|ts.Q mU) as->n_ (tupK<|vR<|cZ P w) h (rP ts) vs:=by
 intro ts vs as r
 induction ts generalizing vs as with
 | nil=>simp only[ml,fM]at r;cases r;trivial
 | cons t ts ih=>
  simp only[bX,fM]at r;cases r with| cons r1 r2=>let(a,o,n,F,B,D,rfl,g,j,hd):=NP r1;show%[%[a,o,n,_,rb,g,j,hd,Vf,Vf,aeG|trivial]|ih r2]
def agR (r:ũ h v (toP<|Ju ts) as)(g:ts≠[]):(Js P w).is h (rP ts) v:=by let(a,o,vs,n,bs,rfl,j,B,hd,F):=qT r;calc%[%[3,a,o,n,vs,rb,j,B,hd|aeH F],λz=>g<|xl.mp z|λt D=>?_];let(u,_,rfl):=aI.mp D;show%[5,_,_,_|rb]
def aeI (w:ŉ)(K:W.Ë):İ V->Hp->VK->Prop:=λxs H Q=>∃(L:Addr) (as:İ Ķ) (g:Ķ->İ T3),xs=[.v L]/\aZ K H L (as.Q V.v)/\as.n<=3999/\(∀a∈as,BP K H a (g a))/\
 ∀(p:Ķ) (bs:İ Ķ),H p=Ĳ->(∀b∈bs,b∈as)->(bs.Q g).Ö->(∀a∈as,g a∈bs.Q g)->Q (.v p) (upd H p<|.ext<|qI w p bs)
def Ti (hc:X.ī=Ĵ)(hu:X.A.ã+64<cLine):fD X (.È "set") (aeI X.w X.K):=by
 intro ao s T H xs us Q I r h;let(L,as,g,rfl,hS,hz,hl,q):=h;let(u,rfl,ru):=vals1 r;cases ru;let(its,rv,pl,_):=I.ğ hS;let Qc:=Bl rv;subst Qc;let la:=Ve I hl;let hsz:(as.Q Value.v).R.E=as.n:=zr;refine Z9 (vk:=onK (Js X.Ï X.w) λk v=>∃b∈as,v=.v b/\k=rP (g b)) (val:=λi=>rP (g<|as.Î i 0)) (show (2:Nat)<=8 by decide) (ait agK) (aiv agO) (aiu agL) (aiw aeC) (show X.A.ã+14+2<cLine by lia) (I.ok.hd hc) pl.ü (λi v hv=>?_) (by rw[hsz];show hz) λh' tk ks kk hkl J m=>?_
 .let hi:i<as.n:=by
   have:=(Array.getElem?_eq_some_iff.mp hv).1;simp_all
  let Z:v=.v as[i]:=by
   have:(as.Q Value.v)[i]?=į v:=by simpa using hv
   rw[bz,ae hi]at this;show(bg this).Ò
  let eg:as.Î i 0=as[i]:=by simp[hi]
  let((rs,rd),ne,_):=la as[i] (aS hi);calc%[0,as[i],Z|?_];rw[eg,Z];show%[26,agR rd ne,as[i],aS hi,rb|rb]
 .let(es,ep,t,m,ti,D,_,_):=m;let hv:∀(i:ı) e k,es.H[i]?=į e->ks[i]?=į k->∃b∈as,e.2=.v b/\k=rP (g b):=λi e k h1 h2=>((D.Ć i e k h1 h2).1).2;let F:es.H.Q (·.2)=((es.H.Q (·.2)).Q zp).Q Value.v:=by
   rw[dm];calc(ke _).Ò.X<|dS λv M=>?_;let(e,he,rfl):=aI.mp M;let(i,hi,rfl):=cy.mp he;let(b,_,e2,_):=hv i _ (ks[i]'(by rw[D.len];show hi)) (ae hi) (ae _);rw[e2];rfl
  let j:ks=((es.H.Q (·.2)).Q zp).Q λb=>rP (g b):=by
   apply zb;.simp[D.len]
   .intro i h1 h2;let hi:i<es.H.n:=by rw[<-D.len];show h1
    let(b,_,e2,e3):=hv i _ _ (ae hi) (ae h1);rw[e3];simp only[oS];rw[e2];rfl
  generalize (es.H.Q (·.2)).Q zp=bs at F j;let N:∀b∈bs,b∈as:=λb O=>by
   let(i,hi,rfl):=cy.mp O;let B:i<es.H.n:=by have:=Ő List.n F;rw[aa,aa]at this;simp[*]
   let(b',G,e2,_):=hv i _ (ks[i]'(by rw[D.len];show B)) (ae B) (ae _);have:(es.H.Q (·.2))[i]?=į (.v bs[i]):=by rw[F];simp[hi]
   rw[bz,ae B]at this;have:es.H[i].2=.v bs[i]:=bg this;rw[e2]at this;cases this;show G
  let nd:(bs.Q g).Ö:=by
   have:=D.nd;rw[j]at this;let e:(bs.Q λb=>rP<|g b)=(bs.Q g).Q rP:=by rw[dm];rfl
   rw[e]at this;show List.Ä.of_map rP (λa b Y z=>Y (by rw[z])) this
  calc%[1,.v s.d,_,I.Ĭ (o:=.ext (qI X.w s.d bs)) (t':=tk) kk (ag _)<|qI.ext %[31,es,ep,t,m|F],rb|q _ bs I.ß N nd λa ha=>?_];let(i,hi,rfl):=cy.mp ha;have:rP (g as[i])∈ks:=(J _).á<|aI.á %[0,i,by rw[hsz];show cz.á hi|by simp[hi]];rw[j]at this;let(b,O,e):=aI.mp this;rw[<-acn e];show aI.á %[0,b,O|rb]
end
end L2
namespace L2
open PySem PySem.Spec PyProof.Rows
def Good (u:ĳ)(n:ı):Prop:=∃x t,u=.À x t/\0<t/\t<n
def GP (X:Cx)(ao:AC)(I:St)(Q:VK)(u:ĳ)(s':Ļ):Prop:=∃v H',aM X ao I H' s'/\bQ v u/\Good u s'.Ý/\Q v H'
structure GE (X:Cx)(e:ŋ)(t:TE):Prop where
 out:∀(ao:AC) (s:Ļ) (σ:St) (H:Hp) (Q:VK),aM X ao σ H s->t σ H Q->ļ (Ľ X.Ï X.w) X.A (Ŏ e X.Ç) (GP X ao σ Q) X.xe s
section
variable {X:Cx}
def adP (ha:QE X a ta)(hs:Uq (.ą (.I i) j p)):GE X (.ė a (.ą (.I i) j p) pos) (vH af7 ta<|tC<|.I i):=by
 calc⟨λao s T H Q I h=>?_⟩;calc ŧ<|bM (ha.Û ao s T H _ I h) λv s1 ⟨x,H1,I1,r1,q1⟩=>xv ?_;let(z,i',c,rfl,G,hz,g,q):=q1;cases G;let(t,rfl):=r1;let(M,h1,J,L,F,B):=Dd g;let D:z.Ĕ.H.n=z.n:=by simp[Str.length]
 rw[D]at h1 F B;let hn:=um;let I2:=I1.tok<|s1.Ý+1;show tail_any (typeIs_str _ z t) slot_str_getitem.Å (getItem_str (c:=c) (by
  let e1:ľ (i < -(2^63:ĸ))=ķ:=ai zo;let e2:ľ (i>=2^63)=ķ:=ai zo;rw[e1,e2,vT]) (by rw[h1];simpa using J) %[13,.À ⟨#[c]⟩,H1,I2.tok _,%[_|rb],%[1,_,_,rb,gL _|fm _]|q])<|hs _ _
def tUp (K:W.Ë)(to:TE):TE:=λT H Q=>to T H λx H1=>∃c:Nat,x=.À (S [c])/\c<128/\Q (.À<|S [up1 c]) H1
def aix {apos cpos:Pos}(G:GE X o to)(j:ŵ (attributeBase o "upper" X.Ç (Ŏ o X.Ç)=Ŏ o X.Ç) Ŷ)(B:ŵ ((apos.endLine==cpos.line)=Ĵ) Ŷ):GE X (.ĭ (.Ā o "upper" apos) [] [] cpos) (tUp X.K to):=by
 calc⟨λao s T H Q I h=>?_⟩;calc wpAny_Call_method0_late j B<|bM (G.Û ao s T H _ I h) λv s1 N=>?_;let(x,H1,I1,r1,M,c,e,J,q):=N;subst e;let(t,rfl):=r1;let(_,t',O,D,L):=M;refine⟨22,"str","str.upper",b9,PySem.F.slot_str_upper,PySem.F.type_str_upper,typeIs_str s1 _ t,λ_ e=>(nomatch e),kN rb<|PySem.evalArgs_none ?_⟩
 .let g:Builtin.Str.tooLong (Txt.upper<|S [c]).n=ķ:=fit_upper (by rw[j9];show av (show 1<=1000 by decide) zt);calc call_gives F.slot_str_upper (typeIs_str s1 _ t) F.entry_str_upper (F.args_str_upper_1 _) (gives_str_upper (S [c]) t g) %[fit_le g|?_];let e:Txt.upper (S [c])=S ([c].Q up1):=by rw[upper_ascii (x:=S [c]) (λd hd=>by rw[al.mp hd];show J)];simp[S]
  show%[13,.À<|S [up1 c],H1,I1.tok _,%[s1.Ý|congrArg (λz=>Value.À z s1.Ý) e],%[1,_,s1.Ý,rb,ja D L|fm _]|q]
end
theorem Qd:∀{l:İ ı} {c i:ı},l[i]?=į c->(∀k,k<i->l[k]?≠į c)->l.Ã i++l.Ì (i+1)=l.ć c
 | [],_,_,h,_=>by simp at h
 | d::l,c,0,h,_=>by
  have:d=c:=by simpa using h
  subst this;simp
 | d::l,c,i+1,h,hk=>by let hd:d≠c:=λe=>hk 0 zo (by simp[e]);let j:=Qd (l:=l) (c:=c) (i:=i) (by simpa using h) (λk g=>by have:=hk (k+1)<|ny g;simpa using this);rw[r8 (by simpa using hd),<-j];simp
open Builtin.Str in
def aco (l)(c)(h:c∈l):∃i,occurrences (S l) (S [c]) 0 (S l).n 1=[i]/\glued (S []) (partsBetween (S l) [i] (S [c]).n)=S (l.ć c):=by
 let hn:(S l).n=l.n:=j9 l;rcases StrLaws.occ_head (S l) (S [c]) 1 (ag 1) with⟨g,hk⟩|⟨i,r,g,hi,hk⟩
 .let(i,hi):=lL.mp h;show Ł ((iP (S l) c i).á hi)<|hk i
 .let B:=StrLaws.occ_length_le (S l) (S [c]) 0 (S l).n 1;rw[g]at B;have:r=[]:=xh (by rw[b8]at B;lia);subst this;let e1:l[i]?=į c:=(iP (S l) c i).mp hi;let e2:∀k,k<i->l[k]?≠į c:=λk j z=>hk k j<|(iP (S l) c k).á z;calc%[0,i,g|?_];let D:i<l.n:=(am.mp e1).1;let e3:partsBetween (S l) [i] (S [c]).n=[strSub (S l) 0 i,strSub (S l) (i+(S [c]).n) (S l).n]:=rfl;rw[e3,Nz,Nz,hn,show (S [c]).n=1 from rb,uu,cK,<-Qd e1 e2];show (⟨(S<|l.Ã i).Ĕ++(S []).Ĕ++(S<|l.Ì<|i+1).Ĕ⟩:ņ)=_;unfold S;congr 1;apply kX.mp;simp
def cB (c:ı):ı:=if 65<=c/\c<=90 then 63 else c
def Xb (a b:ı):(!ľ ([b]<[a]))=ľ (a<=b):=by
 by_cases h:a<=b;.rw[aw h,ai (by simp[gu];show h)];rfl
 .rw[ai h,aw (by simp[gu];show wb h)];rfl
structure G8 (P:ń)(w:ŉ)(K:W.Ë)(mg:ņ->ĵ ĳ)(base:Ň)(f:Ķ)(fd:Ŕ):Prop where
 run:∀(A:ň) (outer:İ Env) (s:Ļ) (H:Hp) (args:Args) (c:ı) (t:Tok),eG 1 A->yJ P w K mg base A outer s H->Ť s fd args ([("sign":ņ)].Ĩ [Value.À (S [c]) t])->0<t->t<s.Ý->
  codeAny (Ľ P w) A (.call (.v f) args) (λr s'=>∃u,r=.ok (.ret u)/\CE outer P w H s (λv H'=>v=.À (S [cB c])/\H'=H) u s'/\Good u s'.Ý) s
def aeJ {K:W.Ë}{mg:ņ->ĵ ĳ}{st:Ŋ}{x1 x2 x3:ņ}{j1 j3 j5:_}(F:iH K "tile_of" "tile_of" st f fd)(M:aW ["sign"] ["sign"] (aH st))(j:(aH st).Ú.Å ("sign":ņ)=į .û)(hb:cR st=[.Return (į<|.IfExp (.Compare (.ą (.À x1) j1 p1) [.LtE,.LtE] [.ë "sign" p2,.ą (.À x3) j3 p3] p4) (.ą (.À x2) j5 p5) (.ë "sign" p6) p7) p8])(h1:x1=S [65])(h2:x2=S [63])(h3:x3=S [90]):G8 P w K mg base f fd:=by
 subst h1 h2 h3;let(oc,od,kV,doc,pm,an,bF,ct,osl,rfl,lk,hcd):=F.ex;calc⟨λA outer s H args c t hr N hbd t0 t1=>?_⟩;let KX:K.In s.C:=N.mod.N7.Ğ λb o e=>(N.bs b o e).1;let lim:s.C.NoLimit:=N.mod.nolimit.Ğ λb o e=>(N.bs b o e).1;let D:∀y∈[("sign":ņ)].Ĩ [Value.À (S [c]) t],(aH st).Ú.Å y.1=į .û\/((aH st).Ú.Å y.1=į .ø/\((cellsFrom (s.d+1) (aH st).Ú []).Å y.1).Ě=Ĵ):=λ⟨n,v⟩ hy=>by let hn:n="sign":=al.mp (sT hy).1;subst hn;show .Â j
 calc codeAny_call_function hr.depth (KX _ _ lk) rb M.co M.gen rb (W.codeRec_of KX hcd)<|hbd _ _ _ _ ?_;calc qp<|sn M.ý D λenv he s1 x ht=>?_;subst he;calc%[lim.Ğ x.toInCall.keep|codeAny_func ?_];let I:aM (pH fP P w K mg base ["sign"] "tile_of" (aH st) f bF A outer s H E0) [] (start ["sign"] [.À (S [c])]) H s1:=Aw M hr.hd N rb (.Þ %[t|rb] .ê) x
 let hm:bindL (envOfC "tile_of" (aH st) s.d f bF).Į ([("sign":ņ)].Ĩ [Value.À (S [c]) t]) (λ_=>Ĳ) "sign"=į (Value.À (S [c]) t):=Av (i:=0) (P:=["sign"]) (vs:=[Value.À (S [c]) t]) zt rb rb j
 let Z:s1.C.Ns s.d (bindL (envOfC "tile_of" (aH st) s.d f bF).Į ([("sign":ņ)].Ĩ [Value.À (S [c]) t]) λ_=>Ĳ):=x.toInCall.ns;show ļ _ _ (execs (cR st) _) _ _ s1;rw[hb];let L:t<s1.Ý:=bq t1 ht;let nm:∀(tk:ı) (p:Pos) (Q:AB) (E:AB),Q (.À (S [c]) t) {s1 with toks:=tk}->
   ļ (Ľ P w) (A.deeper<|envOfC "tile_of" (aH st) s.d f bF) (Ŏ (.ë "sign" p)<|envOfC "tile_of" (aH st) s.d f bF) Q E {s1 with toks:=tk}:=λtk p Q E q=>
  uk (wn M.ý j Z hm q) zt
 let G:∀(g:ı) (y:Tok) (d:ı),d=cB c->0<y->y<g->∃u,(Except.ok (Flow.ret<|.À (S [d]) y):Result)=.ok (.ret u)/\CE outer P w H s (λv H'=>v=.À (S [cB c])/\H'=H) u {s1 with toks:=g }/\Good u g:=λg y d hd a2 a3=>by let J:=I.tok g;subst hd;show%[30,_,rb,%[28,.À<|S [cB c],H,J.os,J.bare,J.ð,J.ì,%[y|rb],rb|rb],_,y,rb,a2|a3]
 calc oC<|wpAny_Return_some<|wpAny_IfExp<|isTrue_chain<|pM<|test_link<|nm _ _ _ _<|zi<|fe ?_;let B:∀a:ı,(S [a]).Ĕ.H=[a]:=λa=>rfl;rw[B,B,Xb];by_cases Y:65<=c
 .rw[aw Y];calc ite_tt<|test_last<|pM<|zi<|fe ?_;rw[B,B,Xb];by_cases O:c<=90
  .rw[aw O];calc ite_tt<|pM ?_;show G (s1.Ý+1+1+1) (s1.Ý+1+1) 63 (ĺ %[Y|O]).Ò (gL _)<|fm _
  .rw[ai O];show ite_ff<|nm _ _ _ _<|G (s1.Ý+1+1) t c (if_neg λz=>O z.2).Ò t0<|bq L<|iF s1.Ý 2
 .rw[ai Y];show ite_ff<|ite_ff<|nm _ _ _ _<|G (s1.Ý+1) t c (if_neg λz=>Y z.1).Ò t0<|bq L<|fA _
section
variable {X:Cx}{ao:AC}{C:St}{H:Hp}{s:Ļ}
variable {prog:ń}{w:ŉ}{A:ň}{E:AB}
def Xc (X:Cx)(s:Ļ)(x:ņ)(u:ĳ):Prop:=∃m,s.C.Ns X.Ç.Đ m/\Look X.Ç s.C m x u
def uG {E:AB}{x:ņ}{u:ĳ}{pos:Pos}{Q:AB}(I:aM X ao C H s)(h:Xc X s x u)(q:Q u s)(hd:ŵ ((x==("__debug__":ņ))=ķ) ŷ)(j:ŵ ((x==("__classdict__":ņ))=ķ) ŷ):ļ (Ľ X.Ï X.w) X.A (Ŏ (.ë x pos) X.Ç) Q E s:=by
 let(m,hn,l):=h;rcases l with⟨hk,hm⟩|⟨hk,c,B,g⟩;.show uk (wn I.ok.ý hk hn hm q) hd
 .rcases hk with hk|hk;.show uk (wpAny_loadName_cell I.ok.ý hk B g q) hd
  .show uk (wpAny_loadName_free I.ok.ý hk B g q j) hd
def wI (ir is it il : ı)(tb : TS)(c : ı) : TS := λD C H => ∃l : İ ı, (((C.ē is<|į<|.À<|S [c]).ē it<|į<|.À<|S [cB c]))[ir]? = į (į<|.À<|S l) /\ l.n <= 1000 /\
  (if cB c ∈ l then tb {nx := D.nx, rt := D.rt} (((C.ē is<|į<|.À<|S [c]).ē it<|į<|.À<|S [cB c]).ē il<|į<|.À<|S<|l.ć<|cB c) H
   else D.nx ((C.ē is<|į<|.À<|S [c]).ē it<|į<|.À<|S [cB c]) H)
def ajo (ir is it il:ı)(G B:TE)(tb:TS):TS:=λD C H=>G C H λx1 H1=>B C H1 λF J=>∃j g:Nat,x1=.À (S [j])/\F=.À (S [g])/\
 wI ir is it il tb j {nx:=wI ir is it il tb g D,rt:=D.rt} C J
structure Xd (X:Cx)(ir is it il:ı)(f:Ķ)(fd:Ŕ):Prop where
 nd:X.N.Ö
 r:X.N[ir]?=į "rack"
 s:X.N[is]?=į "sign"
 t:X.N[it]?=į "tile"
 l:X.N[il]?=į "left"
 vr:Yq X.Ç.č "rack"
 vs:Loc X.Ç.č "sign"
 vt:Loc X.Ç.č "tile"
 vl:Loc X.Ç.č "left"
 fs:X.fn "sign"=Ĵ
 ft:X.fn "tile"=Ĵ
 fl:X.fn "left"=Ĵ
 T:G8 X.Ï X.w X.K X.mg X.ð f fd
 b:cV X.K fd ["sign"] []
 m:X.mg "tile_of"=į (.v f)
 k:W.Ċ X.K (.v f)=Ĵ
 g:Gl X "tile_of"
 rm:eG 1 X.A
abbrev Jv (x0 : ņ)(j0 j1 : ı)(La Lb pk2 Ld Le Vg Vh Vi Lf Lg wJ zq zu zx wK BR Jw : Pos)(rest : İ Ŋ) : İ Ŋ :=[.Assign [.ë "tile" La] (.ĭ (.ë "tile_of" Lb) [.ë "sign" pk2] [] Ld) Le,
   .If (.Compare (.ë "tile" Vg) [.In] [.ë "rack" Vh] Vi) (.Assign [.ë "left" Lf] (.ĭ (.Ā (.ë "rack" Lg) "replace" wJ) [.ë "tile" zq, .ą (.À x0) j0 zu, .ą (.I 1) j1 zx] [] wK) BR::rest) [] Jw]
def aac (Y:Xd X ir is it il f fd)(I:aM X ao C H s):ļ (Ľ X.Ï X.w) X.A (assign (.ë "sign" p1) X.Ç<|.À (S [c]) t) (λ_ s2=>aM X ao (C.ē is<|į<|.À<|S [c]) H s2/\Xc X s2 "sign" (.À (S [c]) t)/\s.Ý<=s2.Ý) X.xe s:=qp (x_<|vD I Y.nd Y.s Y.vs (v:=.À (S [c])) %[t|rb] (λs' g _ ex j=>%[g,ex|j])<|.Â Y.fs)
def acp {ir is it il:ı}{c:ı}{t:Tok}{x0:ņ}{O Z:ı}{La Lb B Ld Le Vg Vh Vi Lf Lg wJ zq zu zx wK BR Jw:Pos}{rest:İ Ŋ}{D:Ends}(Y:Xd X ir is it il f fd)(N:x0=S [])(hl1:(wJ.endLine==wK.line)=Ĵ)(hs1:swapsWith (.ĭ (.ë "tile_of" Lb) [.ë "sign" B] [] Ld) (į<|.ë "tile" La) Le.line X.Ç=pure ķ)(hs2:swapsWith (.ĭ (.Ā (.ë "rack" Lg) "replace" wJ) [.ë "tile" zq,.ą (.À x0) O zu,.ą (.I 1) Z zx] [] wK) (į<|.ë "left" Lf) BR.line X.Ç=pure ķ)(g:vG X rest tb)(I:aM X ao (C.ē is<|į<|.À<|S [c]) H s)(ex:Xc X s "sign" (.À (S [c]) t))(t0:0<t)(t1:t<s.Ý)(q:wI ir is it il tb c D C H):ļ (Ľ X.Ï X.w) X.A (execs (Jv x0 O Z La Lb B Ld Le Vg Vh Vi Lf Lg wJ zq zu zx wK BR Jw rest) X.Ç) (SP X ao {nx:=D.nx,rt:=D.rt}) X.xe s:=by
 subst N;let(l,hl,hz,q):=q;calc oC<|ya (ly<|CQ I Y.g Y.m ?_ zt) hs1;calc tJ (h₀:=X.base) I.ok.mod.N7 Y.k (f_<|uG I ex<|ox %[I.j7|?_]) rb rfl;calc ul<|iN (Y.T.run X.A X.ĝ s H %[[.À (S [c]) t]|[]] c t Y.rm I.env0 (Y.b s [.À (S [c]) t] I.j7 rb) t0 t1) λr s1 hr=>?_;let(u,rfl,ce,y,L,hy,g0,g1):=hr;let(v,H1,I1,rv,ev,eH):=I.after ce;subst ev eH hy;let(y2,ey):=rv;injection ey with ey1 ey2;subst ey1 ey2;calc qp<|vD I1 Y.nd Y.t Y.vt (v:=.À (S [cB c])) %[L|rb] (λs2 I2 _ j ht=>?_)<|.Â Y.ft;let g2:L<s2.Ý:=bq g1 ht;let(m,hn,hlm):=id I2.loc;let(ur,(M,er),lr):=hlm ir "rack" _ Y.r hl Y.vr;subst er;let J:Xc X s2 "rack" (.À (S l) M):=%[0,m,hn|lr]
 calc oC<|wpAny_If<|wpAny_isTrue_Compare1 (uG I2 j<|uG I2 J<|in_str<|fe ?_) (by with_unfolding_all rfl);let ein:(!(Builtin.Str.occurrences (S l) (S [cB c]) 0 (S l).n 1).isEmpty)=ľ (cB c∈l):=by let e:=StrLaws.found_one (S l)<|cB c;rw[adH]at e;rw[show (S [cB c])=(⟨#[cB c]⟩:ņ) from rb,e]
 rw[ein];by_cases G:cB c∈l
 .rw[ĺ G]at q;rw[aw G];calc ite_tt<|oC<|ya (wpAny_Call_method_late rb rb hl1 rb<|uG I2 J ?_) hs2;calc⟨22,"str","str.replace",b9,PySem.F.slot_str_replace,PySem.F.type_str_replace,typeIs_str s2 _ M,λ_ e=>(nomatch e),?_⟩;calc kN rb<|rX ?_;show ļ _ _ (spliced<|(ķ,Ŏ (.ë "tile" zq) X.Ç)::(ķ,Ŏ (.ą (.À<|S []) O zu) X.Ç)::(ķ,Ŏ (.ą (.I 1) Z zx) X.Ç)::[]) _ _ _;calc f_<|uG I2 j<|f_<|pM<|f_<|xv<|ox ?_;let(i,ho,vV):=aco l (cB c) G;refine call_gives F.slot_str_replace (typeIs_str _ _ M) F.entry_str_replace (F.args_str_replace_4 _ _ _ _) (Jo (S l) (S [cB c]) (S []) M L s2.Ý _ λ_=>%[?_,?_,?_|?_]) ?_
  .have:L≠0:=ib g0;have:s2.Ý≠0:=ib<|ja g0 g2;simp[*]
  .have:L≠s2.Ý:=bb g2;simpa using this
  .rfl
  .rw[ho];unfold Builtin.Str.tooLong;rw[j9,show (S []).n=0 from rb,Nat.mul_zero,y7];show ai (by have:=aJ (n:=l.length) hz;lia)
  rw[ho];let e0:(([i]:İ ı).isEmpty||((S [cB c]).n==0&&(S []).n==0))=ķ:=rfl;rw[Ĺ (by rw[e0];decide),vV];calc%[?_|?_];.rw[j9];show av wt<|ar<|aJ zo
  .let I3:=I2.tok<|s2.Ý+1+1+1;calc Eu I3 Y.nd Y.l Y.vl (v:=.À (S<|l.ć<|cB c)) %[_|rb] (λs3 I4=>?_)<|.Â Y.fl;calc bM (g.Û ao s3 _ _ {nx:=D.nx,rt:=D.rt} I4 q) λfl s4 z=>?_;cases fl with| next=>show md z| ret v=>show z| brk=>show z| cont=>show z
 .rw[Ĺ G]at q;rw[ai G];show ite_ff<|md<|md %[4,_,_,I2|q]
def agS {ir is it il:ı}{x0:ņ}{j0 j1:ı}{La Lb pk2 Ld Le Vg Vh Vi Lf Lg wJ zq zu zx wK BR Jw:Pos}{rest:İ Ŋ}{e1 e2:ŋ}{kt:_}(Y:Xd X ir is it il f fd)(hx0:x0=S [])(hp:Ū (Ľ X.Ï X.w) X.A X.Ç X.xe)(hcm:X.ī=Ĵ)(g1:GE X e1 t1)(g2:GE X e2 t2)(hl1:(wJ.endLine==wK.line)=Ĵ)(hs1:swapsWith (.ĭ (.ë "tile_of" Lb) [.ë "sign" pk2] [] Ld) (į<|.ë "tile" La) Le.line X.Ç=pure ķ)(hs2:swapsWith (.ĭ (.Ā (.ë "rack" Lg) "replace" wJ) [.ë "tile" zq,.ą (.À x0) j0 zu,.ą (.I 1) j1 zx] [] wK) (į<|.ë "left" Lf) BR.line X.Ç=pure ķ)(hst:Ņ [e1,e2] X.Ç=[(ķ,Ŏ e1 X.Ç),(ķ,Ŏ e2 X.Ç)])(hs:∀x,foldedSetIterable (.ģ [e1,e2] kt p2) X.Ç x=pure x)(N:vG X rest tb):QS X (.For (.ë "sign" p1) (.ģ [e1,e2] kt p2) (Jv x0 j0 j1 La Lb pk2 Ld Le Vg Vh Vi Lf Lg wJ zq zu zx wK BR Jw rest) [] pos) (ajo ir is it il t1 t2 tb):=by
 calc⟨λao s C H D I h=>?_⟩;calc wpAny_For (wpAny_Tuple_spliced ?_) hs;rw[hst];show ļ _ _ (spliced<|(ķ,Ŏ e1 X.Ç)::(ķ,Ŏ e2 X.Ç)::[]) _ _ s;calc f_<|bM (g1.Û ao s C H _ I h) λu1 s1 ⟨v1,H1,I1,r1,gd1,q1⟩=>f_<|qp<|fq (g2.Û ao s1 C H1 _ I1 q1) (λu2 s2 ⟨v2,H2,I2,r2,gd2,q2⟩ ht=>ox %[show 2<=Ŀ by decide|?_]) λ_ _ z _=>z;let(J,G,ev1,ev2,q):=q2;subst ev1 ev2;let(g,rfl):=r1;let(j,rfl):=r2;let(_,_,eg,a0,a1):=gd1;injection eg with eg1 eg2;subst eg1 eg2;let(_,_,eg,b0,b1):=gd2;injection eg with eg1 eg2;subst eg1 eg2;let a2:g<s2.Ý:=bq a1 ht;let I3:aM X ao C H2 {s2 with heap:=s2.C.Í {cls:=.È "tuple",data:=.ú [Value.À (S [J]) g,Value.À (S [G]) j].R} }:=I2.ě (t':=s2.toks) λb o e=>af _ e;let sZ:(s2.C.Í {cls:=.È "tuple",data:=.ú [Value.À (S [J]) g,Value.À (S [G]) j].R}).Á s2.d=į {cls:=.È "tuple",data:=.ú [Value.À (S [J]) g,Value.À (S [G]) j].R}:=a6 _ rfl;let O:iB X ao H2 s2.d:=I2.mH (ag _)<|I2.ì.ß<|ag _;let hT:∀h:Ň,h.Á s2.d=į {cls:=.È "tuple",data:=.ú [Value.À (S [J]) g,Value.À (S [G]) j].R}->h.IsTuple s2.d [Value.À (S [J]) g,Value.À (S [G]) j].R:=λh e=>%[34,_,e,rb,_|rb]
 calc pT (hT _ sZ) ?_;generalize hob:({cls:=.È "tuple",data:=.ú [Value.À (S [J]) g,Value.À (S [G]) j].R}:Obj)=Lh at I3 sZ hT ⊢;generalize ha:s2.heap.objs.size=a at I3 sZ O hT ⊢;generalize hs3:({s2 with heap:=s2.C.Í Lh}:Ļ)=s3 at I3 ⊢;let ht3:s3.Ý=s2.Ý:=by rw[<-hs3]
 let acq:s3.C.Á a=į Lh:=by rw[<-hs3];show sZ
 let fit:iB X ao H2 s3.d:=I3.mH (ag _)<|I3.ì.ß<|ag _;let nia:s3.d≠a:=λz=>by rw[<-z]at acq;show Ł (a9 acq)<|kP _
 refine(let S3:ı->St->Hp->Prop:=λn F H'=>match n with| 0=>D.nx F H'| 1=>wI ir is it il tb G D F H'| _=>wI ir is it il tb J {nx:=wI ir is it il tb G D,rt:=D.rt} F H';?_)
 refine(let fp:İ Ķ:=[s3.d,a];?_)
 let M:∀{H':Hp},(∀b∈fp,H' b=Ĳ)->∀b∈fp,iB X ao H' b:=λhn b B=>%[hn b B|by
  rcases a_.mp B with z|z;.rw[z];show fit.2
  .rw[al.mp z];show O.2]
 refine codeAny_forLoop_any (λn s'=>n<=2/\∃F H',aM X ao F H' s'/\s'.C.ħ s3.d a (2-n)/\s'.C.Á a=į Lh/\(∀b∈fp,H' b=Ĳ)/\s2.Ý<=s'.Ý/\S3 n F H') ?_ 2
  %[8,ag _,C|%[38,H2,I3.ě (t':=s3.toks) λb o e=>af _ e,%[2,_,a6 _ rb,rb|rb],af _ acq,λb B=>by
   rcases a_.mp B with z|z;.rw[z];show fit.1
   .rw[al.mp z];show O.1,by show s2.Ý<=s3.Ý;lia|q]]
 intro n s4 z;let(hn,C4,H4,I4,eV,ho4,Uv,tk4,q4):=z;let hf:=M Uv s3.d (by simp[fp]);let(f0,f1,f2,f3,f4,f5):=hf;let one:∀(k:ı) (c:ı) (tk:Tok) (D':Ends),n=k+1->[Value.À (S [J]) g,Value.À (S [G]) j].R[2-n]?=į (Value.À (S [c]) tk)->0<tk->tk<s2.Ý->D'.rt=D.rt->(∀F H',D'.nx F H'->S3 k F H')->wI ir is it il tb c D' C4 H4->
   ļ (Ľ X.Ï X.w) X.A (pyNext<|.v s3.d) (λr s₁=>match r with
   | none=>ļ (Ľ X.Ï X.w) X.A (execs [] X.Ç) (λf L=>SP X ao D f L) (notedBy (Ľ X.Ï X.w) X.A X.Ç λe s'=>cameBackBy (Ľ X.Ï X.w) X.A X.Ç X.xe e s') s₁
   | some v=>ļ (Ľ X.Ï X.w) X.A (letOwnedTupleGo (.ë "sign" p1) (.v s3.d) v) (λ_ s₁'=>
     ļ (Ľ X.Ï X.w) X.A (assign (.ë "sign" p1) X.Ç v) (λ_ s₂=>ļ (Ľ X.Ï X.w) X.A (execs (Jv x0 j0 j1 La Lb pk2 Ld Le Vg Vh Vi Lf Lg wJ zq zu zx wK BR Jw rest) X.Ç) (λf L=>match f with
      | .next|.cont=>∃m,m<n/\(m<=2/\∃F H',aM X ao F H' L/\L.C.ħ s3.d a (2-m)/\L.C.Á a=į Lh/\(∀b∈fp,H' b=Ĳ)/\s2.Ý<=L.Ý/\S3 m F H')
      | .brk=>SP X ao D .next L
      | .ret v=>SP X ao D (.ret v) L) (notedBy (Ľ X.Ï X.w) X.A X.Ç λe s'=>cameBackBy (Ľ X.Ï X.w) X.A X.Ç X.xe e s') s₂) (notedBy (Ľ X.Ï X.w) X.A X.Ç λe s'=>cameBackBy (Ľ X.Ï X.w) X.A X.Ç X.xe e s') s₁') (notedBy (Ľ X.Ï X.w) X.A X.Ç λe s'=>cameBackBy (Ľ X.Ï X.w) X.A X.Ç X.xe e s') s₁) (notedBy (Ľ X.Ï X.w) X.A X.Ç λe s'=>cameBackBy (Ľ X.Ï X.w) X.A X.Ç X.xe e s') s4:=by
  intro k c tk D' hk hit k0 k1 hrt hnx hq;calc gv hp<|qp<|wpAny_pyNext_tuple_item eV (hT _ ho4) (x:=Value.À (S [c]) tk) hit λh' st' sb xW=>?_;let I5:aM X ao C4 H4 {s4 with heap:=h' }:=I4.Ħ (t':=s4.toks) (λb o B e=>(sb.2 b B).X e) f0 f1 f3 f4 f5;let(o5,e5,c5,d5):=id st';let Z:h'.Á a=į Lh:=(sb.2 a<|mI nia).X ho4;calc gv hp<|CV (s:={s4 with heap:=h' }) e5 c5 d5 zt ?_;let I5':=I5.pinned (M Uv) (λb B=>by
   rcases a_.mp B with z|z;.rw[z];show%[0,o5,e5|λv z=>by rw[d5]at z;cases z]
   .rw[al.mp z];show%[0,Lh,Z|λv z=>by rw[<-hob]at z;cases z])
  calc gv hp<|bM (aac Y I5' (t:=tk) (c:=c) (p1:=p1)) λ_ s6 zz=>?_;let(I6,ex6,t6):=zz;calc gv hp<|qp<|fq (acp Y hx0 hl1 hs1 hs2 N I6 ex6 k0 (show tk<s6.Ý from bq (bq k1 tk4) t6) hq) (λf s7 q7 ht7=>?_) λ_ _ z _=>z;cases f with
  | next=>
   let(C7,H7,I7,n7):=q7;let pn:∀b o,b∈fp->h'.Á b=į o->s7.C.Á b=į o/\H7 b=Ĳ:=λb o B e=>by have:=I7.pin (b,o)<|de _<|de _<|lC B e;show%[this.1|this.2.1]
   let mi:s3.d∈fp:=aE;let ma:a∈fp:=ay _<|al.á rb;refine%[2,k,by simp_all,zo|%[22,C7,H7,I7.mJ,?_,(pn a Lh ma Z).1,λb B=>?_,av tk4<|av t6 ht7|hnx _ _ n7]]
   .let e2:2-k=2-n+1:=fb zo;rw[e2];show st'.at λo e=>(pn _ o mi e).1
   .rcases a_.mp B with z|z;.rw[z];show(pn _ o5 mi e5).2
    .rw[al.mp z];show(pn a Lh ma Z).2
  | cont=>let(_,_,_,z):=q7;show z.í
  | brk=>let(_,_,_,z):=q7;show z.í
  | ret v=>let(x7,C7,H7,I7,r7,q7):=q7;show%[27,x7,C7,H7,I7.mJ,r7|hrt ▸ q7]
 rcases(show n=0\/n=1\/n=2 by lia) with e|e|e
 .subst e;calc gv hp<|wpAny_pyNext_tuple_end (I4.ok.hd hcm) eV (hT _ ho4) zr λh' eb=>?_;show md %[4,C4,H4,I4.Ħ (t':=s4.toks) (λb o B e=>eb b o B e) f0 f1 f3 f4 f5|q4]
 .subst e;show one 0 G j D rb zr b0 b1 rb (λ_ _ z=>z) q4
 .subst e;show one 1 J g {nx:=wI ir is it il tb G D,rt:=D.rt} rb zr a0 a2 rb (λ_ _ z=>z) q4
open Classical in
def agT (L:X.A.ã+64<cLine):gF X (compareOp .In) (agt X.K ķ):=by intro ao s C H x y v u Q I F D h;let(n,d,es,hn,hd,g,q):=h;let(as,J):=hd.reads I F;let(bs,B):=g.reads I D;let G:=hd.lay;let j:=g.lay;rw[toP]at B;simp only[toP,PyData.canLay0,PyData.depth]at j;calc SeqAt.in_tuple_reads B J j.1 G.1 (by have:=v_ (PyData.depthAll<|fM es) (toP d).depth;lia) %[1,.bl _,H,I,rb|?_];rw[Jf];show q
def aeK {X:Cx}(K:W.Ë)(g:X.A.ã+64<cLine)(h:ŵ (X.K=K) Ŷ):gF X (compareOp .In) (agt K ķ):=by subst h;show agT g
def Mv (x k):checkTypeCall "enumerate" %[[x]|[(Str.ï "start",k)]]=pure ():=by kernel_rfl
def Qe (x k):checkBuiltinCall "enumerate.__new__" %[[.È "enumerate",x]|[(Str.ï "start",k)]]=pure ():=by kernel_rfl
def Mw (o x k):argsOk "object.__init__" %[[o,x]|[(Str.ï "start",k)]]:=by first|show .of_eq zC|show zC|trivial
def aiy (x:ņ)(t:Tok)(k:ı)(tk:Tok)(hk:k<1000):ų (Builtin.«enumerate.__new__» %[[.È "enumerate",.À x t]|[(Str.ï "start",.I (k:Int) tk)]]) (λ_ R s=>
   R (.ok<|.ret<|.v (s.C.Í {cls:=.È<|strIterType x,data:=.ä #[.À x t,.I 0 0]}).Y.E)
    {s with heap:=(s.C.Í {cls:=.È<|strIterType x,data:=.ä #[.À x t,.I 0 0]}).Í {cls:=.È "enumerate",data:=.ä #[.Ø,.ĉ ķ,.v s.d,œ k,.Ø,.Ø]} }):=
 .of_wp λprog w A R s h=>by
  let(hp,g,d,D,os):=s;let B:=sub_enumerate;let j:Builtin.Ī.fitsIndex (k:ĸ)=Ĵ:=by unfold Builtin.SmallTypes.fitsIndex;simp only[eD,oy];lia
  let e1:Builtin.Ī.indexObject "enumerate.__new__" (Value.I (k:ĸ) tk)=pure (Value.I (k:ĸ) tk):=by kernel_rfl
  let e2:asInt? (Value.I (k:ĸ) tk)=pure (į (k:ĸ)):=by kernel_rfl
  wp_walk
  refine wpAny_stack_any λst=>ah ?_
  split
  .rename_i c _ _ _ _ _;cases(c==Value.È "enumerate")
   .dsimp only;simp only[be,if_false,if_true];calc ab ?_;refine qA (a:=(Value.À x t,į<|Value.I (k:ĸ) tk)) ?e ?_
    (case e=>kernel_rfl)
    simp only[e1,pure_bind,e2,j,fR,be,if_false]
    wp_walk using re
    show%[0,_,rb|h]
   .dsimp only;simp only[be,if_false,if_true];calc ab ?_;refine qA (a:=(Value.À x t,į<|Value.I (k:ĸ) tk)) ?e ?_
    (case e=>kernel_rfl)
    simp only[e1,pure_bind,e2,j,fR,be,if_false]
    wp_walk using re
    show%[0,_,rb|h]
  .dsimp only;simp only[be,if_false,if_true];calc ab ?_;refine qA (a:=(Value.À x t,į<|Value.I (k:ĸ) tk)) ?e ?_
   (case e=>kernel_rfl)
   simp only[e1,pure_bind,e2,j,fR,be,if_false]
   wp_walk using re
   show%[0,_,rb|h]
def Jx (B:typeLookup (.È T) "__init__"=pure (į<|.Ó "object.__init__"))(hm:Bind.madeBy (.È T)=pure (į newId))(j:(į newId != į "object.__new__")=Ĵ):ų (Builtin.«object.__init__» %[[self,a]|kw]) (λ_ R s=>s.ċ self T/\R (.ok<|.ret .Ø) s):=by
 calc Meets.of_wp λprog w A R s hs=>?_;let(D,g):=hs
 repeat (any_goals (first|assumption|wp_step))
 show%[0,_,rb|g]
def Tj {T B j:ŕ}{Bn Bi:Builtin}{F:İ (ņ×ĳ)}{S:PySem.Spec}{Q Q₁:AB}(ft:TypeCalled T B j)(hct:checkTypeCall T %[args|F]=pure ())(Z:checkBuiltinCall B %[.È T::args|F]=pure ())(N:entryFor table B=į Bn)(D:entryFor table j=į Bi)(g:ų (Bn %[.È T::args|F]) S)(h:S A.ę (wants Q₁ E) s)(J:∀obj L,Q₁ obj L->L.ċ obj T/\argsOk j %[obj::args|F]/\∃M,ų (Bi %[obj::args|F]) M/\M A.ę (wants (λr s₂=>r=.Ø/\Q obj s₂) E) L):ļ (Ľ prog w) A (call (.È T) args F) Q E s:=by
 let(c,tl,hmro):=ft.mro;let Y:=ft.made;let hsub:=ft.sub;calc ul<|wx ?_;show ļ _ _ (callAny (.È T) _) _ _ _;calc ah %[xy _ zD|iS ye ?_];rw[xz (weight_type_call_type T args F) (units_type_call_type T args F)];let h1:=ft.notType;let h2:=ft.canCreate
 repeat (any_goals (first|assumption|wp_step))
 calc iN (r_ ft.plain N<|qA Z<|g prog w A.ę _ s h) λr L hr=>?_;cases r with
 | error e=>show hr
 | ok fl=>
  cases fl with
  | ret obj=>
   let(hT,hok,M,gi,O):=J _ _ hr;let hli:=ft.init.Å;let hbi:=ft.init.bind obj
   repeat (any_goals (first|assumption|wp_step))
   calc iN (r_ ft.init.plain D<|ft.init.check _ _ _ _ _ _ _ _ hT hok<|gi prog w A.ę _ L O) λr₂ s₂ G=>?_;cases r₂ with
   | error e=>show G
   | ok fl₂=>
    cases fl₂ with
    | ret r=>
     let(rfl,hq):=G
     repeat (any_goals (first|assumption|wp_step))
    | _=>show G.í
  | _=>show hr.í
def Tn {x:ņ}{t tk:Tok}{k:ı}(hk:k<1000){Q:AB}(h:∀h',Ũ h' (s.d+1) s.d k .Ø->h'.Ġ s.d (strIterType x) x t 0->h'.Y.E=s.d+2->
   (∀b o,s.C.Á b=į o->h'.Á b=į o)->Q (.v<|s.d+1) {s with heap:=h' }) :
  ļ (Ľ prog w) A (call (.È "enumerate") [.À x t] [(Str.ï "start",.I (k:ĸ) tk)]) Q E s:=by
 refine Tj (Q₁:=λobj B=>B.ċ obj "enumerate"/\Q obj B) tS (Mv _ _) (Qe _ _) F.entry_enumerate_new F.entry_object_init (aiy x t k tk hk) ?_
  λobj _ g=>%[g.1,Mw obj _ _,_,Jx tS.init.Å tS.made zt,g.1,rb|g.2]
 let hz:(s.C.Í {cls:=.È<|strIterType x,data:=.ä #[.À x t,.I 0 0]}).Y.E=s.d+1:=eM ..;show _/\_;rw[hz];let j:Ũ ((s.C.Í {cls:=.È<|strIterType x,data:=.ä #[.À x t,.I 0 0]}).Í
   {cls:=.È "enumerate",data:=.ä #[.Ø,.ĉ ķ,.v s.d,œ k,.Ø,.Ø]}) (s.d+1) s.d k .Ø:=by
  have:=a6 (s.C.Í {cls:=.È<|strIterType x,data:=.ä #[.À x t,.I 0 0]})
   (o:={cls:=.È "enumerate",data:=.ä #[.Ø,.ĉ ķ,.v s.d,œ k,.Ø,.Ø]}) rfl
  rw[hz]at this;show this
 refine%[%[0,_,j|rb]|h _ j %[2,_,af _<|a6 _ rb,rb|rb] (by rw[eM,hz]) λb o y=>af _<|af _ y]
def Qf {M:Model}{E:AB}{env:Env}{T:ŕ}{e:ŋ}{rest:İ ŋ}{kws:İ ś}{Q:AB}(h:ļ M A (spliced<|backTo pos<|starEach (e::rest) env) (λvs B=>ļ M A (evalAll ((backToKw pos<|keywordEach kws env).Q (·.2)))
   (λkvs F=>ļ M A (call (.È T) vs (((backToKw pos<|keywordEach kws env).ô (·.1)).Ĩ kvs)) Q E F) E B) E s)
  (G:ŵ (backTo pos (Ņ (e::rest) env)=(ķ,Ŏ e env)::backTo pos (Ņ rest env)) Ŷ)
  (g:ŵ ((backTo pos<|Ņ (e::rest) env).ġ (·.1)=ķ) Ŷ)
  (j:ŵ ((backToKw pos<|keywordEach kws env).all (·.1.Ě)=Ĵ) Ŷ)
  (D:ŵ ((backToKw pos<|keywordEach kws env).ġ (·.1.isNone)=ķ) Ŷ) :
  ļ M A (callWith pos (.È T) [] (backTo pos<|Ņ (e::rest) env)<|backToKw pos<|keywordEach kws env) Q E s:=by
 unfold callWith;rw[G]at h g ⊢;calc ab<|eC<|fq (evalArgs_kwB (f:=.È T) (Q:=λa B=>ļ M A (call (.È T) ([]++a.pos) a.kw) Q E B) j h) (λa B J=>ab<|vS ?_) λ_ _ x=>x;simp only[g,D,vT];calc ab<|ah ?_;show ab<|fq J (λr F L=>ab<|eC<|wpAny_point<|ah L) λ_ _ x=>x
end
def agU (ta tk:TE):TI:=λI H R=>ta I H λx H1=>tk I H1 λy g=>∃(l:İ ı) (k:Nat),[x]=[V.À (S l)]/\[y]=[V.I (k:ĸ)]/\k<1000/\R (Bo l k) g
section
variable {X:Cx}{elts:İ ŋ}{x1:ı}{tp:Pos}
def acr {a e:ŋ}{ta tk:TE}{p pos kpos:Pos}(hg:Gl X "enumerate")(hm:X.mg "enumerate"=Ĳ)(ha:QE X a ta)(hk:QE X e tk)(hs:ŵ (Ņ [a] X.Ç=(ķ,Ŏ a X.Ç)::Ņ [] X.Ç) Ŷ)(M:ŵ (backTo pos (Ņ [a] X.Ç)=(ķ,Ŏ a X.Ç)::backTo pos (Ņ [] X.Ç)) Ŷ)(D:ŵ ((backTo pos<|Ņ [a] X.Ç).ġ (·.1)=ķ) Ŷ)(j:ŵ ((backToKw pos<|keywordEach [%[į<|Str.ï "start",e|kpos]] X.Ç).all (·.1.Ě)=Ĵ) Ŷ)(G:ŵ ((backToKw pos<|keywordEach [%[į<|Str.ï "start",e|kpos]] X.Ç).ġ (·.1.isNone)=ķ) Ŷ)(J:ŵ ((backToKw pos<|keywordEach [%[į<|Str.ï "start",e|kpos]] X.Ç).ô (·.1)=[Str.ï "start"]) Ŷ):QI X (.ģ elts x1 tp) (.ĭ (.ë "enumerate" p) [a] [%[į<|Str.ï "start",e|kpos]] pos) (agU ta tk):=⟨by
 intro ao s T H R I h;calc ly<|nO I hg hm boot_enumerate ?_ zt zt;let Z:=(aj ha aq hs).Û;let Y:=Um (nm:=į (Str.ï "start")) (kpos:=kpos) hk.Û YK;calc Qf (bM (Z pos ao s T H (λvs H1=>tk T H1 λy g=>∃(l:İ ı) (k:Nat),vs=[V.À (S l)]/\[y]=[V.I (k:ĸ)]/\k<1000/\R (Bo l k) g) I ?_) λus s1 ⟨vs,H1,I1,r1,q1⟩=>?_) M D j G;.show h
 .refine bM (Y pos ao s1 T H1 (λO g=>∃(l:İ ı) (k:Nat),vs=[V.À (S l)]/\O=[V.I (k:ĸ)]/\k<1000/\R (Bo l k) g) I1 ?_) λws s2 ⟨O,g,I2,rz,q2⟩=>?_
  .show q1
  .let(l,k,rfl,rfl,L,q):=q2;let(u,rfl,t,rfl):=vals1 r1;let(u2,rfl,t2,rfl):=vals1 rz;rw[J];let B:strIterType (S l)="str_ascii_iterator"\/strIterType (S l)="str_iterator":=by unfold strIterType;split <;> simp
   calc Tn L λh' N F hsz hk=>rg N ?_;calc%[16,s2.d+1,[s2.d+1,s2.d],_,_,g,rb,I2.ě (t':=s2.toks) hk,Gy B l k t s2.d _,%[yo _,ci _,%[_|N]|F],λb hb=>?_|q];rcases a_.mp hb with z|z
   .rw[z];show I2.mH (fA _)<|I2.ì.ß<|fA _
   .rw[al.mp z];show I2.mH (ag _)<|I2.ì.ß<|ag _⟩
end
def aad {l:İ ı}{k:ı}{g:TG}{tb:TS}{D:Ends}{I:St}{H:Hp}(j:ı->St->Hp->Prop)(F:j 0 I H)(hs:∀i c I H T,l[i]?=į c->j i I H->H T=Ĳ->g (.v T) I (upd H T<|.Æ [.I ((k+i:Nat):Int),.À (S [c])]) λI2 B=>tb {D with nx:=j<|i+1,ct:=j<|i+1,bk:=D.nx} I2 B)(hd:∀I H,j l.n I H->D.nx I H):Ao (Bo l k) g tb D I H:=IW l.n j F (λi I H h p=>%[h|λx H' y=>by let(T,c,J,rfl,G,rfl):=y;show hs i c I _ T G p J]) λI H p=>%[ag _|hd I H p]
end L2
namespace L2
open PySem PySem.Spec PyProof.Rows PySem.W
section
variable {prog:ń}{w:ŉ}{A:ň}{E:AB}{s:Ļ}{z ti to u v a:Ķ}{i:ı}{f:ŀ ĳ}{x y m n:ĳ}
def aae {nv:ı}{PV:ı->ĳ->Prop}{O:ı->Ň->Prop}(M:Ų prog w A v [v] nv PV O){Q:AB}(D:ZA z ti to u v a a)(hz:š s.C z ti to .Ø)(hi:Ŗ s.C ti (.v u) (.v v))(ho:Ŗ s.C to m n)(hu:s.C.IsListIter u a i)(hv:O i s.C)(ha:s.C.IsList a f)(hx:f[i]?=į x)(hlt:i<nv)(q:∀y h' tk,PV i y->š h' z ti to (œ s.d)->Ŗ h' to x y->h'.IsListIter u a (i+1)->O (i+1) h'->Ŗ h' s.d x y->
   (∀c o,c≠z->c≠to->c≠u->c≠v->s.C.Á c=į o->h'.Á c=į o)->Q (.v s.d) {s with heap:=h',toks:=tk}) :
  ļ (Ľ prog w) A (Builtin.«zip.__next__» %[[.v z]|[]]) (λfin s'=>∃r,fin=.done (.ret r)/\Q r s') E s:=by
 show ļ _ _ (Ů (.v z) 2 >>= _) _ _ _;calc ab<|ki hz rb (x:=.ĉ ķ) rb ?_;show ļ _ _ (Ů (.v z) 3 >>= _) _ _ _;calc ab<|ki hz rb (x:=.v ti) rb<|ab<|ic hi rb ?_;show ļ _ _ (Builtin.Ī.ownedTupleIsFree (.v z) >>= _) _ _ _;calc ab ?_;unfold Builtin.SmallTypes.ownedTupleIsFree;calc ab<|ki hz rb (x:=.Ø) rb<|ah ?_;simp only[if_true];calc ab<|gE<|ab<|ki hz rb (x:=.v to) rb<|ab<|qr hz zr λg1 z1 k1=>?_;replace z1:š g1 z ti to .ellipsis:=z1;calc ab ?_;simp only[yY,List.zipIdx_nil,kF,List.forIn_nil];calc ab<|ab<|wpAny_onRaise ?_;show ļ _ _ (Builtin.Ī.nextOf (.v u) >>= _) _ _ _;calc ab<|wpAny_nextOf_list_item (hu.at λo e=>k1.â _ o D.q3 e) (Heap.IsList.at ha λo e=>k1.â _ o D.p2 e) hx λg2 u2 k2=>ah ?_;let o2:Ŗ g2 to m n:=k2.â _ _ D.q8<|k1.â _ _ D.q2 ho;calc ab<|ic o2 rb<|ab<|wpAny_updateSeq_pair o2 λg3 o3 J=>?_;replace o3:Ŗ g3 to x n:=o3;calc ab<|wpAny_letGo<|ah ?_;calc ab<|ab<|wpAny_onRaise ?_;show ļ _ _ (Builtin.Ī.nextOf (.v v) >>= _) _ _ _;calc ab<|M.item i _ _ _ hlt (M.frame _ _ _ hv λc G o e=>by rw[al.mp G]at e ⊢;show J.â _ o D.q9.Ò<|k2.â _ o D.p1.Ò<|k1.â _ o D.q4 e) λy g4 tk hpy v4 B=>ah ?_;let o4:Ŗ g4 to x n:=B.â _ _ D.q9 o3;calc ab<|ic o4 rb<|ab<|wpAny_updateSeq_pair o4 λg N F=>?_;replace N:Ŗ g to x y:=N;calc ab<|wpAny_letGo<|ah<|ah ?_;calc ab<|ic N rb<|ab<|xo ?_;let sz:g.Y.E=s.d:=by rw[F.1,B.1,J.1,k2.1,k1.1]
 let z5:š g z ti to .ellipsis:=F.â _ _ D.q2.Ò<|B.â _ _ D.q4.Ò<|J.â _ _ D.q2.Ò<|k2.â _ _ D.q3.Ò z1;let kk:∀c o,c≠z->c≠to->c≠u->c≠v->s.C.Á c=į o->g.Á c=į o:=λc o j L c3 c4 e=>F.â _ _ L<|B.â _ _ c4<|J.â _ _ L<|k2.â _ _ c3<|k1.â _ _ j e;let u5:g.IsListIter u a (i+1):=u2.at λo e=>F.â _ o D.q8.Ò<|B.â _ o D.p1<|J.â _ o D.q8.Ò e;let v5:O (i+1) g:=M.frame _ _ _ v4 λc G o e=>by rw[al.mp G]at e ⊢;show F.â _ o D.q9.Ò e
 let lz:z<g.Y.E:=a9 z5;show ļ _ _ (Builtin.Ī.ownedTupleHandOut (.v z) (.v g.Y.E) >>= _) _ _ _;calc ab ?_;unfold Builtin.SmallTypes.ownedTupleHandOut;let z6:š (g.Í {cls:=.È "tuple",data:=.ú #[x,y]}) z ti to .ellipsis:=af _ z5;calc ab<|qr z6 zr λg7 z7 k7=>?_;replace z7:š g7 z ti to (œ g.Y.E):=z7;refine qr z7 zr λY Z k8=>?_
 replace Z:š Y z ti to (œ g.Y.E):=Z;let up:∀c o,c≠z->g.Á c=į o->Y.Á c=į o:=λc o j e=>k8.â _ _ j<|k7.â _ _ j<|af _ e;let t8:Ŗ Y g.Y.E x y:=k8.â _ _ (ib lz)<|k7.â _ _ (ib lz)<|a6 _ rb;rw[sz]at Z t8;calc ah %[0,_,rb|?_];show Q (.v g.Y.E) _;rw[sz];show q y Y tk hpy Z (up _ _ D.q2 N) (u5.at λo e=>up _ o D.q3 e) (M.frame _ _ _ v5 λc G o e=>by rw[al.mp G]at e ⊢;show up _ o D.q4 e) t8 λc o j L c3 c4 e=>up c o j<|kk c o j L c3 c4 e
def acs (N:A.õ=Ĳ)(D:ZA z ti to u v a a)(hz:š s.C z ti to .Ø)(hi:Ŗ s.C ti (.v u) (.v v))(Z:s.C.IsListIter u a i)(ha:s.C.IsList a f)(hx:f[i]?=Ĳ)(q:∀h' e,(∀c o,c≠z->c≠to->c≠u->c≠v->s.C.Á c=į o->h'.Á c=į o)->(∃o,h'.Á e=į o/\o.cls=.È "StopIteration")->E (.v e) {s with heap:=h' }):ļ (Ľ prog w) A (Builtin.«zip.__next__» %[[.v z]|[]]) Q E s:=by
 show ļ _ _ (Ů (.v z) 2 >>= _) _ _ _;calc ab<|ki hz rb (x:=.ĉ ķ) rb ?_;show ļ _ _ (Ů (.v z) 3 >>= _) _ _ _;calc ab<|ki hz rb (x:=.v ti) rb<|ab<|ic hi rb ?_;show ļ _ _ (Builtin.Ī.ownedTupleIsFree (.v z) >>= _) _ _ _;calc ab ?_;unfold Builtin.SmallTypes.ownedTupleIsFree;calc ab<|ki hz rb (x:=.Ø) rb<|ah ?_;simp only[if_true];calc ab<|gE<|ab<|ki hz rb (x:=.v to) rb<|ab<|qr hz zr λg1 g k1=>?_;replace g:š g1 z ti to .ellipsis:=g;calc ab ?_;simp only[yY,List.zipIdx_nil,kF,List.forIn_nil];calc ab<|ab<|wpAny_onRaise ?_;show ļ _ _ (Builtin.Ī.nextOf (.v u) >>= _) _ _ _;calc ab<|wpAny_nextOf_list_end N (Z.at λo e=>k1.â _ o D.q3 e) (Heap.IsList.at ha λo e=>k1.â _ o D.p2 e) hx λL e k2 G=>?_;let(J,e1,e2):=G;let j:š L z ti to .ellipsis:=k2 _ _ D.q3.Ò g;let M:e≠z:=λt=>by subst t;rw[j]at e1;cases e1;simp at e2
 show qr j zr λO _ B=>q O e (λc o F _ Y _ t=>B.â _ _ F<|k2 _ _ Y<|k1.â _ _ F t) %[0,J,B.â _ _ M e1|e2]
abbrev zm2 (h:Ň)(a:Ķ)(x:ņ)(t:Tok):Ň:=(zl1 h a).Í {cls:=.È<|strIterType x,data:=.ä #[.À x t,.I 0 0]}
abbrev zm3 (h:Ň)(a:Ķ)(x:ņ)(t:Tok):Ň:=(zm2 h a x t).Í {cls:=.È "tuple",data:=.ú #[.v h.Y.E,.v (zl1 h a).Y.E]}
abbrev zm4 (h:Ň)(a:Ķ)(x:ņ)(t:Tok):Ň:=(zm3 h a x t).Í {cls:=.È "tuple",data:=.ú #[.Ø,.Ø]}
abbrev Vj (h:Ň)(a:Ķ)(x:ņ)(t:Tok):Ň:=(zm4 h a x t).Í {cls:=.È "zip",data:=.ä #[.Ø,.ĉ ķ,.ĉ ķ,.v (zm2 h a x t).Y.E,.v (zm3 h a x t).Y.E]}
def aeL (a)(x)(t:Tok)(f):ų (Builtin.«zip.__new__» %[[.È "zip",.v a,.À x t]|[]]) (λ_ R s=>s.C.IsList a f/\R (.ok<|.ret<|.v (zm4 s.C a x t).Y.E) {s with heap:=Vj s.C a x t}):=
 .of_wp λprog w A R s h=>by
  let(hp,j,d,tk,os):=s;let(h1,h):=h;let g:=sub_zip;let B:Heap.IsList (Shared.C %[hp,j,d,tk|os]) a f:=h1
  wp_walk using oq B,re
  show%[0,_,rb|h]
def ajp {x:ņ}(ha:s.C.IsList a f)(q:∀h',š h' (s.d+4) (s.d+2) (s.d+3) .Ø->Ŗ h' (s.d+2) (.v s.d) (.v<|s.d+1)->Ŗ h' (s.d+3) .Ø .Ø->
   h'.IsListIter s.d a 0->h'.Ġ (s.d+1) (strIterType x) x t 0->(∀c o,s.C.Á c=į o->h'.Á c=į o)->Q (.v<|s.d+4) {s with heap:=h' }) :
  ļ (Ľ prog w) A (call (.È "zip") [.v a,.À x t]) Q E s:=by
 calc callType_new F.called_zip zt (F.typeCall_zip_2 _ _) (F.newCall_zip_2 _ _) (λobj=>F.args_object_init_3 obj _ _) F.entry_zip_new (aeL a x t f) %[ha|?_];let j:(zl1 s.C a).Y.E=s.d+1:=eM ..;let g:(zm2 s.C a x t).Y.E=s.d+2:=by rw[eM,j]
 let B:(zm3 s.C a x t).Y.E=s.d+3:=by rw[eM,g]
 let D:(zm4 s.C a x t).Y.E=s.d+4:=by rw[eM,B]
 let e5:(Vj s.C a x t).Á (zm4 s.C a x t).Y.E=į _:=a6 _ rfl;let e4:(Vj s.C a x t).Á (zm3 s.C a x t).Y.E=į _:=af _<|a6 _ rb;let e3:(Vj s.C a x t).Á (zm2 s.C a x t).Y.E=į _:=af _<|af _<|a6 _ rb;let e2:(Vj s.C a x t).Á (zl1 s.C a).Y.E=į _:=af _<|af _<|af _<|a6 _ rb;let e1:(Vj s.C a x t).Á s.d=į _:=af _<|af _<|af _<|af _<|a6 _ rb;show _/\_;rw[g,B,D]at e5;rw[j,g]at e3;rw[B]at e4;rw[j]at e2;rw[D];show%[%[0,_,e5|rb]|q _ e5 e3 e4 %[2,_,e1,rb|rb] %[2,_,e2,rb|rb] λc o t=>af _<|af _<|af _<|af _<|af _ t]
end
def Xe (K:W.Ë)(a:Ķ)(l:İ ı):It:=%[λi H=>∃xs x,aZ K H a xs/\xs[i]?=į x/\i<l.n,λi H t H'=>∃T x c,H T=Ĳ/\t=.v T/\(∀xs,aZ K H a xs->xs[i]?=į x)/\l[i]?=į c/\H'=upd H T (.Æ [x,.À (S [c])])|λi H=>∃xs,aZ K H a xs/\xs.n<=i]
def aaf {P:ń}{w:ŉ}{K:W.Ë}{elts:İ ŋ}{x1:ı}{pos:Pos}{z ti to u v a:Ķ}{ty:ŕ}(hty:ty="str_ascii_iterator"\/ty="str_iterator")(l:İ ı)(t:Tok)(D:ZA z ti to u v a a):Turn P w K (.ģ elts x1 pos) (Xe K a l) [z,ti,to,u,v] z (λi h=>š h z ti to .Ø/\Ŗ h ti (.v u) (.v v)/\(∃m n,Ŗ h to m n)/\h.IsListIter u a i/\h.Ġ v ty (S l) t i) where
 mem:=by simp
 obj:=λi h st c g=>by
  let(h1,B,(m,n,J),(o4,G,_,d4),(o5,L,_,d5)):=st;simp only[a_,fI,or_false]at g;rcases g with e|e|e|e|e <;> subst e
  .show%[0,_,h1|λv y=>by cases y]
  .show%[0,_,B|λv y=>by cases y]
  .show%[0,_,J|λv y=>by cases y]
  .show%[0,o4,G|λv y=>by rw[d4]at y;cases y]
  .show%[0,o5,L|λv y=>by rw[d5]at y;cases y]
 keep:=λi h h' st k=>by let(h1,B,(m,n,J),G,o,L,r):=st;show%[43,k z zr _ h1,k ti zr _ B,%[6,m,n|k to zr _ J],G.at λo e=>k u zr o e,o,k v zr o L|r]
 item:=by
  intro X hP hw hK g i ao s C H E I hf st hg;subst hP hw hK;let(h1,B,(m,n,J),G,L):=st;let(xs,x,j,hx,hil):=hg;let(fs,rf,pf,_):=I.ğ j;let(p,ep,rp):=rf.ď hx;let lt:∀c∈[z,ti,to,u,v],c<s.d:=λc g=>by
   simp only[a_,fI,or_false]at g;rcases g with e|e|e|e|e <;> subst e
   .show a9 h1
   .show a9 B
   .show a9 J
   .let(o,e,_):=G;show a9 e
   .let(o,e,_):=L;show a9 e
  let N:s.ċ (.v z) "zip":=%[0,_,h1|rb]
  let Y:X.A.ę.õ=Ĳ:=by simp[I.ok.hd g]
  let O:∀(DV:Ų X.Ï X.w X.A.ę v [v] (S l).Ĕ.E (λi w=>∃c u,(S l).Ĕ[i]?=į c/\w=.À ⟨#[c]⟩ u) (λi h=>h.Ġ v ty (S l) t i)),
    ļ (Ľ X.Ï X.w) X.A (pyNext<|.v z) (λr s1=>∃u1,r=į u1/\ļ (Ľ X.Ï X.w) X.A (letOwnedTupleGo (.ģ elts x1 pos) (.v z) u1) (λ_ s2=>∃x H',aM X ao C H' s2/\bQ x u1/\(Xe X.K a l).Gj i H x H'/\(š s2.C z ti to .Ø/\Ŗ s2.C ti (.v u) (.v v)/\(∃m n,Ŗ s2.C to m n)/\s2.C.IsListIter u a (i+1)/\s2.C.Ġ v ty (S l) t (i+1))/\∀b∈[z,ti,to,u,v],H' b=Ĳ) E s1) E s:=by
   intro DV;unfold pyNext;calc ab<|mP<|fS (name:=Str.ï "__next__") N xb<|eI xb N F.entry_zip_next ?_<|F.args_zip_next_1 _;calc aae DV D h1 B J G L (show s.C.IsList a fs.R from pf.ü) (x:=p) (by simpa using ep) (by simpa [S] using hil) λy h' tk Z k1 k2 k3 k4 k5 k6=>ah ?_;let(c,ut,hcl,rfl):=Z;calc%[0,_,rb|wpAny_letOwnedTupleGo_zip k1 λh2' e2 M=>?_];let up:∀c o,c∉[z,ti,to,u,v]->s.C.Á c=į o->h2'.Á c=į o:=λc o g e=>by simp only[a_,fI,or_false,not_or]at g;show M.â _ _ g.1<|k6 c o g.1 g.2.2.1 g.2.2.2.1 g.2.2.2.2 e
   let nz:s.d≠z:=ib<|lt z zr;let(I3,fr):=aM.ail (y:=.À (S [c])) (tk:=tk) I hf lt rp %[ut|rb] (M.â _ _ nz k5) up;let(o5,k4,r5):=k4;show%[7,.v s.d,_,I3,rb,%[10,s.d,x,c,I.ì.ß<|ag _,rb,λzs hz=>by rw[I.Ob hz j];show hx,by simpa [S] using hcl|rb],
    %[43,e2,M.â _ _ D.q1<|k6 _ _ D.q1 D.q5 D.q6 D.q7 B,%[6,_,_|M.â _ _ D.q2 k2],k3.at λo e=>M.â _ o D.q3 e,o5,M.â _ _ D.q4 k4|r5]|fr]
  rcases hty with rfl|rfl;.show O<|Draws.strAscii Y v (S l) t
  .show O<|Draws.strWide Y v (S l) t
 done:=by
  intro X hP hw hK g i ao s C H E I hf st hg;subst hP hw hK;let(h1,B,(m,n,J),G,L):=st;let(xs,j,hl):=hg;let(fs,rf,pf,_):=I.ğ j;let bY:=rf.n;let Y:X.A.ę.õ=Ĳ:=by simp[I.ok.hd g]
  let N:s.ċ (.v z) "zip":=%[0,_,h1|rb]
  unfold pyNext;calc ab<|mP<|fS (name:=Str.ï "__next__") N xb<|eI xb N F.entry_zip_next ?_<|F.args_zip_next_1 _;calc acs Y D h1 B G (show s.C.IsList a fs.R from pf.ü) (by simp;simp_all) λh' e k zz=>?_;let(o,e1,e2):=zz;calc ab<|lh (T:="StopIteration") (b:=true) %[0,o,e1|e2] isSubtype_stop ?_;calc ah %[rb|aM.Jh (fp:=[z,ti,to,u,v]) (t':=s.toks) I (λc o g e=>?_) hf];simp only[a_,fI,or_false,not_or]at g;show k c o g.1 g.2.2.1 g.2.2.2.1 g.2.2.2.2 e
 self:=λA i s Q E st h=>wpAny_pyIter_zip st.1 h
section
variable {X:Cx}{elts:İ ŋ}{x1:ı}{tp:Pos}
def aiz (K:W.Ë)(ta:TA):TI:=λT H R=>ta T H λvs H1=>∃a l,vs=[.v a,.À (S l)]/\(∃xs,aZ K H1 a xs)/\R (Xe K a l) H1
def aeM {a b:ŋ}{ta:TA}{p pos:Pos}(hg:Gl X "zip")(hm:X.mg "zip"=Ĳ)(ha:QA X [a,b] ta)(hs:ŵ (Ņ [a,b] X.Ç=[(ķ,Ŏ a X.Ç),(ķ,Ŏ b X.Ç)]) Ŷ)(j:ŵ (Ņ [b] X.Ç=[(ķ,Ŏ b X.Ç)]) Ŷ):QI X (.ģ elts x1 tp) (.ĭ (.ë "zip" p) [a,b] [] pos) (aiz X.K ta):=⟨by
 intro ao s T H R I h;calc Call_<|nO I hg hm Zj<|ip (bM (ha.Û pos ao s T H _ I h) λus s1 zz=>?_) (by rw[hs,j]) (by rw[j];rfl);let(vs,H1,I1,r1,q1):=zz;let(a,l,e,(xs,G),q):=q1;subst e;cases r1 with
 | cons r rr=>
  cases rr with
  | cons r' rr=>
   cases rr;cases r;let(t,rfl):=r';let(fs,rf,L,_):=I1.ğ G;let J:a<s1.d:=by
    let(o,Y,_):=(show s1.C.IsList a fs.R from L.ü)
    show a9 Y
   let F:strIterType (S l)="str_ascii_iterator"\/strIterType (S l)="str_iterator":=by unfold strIterType;split <;> simp
   calc ajp (show s1.C.IsList a fs.R from L.ü) λh' k1 k2 k3 O Z kk=>wpAny_pyIter_zip k1 ?_;let D:ZA (s1.d+4) (s1.d+2) (s1.d+3) s1.d (s1.d+1) a a:=by
    let g:∀N a b:ı,a<N->b<N->ZA (N+4) (N+2) (N+3) N (N+1) a b:=λN a b J lb=>by constructor <;> (show (_:ı)≠_) <;> lia
    show g _ _ _ J J
   calc%[16,s1.d+4,[s1.d+4,s1.d+2,s1.d+3,s1.d,s1.d+1],_,_,H1,rb,I1.ě (t':=s1.toks) kk,aaf F l t D,%[k1,k2,%[6,_,_|k3],O|Z],λc M=>?_|q];let B:s1.d<=c:=by
    simp only[a_,fI,or_false]at M;let g:∀N c:ı,(c=N+4\/c=N+2\/c=N+3\/c=N\/c=N+1)->N<=c:=λN c h=>by lia
    show g _ _ M
   show I1.mH B<|I1.ì.ß B⟩
end
def agV {K KT:W.Ë}{a:Ķ}{xs:İ V}{l:İ ı}{f:St->St}{tt:TT}(Y:xs.n=l.n){D:Ķ}{te:TE}{I:St}{H:Hp}{R:Hp->Prop}(g:ı->İ V->Hp->Prop)(B:g 0 [] (upd H D<|.É []))(j:∀i ys H,i<=xs.n->g i ys H->aZ K H a xs)(hs:∀i x c ys H T,xs[i]?=some x->l[i]?=some c->g i ys H->H T=none->vK xs.n i D (λv H Q=>∃a p q,v=.v a/\aQ KT H a [p,q]/\Q [į p,į q]) f I tt te (.v T) (upd H T<|.Æ [x,.À (S [c])]) ys (g<|i+1))(hd:∀ys H,g xs.n ys H->R H):rK (Xe K a l) D H R (Ed (λv H Q=>∃a p q,v=.v a/\aQ KT H a [p,q]/\Q [į p,į q]) f I tt te):=Fb xs.n g B (λi ys H h p=>%[%[1,xs,xs[i],j i ys H (ar h) p,by simp[h]|Y ▸ h]|λx H' y=>by let(T,x,c,F,rfl,hx,G,rfl):=y;show hs i x c ys H T (hx xs<|j i ys H (ar h) p) G p F]) λys H p=>%[%[0,xs,j _ ys H (ag _) p|ag _]|hd ys H p]
def Xf {lo c:ĸ}{n:ı}{g:TG}{tb:TS}{D:Ends}{I:St}{H:Hp}(j:ı->St->Hp->Prop)(M:j 0 I H)(hs:∀i I H,i<n->j i I H->g (.I<|lo+i*c) I H λI2 F=>tb {D with nx:=j<|i+1,ct:=j<|i+1,bk:=D.nx} I2 F)(hd:∀I H,j n I H->D.nx I H):∃W:ı->ı->St->Hp->Prop,(∃m,W 0 m I H)/\∀i m I H,W i m I H->
   ((Oz lo c n).stop i H/\D.nx I H)\/((Oz lo c n).go i H/\∃N:St->Hp->Prop,(∀G H',N G H'->∃J,J<m/\W (i+1) J G H')/\∀x H',(Oz lo c n).Gj i H x H'->g x I H' λI2 F=>tb {D with nx:=N,ct:=N,bk:=D.nx} I2 F):=by
 calc%[0,λi m I H=>m=n-i/\i<=n/\j i I H,%[2,n,zr,ci _|M]|?_];intro i m I H z;let(rfl,hi,p):=z;by_cases B:i<n
 .calc .Ð %[12,B,j<|i+1,λG H' L=>%[18,n-(i+1),zo,rb,B|L]|λx H' y=>?_];let(e,y):=y;subst e y;show hs i I _ B p
 .let e:i=n:=zo;subst e;show .Â %[ag _|hd I H p]
def cY (H H':Hp):Prop:=∀b o,H b=į o->H' b=į o\/((∃ps,o=.o7 ps)/\∃g,H' b=į (.o7 g))
def aA.t (s:aA H H'):cY H H':=λb o h=>.Â (s b o h)
def cY.refl (H):cY H H:=λ_ _ h=>.Â h
def cY.get (s:cY H H')(h:H b=į o)(n:∀ps,o≠.o7 ps):H' b=į o:=(s b o h).í id λ⟨⟨ps,e⟩,_⟩=>(n ps e).í
def cY.free (s:cY H H')(h:H' b=Ĳ):H b=Ĳ:=by
 cases z:H b with
 | none=>rfl
 | some o=>rcases s b o z with y|⟨_,ps,y⟩ <;> (rw[y]at h;cases h)
def cY.trans (a:cY H H1)(b:cY H1 H2):cY H H2:=λc o h=>by
 rcases a c o h with y|⟨⟨ps,e⟩,g,y⟩;.show b c o y
 .rcases b c _ y with z|⟨_,j,z⟩;.show .Ð %[8,%[ps|e],_|z]
  .show .Ð %[8,%[ps|e],_|z]
def cY.upd (s:cY H H')(h:H p=Ĳ):cY H (L2.å H' p o):=λb o' e=>by rw[aU (bI e h)];show s b o' e
def BW (q:ņ)(c:Ķ):HO:=.ext λh=>h.CodeRec (.v c) q
def BX (q:ņ)(params:Ŝ)(body:ŋ)(scope:Œ)(f c:Ķ):HO:=.ext λh=>∃pm g,h.Á f=į (kla_obj "<lambda>" q params body scope [] pm c g)
def pP (pos:Pos)(q:ņ)(P:Ķ)(H:Hp):Prop:=H P=į (.o7 #[])\/∃c,H P=į (.o7 #[œ pos.line,œ pos.col,.v c])/\H c=į (BW q c)
def pP.mv (t:pP pos q P H)(s:aA H H'):pP pos q P H':=t.imp (λh=>s _ _ h) λ⟨c,h1,g⟩=>%[0,c,s _ _ h1|s _ _ g]
structure zy (mg:ņ->ĵ ĳ)(base:Ň)(c P:Ķ):Prop where
 hd:CodeHd base c P
 bm:base.BuiltinsAt mg P
 ne:mainGlobals≠P
def Fo {h h':Ň}(b:h.BuiltinsAt mg P)(k:∀a o,h.Á a=į o->h'.Á a=į o):h'.BuiltinsAt mg P:=let %[bm,o,a1,a2,a3,a4,a5|r]:=b;%[22,bm,o,a1,a2,a3,a4,k _ _ a5|r]
section
variable {X:Cx}{ao:AC}{T:St}{H:Hp}{s:Ļ}{c P:Ķ}{params:Ŝ}{body:ŋ}{scope:Œ}{pos:Pos}
def aeN {h:Ň}{P:ń}{w:ŉ}{q:ņ}{c:Ķ}(r:h.CodeRec (.v c) q):dD P w H h c (BW q c):=by let(M,oc,vs,t,e,G,hd,hv):=id r;cases e;show%[r,%[oc|G]|λh1 N ⟨J,L,g,F,e2,j,D,B⟩ k=>by cases e2;show%[15,_,L,g,F,rb,k _ j,D|B]]
def Vk {h:Ň}{P:ń}{w:ŉ}{q:ņ}{f c:Ķ}{pm g:ĳ}(r:h.Á f=į (kla_obj "<lambda>" q params body scope [] pm c g)):dD P w H h f (BX q params body scope f c):=%[%[6,pm,g|r],%[_|r]|λ_ _ ⟨pm,g,r⟩ k=>%[6,pm,g|k _ r]]
def ajq (pos:Pos)(q:ņ)(P:Ķ)(params:Ŝ)(body:ŋ)(scope:Œ):TE:=λ_ H Q=>pP pos q P H/\∀(f c:Ķ) (H':Hp),cY H H'->pP pos q P H'->H f=Ĳ->H' f=į (BX q params body scope f c)->H' c=į (BW q c)->Q (.v f) H'
def agW (L:zy X.mg X.ð c P)(D:X.Ç.code=.v c)(hcl:closureFor scope X.Ç=pure [])(Y:defaultsOf params X.Ç=([],[])):QE X (.Lambda params body scope pos) (ajq pos (X.Ç.qual++"<lambda>") P params body scope):=⟨by
 rintro ao s T H Q I ⟨ts,q⟩;calc kla_eval Y ?_;let G:=I.mod.glob.Ğ I.bk;let C:=L.hd.Ğ I.bk;let B:=Fo L.bm I.bk;rcases ts with J|⟨g,J,hc⟩
 .let gP:s.C.Á P=į (tabObj #[]):=I.ì _ _ J;calc kla_makeFunction hcl I.ok.glob G D C gP trivial rb L.ne B λg Z h' tk hx j F O M=>?_;rw[Array.empty_append]at M;let hk:∀b o,b≠P->s.C.Á b=į o->(h'.Í<|kla_obj "<lambda>" (X.Ç.qual++"<lambda>") params body scope [] ((X.mg "__name__").Î .Ø) g Z).Á b=some o:=λb o n e=>af _<|hx b o n e;let hPl:P<s.d:=a9 gP;let hcP:P≠g:=bb<|bq hPl j;let hfP:P≠h'.Y.E:=bb<|ja (bq hPl j) F;let hfc:g≠h'.Y.E:=bb F;let nc:∀b,(∃o,H b=į o)->b≠g/\b≠h'.Y.E:=λb ⟨o,e⟩=>by
   have:=I.ì.lt e;show%[bb<|bq this j|bb<|ja (bq this j) F]
  let nb:∀b,(∃o,s.C.Á b=į o)->b≠g/\b≠h'.Y.E:=λb ⟨o,e⟩=>by have:=a9 e;show%[bb<|bq this j|bb<|ja (bq this j) F]
  obtain⟨H',eH⟩:∃H',H'=upd (upd (upd H P<|.o7 #[œ pos.line,œ pos.col,.v g]) g<|BW (X.Ç.qual++"<lambda>") g) h'.Y.E (BX (X.Ç.qual++"<lambda>") params body scope h'.Y.E g):=%[_|rb]
  let e1:H' P=į (.o7 #[œ pos.line,œ pos.col,.v g]):=by rw[eH,aU hfP,aU hcP,au]
  let e2:H' g=į (BW (X.Ç.qual++"<lambda>") g):=by rw[eH,aU hfc,au]
  let e3:H' h'.Y.E=į (BX (X.Ç.qual++"<lambda>") params body scope h'.Y.E g):=by rw[eH,au]
  let e4:∀b,b≠P->b≠g->b≠h'.Y.E->H' b=H b:=λb h1 h2 h3=>by rw[eH,aU h3,aU h2,aU h1]
  let N:∀b o,H b=į o->b≠P->H' b=į o:=λb o e n=>(e4 b n (nc b %[o|e]).1 (nc b %[o|e]).2).X e;let nP:∀b o,H b=į o->(∀ps,o≠.o7 ps)->b≠P:=λb o e n z=>by rw[z,J]at e;show n _ (bg e).Ò
  let Pn:∀b,H b=Ĳ->b≠P:=λb e z=>by rw[z,J]at e;cases e
  refine%[1,.v h'.Y.E,H',I.step (g':=s.gens) (t':=tk) (d':=s.drawn) (ch:=[]) (λ_ z=>nomatch z) (λb o _ _ _ e n=>hk b o (Pn b n) e) (λb o _ _ _ e n=>%[o.slots|hk b o (Pn b n) e])
   (λb o _ e n=>(e4 b (Pn b n) (nb b %[o|e]).1 (nb b %[o|e]).2).X n) (λb o _ e=>?_) (λb xs e=>N b _ e<|nP b _ e nofun) (λb o u e=>N b _ e<|nP b _ e nofun) (λb ps e=>?_) (λm hm=>(hm.â hx<|Pn _ I.Õ).Í _) (λb u e=>?_) I.bare,rb|
   q _ g H' (λb o e=>by
    by_cases z:b=P
    .subst z;rw[J]at e;cases e;show .Ð %[8,%[_|rb],_|e1]
    .show .Â<|N b o e z) (.Ð %[0,g,e1|e2]) (I.ì.ß<|ar<|gd j F) e3 e2]
  .by_cases z:b=P;.subst z;show%[_|af _ M]
   .show%[o|hk b o z e]
  .by_cases z:b=P
   .subst z;rw[J]at e;cases e;show%[_|e1.X (by rw[Array.empty_append])]
   .show%[#[]|by rw[N b _ e z,Array.append_empty]]
  .by_cases z1:b=h'.Y.E
   .subst z1;rw[e3]at e;cases e;show Vk<|a6 _ rb
   by_cases z2:b=g
   .subst z2;rw[e2]at e;cases e;let(c2,oc,vs,t,e,ho,r):=O;show aeN %[59,c2,oc,vs,t,e,af _ ho|r]
   by_cases z3:b=P
   .subst z3;rw[e1]at e;cases e;show af _ M
   .rw[e4 b z3 z2 z1]at e;calc(I.ì b u e).stay (λd v hd r=>hk d v (λz=>?_) r) (λd r=>N d _ r<|nP d _ r nofun) λd xs r=>N d _ r<|nP d _ r nofun;rcases hd with y|y
    .show z3<|y.Ò.X z
    .rw[z,J]at y;cases y
 .let gP:s.C.Á P=į (tabObj #[œ pos.line,œ pos.col,.v g]):=I.ì _ _ J;calc kla_makeFunctionHit (cv:=.v g) hcl I.ok.glob G D C gP trivial (by simp[codeAmong,rawInt]) B λZ h' tk hk hsz=>?_;let hn:H h'.Y.E=Ĳ:=I.ì.ß hsz;show%[1,.v h'.Y.E,_,I.Ĭ (o:=BX (X.Ç.qual++"<lambda>") params body scope h'.Y.E g) (t':=tk) (λb u e=>af _<|hk b u e) hsz<|Vk<|a6 _ rb,rb|
   q _ g _ ((cY.Ę H).å hn) (.Ð %[0,g,by rw[aU (bI J hn)];show J|by rw[aU (bI hc hn)];show hc]) hn au (by rw[aU (bI hc hn)];show hc)]⟩
def Qg (K:W.Ë)(q:ņ)(x:ņ)(scope:Œ)(body:ŋ)(sp:V->Hp->VK->Prop):Prop:=∀(A:ň) (outer:İ Env) (s:Ļ) (H:Hp) (f:Ķ) (bF:ĳ) (P:ń) (w:ŉ) (mg:ņ->ĵ ĳ) (base:Ň),∃t,PE (pH fP P w K mg base [x] q scope f bF A outer s H E0) body t/\∀(v:V) (Q:VK),sp v H Q->t [į v] H Q
def acu {A:ň}(I:aM X ao T H s)(Y:A.frames=X.A.frames)(L:eG 1 A)(S:aW [x] [x] scope)(B:∀(pm cv D u:ĳ),bindArgs (kla_fn "<lambda>" q params body scope [] pm cv D) %[[u]|[]]=pure [(x,u)])(hR:Qg X.K q x scope body sp)(O:H f=some (BX q params body scope f c))(Z:H c=some (BW q c))(r:bQ v u)(h:sp v H Q):wpAny (model X.Ï X.w) A (call (.v f) [u]) (EP X ao T Q) (λ_ _=>ŗ) s:=by
 let((pm,D,gf),_,_):=(show dD X.Ï X.w H s.C f (BX q params body scope f c) from I.ì _ _ O)
 let(F,_,_):=(show dD X.Ï X.w H s.C c (BW q c) from I.ì _ _ Z)
 let N:yJ X.Ï X.w X.K X.mg X.ð A X.ĝ s H:=%[Y.X I.env0.frames,I.env0.mod,I.env0.bs,I.env0.DY,I.env0.qu,I.env0.Ko,I.env0.ì|I.env0.bare]
 let j:∀y∈[(x,u)],scope.Ú.Å y.1=į .û\/(scope.Ú.Å y.1=į .ø/\((cellsFrom (s.d+1) scope.Ú []).Å y.1).Ě=Ĵ):=λy hy=>by
  rw[al.mp hy];rcases S.par x aE with z|z;.show .Â z
  .show .Ð %[z|vy _ _ _<|.Â z]
 refine ul<|iN (R:=CR fP X.ĝ X.Ï X.w H s Q E0) (kla_callFunE L.depth gf rb S.co S.gen rb F ?_) λr s' g=>?_
 .rw[B];calc ah ?_;calc sn S.ý j λenv M s1 G=>?_;subst M;calc%[I.nolimit.Ğ G.toInCall.keep|kla_codeExpr ?_];let(t,ht,g):=hR A X.ĝ s H f (.v c) X.Ï X.w X.mg X.ð;let I1:aM (pH fP X.Ï X.w X.K X.mg X.ð [x] q scope f (.v c) A X.ĝ s H E0) [] (start [x] [v]) H s1:=Aw (ps:=[x]) (us:=[u]) S L.hd N rb (.Þ r .ê) G;calc fq (ht [] s1 (start [x] [v]) H _ I1<|g v Q h) (λu' s' hs=>?_) λe s' hs=>hs;let(v',H',J,rv,q'):=hs;show%[22,v',H',J.os,J.bare,J.ð,J.ì,rv|q']
 .cases r with
  | error e=>show g
  | ok fl=>
   cases fl with| ret u=>show I.after g| next=>show False.í g| brk=>show False.í g| cont=>show False.í g
end
@[reducible] def Ds:PyProof.Ă.ĥ where
 α:=ĸ
 blt a b:=ľ<|a<b
 irrefl a:=by simp
 trans a b c h1 h2:=by simp at h1 h2 ⊢;lia
 negTrans a b c h:=by simp at h ⊢;lia
 total a b h1 h2:=by simp at h1 h2;lia
 keyOf v:=match v with|.I i _=>į i|_=>none
 dflt:=0
def aag:Ds.OneLt:=λprog w A E s x y a b Q hx g h=>by cases x <;> first|(cases hx;done)|skip;cases y <;> first|(cases g;done)|skip;cases hx;cases g;show oneLt_int h
def aah {keys:ŀ ĳ}{vs:İ ĳ}(hk:Ř keys.H kz):ő Ds (keys.Ĩ vs.R):=λp hp=>by rw[ksk_zip]at hp;let(x,y):=p;let(n,t,rfl):=hk.all _ (sT hp).1;show%[n|rb]
def NQ (as:İ Ķ)(p:Ń):ı:=match p.2 with|.v a=>as.idxOf a|_=>0
def rC (as:İ Ķ)(kf:Ķ->ĸ)(bs:İ Ķ):Prop:=bs.Ä λa b=>kf a<kf b\/(kf a=kf b/\as.idxOf a<=as.idxOf b)
def agX {as:İ Ķ}{kf:Ķ->ĸ}{keys:ŀ ĳ}{out:ŀ Ń}(hk:Ř keys.H (as.Q kf))(hp:out.H.æ (keys.Ĩ (as.Q Value.v).R).H)(hs:out.H.Ä (kL Ds<|NQ as)):∃bs:İ Ķ,(out.Q (·.2)).H=bs.Q Value.v/\bs.æ as/\rC as kf bs:=by
 let j:=hk.n;rw[aa]at j;let B:(keys.Ĩ (as.Q Value.v).R).H=keys.H.Ĩ (as.Q Value.v):=ksk_zip keys _;rw[B]at hp;let cell:∀(ks:İ ĳ) (as:İ Ķ),Ř ks (as.Q kf)->∀p∈ks.Ĩ (as.Q Value.v),∃a t,p=(.I (kf a) t,.v a):=by
  intro ks as
  induction as generalizing ks with
  | nil=>intro _ p hp;simp at hp
  | cons a as ih=>
   intro h p hp;cases h with
   | cons n t h=>
    rcases a_.mp hp with rfl|hp;.show%[6,a,t|rb]
    .show ih _ h p hp
 let co:∀p∈out.H,∃a t,p=(.I (kf a) t,.v a):=λp hm=>cell _ _ hk p<|hp.à.mp hm;let p2:(out.Q (·.2)).H.æ (as.Q Value.v):=by
  rw[oQ];have:=hp.Q (·.2)
  rwa [List.map_snd_zip (by rw[aa];simp[*])]at this
 let(bs,e,pb):=vU p2;calc%[2,bs,e,pb|?_];rw[oQ]at e;let g:(out.H.Q λp=>zp p.2)=bs:=by have:=Ő (List.Q zp) e;rw[dm,dm]at this;show this.X<|ke _
 unfold rC;rw[<-g,eL];calc jS (λ{p q} hpm hqm hpq=>?_) hs;let(a,t,rfl):=co p hpm;let(b,u,rfl):=co q hqm;let(h1,g):=hpq;let h1:ľ (kf b<kf a)=ķ:=h1;let h1:=qo h1;rcases g with g|g
 .let g:ľ (kf a<kf b)=Ĵ:=g;show .Â<|eK g
 .by_cases z:kf a<kf b;.show .Â z
  .show .Ð %[show kf a=kf b by lia|g]
section
variable {X:Cx}{ao:AC}{I:St}{H:Hp}{s:Ļ}{a kS f:Ķ}{as:İ Ķ}{kf:Ķ->ĸ}{A:ň}{P:PySem.Fin->Ļ->Prop}{n e1:ı}{E:AB}
def iB.kp (f:iB X ao H b)(J:aM X ao I H s)(k:Heap.Ĉ b s.C h'):aM X ao I H {s with heap:=h',toks:=t' }:=J.Ħ (λc o n e=>(k.2 c n).X e) f.1 f.2.1 f.2.2.2.1 f.2.2.2.2.1 f.2.2.2.2.2
def aM.adopt (J:aM X ao I H s)(f:iB X ao H b)(j:dD X.Ï X.w (upd H b o) s.C b o):aM X ao I (upd H b o) s:=by
 let g:∀c u,H c=į u->c≠b:=λc u e z=>by rw[z,f.1]at e;cases e
 let D:=J.step (h':=s.heap) (H':=upd H b o) (g':=s.gens) (t':=s.toks) (d':=s.drawn) (ch:=[b]) (λc B=>by rw[al.mp B];show%[f.2.2.2.1,f.2.1,f.2.2.2.2.1|f.2.2.2.2.2]) (λ_ _ _ _ _ e _=>e) (λ_ o _ _ _ e _=>%[o.slots|e])
  (λc o B _ n=>by rw[aU (λz=>B (by simp[z]))];show n) (λ_ o _ e=>%[o|e]) (λc xs e=>by rw[aU (g _ _ e)];show e) (λc ob u e=>by rw[aU (g _ _ e)];show e) (λc ps e=>%[#[]|by rw[aU (g _ _ e),e];simp]) (λ_ hm=>hm) (λc u e=>?_) J.bare
 .show D
 .by_cases z:c=b;.subst z;rw[au]at e;cases e;show j
  .rw[aU z]at e;show(J.ì c u e).stay (λ_ _ _ q=>q) (λd q=>by rw[aU (g _ _ q)];show q) λd xs q=>by rw[aU (g _ _ q)];show q
def Qh (X:Cx)(A:ň)(I:St)(H:Hp)(f:Ķ)(as:İ Ķ)(kf:Ķ->ĸ):Prop:=∀a∈as,∀(ao:AC) (s:Ļ),aM X ao I H s->
 ļ (Ľ X.Ï X.w) A (call (.v f) [.v a]) (λv s'=>∃u,v=.I (kf a) u/\aM X ao I H s') (λ_ _=>ŗ) s
def acv {st:ł}{N:ı}(J:aM X ao I H s)(O:iB X ao H a)(Y:iB X ao H kS)(j:kS≠a)(M:s.C.Á a=į (seqObj "list" #[] e1))(L:s.C.Á kS=į (seqObj "list" keys N))(F:keys.E<=Ŀ)(hz:(arrOf st).E<=Ŀ)(D:failedOf st=Ĳ)(h:∀h' tk c,aM X ao I H {s with heap:=h',toks:=tk}->h'.Á a=į (seqObj "list" ((arrOf st).Q (·.2)) c)->P (.done<|.ret .Ø) {s with heap:=h',toks:=tk}):ļ (Ľ X.Ï X.w) A (ksk_tail a ķ e1 (.v kS) st) P E s:=by
 let s1:=e9 s.C kS<|Obj.ò λ_=>(#[]:ŀ ĳ);let g:(s.C.ù kS<|Obj.ò λ_=>(#[]:ŀ ĳ)).Á a=į (seqObj "list" #[] e1):=(s1.2 a j.Ò).X M;let s2:=e9 (s.C.ù kS<|Obj.ò λ_=>(#[]:ŀ ĳ)) a (Obj.ò λ_=>(arrOf st).Q (·.2));obtain⟨B,G⟩:∃B,((s.C.ù kS<|Obj.ò λ_=>(#[]:ŀ ĳ)).ù a (Obj.ò λ_=>(arrOf st).Q (·.2))).Á a=į (seqObj "list" ((arrOf st).Q (·.2)) B):=%[_|get?_update_seq g λ_=>(arrOf st).Q (·.2)]
 unfold ksk_tail
 try dsimp only
 calc ab<|listUpdate_at L rb ?_ F<|ci _;calc ab<|wpAny_letGo ?_;calc ab<|seqEpoch_at g rb ?_;calc ab<|listUpdate_at g rb ?_ (ci _) (by simp only[be,if_false];rw[Array.size_map];show eJ hz);rw[D];simp only[bne_self_eq_false,be,if_false];show ah<|h _ s.Ý B (O.kp (s:={s with heap:=s.C.ù kS<|Obj.ò λ_=>(#[]:ŀ ĳ),toks:=s.Ý}) (t':=s.toks) (Y.kp (t':=s.toks) J s1) s2) G
def aeO (J:aM X ao I H s)(fa:iB X ao H a)(fk:iB X ao H kS)(F:kS≠a)(ga:s.C.Á a=į (seqObj "list" #[] e1))(Y:s.C.Á kS=į (seqObj "list" keys ek))(hk:Ř keys.H (as.Q kf))(hn:as.Ö)(hz:as.n<=4000)(h:∀h' tk c bs,bs.æ as->rC as kf bs->aM X ao I H {s with heap:=h',toks:=tk}->h'.Á a=į (seqObj "list" (bs.Q Value.v).R c)->P (.done<|.ret .Ø) {s with heap:=h',toks:=tk}):ļ (Ľ X.Ï X.w) A (ksk_end a ķ (as.Q Value.v).R e1 (.v kS) keys) P E s:=by
 let hsz:keys.E=as.n:=by let h1:=hk.n;rw[bu,aa]at h1;show h1
 let M:as.n<=Ŀ:=av hz zt;let B:(keys.Ĩ (as.Q Value.v).R).E=as.n:=by rw[Array.size_zip,hsz,bS,aa,Nat.min_self]
 let D:∀st:ł,failedOf st=Ĳ->(arrOf st).H.æ (keys.Ĩ (as.Q Value.v).R).H->(arrOf st).H.Ä (kL Ds<|NQ as)->wpAny (model X.Ï X.w) A (ksk_tail a false e1 (.v kS) st) P E s:=λst L hp hs=>by
  let z:(arrOf st).E=as.n:=by have:=hp.Ē;rw[bu,bu,B]at this;show this
  let(bs,Z,pb,O):=agX hk hp hs;calc acv J fa fk F ga Y (by rw[hsz];show M) (by rw[z];show M) L λh' tk c J' g'=>h h' tk c bs pb O J' ?_;rw[g',<-Z,r0]
 unfold ksk_end;simp only[be,if_false];by_cases g:(as.Q Value.v).R.E<2
 .rw[ĺ g,ĺ g];calc ab<|ah ?_;rw[StateT.run_pure];refine ab<|ah ?_
  try dsimp only
  calc D _ rb (zk _) ?_;show (keys.Ĩ (as.Q Value.v).R).H.Ä _;rw[bS,aa]at g;let N:(keys.Ĩ (as.Q Value.v).R).H.n<2:=by rw[bu,B];show g
  show(show ∀(R:Ń->Ń->Prop) (u:İ Ń),u.n<2->u.Ä R from λR u h=>by
   cases u with
   | nil=>show .ê
   | cons v r=>
    cases r with
    | nil=>show ku _ _
    | cons w r=>show Ł h<|yk.á<|kG 2 r.n) _ _ N
 .rw[Ĺ g,Ĺ g];rw[bS,aa]at g;rw[ksk_kind hk (by rw[hsz];show jn g)];calc ab<|ah ?_;refine ab (fq (Pr (K:=Ds) (kn:=oneType') (jq.one aag) (st:=SortSt.mk' oneType' (keys.Ĩ (as.Q Value.v).R) #[] 7 Ĳ)
   (ps:=NQ as) (Q:=λ_ st'=>failedOf st'=Ĳ/\(arrOf st').H.æ (keys.Ĩ (as.Q Value.v).R).H/\(arrOf st').H.Ä (kL Ds<|NQ as)) rb rb rb (aah hk) ?_ λst' a1 a2 a3=>%[a1,a2|a3]) ?_ λ_ _ e=>e)
  .show (keys.Ĩ (as.Q Value.v).R).H.Ä _;rw[ksk_zip,e8];intro i j hi hj G;rw[List.getElem_zip,List.getElem_zip,oS,oS];let li:i<as.n:=by rw[List.length_zip,aa]at hi;simp_all
   let lj:j<as.n:=by rw[List.length_zip,aa]at hj;lia
   show as.idxOf as[i]<=as.idxOf as[j];rw[hn.idxOf_getElem i li,hn.idxOf_getElem j lj];show ar G
  .rintro⟨⟨⟩,st'⟩ s' ⟨rfl,L,hp,hs⟩
   try dsimp only
   show D st' L hp hs
def acw (J:aM X ao I H s)(fa:iB X ao H a)(fk:iB X ao H kS)(G:kS≠a)(ga:s.C.Á a=į (seqObj "list" #[] e1))(gk:s.C.Á kS=į (seqObj "list" #[] 0))(hn:as.Ö)(hz:as.n<=4000)(turn:Qh X A I H f as kf)(h:∀s' bs c,bs.æ as->rC as kf bs->aM X ao I H s'->s'.C.Á a=į (seqObj "list" (bs.Q Value.v).R c)->P (.done<|.ret .Ø) s'):ļ (Ľ X.Ï X.w) A (ksk_rest a (.v f) ķ (as.Q Value.v).R e1<|.v kS) P E s:=by
 let n6:as.n<=Ŀ:=av hz zt;unfold ksk_rest;refine ab<|gE ?_
 first| rw[List.forIn_toArray]| (rw[<-nN];simp only[List.toList_toArray])| rw[<-nN]
 refine ab (ksk_fold (λi s'=>∃kA e,aM X ao I H s'/\s'.C.Á kS=į (seqObj "list" kA e)/\s'.C.Á a=į (seqObj "list" #[] e1)/\Ř kA.H ((as.Q kf).Ã i)) (as.Q Value.v) 0 s
  %[13,#[],0,J,gk,ga|by simpa using IntsAre.nil] ?step ?done)
 case step=>
  intro j x s' hx z;let(kA,e,J',g,B,hk):=z;simp only[iO]at hk ⊢;rw[bz]at hx;let(b,Z,rfl):=gN.mp hx;let hj:j<as.n:=(am.mp Z).1;let L:kA.E<=as.n:=by let h1:=hk.n;rw[bu,ba,aa]at h1;lia
  let J2:=J'.pinned (fp:=[a,kS]) (λc Y=>by rcases a_.mp Y with z|z;rw[z];show fa;rw[al.mp z];show fk) (λc Y=>by
   rcases a_.mp Y with z|z;.rw[z];show%[0,_,B|nofun]
   .rw[al.mp z];show%[0,_,g|nofun])
  let mA:=de X.pn<|de ao<|lC (fp:=[a,kS]) zr B;let mK:=de X.pn<|de ao<|lC (fp:=[a,kS]) zr g;calc ab<|mP<|fq (turn b (a7 Z) _ s' J2) (λv F he=>?_) λ_ _ hF=>hF.í;let(D,rfl,M):=he;let a1:=(M.pin _ mA).1;let k1:=(M.pin _ mK).1;let N:=M.mJ
  try dsimp only at a1 k1 ⊢
  let s1:=e9 F.C kS (Obj.ò (·.Í<|.I (kf b) D));obtain⟨O,hc2⟩:∃O,(F.C.ù kS (Obj.ò (·.Í<|.I (kf b) D))).Á kS=į (seqObj "list" (kA.Í<|.I (kf b) D) O):=%[_|get?_update_seq k1 (·.Í<|.I (kf b) D)]
  let ek:(as.Q kf).Ã (j+1)=(as.Q kf).Ã j++[kf b]:=by rw[bv,bz,Z];simp
  let ea:(kA.Í<|Value.I (kf b) D).H=kA.H++[Value.I (kf b) D]:=zr;calc ab<|listUpdate_at k1 rb ?_ (av L n6) (by rw[ze];show gg<|av L n6);show ah %[32,rb,kA.Í<|.I (kf b) D,O,fk.kp (t':=F.toks) N s1,hc2,(s1.2 a G.Ò).X a1|by rw[ea,ek];show ksk_snoc hk]
 case done=>
  intro s' z;let(kA,e,J',g,B,hk):=z;let e3:(as.Q kf).Ã (0+(as.Q Value.v).n)=as.Q kf:=cn zr;rw[e3]at hk
  try dsimp only
  calc ab<|listItems_at g rb ?_;show aeO J' fa fk G B g hk hn hz λh' tk c bs pb ub N g4=>h _ bs c pb ub N g4
def acy (J:aM X ao I H s)(D:iB X ao H a)(B:s.C.Á a=į (seqObj "list" (as.Q Value.v).R n))(hn:as.Ö)(hz:as.n<=4000)(turn:Qh X A I H f as kf)(h:∀s' bs c,bs.æ as->rC as kf bs->aM X ao I H s'->s'.C.Á a=į (seqObj "list" (bs.Q Value.v).R c)->P (.done<|.ret .Ø) s'):ļ (Ľ X.Ï X.w) A (ksk_tree a (.v f) ķ) P E s:=by
 let G:as.n<=Ŀ:=av hz zt;let ha:a<s.d:=a9 B;let s1:=e9 s.C a<|Obj.ò λ_=>(#[]:ŀ ĳ);obtain⟨e1,j⟩:∃e1,(s.C.ù a<|Obj.ò λ_=>(#[]:ŀ ĳ)).Á a=į (seqObj "list" #[] e1):=%[_|get?_update_seq B λ_=>#[]]
 let M:aM X ao I H {s with heap:=s.C.ù a<|Obj.ò λ_=>(#[]:ŀ ĳ)}:=D.kp (t':=s.toks) J s1;let g:((s.C.ù a<|Obj.ò λ_=>(#[]:ŀ ĳ)).Í<|seqObj "tuple" (as.Q Value.v).R 0).Y.E=s.d+1:=by rw[size_push',sk]
 unfold ksk_tree;calc ab<|listItems_at B rb ?_;calc ab<|listUpdate_at B rb ?_ (by rw[bS,aa];show G)<|ci _;calc ab<|seqEpoch_at j rb ?_;calc ab<|xo ?_ (by show (as.Q Value.v).n<=_;rw[aa];show G);calc ab<|v0 ?_<|ci _;calc eC ?_;let F:∀b o,(s.C.ù a<|Obj.ò λ_=>(#[]:ŀ ĳ)).Á b=į o->(((s.C.ù a<|Obj.ò λ_=>(#[]:ŀ ĳ)).Í<|seqObj "tuple" (as.Q Value.v).R 0).Í<|seqObj "list" #[] 0).Á b=some o:=λb o e=>af _<|af _ e;let L:aM X ao I H {s with heap:=((s.C.ù a<|Obj.ò λ_=>(#[]:ŀ ĳ)).Í<|seqObj "tuple" (as.Q Value.v).R 0).Í<|seqObj "list" #[] 0}:=M.ě (t':=s.toks) F;let N:iB X ao H ((s.C.ù a<|Obj.ò λ_=>(#[]:ŀ ĳ)).Í<|seqObj "tuple" (as.Q Value.v).R 0).Y.E:=J.mH (by rw[g];show fA _)<|J.ì.ß (by rw[g];show fA _);show acw (s:={s with heap:=((s.C.ù a<|Obj.ò λ_=>(#[]:ŀ ĳ)).Í<|seqObj "tuple" (as.Q Value.v).R 0).Í<|seqObj "list" #[] 0}) L D N (by rw[g];show ib<|ff ha) (F _ _ j) (a6 _ rb) hn hz turn h
end
section
variable {X:Cx}{q x:ņ}{c P:Ķ}{params:Ŝ}{body e:ŋ}{scope:Œ}{p pos zA kpos:Pos}{te:TE}{sp:V->Hp->VK->Prop}
def agY {X:Cx}(pos:Pos)(q:ņ)(P:Ķ)(sp:V->Hp->VK->Prop)(te:TE):TE:=λT H Q=>te T H λx H1=>∃(L:Addr) (as:İ Ķ) (kf:Ķ->ĸ),[x]=[V.v L]/\aZ X.K H1 L (as.Q V.v)/\as.Ö/\as.n<=4000/\pP pos q P H1/\
 (∀a∈as,∀(g:Hp) (j:VK),cY H1 g->j (.I<|kf a) g->sp (.v a) g j)/\
 ∀(p:Ķ) (bs:İ Ķ) (g:Hp),cY H1 g->pP pos q P g->H1 p=Ĳ->bs.æ as->rC as kf bs->g p=į (.É<|bs.Q V.v)->Q (.v p) g
def acz (he:QE X e te)(L:zy X.mg X.ð c P)(B:X.Ç.code=.v c)(S:aW [x] [x] scope)(hR:Qg X.K (X.Ç.qual++"<lambda>") x scope body sp)(hr:eG 1 X.A.ę.ę)(F:∀(pm cv ctv u:ĳ),bindArgs (kla_fn "<lambda>" (X.Ç.qual++"<lambda>") params body scope [] pm cv ctv) %[[u]|[]]=pure [(x,u)])(hg:Gl X "sorted")(hn:X.mg "sorted"=Ĳ)(hcl:ŵ (closureFor scope X.Ç=pure []) Ŷ)(N:ŵ (defaultsOf params X.Ç=([],[])) Ŷ)(hs:ŵ (Ņ [e] X.Ç=(ķ,Ŏ e X.Ç)::Ņ [] X.Ç) Ŷ)(hst:ŵ (backTo pos (Ņ [e] X.Ç)=(ķ,Ŏ e X.Ç)::backTo pos (Ņ [] X.Ç)) Ŷ)(hpl:ŵ ((backTo pos<|Ņ [e] X.Ç).ġ (·.1)=ķ) Ŷ)(M:ŵ ((backToKw pos<|keywordEach [%[į<|Str.ï "key",.Lambda params body scope zA|kpos]] X.Ç).all (·.1.Ě)=Ĵ) Ŷ)(hkw:ŵ ((backToKw pos<|keywordEach [%[į<|Str.ï "key",.Lambda params body scope zA|kpos]] X.Ç).ġ (·.1.isNone)=ķ) Ŷ)(hks:ŵ ((backToKw pos<|keywordEach [%[į<|Str.ï "key",.Lambda params body scope zA|kpos]] X.Ç).ô (·.1)=[Str.ï "key"]) Ŷ):QE X (.ĭ (.ë "sorted" p) [e] [%[į<|Str.ï "key",.Lambda params body scope zA|kpos]] pos) (agY (X:=X) zA (X.Ç.qual++"<lambda>") P sp te):=⟨by
 intro ao s T H Q I h;calc ly<|nO I hg hn ii ?_ zt zt;let pa:=(aj he aq hs).Û;let pk:=Um (nm:=į (Str.ï "key")) (kpos:=kpos) (agW (pos:=zA) (body:=body) (scope:=scope) (params:=params) L B hcl N).Û YK;refine PyProof.Ă.callWith_kw (bM (pa pos ao s T H (λvs H1=>∃(L:Addr) (as:İ Ķ) (kf:Ķ->ĸ),vs=[.v L]/\aZ X.K H1 L (as.Q V.v)/\as.Ö/\as.n<=4000/\pP zA (X.Ç.qual++"<lambda>") P H1/\
  (∀a∈as,∀(g:Hp) (Q':VK),cY H1 g->Q' (.I<|kf a) g->sp (.v a) g Q')/\
  ∀(p:Ķ) (bs:İ Ķ) (g:Hp),cY H1 g->pP zA (X.Ç.qual++"<lambda>") P g->H1 p=Ĳ->bs.æ as->rC as kf bs->g p=į (.É<|bs.Q V.v)->Q (.v p) g) I ?_) λus s1 ⟨vs,H1,I1,r1,q1⟩=>?_) hst hpl M hkw
 .show h
 .let(L0,as,kf,rfl,hS,hnd,hz,ts,hsp,fin):=q1;calc bM (pk pos ao s1 T H1 (λzs g=>∃f c,zs=[V.v f]/\cY H1 g/\pP zA (X.Ç.qual++"<lambda>") P g/\g f=į (BX (X.Ç.qual++"<lambda>") params body scope f c)/\g c=į (BW (X.Ç.qual++"<lambda>") c)) I1 %[ts|λf c H' D t' _ Z hc=>%[7,f,c,rb,D,t',Z|hc]]) λws s2 zz=>?_;let(zs,g,I2,rz,q2):=zz;let(f,c',rfl,D,t2,Z,hc):=q2;let(u,rfl,ru):=vals1 r1;cases ru;let(u2,rfl,ru2):=vals1 rz;cases ru2;rw[hks];let hS2:aZ X.K g L0 (as.Q V.v):=by
   rcases hS with(h|⟨o,h⟩)|h;.show .Â<|.Â<|D.ď h nofun
   .show .Â<|.Ð %[o|D.ď h nofun]
   .show .Ð h
  let turn:Qh X X.A.ę.ę T g f as kf:=λa ha adA s3 J=>by calc fq (acu (Q:=λv H'=>v=.I (kf a)/\H'=g) J rb hr S F hR Z hc (show bQ (.v a) (.v a) from rb)<|hsp a ha g _ D %[rb|rb]) (λv s' x=>?_) λ_ _ z=>z;let(y,H',J',ry,rfl,rfl):=x;let(u',rfl):=ry;show%[0,u',rb|J']
  let(its,rv,pl,_):=I2.ğ hS2;let Qc:=Bl rv;subst Qc;let bY:(as.Q Value.v).n=as.n:=aa _;let n6:as.n<=Ŀ:=av hz zt;calc call_function_entry_kw kind_sorted plain_sorted entry_sorted (ksk_s1 _ _) ?_;unfold Builtin.«sorted»;calc ab (m:=checkCount "sorted" 1 1 _)<|ah ?_;calc ab<|collect_list pl.ü ?_ (by rw[bY];show n6);calc ab<|v0 ?_ (by rw[bY];show n6);let hsz:((s2.C.Í<|seqObj "list" #[] 0).ù s2.d (Obj.ò (· ++ (as.Q Value.v).R))).Y.E=s2.d+1:=by rw[sk,size_push']
  let O:(((s2.C.Í<|seqObj "list" #[] 0).ù s2.d (Obj.ò (· ++ (as.Q Value.v).R))).Í<|seqObj "list" (as.Q Value.v).R 0).Á (s2.d+1)=į (seqObj "list" (as.Q Value.v).R 0):=by rw[<-hsz];show a6 _ rfl
  let keep:∀b o,s2.C.Á b=į o->(((s2.C.Í<|seqObj "list" #[] 0).ù s2.d (Obj.ò (· ++ (as.Q Value.v).R))).Í<|seqObj "list" (as.Q Value.v).R 0).Á b=some o:=λb o q=>by let G:b<s2.d:=a9 q;rw[rl _ _ _ (by rw[hsz];show bb<|ff G),sN _ _ _ _ (bb G),rl _ _ _ (bb G)];show q
  show ļ _ _ _ _ _ {s2 with heap:=((s2.C.Í<|seqObj "list" #[] 0).ù s2.d (Obj.ò (· ++ (as.Q Value.v).R))).Í<|seqObj "list" (as.Q Value.v).R 0};rw[hsz];let J2:aM X ao T g {s2 with heap:=((s2.C.Í<|seqObj "list" #[] 0).ù s2.d (Obj.ò (· ++ (as.Q Value.v).R))).Í<|seqObj "list" (as.Q Value.v).R 0}:=I2.ě (t':=s2.toks) keep;let j:g (s2.d+1)=Ĳ:=I2.ì.ß<|fA _;let fa:iB X ao g (s2.d+1):=I2.mH (fA _) j;calc ab<|eC<|wpAny_call_entry_kw slot_list_sort %[0,_,O|rb] entry_list_sort ?_<|ksk_l1 _ _;show ļ (Ľ X.Ï X.w) X.A.ę.ę (Builtin.«list.sort» %[[.v (s2.d+1)]|[(Str.ï "key",.v f)]]) _ _ _;rw[ksk_t1];refine acy (s:={s2 with heap:=((s2.C.Í<|seqObj "list" #[] 0).ù s2.d (Obj.ò (· ++ (as.Q Value.v).R))).Í<|seqObj "list" (as.Q Value.v).R 0}) J2 fa O hnd hz turn λs' bs e pb ub J' g'=>%[0,_,rb|ah %[0,_,rb|?_]]
  let hl2:(bs.Q V.v).n<=Ŀ:=by rw[aa,pb.length_eq];show n6
  let Y:H1 (s2.d+1)=Ĳ:=D.Õ j;show%[1,.v<|s2.d+1,_,J'.adopt (o:=.É (bs.Q V.v)) fa %[19,hl2,bs.Q Value.v,e,Bm _|g'],rb|fin _ bs _ (D.å Y) (t2.imp (λz=>by rw[aU (bI z j)];show z) λ⟨c,z1,z2⟩=>%[0,c,by rw[aU (bI z1 j)];show z1|by rw[aU (bI z2 j)];show z2]) Y pb ub au]⟩
end
structure xX (K:W.Ë)(mg:ņ->ĵ ĳ)(name:ņ)(st:Ŋ)(ps:İ ņ)(c:Ķ):Prop where
 ex:∃f fd,iH K name name st f fd/\cV K fd ps []/\mg name=į (.v f)/\fd.code=.v c
def acA {K:W.Ë}{x:ņ}(a:W.nsIn K mainGlobals x=į (į<|.v f))(l:K.Å f=į %[oc,od,.func fd|sl])(g:fd.code=.v c)(j:K.Å c=į %[Li,Vl,.ä vs|sl2])(hv:vs[11]?=į (.v T)):W.tabIn K x=į (c,T):=by unfold W.tabIn;simp only[a,l,g,j,hv]
def aai {K:W.Ë}{h:Ň}{mg:ņ->ĵ ĳ}{name:ņ}{st:Ŋ}{ps:İ ņ}{f c T:Ķ}{oc L:ĳ}{od an B:ĵ Ķ}{osl g:ŀ (ĵ ĳ)}{vs:ŀ ĳ}{kV doc pm ct:ĳ}(X:K.In h)(G:h.Ns mainGlobals mg)(a:W.nsIn K mainGlobals name=į (į<|.v f))(l:K.Å f=į %[oc,od,.func<|W.fnOf name name (dY st) (cR st) (aH st) .Ø kV doc pm an (.v c) ct|osl])(e:W.ĩ K (.v c) name=Ĵ)(k:W.Ċ K (.v f)=Ĵ)(j:K.Å c=į %[L,B,.ä vs|g])(hv:vs[11]?=į (.v T))(D:∀(kV doc pm:ĳ) (an:ĵ Ķ) (bF ct:ĳ) (us:İ ĳ),us.n=ps.n->bindArgs (W.fnOf name name (dY st) (cR st) (aH st) .Ø kV doc pm an bF ct) %[us|[]]=pure (ps.Ĩ us)):∃c T,xX K mg name st ps c/\W.tabIn K name=į (c,T):=%[4,c,T,%[f,_,jl l e k,(jl l e k).binds D,mN X G a|rb]|acA a l rb j hv]
def xX.made {K:W.Ë}{mg:ņ->ĵ ĳ}{name:ņ}{st:Ŋ}{N ps:İ ņ}{k:ı}{sp:Sp}(D:xX K mg name st ps c)(S:aW N ps (aH st))(len:∀vs H Q E,sp vs H Q E->vs.n=ps.n)(j:∀(f:Ķ) (A:ň) (outer:İ Env) (s:Ļ) (H:Hp) (vs:İ V) (Q:VK) (E:XK),eG k (A.deeper<|envOfC name (aH st) s.d f<|.v c)->sp vs H Q E->
   ∃t,vG (pH fP P w K mg base N name (aH st) f (.v c) A outer s H E).D_ (cR st) t/\t {nx:=λ_ H'=>Q .ă H',rt:=Q} (start N vs) H):bD P w K mg base name (k+1) ps sp:=by
 let(f,fd,F,b,g,G):=D.ex;let(oc,od,kV,doc,pm,an,bF,ct,osl,rfl,L,B):=F.ex;let G:bF=.v c:=G;subst G;calc%[f,_,adE L B S len λA outer s H vs Q E M J=>?_,b,g|F.kp];let(t,h,q):=j f A outer s H vs Q E M J;show%[0,t,h.Û.D_|q]
def agZ:V->Hp->VK->Prop:=λv H Q=>∃(a:Addr) (k:Int) (y:V),v=.v a/\H a=į (.Æ [.I k,y])/\Q (.I<|-k) H
def acB {K:W.Ë}{q x:ņ}{scope:Œ}{j:ı}(S:aW [x] [x] scope)(hv:scope.Ú.Å x=į .û)(hd:(x==("__debug__":ņ))=ķ)(g:(x==("__classdict__":ņ))=ķ):Qg K q x scope (.UnaryOp .USub (.ė (.ë x p1) (.ą (.I 0) j p2) p3) p4) agZ:=λA outer s H f bF P w mg base=>by calc%[0,_,(adD Yz<|aV bA (⟨Ys (i:=0) rb (Or.Â hv) hd g⟩) aB λ_ _=>rfl).Û|λv Q h=>?_];let(a,k,y,rfl,ha,q):=h;show%[45,a,_,0,.I k,rb,rb,aQ.of ha,rb,k,rb|q]
def Du (h:n<=4000):n<Ŀ:=gd h zt
section
variable {X:Cx}{tg:ŋ}
def acC {k:ı}(h:k<=4000):¬(!Builtin.List.listFitsIndex (k:ĸ))=Ĵ:=by
 let e:Builtin.List.listFitsIndex (k:ĸ)=Ĵ:=by unfold Builtin.List.listFitsIndex;let h1:(k:ĸ)<=4000:=i8 Int.ofNat_le h;let g:(0:ĸ)<=(k:ĸ):=dA _;generalize (k:ĸ)=z at h1 g;simp only[eD,oy];refine%[Int.le_trans zt g|Int.lt_of_le_of_lt h1 zt]
 rw[e];decide
def acD:V->İ V->Hp->VK->Prop:=λx vs H Q=>∃(l:Addr) (xs:İ V) (k:Nat) (y:V),x=.v l/\vs=[.I k,y]/\H l=į (.É xs)/\k<=xs.n/\xs.n<4000/\Q .ă (upd H l<|.É<|xs.Ã k++y::xs.Ì k)
def Xg:MtM X "list.insert" acD:=by
 intro ao s T H x vs v us Q I O Y h;let(l,xs,k,y,rfl,rfl,J,hk,hz,q):=h;cases O;let(u,G,rfl,M,N):=vals2 Y;let(t,rfl):=M;let(z,its,n,r,L,e):=I.Ay J;let j:¬(!Builtin.List.listFitsIndex (k:ĸ))=Ĵ:=acC zo;let hsz:its.R.E<=Ŀ:=by rw[bS,<-L];show ar<|Du<|ar hz
 let D:((k:ĸ)<0)=ŗ:=zr;let B:(k:ĸ).Ü=k:=cq k;generalize (k:ĸ)=x at j D B;let g:=AutoListH.list_insert_list_int_val_1 l its.R n x t G j hsz;calc call_meets F.slot_list_insert %[0,_,e|rb] F.entry_list_insert (F.args_list_insert_3 _ _ _) g %[e|?_];refine%[1,.ă,_,I.Wu (its':=its.Ã k++G::its.Ì k) J e ?_ ((r.Ã k).append<|.Þ N<|r.Ì k) ?_,rb|q]
 .let e1:min x.Ü its.R.E=k:=by rw[B,bS];lia
  show (its.R.î 0<|if x<0 then _ else min x.Ü its.R.E).Í G++its.R.î (if x<0 then _ else min x.Ü its.R.E)=_;rw[Ĺ (by rw[D];show id),e1];apply kX.mp;simp;show cn (by rw[cS];lia)
 .rw[ax,b8,ba,cS];show ar<|Du (by grind)
def aiA (ta:TA):TI:=λT H R=>ta T H λvs H1=>∃m c n:Nat,vs=[.I 0,.I (m:ĸ),.I (c:ĸ)]/\Builtin.Range.small 0 (m:ĸ) (c:ĸ)=Ĵ/\Builtin.Range.rangeSize 0 (m:ĸ) (c:ĸ)=(n:ĸ)/\1<=c/\c<=9/\R (Oz 0 c n) H1
def aaj:∀m:Fin 7,1<=m.val->Builtin.Range.small 0 (m.val:ĸ) 2=Ĵ/\Builtin.Range.rangeSize 0 (m.val:ĸ) 2=(((m.val+1)/2:ı):ĸ):=by decide +kernel
def aak {a b c:ŋ}{ta:TA}{p pos:Pos}(J:Gl X "range")(hm:X.mg "range"=Ĳ)(ha:QA X [a,b,c] ta)(hs:ŵ (Ņ [a,b,c] X.Ç=[(ķ,Ŏ a X.Ç),(ķ,Ŏ b X.Ç),(ķ,Ŏ c X.Ç)]) Ŷ)(g:ŵ (Ņ [b,c] X.Ç=[(ķ,Ŏ b X.Ç),(ķ,Ŏ c X.Ç)]) Ŷ):QI X tg (.ĭ (.ë "range" p) [a,b,c] [] pos) (aiA ta):=⟨by
 intro ao s T H R I h;calc Call_<|nO I J hm boot_range<|ip (bM (ha.Û pos ao s T H _ I h) λus s1 L=>?_) (by rw[hs,g]) (by rw[g];rfl);let(vs,H1,I1,r1,q1):=L;let(m,c,n,e,F,sz,q3,q4,q):=q1;subst e;cases r1 with
 | cons r1 rr=>
  cases rr with
  | cons r2 rr=>
   cases rr with
   | cons r3 rr=>
    cases rr;let(B,rfl):=r1;let(j,rfl):=r2;let(D,rfl):=r3;calc call_range_3 zo ?_<|.Â<|PyProof.noPylong_small (by simp_all;lia);calc wpAny_pyIter_range (IsRange.new ..) F ?_;let I2:aM X ao T H1 {s1 with heap:=s1.C.Í {cls:=.È "range",data:=.ä #[.I 0 B,.I (m:ĸ) j,.I (c:ĸ) D]},toks:=s1.Ý}:=I1.ě λb o e=>af _ e;refine%[16,(s1.C.Í {cls:=.È "range",data:=.ä #[.I 0 B,.I (m:ĸ) j,.I (c:ĸ) D]}).Y.E,[(s1.C.Í {cls:=.È "range",data:=.ä #[.I 0 B,.I (m:ĸ) j,.I (c:ĸ) D]}).Y.E],_,_,H1,rb,
     I2.ě (t':=s1.toks) λb o e=>af _ e,SX _ 0 (c:ĸ) n,?_,λb G=>?_|q]
    .let e1:(0:ĸ)+((0:ı):ĸ)*(c:ĸ)=0:=zr;let e2:(n:ĸ)-((0:ı):ĸ)=Builtin.Range.rangeSize 0 (m:ĸ) (c:ĸ):=by rw[sz];simp
     show Ţ _ _ ((0:ĸ)+((0:ı):ĸ)*(c:ĸ)) ((n:ĸ)-((0:ı):ĸ)) (c:ĸ);rw[e1,e2];show a6 _ rfl
    .let e:b=(s1.C.Í {cls:=.È "range",data:=.ä #[.I 0 B,.I (m:ĸ) j,.I (c:ĸ) D]}).Y.E:=by simpa using G
     subst e;show I2.mH (ag _)<|I2.ì.ß<|ag _⟩
end
def aal {K:W.Ë}{g:Ļ}{vs:İ ĳ}(KX:K.In g.C)(G:g.C.Ns mainGlobals mg)(B:g.C.Ns builtinsNs mb)(hbb:∀x:ņ,x≠"__name__"->mb x=bootBuiltins x)(hlim:g.C.NoLimit)(hg:g.gens=#[])(ha:g.C.Á a=į {cls:=.È "list",data:=.ú vs.R})(hi:Ř vs ns)(hl:ns.n<=Ŀ)(hr:eG k callerA)(hC:CodeHd g.C c T)(D:g.C.Á T=į (tabObj #[]))(hK:noTabs K=Ĵ)(hbm:∃bm ob,mg "__builtins__"=į (.v bm)/\bm≠builtinsNs/\g.C.Á bm=į ob/\ob.cls=.È "module"/\ob.dict=į builtinsNs/\ob.Ď=.plain)(F:∀base:Ň,K.In base->base.Ns mainGlobals mg->zy mg base c T->dJ P w K mg base fP k fa fd [x] sp)(O:∀(s:Ļ) (u:ĳ),Ť s fd %[[u]|[]] [(x,u)])(hsp:∀H:Hp,aZ K H a (ns.Q V.I)->H T=some (.o7 #[])->sp [.v a] H (λv _=>v=.bl Ĵ) λ_ _ _=>ŗ):codeAny (Ľ P w) callerA (.call (.v fa) %[[.v a]|[]]) (λr s'=>r=.ok (.ret<|.ĉ Ĵ)/\OldK g.C s'.C/\s'.os=g.os/\Ś s'.gens) g:=by
 let rv:=Y9 hi;let lenV:=hi.n;let noT:∀b o,K.Å b=į o->b≠T:=λb o e z=>by let e1:=KX b o e;rw[z,D]at e1;cases e1;show Ł (show ķ=Ĵ from kR.mp hK _ (mem_of_lookupK e)) cw
 let N:∀H:Hp,aZ K H a (ns.Q V.I)->H T=į (.o7 #[])->jK P w H g.C->(∀b,b≠T->H b≠Ĳ->b=a/\∃o xs,H b=į (.ql o<|.É xs))->(H a≠Ĳ->K.Å a=Ĳ)->
   codeAny (Ľ P w) callerA (.call (.v fa) %[[.v a]|[]]) (λr s'=>r=.ok (.ret<|.ĉ Ĵ)/\OldK g.C s'.C/\s'.os=g.os/\Ś s'.gens) g:=by
  intro H hS Z hok hA hKa;let nn:∀{b:Ķ} {o:Obj},g.C.Á b=į o->o≠tabObj #[]->o≠{cls:=.È "list",data:=.ú vs.R}->H b=Ĳ:=λ{b o} e n1 n2=>by
   cases q:H b with
   | none=>rfl
   | some u=>
    by_cases z:b=T;.rw[z,D]at e;show Ł (bg e).Ò n1
    .let(e',_):=hA b z (by rw[q];show nofun);rw[e',ha]at e;show Ł (bg e).Ò n2
  let Dv:∀{b:Ķ} {o:Obj},g.C.Á b=į o->H b=Ĳ->(wG g.C H).Á b=į o:=λe n=>abo e n;let J:∀{b:Ķ} {m:ņ->ĵ ĳ},g.C.Ns b m->(wG g.C H).Ns b m:=λ{b m} ⟨o,es,ep,e,d,r⟩=>%[27,o,es,ep,Dv e (nn e (λz=>by rw[z]at d;cases d) λz=>by rw[z]at d;cases d),d|r]
  let hKb:K.In (wG g.C H):=λb o e=>Dv (KX b o e) (by
   cases q:H b with
   | none=>rfl
   | some u=>let(e',_):=hA b (noT b o e) (by rw[q];show nofun);subst e';rw[hKa (by rw[q];show nofun)]at e;cases e)
  let hM:Mod K mg (wG g.C H):=%[hKb,J G,%[0,mb,J B|hbb]|let %[mc,h1|h2]:=hlim;%[0,mc,J h1|h2]]
  let hLA:zy mg (wG g.C H) c T:=by
   refine%[?_,?_|λz=>?_]
   .let(o,vs',file,tf,Y,tg,inF,text,tt,e1,r1,r2):=hC;show%[6,o,vs'|%[21,file,tf,Y,tg,inF,text,tt,Dv e1 (nn e1 (λz=>by rw[z]at r1;cases r1) λz=>by rw[z]at r1;show Ł (Value.È.inj r1) zt),r1|r2]]
   .let(bm,ob,b1,b2,b3,b4,b5,b6):=hbm;refine%[60,bm,ob,b1,b2,λz=>?_,λz=>?_,Dv b3 (nn b3 (λz=>by rw[z]at b4;cases b4) λz=>by rw[z]at b4;show Ł (Value.È.inj b4) zt),b4,b5|b6]
    .let(o,es,ep,e,d,_):=G;rw[z,e]at b3;cases b3;rw[d]at b6;cases b6
    .rw[z,D]at b3;cases b3;cases b4
   .let(o,es,ep,e,d,_):=G;rw[z,D]at e;cases e;cases d
  let e0:yJ P w K mg (wG g.C H) callerA [] g H:=%[rb,hM,λb o e=>ad2 e,gx<|Yp _ _,trivial,λb B=>Ł (show b∈([]:İ Ķ) from B) zr,hok|.of_eq hg]
  calc iN ((F _ hKb (J G) hLA).run callerA [] g H %[[.v a]|[]] [.v a] [.v a] _ _ hr e0 (O g<|.v a) (.Þ rb .ê)<|hsp H hS Z) λr s' h=>?_;cases r with
  | error e=>show False.í h
  | ok fl=>
   cases fl with
   | next=>show False.í h
   | brk=>show False.í h
   | cont=>show False.í h
   | ret u=>
    let(v,H',os,bare,un,M,r',q):=h;let q':v=.bl Ĵ:=q;subst q';obtain rfl:u=Value.ĉ Ĵ:=r';let(more,eT):=un.wF T _ Z;let gT:s'.C.Á T=į (tabObj<|#[]++more):=M _ _ eT;let keep:∀b o,g.C.Á b=į o->b≠T->s'.C.Á b=į o:=λb o e z=>by
     cases q:H b with| none=>show un.keep b o e q (by intro z;show Ł (show b∈([]:İ Ķ) from z) zr) zr| some u=>let(_,ob,xs,z):=hA b z (by rw[q];show nofun);let z2:=un.wD b ob _ z;let(e1,_):=hok b _ z;let(e2,_):=M b _ z2;rw[e]at e1;cases e1;show e2
    refine%[rb,%[λb o e=>?_|λb o e=>?_],os|bare]
    .by_cases z:b=T
     .subst z;rw[D]at e;cases e;show .Ð<|.Â %[(hC.tab D).isCodeTable|%[19,rb,#[],more,rb|gT]]
     .show .Â<|keep b o e z
    .by_cases z:b=T;.subst z;show%[_|gT]
     .show%[o|keep b o e z]
 let aT:a≠T:=λz=>by rw[z,D]at ha;cases ha
 cases hk:K.Å a with
 | some o=>
  let e:=KX a o hk;rw[ha]at e;cases e;calc N (λb=>if b=T then į (.o7 #[]) else Ĳ) (.Ð %[37,_,vs.R,_,hk,rb,rb,rb,by rw[bS,lenV];show hl|by simpa using rv]) (if_pos rb) (λb u z=>?_) (λb z h=>Ł (Ĺ z) h) λz=>Ł (Ĺ aT) z;by_cases B:b=T
  .let L:=(ĺ B).Ò.X z;cases L;subst B;show D
  .let L:=(Ĺ B).Ò.X z;cases L
 | none=>
  refine N (λb=>if b=T then į (.o7 #[]) else if b=a then į (.ql {cls:=.È "list",data:=.ú vs.R}<|.É<|ns.Q V.I) else Ĳ) (.Â<|.Ð %[{cls:=.È "list",data:=.ú vs.R}|(Ĺ aT).X<|if_pos rb]) (if_pos rb) (λb u z=>?_) (λb z h=>?_) λ_=>hk
  .by_cases B:b=T
   .let L:=(ĺ B).Ò.X z;cases L;subst B;show D
   .let z1:=(Ĺ B).Ò.X z;by_cases j:b=a
    .let L:=(ĺ j).Ò.X z1;cases L;subst j;show%[ha|%[19,by rw[aa];show hl,vs,_,rv|ha]]
    .let L:=(Ĺ j).Ò.X z1;cases L
  .by_cases j:b=a;.show%[j|%[6,_,_|(Ĺ z).X<|ĺ j]]
   .show Ł ((Ĺ z).X<|Ĺ j) h
def acE {x y:ņ}{l:W.OpenLaw}{g:İ ņ}{XP:(ņ->ĵ ĳ)->Ň->Prop}{YP:ŉ->Ň->Prop}{d dr:DefRec}{K:Params->W.Ë}{sp:W.Ë->Ķ->Sp}(hn:l.most=į 63)(Z:d.è.defaults=[])(D:(recsOf q).find? (λe=>e.name==y)=į dr)(hY:∀(w:ŉ) (h:Ň),YP w h->(K w.è).In h)(F:∀(w:ŉ) (mg:ņ->ĵ ĳ) (J:Ķ) (h:Ň),(K w.è).In h->h.Ns mainGlobals mg->mg d.name=į (.v J)->
   ∃(fd:FuncData) (c T:Addr),W.tabIn (K w.è) y=į (c,T)/\noTabs (K w.è)=Ĵ/\(∀(s:Ļ) (u:ĳ),Ť s fd %[[u]|[]] [(x,u)])/\∀base:Ň,(K w.è).In base->base.Ns mainGlobals mg->zy mg base c T->dJ l.Ï w (K w.è) mg base fP 20 J fd [x] (sp (K w.è) T))
  (hsp:∀(K:W.Ë) (T:Ķ) (H:Hp) (a:Ķ) (ns:İ ĸ),ns.n<=63->aZ K H a (ns.Q V.I)->H T=į (.o7 #[])->sp K T [.v a] H (λv _=>v=.bl Ĵ) λ_ _ _=>ŗ) :
  W.WalkO q g XP YP l.row.toRowW d [] (λf vs=>PySem.call f vs):=by
 calc Att.SQ hn Z λw s₀ s₁ mg mb J o pm cd doc a vs ns G Y ho hd hcd L B j bY hg=>?_;let N:=hY w _ Y;let(fd,c,T,ht,M,hb,hF):=F w mg J _ N G.T.g L;let(hC,hT):=tab_of G.T N D ht;show aal N G.T.g G.T.b G.T.builtins G.T.nolimit hg B j (av bY zt) %[rb,zt|zt] hC hT M G.T.bmain hF hb λH hS O=>hsp _ T H a ns bY hS O
end L2
namespace L2
open PySem
theorem eS {n:ı}{P:İ ĳ->Prop}(h:∀a us,us.n=n->P (a::us)):∀us,us.n=n+1->P us
 | a::us,e=>h a us (Nat.succ.inj e)
@[elab_as_elim] theorem e1 {P:İ ĳ->Prop} (h:∀a,P [a]) (us:İ ĳ) (g:us.n=1):P us:=eS (λa us e=>(by rw[xh e];show h a)) us g
@[elab_as_elim] theorem e2 {P:İ ĳ->Prop} (h:∀a b,P [a,b]) (us:İ ĳ) (g:us.n=2):P us:=eS (λa us e=>e1 (P:=λr=>P (a::r)) (h a) us e) us g
@[elab_as_elim] theorem e3 {P:İ ĳ->Prop} (h:∀a b c,P [a,b,c]) (us:İ ĳ) (g:us.n=3):P us:=eS (λa us e=>e2 (P:=λr=>P (a::r)) (h a) us e) us g
@[elab_as_elim] theorem e4 {P:İ ĳ->Prop} (h:∀a b c d,P [a,b,c,d]) (us:İ ĳ) (g:us.n=4):P us:=eS (λa us e=>e3 (P:=λr=>P (a::r)) (h a) us e) us g
@[elab_as_elim] theorem e5 {P:İ ĳ->Prop} (h:∀a b c d e,P [a,b,c,d,e]) (us:İ ĳ) (g:us.n=5):P us:=eS (λa us e=>e4 (P:=λr=>P (a::r)) (h a) us e) us g
@[elab_as_elim] theorem e6 {P:İ ĳ->Prop} (h:∀a b c d e f,P [a,b,c,d,e,f]) (us:İ ĳ) (g:us.n=6):P us:=eS (λa us e=>e5 (P:=λr=>P (a::r)) (h a) us e) us g
end L2
namespace My
open PySem L2
def top (i:ı):Ŋ:=PySem.Challenge.pw_letterrack_k53_ranked.main.body.Î i (.Pass %[(0),(0),(0)|0])
abbrev zB:Ŋ:=top 7
def Tp:aW ["thing"] ["thing"] (aH zB):={}
abbrev BZ:Ŋ:=top 8
def Xh:aW ["thing"] ["thing"] (aH BZ):={}
abbrev wL:Ŋ:=top 9
def Qi:aW ["sign"] ["sign"] (aH wL):={}
abbrev vW:Ŋ:=top 10
def G9:aW ["sign"] ["sign"] (aH vW):={}
abbrev B_:Ŋ:=top 11
def tW:aW ["rack","signs","tiles","sign","tile"] ["rack","signs"] (aH B_):={}
abbrev pQ:Ŋ:=top 12
def Fp:aW ["laying"] ["laying"] (aH pQ):={}
abbrev zE:Ŋ:=top 17
def qU:aW ["thing","width"] ["thing"] (aH zE):={}
abbrev zF:Ŋ:=top 18
def Ej:aW ["thing"] ["thing"] (aH zF):={}
abbrev wM:Ŋ:=top 19
def Ca:aW ["thing"] ["thing"] (aH wM):={}
abbrev uH:Ŋ:=top 20
def Mx:aW ["rows","row","column"] ["rows","row","column"] (aH uH):={}
abbrev rQ:Ŋ:=top 21
def Jy:aW ["rows","thing"] ["rows","thing"] (aH rQ):={}
abbrev zG:Ŋ:=top 22
def Tq:aW ["rows","marks","begin"] ["rows","marks","begin"] (aH zG):={}
abbrev rR:Ŋ:=top 23
def xY:aW ["rows","column"] ["rows","column"] (aH rR):={}
abbrev rT:Ŋ:=top 24
def xZ:aW ["rows"] ["rows"] (aH rT):={}
abbrev jz:Ŋ:=inClass (top 25) 0
def Mz:aW ["self","rows","marks","begin"] ["self","rows","marks","begin"] (aH jz):={}
abbrev lH:Ŋ:=inClass (top 25) 1
def Tr:aW ["self","row","column"] ["self","row","column"] (aH lH):={}
abbrev gU:Ŋ:=inClass (top 25) 2
def uI:aW ["self"] ["self"] (aH gU):={}
abbrev jZ:Ŋ:=inClass (top 25) 3
def kO:aW ["self","row","column","way","line","place","ahead","signs","first"] ["self","row","column","way"] (aH jZ):={}
abbrev iC:Ŋ:=inClass (top 25) 4
def vX:aW ["self","begin"] ["self"] (aH iC):={}
abbrev jA:Ŋ:=inClass (top 25) 5
def jN:aW ["self","laying","lines","row","column","sign"] ["self","laying"] (aH jA):={}
abbrev zH:Ŋ:=top 28
def Tt:aW ["laying"] ["laying"] (aH zH):={}
abbrev wN:Ŋ:=top 29
def Qj:aW ["laying"] ["laying"] (aH wN):={}
abbrev mV:Ŋ:=top 30
def mj:aW ["board","row","column","around"] ["board","row","column"] (aH mV):={}
abbrev Fq:Ŋ:=top 31
def jQ:aW ["board","laying","after","way","asked","row","column","words","along","run"] ["board","laying"] (aH Fq):={}
abbrev zJ:Ŋ:=top 35
def Tv:aW ["worths","sign"] ["worths","sign"] (aH zJ):={}
abbrev Cd:Ŋ:=top 36
def Xi:aW ["word","place"] ["word","place"] (aH Cd):={}
abbrev rW:Ŋ:=top 37
def dI:aW ["board","worths","laying","word","cells","total","times","place","sign","cell","worth","mark"] ["board","worths","laying","word"] (aH rW):={}
abbrev zK:Ŋ:=top 38
def Tw:aW ["bonus","laying"] ["bonus","laying"] (aH zK):={}
abbrev wQ:Ŋ:=top 39
def Ce:aW ["board","worths","bonus","laying","counted"] ["board","worths","bonus","laying"] (aH wQ):={}
abbrev pR:Ŋ:=top 42
def jB:aW ["board","book","row","column","way","run","place","ahead","behind"] ["board","book","row","column","way"] (aH pR):={}
abbrev uJ:Ŋ:=top 43
def oG:aW ["board","cells","row","signs"] ["board"] (aH uJ):={}
abbrev Jz:Ŋ:=top 44
def acF:aW ["board"] ["board"] (aH Jz):={}
abbrev Ft:Ŋ:=top 46
def vY:aW ["board","word","cells","row"] ["board","word"] (aH Ft):={}
abbrev oU:Ŋ:=top 47
def jm:aW ["board","row","column","word","triples","place","letter","sign"] ["board","row","column","word"] (aH oU):={}
abbrev qJ:Ŋ:=top 48
def mF:aW ["board","book","fitting","row","column"] ["board","book"] (aH qJ):={}
abbrev rY:Ŋ:=top 49
def yc:aW ["triples","fitting","joining"] ["triples","fitting","joining"] (aH rY):={}
abbrev mW:Ŋ:=top 50
def oH:aW ["letters","rack","texts","sign","tile","left"] ["letters","rack"] (aH mW):={}
abbrev uK:Ŋ:=top 51
def oJ:aW ["triples","rack","cells","layings","signs"] ["triples","rack"] (aH uK):={}
abbrev oV:Ŋ:=top 52
def eU:aW ["board","book","rack","fitting","joining","layings","word","row","column","triples"] ["board","book","rack"] (aH oV):={}
abbrev rZ:Ŋ:=top 53
def qK:aW ["board","book","rack","across","down"] ["board","book","rack"] (aH rZ):={}
abbrev su:Ŋ:=top 55
def JB:aW ["rack","laying"] ["rack","laying"] (aH su):={}
abbrev uL:Ŋ:=top 56
def vZ:aW ["board","book","rack","worths","bonus","leaves","pairs","laying","whole"] ["board","book","rack","worths","bonus","leaves"] (aH uL):={}
abbrev sH:Ŋ:=top 57
def yd:aW ["board","book","rack","worths","bonus","leaves","pairs"] ["board","book","rack","worths","bonus","leaves"] (aH sH):={}
abbrev Cg:Ŋ:=top 59
def G_:aW ["text"] ["text"] (aH Cg):={}
abbrev uM:Ŋ:=top 60
def MF:aW ["text"] ["text"] (aH uM):={}
abbrev j4:Ŋ:=inClass (top 61) 0
def Ci:aW ["self","words","word"] ["self","words"] (aH j4):={}
abbrev jC:Ŋ:=inClass (top 61) 1
def MJ:aW ["self"] ["self"] (aH jC):={}
abbrev lJ:Ŋ:=inClass (top 61) 2
def Tz:aW ["self","text"] ["self","text"] (aH lJ):={}
abbrev jg:Ŋ:=inClass (top 63) 0
def JC:aW ["self","singles","doubles"] ["self","singles","doubles"] (aH jg):={}
abbrev gW:Ŋ:=inClass (top 63) 1
def oW:aW ["self","left","singles","doubles"] ["self","left"] (aH gW):={}
abbrev Cj:Ŋ:=top 65
def Xj:aW ["_law_script","_law_k"] ["_law_script","_law_k"] (aH Cj):={}
abbrev Qk:Ŋ:=top 66
def JD:aW ["_law_cell","_law_j","_law_number"] ["_law_cell","_law_j"] (aH Qk):={}
abbrev Ck:Ŋ:=top 67
def tX:aW ["_law_cell","_law_every","_law_step"] ["_law_cell"] (aH Ck):={}
abbrev Ql:Ŋ:=top 68
def Vm:aW ["_law_cell","_law_letters_here","_law_letter"] ["_law_cell","_law_letters_here"] (aH Ql):={}
abbrev JF:Ŋ:=top 69
def oX:aW ["_law_rows","_law_cell","_law_found","_law_row","_law_text","_law_column","_law_number"] ["_law_rows","_law_cell"] (aH JF):={}
abbrev Qm:Ŋ:=top 70
def yg:aW ["_law_rows","_law_laying","_law_grid_here","_law_row","_law_column","_law_sign_here"] ["_law_rows","_law_laying"] (aH Qm):={}
abbrev Xk:Ŋ:=top 71
def uN:aW ["_law_grid_here","_law_row","_law_column","_law_way","_law_signs","_law_here"] ["_law_grid_here","_law_row","_law_column","_law_way"] (aH Xk):={}
abbrev JG:Ŋ:=top 72
def oY:aW ["_law_rows","_law_laying","_law_grid_here","_law_line","_law_runs","_law_row","_law_column","_law_sign_here"] ["_law_rows","_law_laying"] (aH JG):={}
abbrev JH:Ŋ:=top 73
def acG:aW ["_law_found"] ["_law_found"] (aH JH):={}
abbrev Fv:Ŋ:=top 74
def wg:aW ["_law_cell","_law_letters_here","_law_worths_here","_law_k","_law_number"] ["_law_cell","_law_letters_here"] (aH Fv):={}
abbrev JK:Ŋ:=top 75
def fZ:aW ["_law_marks_here","_law_worths_here","_law_laying","_law_word","_law_laid","_law_row","_law_column","_law_way","_law_signs","_law_whole_here","_law_times","_law_k","_law_spot","_law_worth","_law_mark"] ["_law_marks_here","_law_worths_here","_law_laying","_law_word"] (aH JK):={}
abbrev Qn:Ŋ:=top 76
def Dw:aW ["_law_cell","_law_letters_here","_law_by","_law_found","_law_tile","_law_number"] ["_law_cell","_law_letters_here","_law_by"] (aH Qn):={}
abbrev qL:Ŋ:=top 77
def jR:aW ["_law_singles","_law_doubles","_law_left_here","_law_found","_law_k"] ["_law_singles","_law_doubles","_law_left_here"] (aH qL):={}
abbrev JL:Ŋ:=top 78
def mX:aW ["_law_cell","_law_letters_here","_law_most","_law_many","_law_found","_law_k","_law_number","_law_tile"] ["_law_cell","_law_letters_here","_law_most"] (aH JL):={}
abbrev uO:Ŋ:=top 79
def jh:aW ["_law_cell","_law_letters_here","_law_words_here","_law_k","_law_number","_law_word","_law_j"] ["_law_cell","_law_letters_here"] (aH uO):={}
abbrev uP:Ŋ:=top 80
def dh:aW ["_law_cell","_law_letters_here","_law_words_here","_law_tall","_law_wide","_law_grid_here","_law_row","_law_k","_law_number","_law_word","_law_column","_law_sign_here"] ["_law_cell","_law_letters_here","_law_words_here"] (aH uP):={}
abbrev Qo:Ŋ:=top 81
def yh:aW ["_law_rack","_law_laying","_law_left_here","_law_row","_law_column","_law_sign_here"] ["_law_rack","_law_laying"] (aH Qo):={}
abbrev JM:Ŋ:=top 82
def Qp:aW ["_law_found","_law_due_here","_law_one"] ["_law_found","_law_due_here"] (aH JM):={}
abbrev Xl:Ŋ:=top 83
def kY:aW ["_law_told_here","_law_rows","_law_marks_here","_law_rack","_law_sums","_law_worths_here","_law_bonus","_law_singles","_law_doubles","_law_due_here","_law_laying","_law_whole_here","_law_at"] ["_law_told_here","_law_rows","_law_marks_here","_law_rack","_law_sums"] (aH Xl):={}
abbrev NT:Ŋ:=top 84
def iT:aW ["_law_script","_law_k","_law_cell","_law_other","_law_letters_here","_law_words_here","_law_rows","_law_marks_here","_law_spot","_law_board","_law_rack","_law_sums","_law_leaves","_law_book","_law_due_here","_law_turn"] ["_law_script"] (aH NT):={}
section
variable {P:ń}{w:ŉ}{K:W.Ë}{mg:ņ->ĵ ĳ}{base:Ň}
def Hf (c:ı):ŏ:=ľ (97<=c)&&ľ (c<=122)
def Lj (c:ı):ŏ:=ľ (65<=c)&&ľ (c<=90)
def Lk (l:İ ı):ŏ:=match l with|[c]=>Hf c||Lj c|_=>false
def ZJ (a b:ı):([a]<[b])↔a<b:=by simp[gu]
def JN (a b:ı):(!ľ ([a]<[b]))=ľ (b<=a):=by
 by_cases h:a<b;.rw[aw ((ZJ a b).á h),ai zo];rfl
 .rw[ai (λz=>h<|(ZJ a b).mp z),aw (jn h)];rfl
def aiB (K:W.Ë)(H:Hp)(x:V):Prop:=∃t,pG K H x t/\W.kitOne K t (.È "str")=į ķ
def aam (K:W.Ë):Sp:=λvs H Q _=>(∃x,vs=[x]/\aiB K H x/\Q (.bl ķ) H)\/(∃l,vs=[.À (S l)]/\l.n<=1000/\Q (.bl<|Lk l) H)
def Xm (D:aR K mg "is_sign" BZ ["thing"])(Y:mg "len"=Ĳ)(B:mg "str"=Ĳ)(J:mg "isinstance"=Ĳ):bD P w K mg base "is_sign" 1 ["thing"] (aam K):=by
 refine D.cU Xh (λf bF A outer s H vs Q E M h=>?_) λvs H Q E h=>?_
 .refine%[0,_,aD (dF (QW.qt (tK (jk<|f9<|aP gH zw J d6<|aj aK<|aj (lR (v:=.ty "str") zw B PyProof.Ă.boot_str rb) aq)
    <|qY<|bK yH (aP cL zw Y bE<|aj aK aq) aB<|bU _)) (aG<|aY mz) cC)
   (aG (aY (adB (oN nU nU (bV [97] zD) aK<|bV [122] zD)
   <|nQ<|oN nU nU (bV [65] zD) aK<|bV [90] zD)))|?_]
  rcases h with⟨x,rfl,⟨t,ty,hk⟩,q⟩|⟨l,rfl,L,q⟩;.show%[15,_,_,_,ķ,rb,ty,hk|cP<|cP q]
  .let hz:l.n<=Ŀ:=ar<|aJ L;calc%[15,_,_,_,Ĵ,rb,.À _,zC|cG %[18,l,rb,hz,rb|bB _ rb ?_]];by_cases h1:l.n=1
   .let(c,rfl):=List.length_eq_one_iff.mp h1;calc Wx rb ?_;calc%[1,[97],[c],rb,rb|bB (ľ<|97<=c) (by rw[JN]) ?_];let G:Q (.bl<|Hf c||Lj c) H:=q;let j:(Lj c=(Hf c||Lj c))->Od abL abL (tC<|.À<|S [65]) (fO 0) (tC<|.À<|S [90]) [į (.À<|S [c])] H Q:=λe=>by
     calc%[1,[65],[c],rb,rb|bB (ľ<|65<=c) (by rw[JN]) ?_];rw[<-e]at G;by_cases g:65<=c
     .rw[aw g];calc cP %[1,[c],[90],rb,rb|?_];rw[JN];simpa [Lj,g] using G
     .rw[ai g];calc cG ?_;simpa [Lj,g] using G
    by_cases g:97<=c
    .rw[aw g];calc cP %[1,[c],[122],rb,rb|bB _ rb ?_];rw[JN];by_cases F:c<=122
     .rw[aw F];calc cP ?_;simpa [Hf,g,F] using G
     .rw[ai F];show cG<|j (by simp[Hf,g,F])
    .rw[ai g];show cG<|j (by simp[Hf,g])
   .let e:(!ľ (V.I (l.n:ĸ)=V.I 1))=Ĵ:=by
     rw[ai];rfl;intro z;injection z with z;lia
    rw[e];let e2:Lk l=ķ:=by
     match l,h1 with| [],_=>rfl| [c],h=>show Ł rb h| _::_::_,_=>rfl
    rw[e2]at q;show cP q
 .rcases h with⟨x,rfl,_⟩|⟨x,rfl,_⟩ <;> rfl
def aan (K:W.Ë):Sp:=λvs H Q _=>∃(a:Addr) (ns:İ ĸ) (k:Nat),vs=[.v a,.I k]/\aZ K H a (ns.Q V.I)/\∀v:ĸ,Q (.I v) H
def isLet (c:ı):Prop:=97<=c/\c<=122
structure Fw (ls:İ ı):Prop where
 lo:2<=ls.n
 hi:ls.n<=26
 az:∀c∈ls,isLet c
def Xn (D:aR K mg "_law_cell_at" Cj ["_law_script","_law_k"])(Y:mg "len"=Ĳ):bD P w K mg base "_law_cell_at" 1 ["_law_script","_law_k"] (aan K):=by
 calc D.cU Xj λf bF A outer s H vs Q E B h=>?_;let(a,ns,k,rfl,g,q):=h;calc%[0,_,aD (dF (bK tL aX (aP cD zw Y bE<|aj aK aq)<|bU _) (aG<|aY<|aV fj aK aX λ_ _=>rfl) cC)<|aG<|aY aB|?_];calc%[23,a,_,rb,.Â g,_,_,rb,rb|bB _ rb ?_];refine oO (λj=>?_) λ_=>?_
 .let hk:k<ns.n:=by
   have:=eK j;rw[aa]at this;simp_all
  show%[3,a,_,_,.I ns[k],rb,rb,g,aN (by simp[hk])|q _]
 .show q _
def jH (l:İ ı):(l.Q λc=>[c]).Ê=l:=by
 induction l with| nil=>rfl| cons c r ih=>rw[bX,fo,ih];rfl
def adQ:∀c∈AL,isLet c:=λc g=>by let(k,hk,rfl):=aI.mp g;have:=cz.mp hk;show%[zo|zo]
def uQ (c:ı):Prop:=Lk [c]=Ĵ
def uQ.lt (h:uQ c):c<128:=by unfold uQ Lk Hf Lj at h;simp at h;lia
def Qq (h:isLet c):uQ c:=by simp[uQ,Lk,Hf,h.1,h.2]
def aao (h:isLet c):uQ (c-32):=by let h1:=h.1;let g:=h.2;simp[uQ,Lk,Hf,Lj];lia
abbrev ones (cs:İ ı):İ (İ ı):=cs.Q λc=>[c]
structure Blk (r w:ı)(ls:AA):Prop where
 len:ls.n=r
 iJ:∀l∈ls,l.n=w
def MK:İ ı:=[46,50,51,52,98,99,100]
def uR (c:ı):Prop:=c=46\/uQ c
def Cm (c:ı):Prop:=c∈MK
structure Hg (r w:ı)(ak aF:AA)(i j:ı):Prop where
 r1:1<=r
 r9:r<=9
 w1:1<=w
 w9:w<=9
 br:Blk r w ak
 bm:Blk r w aF
 cr:∀l∈ak,∀c∈l,uR c
 cm:∀l∈aF,∀c∈l,Cm c
 bi:i<r
 bj:j<w
def lW (ls)(l):Ts ls++[V.À (S l)]=Ts (ls++[l]):=by simp[Ts]
def wj (cs)(c):ones cs++[[c]]=ones (cs++[c]):=by simp[ones]
def cell (R:AA)(i j:ı):ı:=(R.Î i []).Î j 0
def cell_eq {R:AA}(hi:i<R.n)(g:j<R[i].n):cell R i j=R[i][j]:=by unfold cell;rw[ap (l:=R),ae hi];show (R[i]).Î j 0=_;rw[ap,ae g];rfl
structure nJ (w:İ ı):Prop where
 lo:2<=w.n
 hi:w.n<=9
 az:∀c∈w,isLet c
def Qs:Sp:=λvs H Q _=>∃l:İ ı,vs=[.À (S l)]/\nJ l/\∀H',aA H H'->Q (.bl Ĵ) H'
def ag0 (h:isLet c):ľ ([c]<[97])=ķ/\ľ ([122]<[c])=ķ:=by
 let g:∀a b:ı,([a]<[b])↔a<b:=λa b=>by simp[gu]
 constructor;.rw[ai];rw[g];have:=h.1;lia
 .rw[ai];rw[g];have:=h.2;lia
def Xo (D:aR K mg "is_word" Cg ["text"])(Y:mg "len"=Ĳ)(B:mg "all"=Ĳ):bD P w K mg base "is_word" 1 ["text"] Qs:=by
 calc D.cU G_ λf bF A outer s H vs Q E O h=>?_;let(l,rfl,hw,q):=h;let h1:=hw.lo;let Z:=hw.hi;let hz:l.n<=Ŀ:=ar<|aJ zo;refine%[0,_,aG (aY (pF (oN qP qP aB (aP cL zw Y bE<|aj aK aq) aB)
  (nQ (aP (mL rb) zw B zD (aj (h_ rb (gM.of G_.nd zC) (pL aK) (λ_ _ _ _ _=>cM)
   λ_ _ _ _ _=>oN nU nU (bV [97] zD) aK<|bV [122] zD) aq)))))|?_]
 calc%[30,l,rb,hz,_,_,rb,rb|bB Ĵ (by simp;lia) ?_];calc cP %[1,_,_,rb,rb|bB Ĵ (by simp;lia) ?_];calc cP ?_;refine%[0,l,rb|λL J=>yN (λi ys j=>ys=(List.Ñ i Ĵ).Q V.bl/\j L=į (.É ys)/\aA H j) %[rb,au|aA.å J] ?_ ?_]
 .intro i c ys j hi z;let(rfl,g,F):=z;let G:i<l.n:=(am.mp hi).1;let(N,M):=ag0 (hw.az c<|a7 hi);calc%[1,[97],[c],rb,rb|bB Ĵ (by rw[N];rfl)<|cP %[7,[c],[122],rb,rb,g,?_|dR.mk G %[?_,au|F.bJ J]]];.rw[aa,dE];show aJ zo
  .rw[M,xc,bo];rfl
 .intro ys j z;let(rfl,g,F):=z;calc%[1,L,List.Ñ l.n Ĵ,rb,aZ.of g|?_];let e:(List.Ñ l.n Ĵ).all id=Ĵ:=zr;rw[e];show q j F
def Vn:Sp:=λvs H Q _=>∃l:İ ı,vs=[.À (S l)]/\nJ l/\∀H',aA H H'->Q .ă H'
def MN (D:aR K mg "check_word" uM ["text"])(g:bD P w K mg base "is_word" 1 ["text"] Qs):bD P w K mg base "check_word" 2 ["text"] Vn:=by calc D.cU MF λf bF A outer s H vs Q E j h=>?_;let(l,rfl,hw,q):=h;calc%[0,_,aG<|dF (jk<|f9<|bf g j rb<|aj aK aq) Am cC|?_];calc%[2,l,rb,hw|λH1 s1=>(bB Ĵ rb ?_)];show cG<|q H1 s1
structure uf (K:W.Ë)(C:Ķ):Prop where
 cl:Cls K C
 nh:lM K C "held"
def oA (ws:AA):İ (Key×V):=ws.Q λl=>(bZ l,V.bl Ĵ)
def acH (ws):(oA ws).Q (·.1)=ws.Q bZ:=by unfold oA;rw[dm];rfl
def acI (h:bZ a=bZ b):a=b:=pJ (vw h)
def JQ (ws)(l):dG (oA ws) (bZ l)=if l∈ws then į (.bl Ĵ) else Ĳ:=by
 induction ws with
 | nil=>simp[oA,dG]
 | cons a r ih=>
  by_cases e:a=l
  .subst e;have:dG (oA<|a::r) (bZ a)=į (.bl Ĵ):=jd (p:=(bZ a,V.bl Ĵ)) rfl;rw[this];simp
  .have:dG (oA<|a::r) (bZ l)=dG (oA r) (bZ l):=je (p:=(bZ a,V.bl true)) λz=>e<|acI z
   rw[this,ih];let g:¬l=a:=λz=>e z.Ò;simp[g]
def aeP (h:l∈ws):putK (oA ws) (bZ l) (.bl Ĵ)=oA ws:=by
 let g:((oA ws).ġ λB=>ľ<|B.1=bZ l)=Ĵ:=by rw[qD,JQ,ĺ h];rfl
 unfold putK;rw[ĺ g];calc(dS λB j=>?_).X<|ke _;let(a,_,rfl):=aI.mp j;by_cases e:bZ a=bZ l;.simp[e]
 .simp[e]
def aeQ (h:l∉ws):putK (oA ws) (bZ l) (.bl Ĵ)=oA (ws++[l]):=by rw[abB _ (by rw[JQ,Ĺ h])];simp[oA]
structure jD (C:Ķ)(H:Hp)(p d:Ķ)(ws:AA):Prop where
 ob:∃dx,H p=į (.ins C dx [("held",.v d)])
 dc:H d=į (.dK<|oA ws)
 nd:ws.Ö
 az:∀l∈ws,nJ l
def wR (ws:AA)(l:İ ı):İ (İ ı):=if l∈ws then ws else ws++[l]
def Qt (ws)(l):putK (oA ws) (bZ l) (.bl Ĵ)=oA (wR ws l):=by
 unfold wR;split;.rename_i h;show aeP h
 .rename_i h;show aeQ h
def Vo {ws:AA}(h:ws.Ö):(wR ws l).Ö:=by
 unfold wR;split;.show h
 .rename_i g;show aeb h g
def Qu:x∈wR ws l↔x∈ws\/x=l:=by
 unfold wR;split;.rename_i h;show%[.Â|λz=>z.í id λe=>e ▸ h]
 .simp
def Qv (ws)(l):(wR ws l).n<=ws.n+1:=by
 unfold wR;split;.lia
 .simp
def aiC (K:W.Ë)(H:Hp)(a:Ķ)(ls:AA):Prop:=aZ K H a (Ts ls)\/aQ K H a (Ts ls)
def aap (K:W.Ë)(C:Ķ):Sp:=λvs H Q _=>∃(p dx a:Addr) (ls:AA),vs=[.v p,.v a]/\H p=į (.ins C dx [])/\aiC K H a ls/\(∀l∈ls,nJ l)/\ls.n<=200/\
 ∀(d:Ķ) (ws:AA) (H':Hp),H d=Ĳ->jD C H' p d ws->(∀x,x∈ws↔x∈ls)->ws.n<=ls.n->(∀b o,H b=į o->b≠p->H' b=į o)->Q .ă H'
def aeR (F:iH K "__init__" "Book.__init__" j4 f fd)(T:uf K C)(D1:bD P w K mg base "check_word" 2 ["text"] Vn):dJ P w K mg base fP 3 f fd ["self","words"] (aap K C):=by
 calc F.cU Ci ?_;intro bF A outer s H vs Q E hr h;let(p,dx,a,ls,rfl,hp,Y,hW,hn,k):=h;let hu:=pI hr;let nd:=Ci.nd;refine%[0,_,aD (xq aK EY rb) (aG (dz ck rb ((g_ aX).or<|fH aX) (bG (i:=2) nd rb<|Or.Â rb)
 <|aD (gb<|bf D1 hr rb<|aj bw aq)<|aG<|Di hu (fX aK rb) bw mz rb))|?_]
 intro d hd;let Lp:p≠d:=bI hp hd;calc%[14,p,C,dx,[],rb,(by rw[aU Lp];show hp),T.cl,T.nh,(by show 0<1000;decide)|?_];let O:upd (upd H d<|HO.dK []) p (HO.ins C dx<|j_ "held" (V.v d) []) p=į (.ins C dx [("held",.v d)]):=au;let N:upd (upd H d<|HO.dK []) p (HO.ins C dx<|j_ "held" (V.v d) []) d=į (.dK<|oA []):=by rw[aU Lp.Ò,au];rfl
 let P0:∀b o,H b=į o->b≠p->upd (upd H d<|HO.dK []) p (HO.ins C dx<|j_ "held" (V.v d) []) b=some o:=λb o e hb=>by rw[aU hb,aU (bI e hd)];show e
 generalize upd (upd H d<|HO.dK []) p (HO.ins C dx<|j_ "held" (V.v d) [])=H1 at O N P0 ⊢;let npl:∀o,H p=į o->(∀ys,o≠.É ys)/\∀u ys,o≠.ql u (.É ys):=λo e=>by rw[hp]at e;cases e;show⟨λ_ z=>(nomatch z),λ_ _ z=>(nomatch z)⟩
 let Z:∀o,H p=į o->(∀ys,o≠.Æ ys)/\∀u ys,o≠.ql u (.Æ ys):=λo e=>by rw[hp]at e;cases e;show⟨λ_ z=>(nomatch z),λ_ _ z=>(nomatch z)⟩
 rcases Y with Y|Y
 .refine .Â %[2,a,rb,%[_|Y.keep P0 npl]|uh (K:=K) (a:=a) (xs:=Ts ls) (λi I B=>∃(M:ĵ V) (ws:AA),I=[į (.v p),į (.v a),M]/\B p=į (.ins C dx [("held",.v d)])/\B d=į (.dK<|oA ws)/\ws.Ö/\
   (∀x,x∈ws↔x∈ls.Ã i)/\ws.n<=i/\∀b o,H b=į o->b≠p->B b=į o) %[28,Ĳ,[],rb,O,N,oB,λx=>by simp,ag _|P0] (λi I B _ ⟨_,_,_,_,_,_,_,_,kp⟩=>Y.keep kp npl) ?_ ?_]
  .intro i y I B hi z;let(M,ws,rfl,g,G,D,hm,J,kp):=z;rw[bz]at hi;let(l,j,e):=gN.mp hi;subst e;let hil:i<ls.n:=(am.mp j).1;calc%[2,l,rb,hW l<|a7 j|λH3 L=>?_];let Cp:=L _ _ G;calc%[50,p,C,dx,_,_,rb,L _ _ g,T.cl,T.nh,rb,d,_,rb,uo.k (k:=bZ l) Cp (by rw[oA,aa];show aJ zo)|?_];calc%[28,_,wR ws l,rb,by rw[aU Lp];show L _ _ g,by rw[au,Qt],Vo D,λx=>?_,av (Qv _ _)<|gg J|λb o e hb=>?_];.rw[Qu,hm,bv,j];simp
   .rw[aU (bI e hd)];show L _ _<|kp b o e hb
  .intro I B z;let(M,ws,rfl,g,G,D,hm,J,kp):=z;rw[aa]at hm J;rw[cK]at hm;show k d ws B hd %[%[dx|g],G,D|λl J=>hW l<|(hm l).mp J] hm J kp
 .refine .Ð %[2,a,rb,%[_|Y.keep P0 Z]|m8 (K:=K) (a:=a) (xs:=Ts ls) (λi I B=>∃(M:ĵ V) (ws:AA),I=[į (.v p),į (.v a),M]/\B p=į (.ins C dx [("held",.v d)])/\B d=į (.dK<|oA ws)/\ws.Ö/\
   (∀x,x∈ws↔x∈ls.Ã i)/\ws.n<=i/\∀b o,H b=į o->b≠p->B b=į o) %[28,Ĳ,[],rb,O,N,oB,λx=>by simp,ag _|P0] (λi I B _ ⟨_,_,_,_,_,_,_,_,kp⟩=>Y.keep kp Z) ?_ ?_]
  .intro i y I B hi z;let(M,ws,rfl,g,G,D,hm,J,kp):=z;rw[bz]at hi;let(l,j,e):=gN.mp hi;subst e;let hil:i<ls.n:=(am.mp j).1;calc%[2,l,rb,hW l<|a7 j|λH3 L=>?_];let Cp:=L _ _ G;calc%[50,p,C,dx,_,_,rb,L _ _ g,T.cl,T.nh,rb,d,_,rb,uo.k (k:=bZ l) Cp (by rw[oA,aa];show aJ zo)|?_];calc%[28,_,wR ws l,rb,by rw[aU Lp];show L _ _ g,by rw[au,Qt],Vo D,λx=>?_,av (Qv _ _) zo|λb o e hb=>?_];.rw[Qu,hm,bv,j];simp
   .rw[aU (bI e hd)];show L _ _<|kp b o e hb
  .intro I B z;let(M,ws,rfl,g,G,D,hm,J,kp):=z;rw[aa]at hm J;rw[cK]at hm;show k d ws B hd %[%[dx|g],G,D|λl J=>hW l<|(hm l).mp J] hm J kp
def Xp (C:Ķ):Sp:=λvs H Q _=>∃(p d:Addr) (ws:AA) (l:İ ı),vs=[.v p,.À (S l)]/\jD C H p d ws/\Q (.bl<|ľ<|l∈ws) H
def ag1 (F:iH K "has" "Book.has" lJ f fd)(T:uf K C):dJ P w K mg base fP 1 f fd ["self","text"] (Xp C):=by
 calc F.cU Tz λbF A outer s H vs Q E j h=>?_;let(p,d,ws,l,rfl,B,q):=h;let g:=pI j;let((dx,hp),hd,_,_):=id B;calc%[0,_,aG<|aY<|afR<|agc g aX<|fX aK rb|?_];calc%[50,p,C,dx,_,_,rb,hp,T.cl,T.nh,rb,d,_,rb,jV.k (k:=bZ l) hd|?_];rw[JQ];by_cases h:l∈ws;.rw[ĺ h];simpa [h] using q
 .rw[Ĺ h];simpa [h] using q
def ajs (ws:AA):Prop:=ws.Ä (λa b=>ľ (b<a)=ķ)
def Vp (C:Ķ):Sp:=λvs H Q _=>∃(p d:Addr) (ws:AA),vs=[.v p]/\jD C H p d ws/\ws.n<64/\
 ∀(t:Ķ) (us:AA) (H':Hp),aA H H'->H t=Ĳ->H' t=į (.Æ<|Ts us)->us.æ ws->ajs us->Q (.v t) H'
def acJ (F:iH K "words" "Book.words" jC f fd)(T:uf K C)(D:mg "sorted"=Ĳ)(g:mg "tuple"=Ĳ):dJ P w K mg base fP 1 f fd ["self"] (Vp C):=by calc F.cU MJ λbF A outer s H vs Q E J h=>?_;let(p,d,ws,rfl,B,j,q):=h;let((dx,hp),hd,_,_):=id B;calc%[0,_,aG<|aY<|cN dX zw g df<|aj (aP (Ow rb) zw D ii<|aj (fX aK rb) aq) aq|?_];calc%[16,p,C,dx,_,_,rb,hp,T.cl,T.nh,rb|%[10,d,_,ws,rb,hd,acH ws,j|λt us G pm rs=>?_]];calc%[4,t,_,rb|.Â %[aZ.of au|λv hv=>?_]];let s1:aA H (upd H t<|.É<|Ts us):=aA.å G;show q v us _ (s1.bJ<|s1.Õ hv) (s1.Õ hv) au pm rs
def ag2 {a b:İ ı}(h1:¬a<b)(g:a≠b):b<a:=by
 by_cases h:b<a;.show h
 .show Ł (List.le_antisymm (List.not_lt.mp h)<|List.not_lt.mp h1) g
def jD.same (B:jD C H p d ws)(s:aA H H'):jD C H' p d ws:=%[let %[dx|e]:=B.ob;%[dx|s _ _ e],s _ _ B.dc,B.nd|B.az]
def Vq:Sp:=λvs H Q _=>∃i:Int,vs=[.I i]/\Q (.bl Ĵ) H
def TF (D:aR K mg "is_whole" zB ["thing"])(g:mg "int"=Ĳ)(j:mg "bool"=Ĳ)(F:mg "isinstance"=Ĳ):bD P w K mg base "is_whole" 1 ["thing"] Vq:=by calc D.cU Tp λf bF A outer s H vs Q E B h=>?_;let(i,rfl,q):=h;calc%[0,_,(aG<|aY<|pF (aP gH zw F d6<|aj aK<|aj (lR (v:=.ty "int") zw g om rb) aq)<|nQ<|Yu<|aP gH zw F d6<|aj aK<|aj (lR (v:=.ty "bool") zw j PyProof.Ă.boot_bool rb) aq)|?_];show%[15,_,_,_,Ĵ,rb,.I _,zC|cP %[15,_,_,_,ķ,rb,.I _,zC|q]]
def oK {ls:AA}{i:ı}{l:İ ı}(h:ls[i]?=į l):(Ts ls)[i]?=į (.À<|S l):=by simp[Ts,h]
def pU {ls:AA}{i:ı}{x:V}(h:(Ts ls)[i]?=į x):∃l,ls[i]?=į l/\x=.À (S l):=by rw[bz]at h;let(l,h1,g):=gN.mp h;show%[0,l,h1|g.Ò]
def Dy (n):((List.Ñ n Ĵ).all id)=Ĵ:=by simp
def zL (n):(List.Ñ n Ĵ).Q V.bl++[V.bl Ĵ]=(List.Ñ (n+1) Ĵ).Q V.bl:=by rw[xc,bo];rfl
def JR:Sp:=λvs H Q _=>∃(p:Addr) (ls:AA) (r w:Nat),vs=[.v p]/\H p=į (.Æ<|Ts ls)/\Blk r w ls/\1<=r/\r<=9/\1<=w/\w<=9/\∀H',aA H H'->Q (.bl Ĵ) H'
def TJ (D:aR K mg "is_block" zE ["thing"])(Z:mg "len"=Ĳ)(bR:mg "tuple"=Ĳ)(NZ:mg "str"=Ĳ)(iY:mg "all"=Ĳ)(cF:mg "isinstance"=Ĳ)(Hh:∃t,mg "MOST"=į (.I 9 t)):bD P w K mg base "is_block" 1 ["thing"] JR:=by
 calc D.cU qU ?_;intro f bF A outer s H vs Q E hr h;let(p,ls,r,w,rfl,hp,O,r1,r9,w1,w9,q):=h;let jt:(Ts ls).n=r:=by rw[aa,O.len]
 let h0:0<ls.n:=by rw[O.len];show r1
 calc%[0,_,(aD (dF (QW.qt<|tK (jk<|f9<|aP gH zw cF d6<|aj aK<|aj (lR (v:=.ty "tuple") zw bR df rb) aq)<|qY<|jk<|yI qP qP aB (aP cD zw Z bE<|aj aK aq)<|WK zw Hh) (aG<|aY mz) cC)<|aD (dF (jk<|f9<|aP (mL rb) zw iY mO<|aj (h_ rb (gM.of qU.nd zC) (fH aK) (λ_ _ _ _ _=>cM) λ_ _ _ _ _=>(aP (OD K) zw cF d6<|aj aK<|aj (lR (v:=.ty "str") zw NZ PyProof.Ă.boot_str rb) aq)) aq) (aG<|aY mz) cC)<|aD (aO (i:=1) qU.nd rb (Or.Ð rb)<|aP cL zw Z bE<|aj (aV bA aK aB λ_ _=>rfl) aq)<|aG<|aY<|pF (oN qP qP aB aX<|WK zw Hh)<|nQ<|aP (mL rb) zw iY mO<|aj (h_ rb (gM.of qU.nd zC) (fH aK) (λ_ _ _ _ _=>cM) λ_ _ _ _ _=>(jL lD (aP cL zw Z bE<|aj aK aq) bw<|bU _)) aq)|?_];calc%[15,_,_,_,Ĵ,rb,.Æ hp,zC|bB _ rb<|cG ?_];calc%[23,p,_,rb,.Ð<|aQ.of hp,_,_,rb,rb|bB Ĵ (by rw[jt];simp;lia)<|cP %[1,_,_,rb,rb|bB Ĵ (by rw[jt];simp;lia)<|cG ?_]];refine%[2,p,rb,%[_|aQ.of hp]|λL hL=>uw (xs:=Ts ls) (λi ys M=>ys=(List.Ñ i Ĵ).Q V.bl/\M L=į (.É ys)/\aA H M) %[rb,au|aA.å hL] (λi ys M _ h=>aQ.of<|h.2.2 _ _ hp) ?_ ?_]
 .intro i x ys M hi z;let(rfl,F,B):=z;let(l,hl,rfl):=pU hi;let J:i<(Ts ls).n:=(am.mp hi).1;refine%[14,_,_,_,Ĵ,rb,.À _,zC,F,by rw[aa,dE];show aJ zo|dR.mk J %[zL i,au|B.bJ hL]]
 .intro ys M z;let(rfl,F,B):=z;calc%[1,L,_,rb,aZ.of F|?_];rw[Dy];calc(bB _ rb<|cG ?_);let G:ls[0].n=w:=O.iJ _<|aS _;let hz:ls[0].n<=Ŀ:=ar<|aJ zo;calc%[15,p,_,_,.À<|S ls[0],rb,rb,aQ.of<|B _ _ hp|%[26,aN (j:=0)<|oK (by simp[h0]),_,rb,hz|?_]];calc%[1,_,_,rb,rb|bB Ĵ (by rw[G];simp;lia)<|cP %[1,_,_,rb,rb|bB Ĵ (by rw[G];simp;lia)<|cP ?_]];refine%[2,p,rb,%[_|aQ.of<|B _ _ hp]|λL2 Cq=>uw (xs:=Ts ls) (λi ys N=>ys=(List.Ñ i Ĵ).Q V.bl/\N L2=į (.É ys)/\aA H N) %[rb,au|B.bJ<|B.Õ Cq] (λi ys M _ h=>aQ.of<|h.2.2 _ _ hp) ?_ ?_]
  .intro i x ys N hi z;let(rfl,Y,g):=z;let(l,hl,rfl):=pU hi;let J:i<(Ts ls).n:=(am.mp hi).1;let yp:l.n=w:=O.iJ _<|a7 hl;calc%[38,_,rb,ar<|aJ zo,rb,Y,by rw[aa,dE];show aJ zo|dR.mk J %[?_,au|g.bJ<|B.Õ Cq]];rw[yp,G,aw rfl];show zL i
  .intro ys N z;let(rfl,Y,g):=z;calc%[1,L2,_,rb,aZ.of Y|?_];rw[Dy];show q N g
def uE {r w:ı}{ls:AA}(h:Blk r w ls):ls.Ê.n=r*w:=by
 rw[List.length_flatten];have:ls.Q List.n=List.Ñ r w:=by rw[<-h.len,List.eq_replicate_iff];show%[zr|λb j=>by let(l,g,rfl):=aI.mp j;show h.iJ l g]
 rw[this,List.sum_replicate_nat]
def aaq:Sp:=λvs H Q _=>∃(p:Addr) (ls:AA) (r w:Nat),vs=[.v p]/\H p=į (.Æ<|Ts ls)/\Blk r w ls/\1<=r/\r<=9/\1<=w/\w<=9/\(∀l∈ls,∀c∈l,uR c)/\∀H',aA H H'->Q (.bl Ĵ) H'
def TQ (D:aR K mg "are_rows" zF ["thing"])(iY:mg "all"=Ĳ)(eX:∃t,mg "FREE"=į (.À (S [46]) t))(zM:bD P w K mg base "is_block" 1 ["thing"] JR)(J:bD P w K mg base "is_sign" 1 ["thing"] (aam K)):bD P w K mg base "are_rows" 2 ["thing"] aaq:=by
 calc D.cU Ej λf bF A outer s H vs Q E Z h=>?_;let(p,ls,r,w,rfl,hp,Y,r1,r9,w1,w9,hc,q):=h;let hrw:r*w<=81:=km r9 w9;let hfl:=uE Y;calc%[0,_,(aG<|aY<|pF (bf zM Z.Ô rb<|aj aK aq)<|nQ<|aP (mL rb) zw iY mO<|aj (h_ rb (gM.of Ej.nd zC) (pL<|d7 b9 eP eQ Fd (bV [] zD)<|aj aK aq) (λ_ _ _ _ _=>cM) λ_ _ _ _ _=>(adB (jL xJ aK (m9 zw eX)<|bU _)<|nQ<|bf J Z.Ô rb<|aj aK aq)) aq)|?_];calc%[36,p,ls,r,w,rb,hp,Y,r1,r9,w1,w9|λH1 s1=>(bB Ĵ rb<|cP ?_)];calc%[17,rb,p,ls,rb,rb|%[20,aQ.of<|s1 _ _ hp,zo,_,rb|λL O=>?_]];refine yN (λi ys g=>ys=(List.Ñ i Ĵ).Q V.bl/\g L=į (.É ys)/\aA H g) %[rb,au|s1.bJ<|s1.Õ O] ?_ ?_
 .intro i c ys g hi z;let(rfl,j,F):=z;let M:i<ls.Ê.n:=(am.mp hi).1;let(l,hl,G):=si.mp (a7 hi);let B:g L=į (.É<|(List.Ñ i Ĵ).Q V.bl)/\((List.Ñ i Ĵ).Q V.bl).n<Ŀ/\dR ls.Ê.n i ((List.Ñ i Ĵ).Q V.bl++[V.bl Ĵ]=(List.Ñ (i+1) Ĵ).Q V.bl/\upd g L (.É<|(List.Ñ i Ĵ).Q V.bl++[V.bl Ĵ]) L=į (.É<|(List.Ñ i Ĵ).Q V.bl++[V.bl Ĵ])/\aA H (upd g L<|.É<|(List.Ñ i Ĵ).Q V.bl++[V.bl Ĵ])):=
   %[j,by rw[aa,dE];show aJ zo|dR.mk M %[zL i,au|F.bJ<|s1.Õ O]]
  calc%[1,[c],[46],rb,rb|bB _ rb ?_];rcases hc l hl c G with e|e
  .subst e;rw[aw rfl];show cP B
  .by_cases N:[c]=[46]
   .rw[aw N];show cP B
   .rw[ai N];calc cG<|.Ð %[2,[c],rb,by show 1<=1000;decide|?_];rw[show Lk [c]=Ĵ from e];show B
 .intro ys g z;let(rfl,j,F):=z;calc%[1,L,_,rb,aZ.of j|?_];rw[Dy];show q g F
def Vs:Sp:=λvs H Q _=>∃(p:Addr) (ls:AA) (r w:Nat),vs=[.v p]/\H p=į (.Æ<|Ts ls)/\Blk r w ls/\1<=r/\r<=9/\1<=w/\w<=9/\(∀l∈ls,∀c∈l,Cm c)/\∀H',aA H H'->Q (.bl Ĵ) H'
def Qw (D:aR K mg "are_marks" wM ["thing"])(iY:mg "all"=Ĳ)(O:∃t,mg "MARKS"=į (.À (S MK) t))(zM:bD P w K mg base "is_block" 1 ["thing"] JR):bD P w K mg base "are_marks" 2 ["thing"] Vs:=by
 calc D.cU Ca ?_;intro f bF A outer s H vs Q E hr h;let(p,ls,r,w,rfl,hp,M,r1,r9,w1,w9,hc,q):=h;let N:r*w<=81:=km r9 w9;let Z:=uE M;calc%[0,_,(aG<|aY<|pF (bf zM hr.Ô rb<|aj aK aq)<|nQ<|aP (mL rb) zw iY mO<|aj (h_ rb (gM.of Ca.nd zC) (pL<|d7 b9 eP eQ Fd (bV [] zD)<|aj aK aq) (λ_ _ _ _ _=>cM) λ_ _ _ _ _=>(jL Bc aK (m9 zw O) rb)) aq)|?_];calc%[36,p,ls,r,w,rb,hp,M,r1,r9,w1,w9|λH1 s1=>(bB Ĵ rb<|cP ?_)];calc%[17,rb,p,ls,rb,rb|%[20,aQ.of<|s1 _ _ hp,zo,_,rb|λL J=>?_]];refine yN (λi ys j=>ys=(List.Ñ i Ĵ).Q V.bl/\j L=į (.É ys)/\aA H j) %[rb,au|s1.bJ<|s1.Õ J] ?_ ?_
 .intro i c ys j hi z;let(rfl,g,B):=z;let G:i<ls.Ê.n:=(am.mp hi).1;let(l,Y,F):=si.mp (a7 hi);calc%[7,c,MK,rb,rb,g,by rw[aa,dE];show aJ zo|dR.mk G %[?_,au|B.bJ<|s1.Õ J]];rw[aw (show c∈MK from hc l Y c F)];show zL i
 .intro ys j z;let(rfl,g,B):=z;calc%[1,L,_,rb,aZ.of g|?_];rw[Dy];show q j B
def Fx (K:W.Ë):Sp:=λvs H Q _=>∃(p:Addr) (ls:AA) (r w:Nat) (i j:Int),vs=[.v p,.I i,.I j]/\aQ K H p (Ts ls)/\Blk r w ls/\1<=r/\r<=9/\w<=9/\Q (.bl<|ľ<|0<=i/\i<r/\0<=j/\j<w) H
def MP (D:aR K mg "is_cell_of" uH ["rows","row","column"])(M:mg "len"=Ĳ)(J:bD P w K mg base "is_whole" 1 ["thing"] Vq):bD P w K mg base "is_cell_of" 2 ["rows","row","column"] (Fx K):=by
 calc D.cU Mx λf bF A outer s H vs Q E L h=>?_;let(p,ls,r,w,i,j,rfl,hp,G,r1,r9,w9,q):=h;let O:(Ts ls).n=r:=by rw[aa,G.len]
 let N:0<ls.n:=by rw[G.len];lia
 let F:ls[0].n=w:=G.iJ _<|aS _;calc%[0,_,(aD (dF (QW.qt<|tK (jk<|f9<|bf J L.Ô rb<|aj aX aq)<|qY<|jk<|f9<|bf J L.Ô rb<|aj bw aq) (aG<|aY mz) cC)<|aG<|aY<|pF (oN qP tL aB aX<|aP cD zw M bE<|aj aK aq)<|nQ<|oN qP tL aB bw<|aP cL zw M bE<|aj (aV bA aK aB λ_ _=>rfl) aq)|?_];calc%[0,i,rb|cG %[0,j,rb|bB _ rb<|cG ?_]];calc%[1,_,_,rb,rb|bB _ rb ?_];by_cases h1:0<=i
 .rw[aw h1];calc cP %[23,p,_,rb,.Ð hp,_,_,rb,rb|bB _ rb ?_];rw[O];by_cases g:i<(r:ĸ)
  .rw[aw g];calc cP %[1,_,_,rb,rb|bB _ rb ?_];by_cases B:0<=j
   .rw[aw B];calc cP %[3,p,_,_,.À<|S ls[0],rb,rb,hp,aN (j:=0)<|oK (by simp[N])|%[30,_,rb,ar<|aJ zo,_,_,rb,rb|?_]];rw[F];simpa [h1,g,B] using q
   .rw[ai B];calc cG ?_;simpa [h1,g,B] using q
  .rw[ai g];calc cG ?_;simpa [h1,g] using q
 .rw[ai h1];calc cG<|bB _ rb<|cG ?_;simpa [h1] using q
def Vt (K:W.Ë):Sp:=λvs H Q _=>∃(p b:Addr) (ls:AA) (r w:Nat) (i j:Nat),vs=[.v p,.v b]/\H p=į (.Æ<|Ts ls)/\H b=į (.Æ [.I i,.I j])/\Blk r w ls/\1<=r/\r<=9/\w<=9/\i<r/\j<w/\Q (.bl Ĵ) H
def JV (D:aR K mg "is_begin_of" rQ ["rows","thing"])(L:mg "len"=Ĳ)(B:mg "tuple"=Ĳ)(M:mg "isinstance"=Ĳ)(F:bD P w K mg base "is_cell_of" 2 ["rows","row","column"] (Fx K)):bD P w K mg base "is_begin_of" 3 ["rows","thing"] (Vt K):=by calc D.cU Jy λf bF A outer s H vs Q E J h=>?_;let(p,b,ls,r,w,i,j,rfl,hp,g,G,r1,r9,w9,hi,N,q):=h;calc%[0,_,(aG<|aY<|pF (aP gH zw M d6<|aj aX<|aj (lR (v:=.ty "tuple") zw B df rb) aq)<|pF (jL lD (aP cD zw L bE<|aj aX aq) aB<|bU _)<|nQ<|bf F J.Ô rb<|aj aK<|aj (aV bA aX aB λ_ _=>rfl)<|aj (aV bA aX aB λ_ _=>rfl) aq)|?_];calc%[15,_,_,_,Ĵ,rb,.Æ g,zC|bB Ĵ rb<|cP ?_];calc%[13,b,_,rb,.Ð<|aQ.of g,rb|bB Ĵ rb<|cP ?_];calc%[3,b,_,_,.I i,rb,rb,aQ.of g,aN (j:=0) rb|%[3,b,_,_,.I j,rb,rb,aQ.of g,aN (j:=1) rb|?_]];calc%[65,p,ls,r,w,i,j,rb,aQ.of hp,G,r1,r9,w9|?_];rw[aw %[zo,i8 dC hi,zo|zo]];show q
def Vu:Sp:=λvs H Q _=>∃(pr pm pb:Addr) (r w:Nat) (ak aF:AA) (i j:Nat),vs=[.v pr,.v pm,.v pb]/\H pr=į (.Æ<|Ts ak)/\H pm=į (.Æ<|Ts aF)/\H pb=į (.Æ [.I i,.I j])/\Hg r w ak aF i j/\∀H',aA H H'->Q (.bl Ĵ) H'
def TV (D:aR K mg "is_board" zG ["rows","marks","begin"])(G:mg "len"=Ĳ)(N:bD P w K mg base "are_rows" 2 ["thing"] aaq)(TX:bD P w K mg base "are_marks" 2 ["thing"] Vs)(M4:bD P w K mg base "is_begin_of" 3 ["rows","thing"] (Vt K)):bD P w K mg base "is_board" 4 ["rows","marks","begin"] Vu:=by
 calc D.cU Tq λf bF A outer s H vs Q E M h=>?_;let(pr,pm,pb,r,w,ak,aF,i,j,rfl,F,hm,hb,B,q):=h;let l1:(Ts ak).n=r:=by rw[aa,B.br.len]
 let O:(Ts aF).n=r:=by rw[aa,B.bm.len]
 let h0:0<ak.n:=by rw[B.br.len];show B.r1
 let J:0<aF.n:=by rw[B.bm.len];show B.r1
 let Z:ak[0].n=w:=B.br.iJ _<|aS _;let L:aF[0].n=w:=B.bm.iJ _<|aS _;let w9:=B.w9;calc%[0,_,(aD (dF (QW.qt<|tK (jk<|f9<|bf N M.Ô rb<|aj aK aq)<|qY<|jk<|f9<|bf TX M.Ô rb<|aj aX aq) (aG<|aY mz) cC)<|aD (dF (QW.qt<|tK (bK yH (aP cD zw G bE<|aj aX aq) (aP cD zw G bE<|aj aK aq)<|bU _)<|qY<|bK yH (aP cL zw G bE<|aj (aV bA aX aB λ_ _=>rfl) aq) (aP cL zw G bE<|aj (aV bA aK aB λ_ _=>rfl) aq)<|bU _) (aG<|aY mz) cC)<|aG<|aY<|bf M4 M.Ô rb<|aj aK<|aj bw aq)|?_];calc%[53,pr,ak,r,w,rb,F,B.br,B.r1,B.r9,B.w1,B.w9,B.cr|λH1 s1=>(bB _ rb<|cG ?_)];calc%[53,pm,aF,r,w,rb,s1 _ _ hm,B.bm,B.r1,B.r9,B.w1,B.w9,B.cm|λY s2=>(bB _ rb<|cG ?_)];let g:=s1.X s2;calc%[33,pm,_,rb,.Ð<|aQ.of<|g _ _ hm,pr,_,rb,.Ð<|aQ.of<|g _ _ F,rb|bB _ rb ?_];calc Wx (by rw[l1,O]) ?_;calc%[15,pm,_,_,.À<|S aF[0],rb,rb,aQ.of<|g _ _ hm|%[26,aN (j:=0)<|oK (by simp[J]),_,rb,ar<|aJ zo|%[3,pr,_,_,.À<|S ak[0],rb,rb,aQ.of<|g _ _ F,aN (j:=0)<|oK (by simp[h0])|%[18,_,rb,ar<|aJ zo,rb|bB _ rb ?_]]]];calc Wx (by rw[Z,L]) ?_;calc%[6,pr,pb|%[42,ak,r,w,i,j,rb,g _ _ F,g _ _ hb,B.br,B.r1,B.r9,B.w9,B.bi,B.bj|?_]];show q Y g
structure fU (K:W.Ë)(C:Ķ):Prop where
 cl:Cls K C
 nr:lM K C "rows"
 nm:lM K C "marks"
 nb:lM K C "begin"
structure cW (C:Ķ)(H:Hp)(p:Ķ)(r w:ı)(ak aF:AA)(i j:ı):Prop where
 ex:∃dx pr pm pb,H p=į (.ins C dx [("rows",.v pr),("marks",.v pm),("begin",.v pb)])/\H pr=į (.Æ<|Ts ak)/\H pm=į (.Æ<|Ts aF)/\H pb=į (.Æ [.I i,.I j])
 ok:Hg r w ak aF i j
def cW.mv {r w:ı}{ak aF:AA}{i j:ı}(B:cW C H p r w ak aF i j)(s:aA H H'):cW C H' p r w ak aF i j:=by let((dx,pr,pm,pb,a,b,c,d),o):=B;show%[%[15,dx,pr,pm,pb,s _ _ a,s _ _ b,s _ _ c|s _ _ d]|o]
def Dz (C:Ķ):Sp:=λvs H Q _=>∃(p dx pr pm pb:Addr) (r w:Nat) (ak aF:AA) (i j:Nat),vs=[.v p,.v pr,.v pm,.v pb]/\H p=į (.ins C dx [])/\H pr=į (.Æ<|Ts ak)/\H pm=į (.Æ<|Ts aF)/\H pb=į (.Æ [.I i,.I j])/\Hg r w ak aF i j/\
 ∀H',(∀b o,H b=į o->b≠p->H' b=į o)->H' p=į (.ins C dx [("rows",.v pr),("marks",.v pm),("begin",.v pb)])->Q .ă H'
def M5 (F:iH K "__init__" "Board.__init__" jz f fd)(T:fU K C)(G:bD P w K mg base "is_board" 4 ["rows","marks","begin"] Vu):dJ P w K mg base fP 5 f fd ["self","rows","marks","begin"] (Dz C):=by
 calc F.cU Mz λbF A outer s H vs Q E L h=>?_;let(p,dx,pr,pm,pb,r,w,ak,aF,i,j,rfl,hp,D,hm,J,B,q):=h;calc%[0,_,(aD (dF (jk<|f9<|bf G L.Ô rb<|aj aX<|aj bw<|aj bN aq) Am cC)<|aD (xq aK aX rb)<|aD (xq aK bw rb)<|aG<|xq aK bN rb)|?_];calc%[6,pr,pm|%[41,pb,r,w,ak,aF,i,j,rb,D,hm,J,B|λH1 s1=>(bB _ rb<|cG ?_)]];calc%[14,p,C,dx,_,rb,s1 _ _ hp,T.cl,T.nr,by show 0<1000;decide|?_];calc%[14,p,C,dx,_,rb,au,T.cl,T.nm,by show 1<1000;decide|?_];calc%[14,p,C,dx,_,rb,au,T.cl,T.nb,by show 2<1000;decide|?_];calc q _ (λb o e g=>?_) ?_;.rw[aU g,aU g,aU g];show s1 _ _ e
 .show au
def atC (ak:AA)(r w:ı)(i j:ĸ):ı:=if 0<=i/\i<r/\0<=j/\j<w then (ak.Î i.Ü []).Î j.Ü 0 else 46
def acK (C:Ķ):Sp:=λvs H Q _=>∃(p:Addr) (r w:Nat) (ak aF:AA) (bi bj:Nat) (i j:Int),vs=[.v p,.I i,.I j]/\cW C H p r w ak aF bi bj/\Q (.À<|S [atC ak r w i j]) H
def aiD (F:iH K "at" "Board.at" lH f fd)(T:fU K C)(L:∃t,mg "FREE"=į (.À (S [46]) t))(J:bD P w K mg base "is_cell_of" 2 ["rows","row","column"] (Fx K)):dJ P w K mg base fP 3 f fd ["self","row","column"] (acK C):=by
 calc F.cU Tr λbF A outer s H vs Q E M h=>?_;let(p,r,w,ak,aF,bi,bj,i,j,rfl,B,q):=h;let((dx,pr,pm,pb,hp,D,hm,N),O):=B;let w9:=O.w9;calc%[0,_,(aG<|aY<|jx (f9<|bf J M.Ô rb<|aj (fX aK rb)<|aj aX<|aj bw aq) (aV pK (aV bA (fX aK rb) aX λ_ _=>rfl) bw λ_ _=>rfl)<|m9 zw L)|?_];calc%[16,p,C,dx,_,_,rb,hp,T.cl,T.nr,rb|%[65,pr,ak,r,w,i,j,rb,aQ.of D,O.br,O.r1,O.r9,O.w9|bB _ rb ?_]];by_cases h:0<=i/\i<r/\0<=j/\j<w
 .rw[aw h];let e:atC ak r w i j=(ak.Î i.Ü []).Î j.Ü 0:=ĺ h;rw[e]at q;obtain⟨i,rfl⟩:∃k:Nat,i=k:=%[i.Ü|zo]
  obtain⟨j,rfl⟩:∃k:Nat,j=k:=%[j.Ü|zo]
  rw[cq,cq]at q;let hi:i<ak.n:=by rw[O.br.len];simp_all
  let g:ak[i]?=į (ak.Î i []):=by rw[ap,ae hi];rfl
  let hw:(ak.Î i []).n=w:=O.br.iJ _<|a7 g;let G:(ak.Î i [])[j]?=į ((ak.Î i []).Î j 0):=by rw[ap (l:=ak.Î i []),ae (by simp_all)];rfl
  refine cP %[16,p,C,dx,_,_,rb,hp,T.cl,T.nr,rb|%[3,pr,_,_,_,rb,rb,aQ.of D,aN<|oK g|%[10,_,_,_,rb,rb,ar<|aJ zo,aN G|q]]]
 .rw[ai h];let e:atC ak r w i j=46:=Ĺ h;rw[e]at q;show cG q
def isFree (ak:AA):ŏ:=ak.Ê.all λc=>ľ ([c]=[46])
def aas (C:Ķ):Sp:=λvs H Q _=>∃(p:Addr) (r w:Nat) (ak aF:AA) (bi bj:Nat),vs=[.v p]/\cW C H p r w ak aF bi bj/\∀H',aA H H'->Q (.bl<|isFree ak) H'
def Xu (F:iH K "is_free" "Board.is_free" gU f fd)(T:fU K C)(Z:mg "all"=Ĳ)(eX:∃t,mg "FREE"=į (.À (S [46]) t)):dJ P w K mg base fP 1 f fd ["self"] (aas C):=by
 calc F.cU uI ?_;intro bF A outer s H vs Q E hr h;let(p,r,w,ak,aF,bi,bj,rfl,B,q):=h;let((dx,pr,pm,pb,hp,G,hm,hb),O):=B;let N:r*w<=81:=km O.r9 O.w9;let Y:=uE O.br;calc%[0,_,(aG<|aY<|aP (mL rb) zw Z mO<|aj (h_ rb (gM.of uI.nd zC) (pL<|d7 b9 eP eQ Fd (bV [] zD)<|aj (fX aK rb) aq) (λ_ _ _ _ _=>cM) λ_ _ _ _ _=>(jL xJ aK (m9 zw eX)<|bU _)) aq)|?_];calc%[rb|%[50,p,C,dx,_,_,rb,hp,T.cl,T.nr,rb,pr,ak,rb,rb|%[20,aQ.of G,zo,_,rb|λL M=>?_]]];refine yN (λi ys j=>ys=((ak.Ê.Ã i).Q λc=>ľ<|[c]=[46]).Q V.bl/\j L=į (.É ys)/\aA H j) %[rb,au|aA.å M] ?_ ?_
 .intro i c ys j hi z;let(rfl,g,D):=z;let J:i<ak.Ê.n:=(am.mp hi).1;calc%[7,[c],[46],rb,rb,g,?_|dR.mk J %[?_,au|D.bJ M]];.rw[aa,aa,ba];show aJ zo
  .rw[bv,hi];simp
 .intro ys j z;let(rfl,g,D):=z;rw[cK]at g;calc%[1,L,_,rb,aZ.of g|?_];let e:((ak.Ê.Q λc=>ľ<|[c]=[46]).all id)=isFree ak:=by
   unfold isFree;rw[List.all_map];rfl
  rw[e];show q j D
def jJ (ak:AA)(j:ı):İ ı:=ak.Q λl=>l.Î j 0
def lineOf (ak:AA)(i j:ı)(way:ĸ):İ ı:=if way=0 then ak.Î i [] else jJ ak j
def placeOf (i j:ı)(way:ĸ):ı:=if way=0 then j else i
def Xv:Sp:=λvs H Q _=>∃(p:Addr) (ak:AA) (r w j:Nat),vs=[.v p,.I j]/\H p=į (.Æ<|Ts ak)/\Blk r w ak/\r<=9/\w<=9/\j<w/\∀H',aA H H'->Q (.À<|S<|jJ ak j) H'
def JW (D:aR K mg "column_text" rR ["rows","column"]):bD P w K mg base "column_text" 1 ["rows","column"] Xv:=by
 calc D.cU xY ?_;intro f bF A outer s H vs Q E hr h;let(p,ak,r,w,j,rfl,hp,F,r9,w9,Y,q):=h;calc%[0,_,(aG<|aY<|d7 b9 eP eQ o8 (bV [] zD)<|aj (h_ rb (gM.of xY.nd zC) (fH aK) (λ_ _ _ _ _=>cM) λ_ _ _ _ _=>(aV pK aK bw λ_ _=>rfl)) aq)|?_];let O:(Ts ak).n=r:=by rw[aa,F.len]
 refine%[26,rb,p,rb,%[_|aQ.of hp]|λL N=>uw (xs:=Ts ak) (λi ys B=>ys=Ts (ones<|(ak.Ã i).Q λl=>l.Î j 0)/\B L=į (.É ys)/\aA H B) %[rb,au|aA.å N] (λi ys B _ h=>aQ.of<|h.2.2 _ _ hp) ?_ ?_]
 .intro i x ys B hi z;let(rfl,g,G):=z;let(l,M,rfl):=pU hi;let J:i<(Ts ak).n:=(am.mp hi).1;let Z:l.n=w:=F.iJ _<|a7 M;calc%[35,l,_,l.Î j 0,rb,rb,ar<|aJ zo,?_,g,?_|dR.mk J %[?_,au|G.bJ N]];.show aN (by rw[ap,ae (by simp_all)];rfl)
  .rw[aa,aa,aa,ba];show aJ (by grind)
  .rw[lW,wj,bv,M];simp
 .intro ys B z;let(rfl,g,G):=z;rw[O,<-F.len,cK]at g;calc%[7,L,_,rb,rb,aZ.of g,?_|?_];.rw[jH,aa,F.len];lia
  .rw[jH];show q B G
def nC {r w:ı}{ak:AA}(g:Blk r w ak){i j:ı}(hi:i<r){way:ĸ}:(lineOf ak i j way).n=if way=0 then w else r:=by
 unfold lineOf;by_cases h:way=0
 .rw[ĺ h,ĺ h,ap,ae (by rw[g.len];show hi)];show g.iJ _<|aS _
 .rw[Ĺ h,Ĺ h];unfold jJ;rw[aa,g.len]
def mY (l):(cJ l).n<=l.n:=by unfold cJ;rw[List.length_reverse];show av (rq _).length_le (by rw[List.length_reverse];show ag _)
def rD (l):(dN l).n<=l.n:=(rq _).length_le
def Fy (i j:ı)(way:ĸ)(l:İ ı):İ V:=if way=0 then [.I i,.I ((j:ĸ)-(cJ<|l.Ã j).n),.À (S<|cJ (l.Ã j)++dN (l.Ì j))] else [.I ((i:ĸ)-(cJ<|l.Ã i).n),.I j,.À (S<|cJ (l.Ã i)++dN (l.Ì i))]
def Xw (C:Ķ):Sp:=λvs H Q _=>∃(p:Addr) (r w:Nat) (ak aF:AA) (bi bj i j:Nat) (way:Int),vs=[.v p,.I i,.I j,.I way]/\cW C H p r w ak aF bi bj/\i<r/\j<w/\(way=0\/way=1)/\
 ∀(t:Ķ) (H':Hp),aA H H'->H t=Ĳ->H' t=į (.Æ<|Fy i j way<|lineOf ak i j way)->Q (.v t) H'
def ag3 (F:iH K "run" "Board.run" jZ f fd)(T:fU K C)(bh:mg "len"=Ĳ)(eX:∃t,mg "FREE"=į (.À (S [46]) t))(sI:bD P w K mg base "column_text" 1 ["rows","column"] Xv):dJ P w K mg base fP 2 f fd ["self","row","column","way"] (Xw C):=by
 calc F.cU kO ?_;intro bF A outer s H vs Q E hr h;let(p,r,w,ak,aF,bi,bj,i,j,way,rfl,B,hi,hj,zf,q):=h;let((dx,pr,pm,pb,hp,M,hm,hb),O):=B;let r9:=O.r9;let w9:=O.w9;calc%[0,_,(aD (aO (i:=4) kO.nd rb (Or.Â rb)<|jx (bK lD bN aB<|bU _) (aV bA (fX aK rb) aX λ_ _=>rfl)<|bf sI hr.Ô rb<|aj (fX aK rb)<|aj bw aq)<|aD (aO (i:=5) kO.nd rb (Or.Â rb)<|jx (bK lD bN aB<|bU _) bw aX)<|aD (aO (i:=6) kO.nd rb (Or.Â rb)<|aV bA (d7 b9 PySem.F.slot_str_rpartition PySem.F.type_str_rpartition abP (qC Jb b_ t_<|uc cI)<|aj (m9 zw eX) aq) aB λ_ _=>rfl)<|aD (aO (i:=7) kO.nd rb (Or.Â rb)<|aL lV dM<|aV bA (d7 b9 PySem.F.slot_str_partition PySem.F.type_str_partition aee (qC Jb b_ (uc cI) t_)<|aj (m9 zw eX) aq) aB λ_ _=>rfl)<|aD (aO (i:=8) kO.nd rb (Or.Â rb)<|aL gK cI<|aP cL zw bh bE<|aj dM aq)<|aG<|aY<|jx (bK lD bN aB<|bU _) (cO<|aj aX<|aj iV<|aj iU aq)<|cO<|aj iV<|aj bw<|aj iU aq)|?_];let g:ak[i]?=į (ak.Î i []):=by rw[ap,ae (by rw[O.br.len];show hi)];rfl
 rcases zf with rfl|rfl
 .let D:(lineOf ak i j 0).n=w:=nC O.br hi;let el:ak.Î i []=lineOf ak i j 0:=rfl;rw[el]at g;let hz:∀l:İ ı,l.n<=100->l.n<=Ŀ:=λl h=>ar<|aJ zo;calc%[rb|bB _ rb<|cP ?_];calc%[16,p,C,dx,_,_,rb,hp,T.cl,T.nr,rb|%[3,pr,_,_,_,rb,rb,aQ.of M,aN<|oK g|?_]];generalize hL:lineOf ak i j 0=l at D g ⊢;calc%[rb|bB _ rb<|cP ?_];calc%[46,_,rb,l,rb,hz _ zo,rb|?_];rw[O5];calc%[18,_,rb,rb,by rw[ba];grind|λp1 N b1 J=>?_];calc%[3,p1,_,_,_,rb,rb,aQ.of au,aN (j:=2) rb|?_];let s1:aA H (upd H p1<|.Æ [.À N,.À b1,.À (S<|cJ<|l.Ã j)]):=aA.å J;generalize upd H p1 (.Æ [.À N,.À b1,.À (S<|cJ<|l.Ã j)])=H1 at s1 ⊢;let t1:=mY<|l.Ã j;let Z:=rD<|l.Ì j;rw[ba]at t1;rw[cS]at Z;calc%[46,_,rb,l,rb,hz _ zo,rb|?_];rw[yP];calc%[18,_,rb,rb,by rw[cS];show av (iX _ _) zo|λp2 b2 L G=>?_];calc%[39,p2,_,_,_,rb,rb,aQ.of au,aN (j:=0) rb,_,_,rb,rb,ar<|aJ (by grind)|?_];let s2:=s1.bJ (o:=HO.Æ [.À (S<|dN<|l.Ì j),.À b2,.À L])<|s1.Õ G;generalize upd H1 p2 (HO.Æ [.À (S<|dN<|l.Ì j),.À b2,.À L])=H2 at s2 ⊢;calc%[30,_,rb,hz _ zo,_,_,rb,rb|?_];calc%[rb|bB _ rb<|cP ?_];calc%[zsz 3|λt Y=>?_];show q t _ (s2.bJ<|s2.Õ Y) (s2.Õ Y) (by rw[au,hL];rfl)
 .let D:(lineOf ak i j 1).n=r:=nC O.br hi;let el:jJ ak j=lineOf ak i j 1:=rfl;let hz:∀l:İ ı,l.n<=100->l.n<=Ŀ:=λl h=>ar<|aJ zo;calc%[rb|bB _ rb<|cG ?_];calc%[16,p,C,dx,_,_,rb,hp,T.cl,T.nr,rb|%[47,pr,ak,r,w,j,rb,M,O.br,r9,w9,hj|λH0 s0=>?_]];rw[el];generalize hL:lineOf ak i j 1=l at D ⊢;calc%[rb|bB _ rb<|cG ?_];calc%[46,_,rb,l,rb,hz _ zo,rb|?_];rw[O5];calc%[18,_,rb,rb,by rw[ba];lia|λp1 N b1 J=>?_];calc%[3,p1,_,_,_,rb,rb,aQ.of au,aN (j:=2) rb|?_];let s1:aA H (upd H0 p1<|.Æ [.À N,.À b1,.À (S<|cJ<|l.Ã i)]):=s0.bJ<|s0.Õ J;generalize upd H0 p1 (.Æ [.À N,.À b1,.À (S<|cJ<|l.Ã i)])=H1 at s1 ⊢;let t1:=mY<|l.Ã i;let Z:=rD<|l.Ì i;rw[ba]at t1;rw[cS]at Z;calc%[46,_,rb,l,rb,hz _ zo,rb|?_];rw[yP];calc%[18,_,rb,rb,by rw[cS];lia|λp2 b2 L G=>?_];calc%[39,p2,_,_,_,rb,rb,aQ.of au,aN (j:=0) rb,_,_,rb,rb,ar<|aJ zo|?_];let s2:=s1.bJ (o:=HO.Æ [.À (S<|dN<|l.Ì i),.À b2,.À L])<|s1.Õ G;generalize upd H1 p2 (HO.Æ [.À (S<|dN<|l.Ì i),.À b2,.À L])=H2 at s2 ⊢;calc%[30,_,rb,hz _ zo,_,_,rb,rb|?_];calc%[rb|bB _ rb<|cG ?_];calc%[zsz 3|λt Y=>?_];show q t _ (s2.bJ<|s2.Õ Y) (s2.Õ Y) (by rw[au,hL];rfl)
abbrev bL:=ı×ı×ı
def rk (t:bL):ı:=t.1*1000+t.2.1
def sw (t:bL):bL:=(t.2.1,t.1,t.2.2)
def yq (t:bL):Prop:=t.1<9/\t.2.1<9/\t.2.2<128
def Cr (H:Hp)(a:Ķ)(t:bL):Prop:=H a=į (.Æ [.I t.1,.I t.2.1,.À (S [t.2.2])])
def tO (H:Hp)(a:Ķ):bL:=match H a with| some (.Æ [.I x,.I y,.À z])=>(x.Ü,y.Ü,z.Ĕ.H.headD 0)| _=>(0,0,0)
def Xx (h:Cr H a t):tO H a=t:=by unfold tO;rw[show H a=_ from h];rfl
structure dH (H:Hp)(as:İ Ķ)(ts:İ bL):Prop where
 at_:∀a∈as,Cr H a (tO H a)
 eq:as.Q (tO H)=ts
def dH.d9 (k:∀a xs,H a=į (.Æ xs)->H' a=į (.Æ xs))(h:dH H as ts):dH H' as ts:=by let e:∀a∈as,tO H' a=tO H a:=λa ha=>Xx<|k a _<|h.Ć a ha;show%[λa ha=>by rw[e a ha];show k a _<|h.Ć a ha|by rw[<-h.eq];show dS e]
def dH.mv (k:aA H H')(h:dH H as ts):dH H' as ts:=h.d9 λa xs e=>k a _ e
def eE (g:H M=į (.É ys)):∀a xs,H a=į (.Æ xs)->upd H M (.É zs) a=į (.Æ xs):=λa xs e=>by
 let ne:a≠M:=λz=>by rw[z,g]at e;cases e
 rw[aU ne];show e
def dH.snoc (h:dH H as ts)(ha:Cr H a t):dH H (as++[a]) (ts++[t]):=by
 calc%[λb g=>?_|by rw[bo,h.eq,nS,Xx ha]];rcases a8.mp g with z|z;.show h.Ć b z
 .rw[al.mp z,Xx ha];show ha
def dH.nil:dH H [] []:=%[λa h=>by simp at h|rb]
def dH.len (h:dH H as ts):as.n=ts.n:=by rw[<-h.eq,aa]
def dH.get (h:dH H as ts)(hi:i<as.n):∃t,ts[i]?=į t/\Cr H as[i] t:=%[0,tO H as[i],by rw[<-h.eq];simp[hi]|h.Ć _<|aS _]
def dH.perm {as g:İ Ķ}(h:dH H as ts)(p:g.æ as):dH H g (g.Q<|tO H)/\(g.Q<|tO H).æ ts:=%[%[λa ha=>h.Ć a<|p.à.mp ha|rb]|by rw[<-h.eq];show p.Q _]
def cQ (ak:AA)(w:ı):İ (İ ı):=(List.ñ w).Q (jJ ak)
def Fz {r w:ı}{ak:AA}(h:Blk r w ak):Blk w r (cQ ak w):=
 %[by unfold cQ;rw[aa,ef]|λl g=>by let(j,_,rfl):=aI.mp g;unfold jJ;rw[aa,h.len]]
def zN {r w:ı}{ak:AA}(h:Blk r w ak){F:ı->Prop}(hp:∀l∈ak,∀c∈l,F c):∀l∈cQ ak w,∀c∈l,F c:=λl G c J=>by let(j,D,rfl):=aI.mp G;let D:=cz.mp D;let(B,g,rfl):=aI.mp J;let hw:=h.iJ B g;rw[ap,ae (by simp_all)];show hp B g _<|aS _
def aat {r w:ı}{ak:AA}(h:Blk r w ak):cQ (cQ ak w) r=ak:=by
 apply zb;.unfold cQ;rw[aa,ef,h.len]
 .intro i h1 g;let hw:=h.iJ ak[i]<|aS _;rw[show (cQ (cQ ak w) r)[i]=jJ (cQ ak w) i by simp[cQ]];unfold jJ cQ;rw[dm];apply zb;.rw[aa,ef,hw]
  .intro j D B;rw[oS,List.getElem_range];show (ak.Q λl=>l.Î j 0).Î i 0=ak[i][j];rw[ap,ae (by rw[aa];show g),oS];show (ak[i]).Î j 0=_;rw[ap,ae B];rfl
def Qx {r w:ı}{ak aF:AA}{bi bj:ı}(B:Hg r w ak aF bi bj):Hg w r (cQ ak w) (cQ aF w) bj bi:=%[B.w1,B.w9,B.r1,B.r9,Fz B.br,Fz B.bm,zN B.br B.cr,zN B.bm B.cm,B.bj|B.bi]
def setAt (R:AA)(i j z:ı):İ (İ ı):=R.ē i ((R.Î i []).ē j z)
def dW (R:AA)(ts:İ bL):İ (İ ı):=ts.foldl (λR t=>setAt R t.1 t.2.1 t.2.2) R
def Vv {r w:ı}{R:AA}(h:Blk r w R){i j z:ı}(hi:i<r):Blk r w (setAt R i j z):=by
 calc%[by unfold setAt;rw[mf,h.len]|λl g=>?_];rcases i7 g with y|y;.show h.iJ l y
 .rw[y,mf,ap,ae (by rw[h.len];show hi)];show h.iJ _<|aS _
def aeT {r w:ı}{R:AA}(h:Blk r w R){i j z:ı}(hi:i<r){B:ı->Prop}(hp:∀l∈R,∀c∈l,B c)(hz:B z):∀l∈setAt R i j z,∀c∈l,B c:=λl D c g=>by
 rcases i7 D with y|y;.show hp l y c g
 .rw[y]at g;rcases i7 g with u|u
  .rw[ap,ae (by rw[h.len];show hi)]at u;show hp _ (aS _) c u
  .rw[u];show hz
def inB (r w:ı)(t:bL):Prop:=t.1<r/\t.2.1<w/\uQ t.2.2
theorem mZ {r w:ı}:∀{ts:İ bL} {R:AA},Blk r w R->(∀t∈ts,inB r w t)->Blk r w (dW R ts)
 | [],_,h,_=>h
 | t::ts,_,h,k=>mZ (ts:=ts) (Vv h (k t aE).1) λx hx=>k x (ay _ hx)
theorem Qy {r w:ı}:∀{ts:İ bL} {R:AA},Blk r w R->(∀t∈ts,inB r w t)->(∀l∈R,∀c∈l,uR c)->∀l∈dW R ts,∀c∈l,uR c
 | [],_,_,_,g=>g
 | t::ts,_,h,k,g=>Qy (ts:=ts) (Vv h (k t aE).1) (λx hx=>k x<|ay _ hx) (aeT h (k t aE).1 g<|.Ð (k t aE).2.2)
def acL {r w:ı}{ak aF:AA}{bi bj:ı}(B:Hg r w ak aF bi bj)(k:∀t∈ts,inB r w t):Hg r w (dW ak ts) aF bi bj:=%[B.r1,B.r9,B.w1,B.w9,mZ B.br k,B.bm,Qy B.br k B.cr,B.cm,B.bi|B.bj]
def Lq (R)(ts:İ bL)(t:bL):dW R (ts++[t])=setAt (dW R ts) t.1 t.2.1 t.2.2:=by unfold dW;rw[List.foldl_append];rfl
structure dg (H0 H:Hp)(ps:İ Ķ)(R:AA):Prop where
 len:ps.n=R.n
 nd:ps.Ö
 fr:∀p∈ps,H0 p=Ĳ
 at_:∀(i:ı) (h:i<ps.n),H ps[i]=į (.É<|Ts<|ones<|R.Î i [])
def dg.mv (h:dg H0 H ps R)(k:∀p∈ps,H' p=H p):dg H0 H' ps R:=%[h.đ,h.nd,h.fr|λi hi=>by rw[k _ (aS _)];show h.Ć i hi]
def dg.mvS (h:dg H0 H ps R)(k:aA H H'):dg H0 H' ps R:=%[h.đ,h.nd,h.fr|λi hi=>k _ _<|h.Ć i hi]
def dg.snoc (h:dg H0 H ps R)(hn:p∉ps)(g:H0 p=Ĳ)(hp:H p=į (.É<|Ts<|ones l)):dg H0 H (ps++[p]) (R++[l]):=by
 refine%[by simp[h.len],?_,λx hx=>?_|λi hi=>?_]
 .rw[rc];calc%[h.nd,zr|λa ha b j=>?_];rw[al.mp j];show λz=>hn<|z ▸ ha
 .rcases a8.mp hx with z|z;.show h.fr x z
  .rw[al.mp z];show g
 .by_cases c:i<ps.n;.rw[List.getElem_append_left c,h.Ć i c,ap,ap,eW (by rw[<-h.len];show c)]
  .let e:i=ps.n:=by simp at hi;lia
   subst e;rw[List.getElem_append_right (ag _)];simp only[mr,List.getElem_singleton];rw[hp,ap,du (by rw[h.len];show ag _),h.len];simp
def dg.set (h:dg H0 H ps R)(hi:i<ps.n):dg H0 (upd H ps[i]<|.É<|(Ts<|ones<|R.Î i []).ē j<|.À<|S [z]) ps (setAt R i j z):=by
 let e:(Ts<|ones<|R.Î i []).ē j (.À<|S [z])=Ts (ones<|(R.Î i []).ē j z):=by show List.ē (((R.Î i []).Q λc=>[c]).Q λl=>V.À<|S l) j (V.À<|S [z])=((List.ē (R.Î i []) j z).Q λc=>[c]).Q λl=>V.À (S l);rw[List.map_set,List.map_set]
 rw[e];calc%[by unfold setAt;rw[mf];show h.đ,h.nd,h.fr|λk hk=>?_];by_cases c:k=i
 .subst c;rw[au];unfold setAt;rw[ap (l:=R.ē _ _),vx (by rw[<-h.len];show hi)];rfl
 .rw[aU (λz=>c<|(List.getElem_inj h.nd).mp z),h.Ć k hk];unfold setAt;rw[ap (l:=R.ē _ _),wm (λz=>c z.Ò),<-ap]
def ag4:Sp:=λvs H Q _=>∃(p:Addr) (ak:AA) (r w:Nat),vs=[.v p]/\H p=į (.Æ<|Ts ak)/\Blk r w ak/\1<=r/\r<=9/\w<=9/\∀(g:Ķ) (H':Hp),aA H H'->H' g=į (.Æ<|Ts<|cQ ak w)->Q (.v g) H'
def JX (D:aR K mg "turned_rows" rT ["rows"])(bh:mg "len"=Ĳ)(cj:mg "range"=Ĳ)(Z:mg "tuple"=Ĳ)(N:bD P w K mg base "column_text" 1 ["rows","column"] Xv):bD P w K mg base "turned_rows" 2 ["rows"] ag4:=by
 calc D.cU xZ ?_;intro f bF A outer s H vs Q E hr h;let(p,ak,r,w,rfl,hp,G,r1,r9,w9,q):=h;calc%[0,_,(aG<|aY<|cN dX zw Z df<|aj (h_ rb (gM.of xZ.nd zC) (fJ zw cj<|aj (aP cL zw bh bE<|aj (aV bA aK aB λ_ _=>rfl) aq) aq) (λ_ _ _ _ _=>cM) λ_ _ _ _ _=>(bf N hr.Ô rb<|aj aX<|aj aK aq)) aq)|?_];let h0:0<ak.n:=by rw[G.len];show r1
 let Y:ak[0].n=w:=G.iJ _<|aS _;calc%[3,p,_,_,.À<|S ak[0],rb,rb,aQ.of hp,aN (j:=0)<|oK (by simp[h0])|%[51,_,rb,ar<|aJ zo,_,rb,dA _,zo|?_]];intro M J;rw[cq,Y];refine yM (lo:=0) (n:=w) (λi ys B=>ys=Ts ((List.ñ i).Q<|jJ ak)/\B M=į (.É ys)/\aA H B) %[rb,au|aA.å J] ?_ ?_
 .intro i ys B hi z;let(rfl,F,g):=z;calc%[47,p,ak,r,w,i,by rw[nV];rfl,g _ _ hp,G,r9,w9,hi|λH3 L=>%[L _ _ F,?_|dR.mk hi %[?_,au|(g.X L).bJ J]]];.rw[aa,aa,ef];show aJ zo
  .rw[lW,fz,bo];rfl
 .intro ys B z;let(rfl,F,g):=z;calc%[4,M,_,rb|.Â %[aZ.of F|λl O=>?_]];show q l _ (g.bJ<|g.Õ O) au
def Qz (C:Ķ):Sp:=λvs H Q _=>∃(p:Addr) (r w:Nat) (ak aF:AA) (bi bj:Nat),vs=[.v p]/\cW C H p r w ak aF bi bj/\∀(g:Ķ) (H':Hp),aA H H'->cW C H' g w r (cQ ak w) (cQ aF w) bj bi->Q (.v g) H'
def aau (F:iH K "turned" "Board.turned" iC f fd)(T:fU K C)(uU:mg "Board"=į (.v C))(yr:Mk K C f0)(yt:dJ P w K mg base fP 5 f0 mG ["self","rows","marks","begin"] (Dz C))(yu:cV K mG ["self","rows","marks","begin"] [])(Ae:bD P w K mg base "turned_rows" 2 ["rows"] ag4):dJ P w K mg base fP 8 f fd ["self"] (Qz C):=by
 calc F.cU vX ?_;intro bF A outer s H vs Q E hr h;let(p,r,w,ak,aF,bi,bj,rfl,BA,q):=h;let((dx,pr,pm,pb,hx,O,Z,g),B):=BA;calc%[0,_,(aD (aO (i:=1) vX.nd rb (Or.Â rb)<|cO<|aj (aV bA (fX aK rb) aB λ_ _=>rfl)<|aj (aV bA (fX aK rb) aB λ_ _=>rfl) aq)<|aG<|aY<|xr yr yt hr.Ô rb uU yu .ê jo<|aj (bf Ae hr.Ô rb<|aj (fX aK rb) aq)<|aj (bf Ae hr.Ô rb<|aj (fX aK rb) aq)<|aj aX aq)|?_];calc%[16,p,C,dx,_,_,rb,hx,T.cl,T.nb,rb|%[3,pb,_,_,.I bj,rb,rb,aQ.of g,aN (j:=1) rb|?_]];calc%[16,p,C,dx,_,_,rb,hx,T.cl,T.nb,rb|%[14,pb,_,_,.I bi,rb,rb,aQ.of g,aN (j:=0) rb,zsz 2|λb hb=>?_]];let s1:aA H (upd H b<|.Æ [.I bj,.I bi]):=aA.å hb;calc%[16,p,C,dx,_,_,rb,s1 _ _ hx,T.cl,T.nr,rb|%[61,pr,ak,r,w,rb,s1 _ _ O,B.br,B.r1,B.r9,B.w9|λp1 H1 t1 h1=>?_]];let s2:=s1.X t1;calc%[16,p,C,dx,_,_,rb,s2 _ _ hx,T.cl,T.nm,rb|%[61,pm,aF,r,w,rb,s2 _ _ Z,B.bm,B.r1,B.r9,B.w9|λp2 G J h2=>?_]];let s3:=s2.X J;calc(λx L nx Y nex=>?_);let N:aA G (upd (upd G L<|HO.own x) x<|HO.ins C L []):=λb o e=>by rw[aU (bI e nx),aU (bI e Y)];show e
 let D:G b=į (.Æ [.I bj,.I bi]):=J _ _<|t1 _ _ au;calc%[6,x,L|%[6,p1,p2|%[48,b,w,r,cQ ak w,cQ aF w,bj,bi,rb,au,N _ _<|J _ _ h1,N _ _ h2,N _ _ D,Qx B|λH3 kp hx3=>%[rb|?_]]]];let M:aA G H3:=λb o e=>kp b o (N b o e)<|bI e nx;show q x H3 (s3.X M) %[%[15,L,p1,p2,b,hx3,M _ _<|J _ _ h1,M _ _ h2|M _ _ D]|Qx B]
def QB (C:Ķ):Sp:=λvs H Q _=>∃(p t:Addr) (as:İ Ķ) (ts:İ bL) (r w:Nat) (ak aF:AA) (bi bj:Nat),vs=[.v p,.v t]/\cW C H p r w ak aF bi bj/\H t=į (.Æ<|as.Q V.v)/\dH H as ts/\(∀t∈ts,inB r w t)/\
 ∀(g:Ķ) (H':Hp),aA H H'->cW C H' g r w (dW ak ts) aF bi bj->Q (.v g) H'
def aeU (F:iH K "laid" "Board.laid" jA f fd)(T:fU K C)(jE:mg "list"=Ĳ)(bR:mg "tuple"=Ĳ)(uU:mg "Board"=į (.v C))(yr:Mk K C f0)(yt:dJ P w K mg base fP 5 f0 mG ["self","rows","marks","begin"] (Dz C))(yu:cV K mG ["self","rows","marks","begin"] []):dJ P w K mg base fP 8 f fd ["self","laying"] (QB C):=by
 calc F.cU jN ?_;intro bF A outer s H vs Q E hr h;let(p,t,as,ts,r,w,ak,aF,bi,bj,rfl,BA,ht,hL,dU,q):=h;let((dx,pr,pm,pb,hx,hpr,hpm,hpb),B):=BA;let r9:=B.r9;let w9:=B.w9;let J:=B.br;calc%[0,_,(aD (o_ (ix:=2) (ns:=["row"]) jN.nd rb (Or.Â rb) rb (fG.of ["self","laying","lines",".3","column","sign"] [3] zC) (fH<|fX aK rb) (λ_ _ _ _ _=>(kj (show (["row","self","laying","lines",".3","column","sign"]:İ ņ).Ö by decide +kernel) rb zw)) (λ_ _ _ _ _=>cM) λ_ _ _ _ _=>(cN (tU rb) zw jE nE<|aj aK aq))<|aD (dz ck rb (fH aX) (lN rb<|cu (bG (i:=3) jN.nd rb<|Or.Â rb)<|cu (bG (i:=4) jN.nd rb<|Or.Â rb)<|cu (bG (i:=5) jN.nd rb<|Or.Â rb) jM)<|aG<|xg cI<|Gw (aV fj bw bN λ_ _=>rfl) b_ set_list)<|aG<|aY<|xr yr yt hr.Ô rb uU yu .ê jo<|aj (cN dX zw bR df<|aj (h_ rb (gM.of jN.nd zC) (g_ bw) (λ_ _ _ _ _=>cM) λ_ _ _ _ _=>(O1 K b9 eP eQ (OJ K) (bV [] zD)<|aj aK aq)) aq)<|aj (fX aK rb)<|aj (fX aK rb) aq)|?_];refine%[29,p,C,dx,_,_,rb,hx,T.cl,T.nr|%[26,rb,pr,rb,%[_|aQ.of hpr]|λM hM=>yQ (f:=eN [3] 0) (tt:=gO) (xs:=Ts ak) (λi ys H2=>∃ps:İ Ķ,ys=ps.Q V.v/\H2 M=į (.É ys)/\aA H H2/\dg H H2 ps (ak.Ã i)/\M∉ps)
  %[9,[],rb,au,aA.å hM,%[zr,oB,λp h=>by simp at h|λi h=>by simp at h]|zr] (λi ys H2 _ h=>by let(_,_,_,G,_):=h;show aQ.of<|G _ _ hpr) ?_ ?_]]
 .intro i x ys H2 hi z;let(ps,rfl,iw,G,iK,nM):=z;let(l,hl,rfl):=pU hi;let hil:i<(Ts ak).n:=(am.mp hi).1;let yp:l.n=w:=J.iJ _<|a7 hl;let jt:(Ts ak).n=r:=by rw[aa,J.len]
  let hpl:ps.n<=9:=by rw[iK.len,ba,J.len];lia
  calc yR %[2,l,rb,zo|λc hc=>?_];let QD:M≠c:=λz=>by rw[<-z,iw]at hc;cases hc
  let ncp:c∉ps:=λz=>by let(k,hk,e):=cy.mp z;have:=iK.Ć k hk;rw[e,hc]at this;cases this
  refine%[by rw[aU QD];show iw,by rw[aa];show aJ zo|dR.mk hil %[9,ps++[c],zr,au,(G.bJ<|G.Õ hc).bJ hM,?_|?_]]
  .rw[show ak.Ã (i+1)=ak.Ã i++[l] by rw[bv,hl];rfl];calc dg.mv ((iK.mvS<|aA.å hc).snoc ncp (G.Õ hc) au) λy hy=>aU λz=>?_;rcases a8.mp hy with u|u
   .show nM<|z ▸ u
   .show QD<|z.Ò.X<|al.mp u
  .intro z;rcases a8.mp z with u|u;.show nM u
   .show QD<|al.mp u
 .intro ys H2 z;let(ps,rfl,iw,G,iK,nM):=z;rw[cn (by rw[aa];show ag _)]at iK;refine%[2,t,rb,%[_|aQ.of<|G _ _ ht]|m8 (K:=K) (a:=t) (xs:=as.Q V.v) (λi I Z=>∃v3 v4 v5:ĵ V,I=[į (.v p),į (.v t),į (.v M),v3,v4,v5]/\aA H Z/\Z M=į (.É<|ps.Q V.v)/\dg H Z ps (dW ak<|ts.Ã i))
   %[11,Ĳ,Ĳ,Ĳ,rb,G,iw|iK] (λi I Z _ h=>by let(_,_,_,_,G,_):=h;show aQ.of<|G _ _ ht) ?_ ?_]
  .intro i x I Z g z;let(v3,v4,v5,rfl,j,tD,D):=z;rw[bz]at g;let hi:i<as.n:=by
    rcases dQ i as.n with z|z;.show z
    .rw[dv z]at g;cases g
   rw[ae hi]at g;let g:V.v as[i]=x:=bg g;subst g;let(u,eu,hU):=hL.ď hi;let hum:=a7 eu;let(u1,u2,u3):=dU u hum;let hb3:Blk r w (dW ak<|ts.Ã i):=mZ J λy hy=>dU y<|dq hy;let hpl:ps.n=r:=by rw[D.len,hb3.len]
   let hps:u.1<ps.n:=by simp_all
   calc%[1,as[i],_,rb,aQ.of<|j _ _ hU|%[19,rb,_,_,rb|%[6,_,_|%[17,rb,_,_,rb,rb|?_]]]];refine%[3,M,_,_,.v ps[u.1],rb,rb,aZ.of tD,aN (by simp[hps])|%[3,ps[u.1],_,_,u.2.1,rb,rb,D.Ć u.1 hps,?_|?_]]
   .have:((dW ak<|ts.Ã i).Î u.1 []).n=w:=by
     rw[ap,ae (by rw[hb3.len];show u1)];show hb3.iJ _<|aS _
    unfold xu;rw[aa,aa,this,ĺ zo,ĺ (i8 dC u2)];congr 1
   .refine%[11,_,_,_,rb,j.bJ<|D.fr _<|aS _,?_|?_]
    .let ne:M≠ps[u.1]:=λz=>nM (by rw[z];show aS _)
     rw[aU ne];show tD
    .rw[show dW ak (ts.Ã<|i+1)=setAt (dW ak<|ts.Ã i) u.1 u.2.1 u.2.2 by rw[bv,eu];show Lq _ _ _];show D.ē hps
  .intro I Z z;let(v3,v4,v5,rfl,j,tD,D):=z;rw[cn (by rw[aa,hL.len];show ag _)]at D;let B':=acL B dU;let hpl:ps.n=r:=by rw[D.len,B'.br.len]
   refine%[2,M,rb,%[_|aZ.of tD]|λN hN=>vJ (xs:=ps.Q V.v) (λi ys O=>ys=Ts ((dW ak ts).Ã i)/\O N=į (.É ys)/\aA Z O) %[rb,au|aA.å hN] (λi ys O _ h=>aZ.of<|h.2.2 _ _ tD) ?_ ?_]
   .intro i x ys O hi z;let(rfl,Hj,wk):=z;rw[bz]at hi;let L:i<ps.n:=by
     rcases dQ i ps.n with z|z;.show z
     .rw[dv z]at hi;cases hi
    rw[ae L]at hi;let hi:V.v ps[i]=x:=bg hi;subst hi;let Hl:i<(dW ak ts).n:=by rw[<-D.len];show L
    let hg:(dW ak ts).Î i []=(dW ak ts)[i]:=by rw[ap,ae Hl];rfl
    let hw:(dW ak ts)[i].n=w:=B'.br.iJ _<|aS _;let hat:=D.Ć i L;rw[hg]at hat;calc%[8,rb,ps[i]|%[49,ones (dW ak ts)[i],rb,rb,aZ.of<|wk _ _ hat,by rw[jH,hw];lia,Hj,?_|dR.mk (by rw[aa];show L) %[?_,au|wk.bJ hN]]];.rw[aa,ba];show aJ (by grind)
    .rw[jH,lW,bv,ae Hl];rfl
   .intro ys O z;let(rfl,Hj,wk):=z;rw[cn (by rw[aa,D.len];show ag _)]at Hj;calc%[4,N,_,rb|.Â %[aZ.of Hj|λl hl=>?_]];let Y:=(j.X wk).bJ (o:=.Æ (Ts<|dW ak ts))<|(j.X wk).Õ hl;calc%[16,p,C,dx,_,_,rb,Y _ _ hx,T.cl,T.nm,rb|%[16,p,C,dx,_,_,rb,Y _ _ hx,T.cl,T.nb,rb|λx dy nx ndx nex=>?_]];let s6:aA (upd O l<|.Æ<|Ts<|dW ak ts) (upd (upd (upd O l<|.Æ<|Ts<|dW ak ts) dy<|HO.own x) x<|HO.ins C dy []):=λb o e=>by rw[aU (bI e nx),aU (bI e ndx)];show e
    calc%[6,x,dy|%[6,l,pm|%[48,pb,r,w,dW ak ts,aF,bi,bj,rb,au,s6 _ _ au,s6 _ _<|Y _ _ hpm,s6 _ _<|Y _ _ hpb,B'|λH5 kp hx5=>%[rb|?_]]]];let s7:aA (upd O l<|.Æ<|Ts<|dW ak ts) H5:=λb o e=>kp b o (s6 b o e)<|bI e nx;show q x H5 (Y.X s7) %[%[15,dy,l,pm,pb,hx5,s7 _ _ au,s7 _ _<|Y _ _ hpm|s7 _ _<|Y _ _ hpb]|B']
def acM {l:İ ı}(h1:low<=k)(hk:k<=l.n)(j:∀m,low<=m->m<k->l[m]?≠į 46)(B:low=0\/l[low-1]?=į 46):cJ (l.Ã k)=(l.Ã k).Ì low:=by
 rcases B with e|e
 .subst e;rw[uu];calc Bh λhm=>?_;let(m,hm):=lL.mp hm;let g:m<(l.Ã k).n:=(am.mp hm).1;rw[ba]at g;show j m zo (by simp_all) (by rw[jv,ĺ zo]at hm;show hm)
 .by_cases D:low=0
  .subst D;rw[uu];calc Bh λhm=>?_;let(m,hm):=lL.mp hm;let g:m<(l.Ã k).n:=(am.mp hm).1;rw[ba]at g;show j m zo zo (by rw[jv,ĺ zo]at hm;show hm)
  .have:=O4 (l:=l.Ã k) (i:=low-1) (by rw[jv,ĺ (ed zo zo)];show e) (λm hm z=>by
    let g:m<(l.Ã k).n:=(am.mp z).1;rw[ba]at g;rw[jv,ĺ zo]at z;show j m zo zo z)
   rw[this,show low-1+1=low by lia]
def aav {l:İ ı}(h1:k<=high)(hk:high<=l.n)(j:∀m,k<=m->m<high->l[m]?≠į 46)(B:high=l.n\/l[high]?=į 46):dN (l.Ì k)=(l.Ì k).Ã (high-k):=by
 rcases B with e|e
 .rw[cn (by rw[cS];lia)];calc Bg λhm=>?_;let(m,hm):=lL.mp hm;let g:m<(l.Ì k).n:=(am.mp hm).1;rw[cS]at g;rw[iq]at hm;show j (k+m) zo zo hm
 .refine yO (by rw[iq,show k+(high-k)=high from e_ h1];show e) λm hm z=>?_
  rw[iq]at z;show j (k+m) zo zo z
def rE (l:İ ı)(k c:ı):İ ı:=(cJ<|l.Ã k).Q PyProof.Ă.lo1++c::(dN<|l.Ì<|k+1).Q PyProof.Ă.lo1
def aeV {r w:ı}{ak:AA}(cr:∀l∈ak,∀c∈l,uR c){i j:ı}{way:ĸ}(F:Blk r w ak)(G:j<w):∀c∈lineOf ak i j way,uR c:=λc g=>by
 unfold lineOf at g;split at g
 .rw[ap]at g;cases e:ak[i]? with| none=>rw[e]at g;simp at g| some l=>rw[e]at g;show cr l (a7 e) c g
 .let(l,D,rfl):=aI.mp g;let B:j<l.n:=by rw[F.iJ l D];show G
  rw[ap,ae B];show cr l D _<|aS _
def Xy (h:uR c):c<128:=by
 rcases h with e|e;.rw[e];decide
 .show e.lt
def aeW {r w:ı}{R:AA}(D:Blk r w R){i j z:ı}(hi:i<r)(F:j<w):jJ (setAt R i j z) j=(jJ R j).ē i z:=by
 apply hV;intro m;let g:i<R.n:=by rw[D.len];show hi
 let B:(R.Î i []).n=w:=by rw[ap,ae g];show D.iJ _<|aS _
 unfold jJ setAt;rw[bz,vn,vn,bz];by_cases hm:i=m
 .subst hm;rw[ĺ rb,ĺ rb,ĺ g,ĺ (by rw[aa];show g)];show į (((R.Î i []).ē j z).Î j 0)=į z;rw[ap,vn,ĺ rb,ĺ zo];rfl
 .rw[Ĺ hm,Ĺ hm]
def acN {r w:ı}{R:AA}(B:Blk r w R){i j z:ı}(hi:i<r)(D:j<w){way:ĸ}:lineOf (setAt R i j z) i j way=(lineOf R i j way).ē (placeOf i j way) z:=by
 unfold lineOf placeOf;by_cases h:way=0
 .rw[ĺ h,ĺ h,ĺ h];let g:i<R.n:=by rw[B.len];show hi
  unfold setAt;rw[ap,vn,ĺ rb,ĺ g];rfl
 .rw[Ĺ h,Ĺ h,Ĺ h];show aeW B hi D
def aaw {l:İ ı}(hk:k<l.n):cJ ((l.ē k 97).Ã k)=cJ (l.Ã k)/\dN ((l.ē k 97).Ì k)=97::dN (l.Ì<|k+1):=by
 constructor;.rw[List.take_set,List.set_eq_of_length_le (by rw[ba];show wT _ _)]
 .let g:k<(l.ē k 97).n:=by rw[mf];show hk
  rw[l_ g,List.getElem_set_self,List.drop_set_of_lt zo];rfl
def Ho (ws:AA)(l:İ ı)(k:ı):İ ı:=if (rE l k 97).n=1 then AL else AL.Ą λc=>ľ (rE l k c∈ws)
def ag5 (C B:Ķ):Sp:=λvs H Q _=>∃(pb g d:Addr) (ws:AA) (r w:Nat) (ak aF:AA) (bi bj i j:Nat) (way:Int),vs=[.v pb,.v g,.I i,.I j,.I way]/\cW C H pb r w ak aF bi bj/\jD B H g d ws/\i<r/\j<w/\(way=0\/way=1)/\
 ∀H',aA H H'->Q (.À<|S<|Ho ws (lineOf ak i j way)<|placeOf i j way) H'
def aeX (hw:way=0\/way=1)(hk:placeOf i j way=k):kh (Fy i j way l) 2=į (.À<|S<|cJ (l.Ã k)++dN (l.Ì k))/\(way=0->kh (Fy i j way l) 1=į (.I<|(k:ĸ)-(cJ<|l.Ã k).n))/\(way=1->kh (Fy i j way l) 0=į (.I<|(k:ĸ)-(cJ<|l.Ã k).n)):=by
 subst hk;rcases hw with rfl|rfl;.show%[aN (j:=2) rb,λ_=>aN (j:=1) rb|λz=>by lia]
 .show%[aN (j:=2) rb,λz=>by lia|λ_=>aN (j:=0) rb]
def aax (h:c∈dN l):c∈l:=(rq _).subset h
def aay (h:c∈cJ l):c∈l:=by unfold cJ at h;rw[yT]at h;show yT.mp<|(rq _).subset h
def FJ (D:aR K mg "cross_letters" pR ["board","book","row","column","way"])(bh:mg "len"=Ĳ)(wu:∃t,mg "LETTERS"=į (.À (S AL) t))(cX:fU K C)(QF:uf K CB)(uV:Meth K C "laid" f1)(uW:dJ P w K mg base fP 8 f1 ju ["self","laying"] (QB C))(uZ:cV K ju ["self","laying"] [])(wU:Meth K C "run" f2)(wV:dJ P w K mg base fP 2 f2 fd2 ["self","row","column","way"] (Xw C))(wW:cV K fd2 ["self","row","column","way"] [])(Xz:Meth K CB "has" f3)(XC:dJ P w K mg base fP 1 f3 Ek ["self","text"] (Xp CB))(XD:cV K Ek ["self","text"] []):bD P w K mg base "cross_letters" 10 ["board","book","row","column","way"] (ag5 C CB):=by
 calc D.cU jB ?_;intro f bF A outer s H vs Q E hr h;let(pb,pk,d,ws,r,w,ak,aF,bi,bj,i,j,way,rfl,B,BK,hi,hj,zf,q):=h;let(dx,_,_,_,ex,_):=id B.ex;let r9:=B.ok.r9;let w9:=B.ok.w9;let hll:=nC B.ok.br hi (j:=j) (way:=way);let hk:placeOf i j way<(lineOf ak i j way).n:=by rw[hll];unfold placeOf;split <;> assumption
 let hl9:(lineOf ak i j way).n<=9:=by rw[hll];split <;> assumption
 let El:=aeV B.ok.cr (i:=i) (way:=way) B.ok.br hj;let hz:∀n,n<=100->n<=Ŀ:=λn h=>ar<|aJ zo;calc%[0,_,(aD (aO (i:=5) jB.nd rb (Or.Â rb)<|lU (lU aK cX.cl uV uW hr.Ô uZ .ê jo<|aj (cO<|aj (cO<|aj bw<|aj bN<|aj (bV [97] zD) aq) aq) aq) cX.cl wU wV hr.Ô wW .ê jo<|aj bw<|aj bN<|aj b_ aq)<|aD (dF (bK lD (aP cL zw bh bE<|aj (aV bA cI aB λ_ _=>rfl) aq) aB<|bU _) (aG<|aY<|m9 zw wu) cC)<|aD (nW<|aO (i:=6) jB.nd rb (Or.Â rb)<|jx (bK lD b_ aB<|bU _) (aL gK bN<|aV bA cI aB λ_ _=>rfl)<|aL gK bw<|aV bA cI aB λ_ _=>rfl)<|aD (aO (i:=7) jB.nd rb (Or.Ð rb)<|Ax b9 qV q0 Gu<|qC Jb (aV bA cI aB λ_ _=>rfl) t_<|uc dM)<|aD (aO (i:=8) jB.nd rb (Or.Ð rb)<|Ax b9 qV q0 Gu<|qC Jb (aV bA cI aB λ_ _=>rfl) (uc<|aL bW dM aB) t_)<|aG<|aY<|d7 b9 eP eQ o8 (bV [] zD)<|aj (jf (ns:=["letter"]) rb (fG.of ["board","book","row","column","way","run","place","ahead","behind"] [] zC) (pL<|m9 zw wu) (λ_ _ _ _ _=>(kj (show (["letter","board","book","row","column","way","run","place","ahead","behind"]:İ ņ).Ö by decide +kernel) rb zw)) (λ_ _ _ _ _=>(Dj<|f9<|lU bw QF.cl Xz XC hr.Ô XD .ê jo<|aj (aL lV (aL lV iV aK) iW) aq)) λ_ _ _ _ _=>aK) aq)|?_];calc%[10,pb,dx,_,rb,ex,rb,zsz 3|λg ht1=>%[zsz 1|λt2 Cu=>?_]];let s1:aA H (upd H g<|HO.Æ [V.I i,V.I j,V.À (S [97])]):=aA.å ht1;let s2:=s1.bJ (o:=HO.Æ [V.v g])<|s1.Õ Cu;let n12:g≠t2:=λz=>by rw[<-z,au]at Cu;cases Cu
 let h1:upd (upd H g<|HO.Æ [V.I i,V.I j,V.À (S [97])]) t2 (HO.Æ [V.v g]) g=į (.Æ [.I i,.I j,.À (S [97])]):=by rw[aU n12,au]
 let h2:upd (upd H g<|HO.Æ [V.I i,V.I j,V.À (S [97])]) t2 (HO.Æ [V.v g]) t2=į (.Æ [.v g]):=au;generalize upd (upd H g<|HO.Æ [V.I i,V.I j,V.À (S [97])]) t2 (HO.Æ [V.v g])=H2 at s2 h1 h2 ⊢;calc%[5,pb,t2,[g]|%[41,[(i,j,97)],r,w,ak,aF,bi,bj,rb,B.mv s2,h2,dH.ê.snoc (t:=(i,j,97)) h1,λt ht=>by rw[al.mp ht];show%[hi,hj|by show Lk [97]=Ĵ;decide]|λx1 H3 s3 B3=>?_]];let el:dW ak [(i,j,97)]=setAt ak i j 97:=rfl;rw[el]at B3;let(dx1,_,_,_,ex1,_):=id B3.ex;calc%[11,x1,dx1,_,rb,ex1,rb|%[5,x1,r,w|%[41,setAt ak i j 97,aF,bi,bj,i,j,way,rb,B3,hi,hj,zf|λt H4 s4 ht xW=>?_]]];let Z:=(s2.X s3).X s4;rw[acN B.ok.br hi hj]at xW;generalize lineOf ak i j way=l at hk hl9 El q xW;generalize hK:placeOf i j way=k at hk q xW;let(pa,pc):=aaw hk;let(M,vb,vc):=aeX (l:=l.ē k 97) zf hK;rw[pa,pc]at M;rw[pa]at vb vc;let t1l:=mY<|l.Ã k;rw[ba]at t1l;let t2l:=rD<|l.Ì<|k+1;rw[cS]at t2l;let hta:∀c∈cJ (l.Ã k),c<128:=λc J=>Xy<|El c<|dq<|aay J;let hha:∀c∈dN (l.Ì<|k+1),c<128:=λc J=>Xy<|El c<|f8<|aax J;let G:∀c,(rE l k c).n=(cJ<|l.Ã k).n+1+(dN<|l.Ì<|k+1).n:=λc=>by unfold rE;rw[ax,aa,b8,aa];lia
 let O:∀c,rE l k c=(cJ<|l.Ã k).Q PyProof.Ă.lo1++[c]++(dN<|l.Ì<|k+1).Q PyProof.Ă.lo1:=λc=>by unfold rE;rw[b7];rfl
 generalize hX:cJ (l.Ã k)=X at M vb vc t1l hta G O;generalize hY:dN (l.Ì<|k+1)=Y at M t2l hha G O;generalize Fy i j way (l.ē k 97)=rv at M vb vc xW;let F:=aQ.of (K:=K) xW;calc%[3,t,_,_,_,rb,rb,F,M|%[18,_,rb,hz _ (by rw[ax,b8];lia),rb|bB _ rb ?_]];by_cases h1:X.n+1+Y.n=1
 .let e:ľ (V.I ((X++97::Y).n:ı)=V.I 1)=Ĵ:=aw (by rw[ax,b8,show X.n+(Y.n+1)=1 by lia];rfl);rw[e];calc cP ?_;have:=q H4 Z;unfold Ho at this;rw[ĺ (by rw[G];show h1)]at this;show this
 .let e:ľ (V.I ((X++97::Y).n:ı)=V.I 1)=ķ:=ai (λz=>by
   injection z with z;rw[ax,b8]at z;lia)
  rw[e];calc cG ?_;let hq:=q H4;refine%[0,λI H'=>H'=H4/\I=[į (.v pb),į (.v pk),į (.I i),į (.I j),į (.I way),į (.v t),į (.I (X.n:ı)),Ĳ,Ĳ],?_|?_]
  .rcases zf with rfl|rfl
   .calc%[rb|cP %[39,t,_,_,_,rb,rb,F,vb rb,_,_,rb,rb,rb|?_]];have:(j:ĸ)-((k:ĸ)-(X.n:ĸ))=(X.n:ĸ):=by rw[<-hK];show (j:ĸ)-((j:ĸ)-_)=_;lia
    show Ő (λv:ĸ=>([į (V.v pb),į (V.v pk),į (V.I i),į (V.I j),į (V.I 0),į (V.v t),į (V.I v),Ĳ,Ĳ]:St)) this
   .calc%[rb|cG %[39,t,_,_,_,rb,rb,F,vc rb,_,_,rb,rb,rb|?_]];have:(i:ĸ)-((k:ĸ)-(X.n:ĸ))=(X.n:ĸ):=by rw[<-hK];show (i:ĸ)-((i:ĸ)-_)=_;lia
    show Ő (λv:ĸ=>([į (V.v pb),į (V.v pk),į (V.I i),į (V.I j),į (V.I 1),į (V.v t),į (V.I v),Ĳ,Ĳ]:St)) this
  rintro I H' ⟨rfl,rfl⟩;calc%[3,t,_,_,_,rb,rb,F,M|%[46,_,rb,_,rb,hz _ (by rw[ax,b8];lia),rb|?_]];rw[O5,List.take_left' rfl];calc%[9,X,rb,rb,zo,hta|?_];let e1:(X.n:ĸ)+1=((X.n+1:ı):ĸ):=rfl;calc%[15,t,_,_,_,rb,rb,F|%[17,M,_,_,rb,rb|%[46,_,rb,_,rb,hz _ (by rw[ax,b8];lia),rb|?_]]];rw[e1,yP,show (X++97::Y).Ì (X.n+1)=Y by rw[List.drop_append,iA,vE zo];rfl];calc%[9,Y,rb,rb,zo,hha|?_];let BK4:=BK.same Z;refine%[12,rb,AL,rb|λL hL=>Gx (f:=eN [] 0) (tt:=tB (Ws CB "has" (Xp CB) [] E0 (fO 2)<|jG (vH Dl (vH Dl (fO 8)<|fO 0)<|fO 9) qz)) (te:=fO 0) (λn ys H5=>ys=Ts (ones<|(AL.Ã n).Ą λc=>ľ<|rE l k c∈ws)/\H5 L=į (.É ys)/\aA H' H5) %[rb,au|aA.å hL] ?_ ?_]
  .intro n c ys H5 hn z;let(rfl,Hq,s5):=z;let N:n<AL.n:=(am.mp hn).1;let ajT:n<26:=N;let BK5:=BK4.same s5;let(dk,ek):=BK5.ob;calc%[11,pk,dk,_,rb,ek,rb|%[24,_,_,rb,rb,hz _ (by rw[aa];simp;lia),_,_,rb,rb,hz _ (by rw[ax,aa,aa];simp;lia)|%[59,pk,d,ws,_,rb,BK5|bB _ rb ?_]]];rw[<-O];by_cases J:rE l k c∈ws
   .rw[aw J];refine cP %[Hq,?_|dR.mk N %[?_,au|s5.bJ hL]]
    .rw[aa,aa];show aJ<|av (lT _ _) (by rw[ba];lia)
    .rw[bv,hn,fg,lW,wj];simp[J]
   .rw[ai J];calc cG<|dR.mk N %[?_,Hq|s5];rw[bv,hn,fg];simp[J]
  .intro ys H5 z;let(rfl,Hq,s5):=z;rw[cK]at Hq;refine%[7,L,_,rb,rb,aZ.of Hq,?_|?_]
   .rw[jH];show av (lT _ _) zt
   .rw[jH];have:=q H5<|Z.X s5;unfold Ho at this;rw[Ĺ (by rw[G];show h1)]at this;show this
def poss (i j:ĸ):İ (ĸ×ĸ):=[(i-1,j),(i+1,j),(i,j-1),(i,j+1)]
def Hr (ak:AA)(r w:ı)(i j:ĸ):ŏ:=(poss i j).ġ λp=>!ľ ([atC ak r w p.1 p.2]=[46])
def acO {D g B F:Ķ}{i j:ĸ}{H:Hp}(h1:H D=į (.Æ [.I (i-1),.I j]))(J:H g=į (.Æ [.I (i+1),.I j]))(G:H B=į (.Æ [.I i,.I (j-1)]))(L:H F=į (.Æ [.I i,.I (j+1)])){n:ı}{x:V}(h:([V.v D,V.v g,V.v B,V.v F]:İ V)[n]?=į x):∃(t:Addr) (p:ĸ×ĸ),x=.v t/\H t=į (.Æ [.I p.1,.I p.2])/\(poss i j)[n]?=į p:=by
 match n,h with| 0,h=>show%[1,D,(i-1,j),(bg h).Ò,h1|rb]| 1,h=>show%[1,g,(i+1,j),(bg h).Ò,J|rb]| 2,h=>show%[1,B,(i,j-1),(bg h).Ò,G|rb]| 3,h=>show%[1,F,(i,j+1),(bg h).Ò,L|rb]| n+4,h=>show Ł h zr
def QH (C:Ķ):Sp:=λvs H Q _=>∃(b:Addr) (r w:Nat) (ak aF:AA) (bi bj:Nat) (i j:Int),vs=[.v b,.I i,.I j]/\cW C H b r w ak aF bi bj/\∀H',aA H H'->Q (.bl<|Hr ak r w i j) H'
def XF (D:aR K mg "is_next_to_taken" mV ["board","row","column"])(DG:mg "any"=Ĳ)(eX:∃t,mg "FREE"=į (.À (S [46]) t))(cX:fU K C)(pW:Meth K C "at" f1)(pX:dJ P w K mg base fP 3 f1 ju ["self","row","column"] (acK C))(pY:cV K ju ["self","row","column"] []):bD P w K mg base "is_next_to_taken" 4 ["board","row","column"] (QH C):=by
 calc D.cU mj ?_;intro f bF A outer s H vs Q E hr h;let(b,r,w,ak,aF,bi,bj,i,j,rfl,B,q):=h;calc%[0,_,(aD (aO (i:=3) mj.nd rb (Or.Â rb)<|cO<|aj (cO<|aj (aL gK aX aB)<|aj bw aq)<|aj (cO<|aj (aL bW aX aB)<|aj bw aq)<|aj (cO<|aj aX<|aj (aL gK bw aB) aq)<|aj (cO<|aj aX<|aj (aL bW bw aB) aq) aq)<|aG<|aY<|aP (O8 rb) zw DG KJ<|aj (h_ rb (gM.of mj.nd zC) (fH bN) (λ_ _ _ _ _=>cM) λ_ _ _ _ _=>(jL xK (lU aX cX.cl pW pX hr.Ô pY .ê jo<|aj (aV (m_ K) aK aB λ_ _=>rfl)<|aj (aV (m_ K) aK aB λ_ _=>rfl) aq) (m9 zw eX)<|bU _)) aq)|?_];calc%[13,_,_,rb,rb,zsz 2|λg h1=>%[13,_,_,rb,rb,zsz 2|λG h2=>%[13,_,_,rb,rb,zsz 2|λJ h3=>%[13,_,_,rb,rb,zsz 2|λF h4=>%[zsz 4|λT hT=>?_]]]]];let s1:aA H (upd H g<|HO.Æ [.I (i-1),.I j]):=aA.å h1;let s2:=s1.bJ (o:=HO.Æ [.I (i+1),.I j])<|s1.Õ h2;let s3:=s2.bJ (o:=HO.Æ [.I i,.I (j-1)])<|s2.Õ h3;let s4:=s3.bJ (o:=HO.Æ [.I i,.I (j+1)])<|s3.Õ h4;let Z:=s4.bJ (o:=HO.Æ [.v g,.v G,.v J,.v F])<|s4.Õ hT;let O:aA _ _:=aA.å (o:=HO.Æ [.v g,.v G,.v J,.v F]) hT;let Y:aA _ _:=aA.å (o:=HO.Æ [.I i,.I (j+1)]) h4;let k3:aA _ _:=aA.å (o:=HO.Æ [.I i,.I (j-1)]) h3;let k2:aA _ _:=aA.å (o:=HO.Æ [.I (i+1),.I j]) h2;let e1:=O _ _<|Y _ _<|k3 _ _<|k2 _ _<|au (H:=H) (a:=g) (o:=HO.Æ [.I (i-1),.I j]);let e2:=O _ _<|Y _ _<|k3 _ _<|au (a:=G) (o:=HO.Æ [.I (i+1),.I j]);let e3:=O _ _<|Y _ _<|au (a:=J) (o:=HO.Æ [.I i,.I (j-1)]);let e4:=O _ _<|au (a:=F) (o:=HO.Æ [.I i,.I (j+1)]);let e5:upd (upd (upd (upd (upd H g<|HO.Æ [.I (i-1),.I j]) G<|HO.Æ [.I (i+1),.I j]) J<|HO.Æ [.I i,.I (j-1)]) F<|HO.Æ [.I i,.I (j+1)]) T (HO.Æ [.v g,.v G,.v J,.v F]) T=į (.Æ [.v g,.v G,.v J,.v F]):=au;generalize upd (upd (upd (upd (upd H g<|HO.Æ [.I (i-1),.I j]) G<|HO.Æ [.I (i+1),.I j]) J<|HO.Æ [.I i,.I (j-1)]) F<|HO.Æ [.I i,.I (j+1)]) T (HO.Æ [.v g,.v G,.v J,.v F])=H5 at Z e1 e2 e3 e4 e5 ⊢;refine%[2,T,rb,%[_|aQ.of e5]|λL hL=>uw (xs:=[V.v g,V.v G,V.v J,V.v F]) (λn ys M=>ys=(((poss i j).Ã n).Q λp=>!ľ ([atC ak r w p.1 p.2]=[46])).Q V.bl/\M L=į (.É ys)/\aA H5 M) %[rb,au|aA.å hL] (λn ys M _ h=>aQ.of<|h.2.2 _ _ e5) ?_ ?_]
 .intro n x ys M hx z;let(rfl,m7,N):=z;let(t,p,rfl,ht,hp):=acO e1 e2 e3 e4 hx;let hn:n<4:=(am.mp hx).1;let B6:=B.mv<|Z.X N;let(dx,_,_,_,ex,_):=id B6.ex;let hS:=aQ.of (K:=K)<|N _ _ ht;calc%[11,b,dx,_,rb,ex,rb|%[3,t,_,_,_,rb,rb,hS,aN (j:=0) rb|%[3,t,_,_,_,rb,rb,hS,aN (j:=1) rb|%[6,b,r|%[21,w,ak,aF,bi,bj,p.1,p.2,rb,B6|%[7,_,_,rb,rb,m7,?_|dR.mk hn %[?_,au|N.bJ hL]]]]]]];.rw[aa,aa,ba];show aJ (by have:(poss i j).n=4:=rfl;lia)
  .rw[bv,hp];simp
 .intro ys M z;let(rfl,m7,N):=z;calc%[1,L,_,rb,aZ.of m7|?_];let e:((((poss i j).Ã 4).Q λp=>!ľ ([atC ak r w p.1 p.2]=[46])).ġ id)=Hr ak r w i j:=by
   unfold Hr;rw[List.any_map];rfl
  show Q (.bl _) M;rw[show ([V.v g,V.v G,V.v J,V.v F]:İ V).n=4 from rb,e];show q M<|Z.X N
def cells (r w:ı):İ (ı×ı):=(List.ñ r).flatMap λi=>(List.ñ w).Q λj=>(i,j)
def aaz:(cells 9 9).n=81:=by decide +kernel
def aaA:∀r w:Fin 10,cells r.val w.val=(cells 9 9).Ą λc=>ľ (c.1<r.val)&&ľ (c.2<w.val):=by decide +kernel
def aaB {r w:ı}{c:ı×ı}:c∈cells r w↔c.1<r/\c.2<w:=by
 unfold cells;constructor
 .intro h;let(i,hi,h):=g6.mp h;let(j,B,rfl):=aI.mp h;show%[cz.mp hi|cz.mp B]
 .rintro⟨h1,g⟩;show g6.á %[0,c.1,cz.á h1|aI.á %[0,c.2,cz.á g|rb]]
def FN (H:Hp)(a:Ķ)(p:ı×ı):Prop:=H a=į (.Æ [.I p.1,.I p.2])
def pO (H:Hp)(a:Ķ):ı×ı:=match H a with| some (.Æ [.I x,.I y])=>(x.Ü,y.Ü)| _=>(0,0)
def XH (h:FN H a p):pO H a=p:=by unfold pO;rw[show H a=_ from h];rfl
structure d_ (H:Hp)(as:İ Ķ)(ps:İ (ı×ı)):Prop where
 at_:∀a∈as,FN H a (pO H a)
 eq:as.Q (pO H)=ps
def d_.d9 (k:∀a xs,H a=į (.Æ xs)->H' a=į (.Æ xs))(h:d_ H as ps):d_ H' as ps:=by let e:∀a∈as,pO H' a=pO H a:=λa ha=>XH<|k a _<|h.Ć a ha;show%[λa ha=>by rw[e a ha];show k a _<|h.Ć a ha|by rw[<-h.eq];show dS e]
def d_.mv (k:aA H H')(h:d_ H as ps):d_ H' as ps:=h.d9 λa xs e=>k a _ e
def d_.app (h:d_ H as ps)(g:d_ H bs qs):d_ H (as++bs) (ps++qs):=by
 calc%[λb j=>?_|by rw[bo,h.eq,g.eq]];rcases a8.mp j with z|z;.show h.Ć b z
 .show g.Ć b z
def d_.one (ha:FN H a p):d_ H [a] [p]:=%[λb g=>by rw[al.mp g,XH ha];show ha|by rw[nS,XH ha]]
def d_.nil:d_ H [] []:=%[λa h=>by simp at h|rb]
def d_.len (h:d_ H as ps):as.n=ps.n:=by rw[<-h.eq,aa]
def d_.get (h:d_ H as ps)(hi:i<as.n):∃p,ps[i]?=į p/\FN H as[i] p:=%[0,pO H as[i],by rw[<-h.eq];simp[hi]|h.Ć _<|aS _]
def yw (p:ı×ı):Dt:=.Æ [.I p.1,.I p.2]
def Vw:∀{as:İ Ķ},(∀a∈as,FN H a (pO H a))->tR K H 1 ((as.Q<|pO H).Q yw) (as.Q V.v):=by
 intro as h
 induction as with| nil=>show .ê| cons a as ih=>show .Þ (.Æ (aQ.of<|h a aE)<|.Þ (.I _)<|.Þ (.I _) .ê)<|ih λx hx=>h x<|ay _ hx
def d_.has (h:d_ H as ps)(hp:H p=į (.É<|as.Q V.v)):eZ K H 2 (.É<|ps.Q yw) (.v p):=by rw[<-h.eq];show .É (aZ.of hp)<|Vw h.Ć
def frB (ak:AA)(r w:ı)(c:ı×ı):ŏ:=ľ ([atC ak r w c.1 c.2]=[46])
def Em (ak:AA)(r w:ı)(c:ı×ı):ŏ:=Hr ak r w c.1 c.2
def wz (ak:AA)(r w:ı):İ (ı×ı):=(cells r w).Ą λc=>frB ak r w c&&Em ak r w c
def dZ (ak:AA)(r w bi bj:ı):İ (ı×ı):=if isFree ak=Ĵ then [(bi,bj)] else wz ak r w
def XJ (i w):cells (i+1) w=cells i w++(List.ñ w).Q λj=>(i,j):=by unfold cells;rw[fz,sP];simp
def ag6 {ak:AA}{r w i j:ı}(B:Blk r w ak)(hi:i<r)(D:j<w):∃(h1:i<ak.n) (g:j<ak[i].n),atC ak r w (i:ĸ) (j:ĸ)=ak[i][j]:=by
 let h1:i<ak.n:=by rw[B.len];show hi
 let g:j<ak[i].n:=by rw[B.iJ _ (aS _)];show D
 calc%[6,h1,g|?_];unfold atC;rw[ĺ %[zo,i8 dC hi,zo|zo],cq,cq,ap (l:=ak),ae h1];show ak[i].Î j 0=_;rw[ap,ae g];rfl
def JZ (C:Ķ):Sp:=λvs H Q _=>∃(b:Addr) (r w:Nat) (ak aF:AA) (bi bj:Nat),vs=[.v b]/\cW C H b r w ak aF bi bj/\
 ∀(p:Ķ) (as:İ Ķ) (H':Hp),aA H H'->H' p=į (.É<|as.Q V.v)->d_ H' as ((cells r w).Ą<|frB ak r w)->Q (.v p) H'
def M6 (D:aR K mg "free_cells" uJ ["board"])(gJ:mg "enumerate"=Ĳ)(eX:∃t,mg "FREE"=į (.À (S [46]) t))(cX:fU K C):bD P w K mg base "free_cells" 1 ["board"] (JZ C):=by
 calc D.cU oG ?_;intro f bF A outer s H vs Q E hr h;let(b,r,w,ak,aF,bi,bj,rfl,B,q):=h;let((dx,pr,pm,pb,hb,hr',hm,hbb),O):=B;let r9:=O.r9;let w9:=O.w9;let jt:(Ts ak).n=r:=by rw[aa,O.br.len]
 calc%[0,_,(aD (aO (i:=1) oG.nd rb (Or.Â rb)<|fK aq)<|aD (dz ck rb (abU zw gJ<|aj (fX aK rb) aq) (lN rb<|cu (bG (i:=2) oG.nd rb<|Or.Ð rb)<|cu (bG (i:=3) oG.nd rb<|Or.Â rb) jM)<|aG<|gb<|d7 di my mB q_ aX<|aj (jf (ns:=["column","sign"]) rb (fG.of ["board","cells","row","signs"] [] zC) (O7 zw gJ<|aj bN aq) (λ_ _ _ _ _=>(UG K rb (show (["column","sign","board","cells","row","signs"]:İ ņ).Ö by decide +kernel) rb rb zw zw)) (λ_ _ _ _ _=>(Dj<|bK xJ aX (m9 zw eX)<|bU _)) λ_ _ _ _ _=>(cO<|aj b_<|aj aK aq)) aq)<|aG<|aY aX)|?_];calc%[zsz 0|λF hF=>?_];let s0:aA H (upd H F<|HO.É []):=aA.å hF;refine%[29,b,C,dx,_,_,rb,s0 _ _ hb,cX.cl,cX.nr|%[26,rb,pr,rb,%[_|aQ.of<|s0 _ _ hr']|Zh (K:=K) (a:=pr) (xs:=Ts ak) (λi I G=>∃(v2 v3:ĵ V) (as:İ Ķ),I=[į (.v b),į (.v F),v2,v3]/\aA H G/\G F=į (.É<|as.Q V.v)/\d_ G as ((cells i w).Ą<|frB ak r w)/\as.n<=i*9)
  %[10,Ĳ,Ĳ,[],rb,s0,au,d_.ê|ci _] (λi I G _ h=>by let(_,_,_,_,Z,_):=h;show aQ.of<|Z _ _ hr') ?_ ?_]]
 .intro i x I G T hx z hT;let(v2,v3,as,rfl,Z,kZ,hP,hal):=z;let(l,hl,rfl):=pU hx;let hil:i<r:=by have:=(am.mp hx).1;simp_all
  let hir:i<ak.n:=by rw[O.br.len];show hil
  let hlr:l=ak[i]:=by rw[ae hir]at hl;show(bg hl).Ò
  let yp:l.n=w:=O.br.iJ _<|a7 hl;let k1:aA G (upd G T<|HO.Æ [.I i,.À (S l)]):=aA.å hT;calc%[44,T,_,rb,aQ.of au,rb,_,_,rb,_,_,rb,rb|?_];let tE:=k1 _ _ kZ;let Hs:=Z.X k1;let Lr:=hP.mv k1;generalize upd G T (HO.Æ [.I i,.À (S l)])=H3 at k1 tE Hs Lr ⊢;refine%[12,.Â %[8,rb,_|aZ.of tE],l,rb|λL hL=>Zi (f:=eN [] 0) (KT:=K) (λj ys J=>∃bs:İ Ķ,ys=bs.Q V.v/\bs.n<=j/\J L=į (.É ys)/\aA H3 J/\d_ J bs (((List.ñ j).Q λj=>(i,j)).Ą<|frB ak r w))
   %[9,[],rb,ag _,au,aA.å hL|d_.ê] ?_ ?_]
  .intro j c ys J U hj z hU;let(bs,rfl,ig,nG,s4,QJ):=z;let N:j<l.n:=(am.mp hj).1;let(_,_,hat):=ag6 O.br hil (show j<w by simp_all);let hcj:atC ak r w (i:ĸ) (j:ĸ)=c:=by
    rw[hat];subst hlr;rw[ae N]at hj;show bg hj
   let k5:aA J (upd J U<|HO.Æ [.I j,.À (S [c])]):=aA.å hU;calc%[27,U,_,_,rb,aQ.of au|?_];let Hq:=k5 _ _ nG;let Vx:=QJ.mv k5;let s5:=s4.X k5;generalize upd J U (HO.Æ [.I j,.À (S [c])])=H5 at k5 Hq Vx s5 ⊢;calc%[1,[c],[46],rb,rb|bB _ rb ?_];by_cases hc:c=46
   .let M:frB ak r w (i,j)=Ĵ:=by
     unfold frB;rw[hcj];show aw (by rw[hc])
    rw[aw (show [c]=[46] by rw[hc])];calc cP %[zsz 2|λg hg=>?_];let k6:aA H5 (upd H5 g<|HO.Æ [.I (i:ĸ),.I (j:ĸ)]):=aA.å hg;let m7:=k6 _ _ Hq;calc%[m7,by rw[aa];show aJ zo|dR.mk N %[9,bs++[g],zr,by simp;show ig,by rw[au],(s5.X k6).bJ hL|?_]];rw[fz,bo,fg];have:([j].Q λj=>(i,j)).Ą (frB ak r w)=[(i,j)]:=by simp[M]
    rw[this];show((Vx.mv k6).app<|d_.one<|show FN _ g (i,j) from au).d9<|eE m7
   .let M:frB ak r w (i,j)=ķ:=by
     unfold frB;rw[hcj];show ai λz=>hc (by injection z)
    rw[ai (show ¬[c]=[46] from λz=>hc (by injection z))];calc cG<|dR.mk N %[9,bs,rb,eJ ig,Hq,s5|?_];rw[fz,bo,fg];have:([j].Q λj=>(i,j)).Ą (frB ak r w)=[]:=by simp[M]
    rw[this,fi];show Vx
  .intro ys J z;let(bs,rfl,ig,nG,s4,QJ):=z;let qm:=s4 _ _ tE;let Y:=(Lr.mv s4).app QJ;rw[yp]at Y ig;calc%[14,F,L,_,_,rb,rb,qm,nG,by rw[aa,aa];show ar<|aJ zo|?_];calc%[10,_,_,as++bs,rb,(Hs.X s4).bJ hF,by rw[au,bo],?_|by simp;lia];rw[XJ,fg];show Y.d9<|eE qm
 .intro I G z;let(v2,v3,as,rfl,Z,kZ,hP,hal):=z;rw[jt]at hP;show(q F as G Z kZ hP)
def Vy (C:Ķ):Sp:=λvs H Q _=>∃(b:Addr) (r w:Nat) (ak aF:AA) (bi bj:Nat),vs=[.v b]/\cW C H b r w ak aF bi bj/\
 ∀(p:Ķ) (as:İ Ķ) (H':Hp),aA H H'->H' p=į (.Æ<|as.Q V.v)->d_ H' as (dZ ak r w bi bj)->Q (.v p) H'
def acP (D:aR K mg "hooks" Jz ["board"])(bR:mg "tuple"=Ĳ)(cX:fU K C)(Hu:Meth K C "is_free" f1)(Hv:dJ P w K mg base fP 1 f1 ju ["self"] (aas C))(Hw:cV K ju ["self"] [])(u9:bD P w K mg base "free_cells" 1 ["board"] (JZ C))(Cv:bD P w K mg base "is_next_to_taken" 4 ["board","row","column"] (QH C)):bD P w K mg base "hooks" 5 ["board"] (Vy C):=by
 calc D.cU acF ?_;intro f bF A outer s H vs Q E hr h;let(b,r,w,ak,aF,bi,bj,rfl,B,q):=h;let(dx,_,_,_,hb,_,_,_):=id B.ex;let r9:=B.ok.r9;let w9:=B.ok.w9;calc%[0,_,(aD (dF (f9<|Ez aK cX.cl Hu Hv hr.Ô Hw .ê jo) (aG<|aY<|cO<|aj (fX aK rb) aq) cC)<|aG<|aY<|cN dX zw bR df<|aj (jf (ns:=["cell"]) rb (fG.of ["board"] [] zC) (g_<|bf u9 hr.Ô rb<|aj aK aq) (λ_ _ _ _ _=>(kj (show (["cell","board"]:İ ņ).Ö by decide +kernel) rb zw)) (λ_ _ _ _ _=>(Dj<|f9<|bf Cv hr.Ô rb<|aj aX<|aj (aV (m_ K) aK aB λ_ _=>rfl)<|aj (aV (m_ K) aK aB λ_ _=>rfl) aq)) λ_ _ _ _ _=>aK) aq)|?_];calc%[11,b,dx,_,rb,hb,rb|%[21,b,r,w,ak,aF,bi,bj,rb,B|λH1 s1=>(bB _ rb ?_)]];let Z:=B.mv s1;by_cases O:isFree ak=Ĵ
 .rw[O];let(dx1,pr,pm,pb,hb1,_,_,hpb):=id Z.ex;calc cP %[47,b,C,dx1,_,_,rb,hb1,cX.cl,cX.nb,rb,zsz 1|λt ht=>?_];let k:aA H1 (upd H1 t<|HO.Æ [.v pb]):=aA.å ht;calc q t [pb] _ (s1.X k) au ?_;let e:dZ ak r w bi bj=[(bi,bj)]:=ĺ O;rw[e];show d_.one<|show FN _ pb (bi,bj) from k _ _ hpb
 .rw[show isFree ak=ķ by simpa using O];calc cG ?_;let e:dZ ak r w bi bj=wz ak r w:=Ĺ O;rw[e]at q;calc%[21,b,r,w,ak,aF,bi,bj,rb,Z|λp as H2 s2 hp Y=>?_];let hal:as.n<=81:=by
   rw[Y.len];calc av (lT _ _) ?_;have:=aaA %[r|rj r9] %[w|zo];rw[this];show av (lT _ _) (by rw[aaz];decide)
  refine%[2,p,rb,%[_|aZ.of hp]|λL hL=>qR (K:=K) (a:=p) (f:=eN [] 0) (tt:=tB (C_ (QH C) [] E0<|jG (fO 1)<|jG (vH (Oh K) (fO 0)<|tC<|V.I 0)<|jG (vH (Oh K) (fO 0)<|tC<|V.I 1) qz)) (te:=fO 0) (xs:=as.Q V.v) (λn ys F=>∃bs:İ Ķ,ys=bs.Q V.v/\bs.n<=n/\F L=į (.É ys)/\aA H2 F/\d_ F bs ((((cells r w).Ą<|frB ak r w).Ã n).Ą<|Em ak r w))
   %[9,[],rb,ag _,au,aA.å hL|d_.ê] (λn ys F _ h=>by let(_,_,_,_,sm,_):=h;show aZ.of<|sm _ _ hp) ?_ ?_]
  .intro n x ys F hx z;let(bs,rfl,ig,Cq,G,N):=z;let(hn,hx):=rfg hx;subst hx;let((u,v),hc,M):=(Y.mv G).ď hn;let B3:=Z.mv<|s2.X G;let hS:=aQ.of (K:=K) M;calc%[3,as[n],_,_,_,rb,rb,hS,aN (j:=0) rb|%[3,as[n],_,_,_,rb,rb,hS,aN (j:=1) rb|%[6,b,r|%[21,w,ak,aF,bi,bj,(u:ĸ),(v:ĸ),rb,B3|λH4 J=>(bB _ rb ?_)]]]];let nG:=J _ _ Cq;by_cases g:Em ak r w (u,v)=Ĵ
   .have:Hr ak r w (u:ĸ) (v:ĸ)=Ĵ:=g;rw[this];calc cP %[nG,by rw[aa];show aJ zo|dR.mk (by rw[aa];show hn) %[9,bs++[as[n]],zr,by simp;show ig,by rw[au],(G.X J).bJ hL|?_]];rw[bv,hc,fg];let e2:((į (u,v)).H).Ą (Em ak r w)=[(u,v)]:=by simp[g]
    rw[e2];show((N.mv J).app<|d_.one<|J _ _ M).d9<|eE nG
   .have:Hr ak r w (u:ĸ) (v:ĸ)=ķ:=by simpa [Em] using g
    rw[this];calc cG<|dR.mk (by rw[aa];show hn) %[9,bs,rb,eJ ig,nG,G.X J|?_];rw[bv,hc,fg];let e2:((į (u,v)).H).Ą (Em ak r w)=[]:=by simp[g]
    rw[e2,fi];show N.mv J
  .intro ys F z;let(bs,rfl,ig,Cq,G,N):=z;rw[aa,Y.len,cK,List.filter_filter]at N;calc%[4,L,_,rb|.Â %[aZ.of Cq|λt ht=>?_]];let k:aA F (upd F t<|HO.Æ<|bs.Q V.v):=aA.å ht;calc q t bs _ (((s1.X s2).X G).X k) au ?_;let e3:(cells r w).Ą (λa=>Em ak r w a&&frB ak r w a)=wz ak r w:=by
    unfold wz;show List.filter_congr λc _=>Bool.and_comm _ _
   rw[<-e3];show N.mv k
def aaC:Sp:=λvs H Q _=>∃(p:Addr) (as:İ Ķ) (ts:İ bL),vs=[.v p]/\H p=į (.Æ<|as.Q V.v)/\dH H as ts/\(∀t∈ts,yq t)/\(ts.Q λt=>rk<|sw t).Ö/\ts.n<=63/\
 ∀(B:Ķ) (j:İ Ķ) (g:İ bL) (H':Hp),aA H H'->H' B=į (.Æ<|j.Q V.v)->dH H' j g->g.æ (ts.Q sw)->(g.Q rk).Ä (·<·)->Q (.v B) H'
def FP (D:aR K mg "turned_laying" pQ ["laying"])(bR:mg "tuple"=Ĳ)(eF:mg "sorted"=Ĳ):bD P w K mg base "turned_laying" 1 ["laying"] aaC:=by
 calc D.cU Fp ?_;intro f bF A outer s H vs Q E hr h;let(p,as,ts,rfl,hp,hL,hok,N,h63,q):=h;calc%[0,_,(aG<|aY<|cN dX zw bR df<|aj (aP Mu zw eF ii<|aj (jf (ns:=["row","column","sign"]) rb (fG.of ["laying"] [] zC) (fH aK) (λ_ _ _ _ _=>(o9 K rb (show (["row","column","sign","laying"]:İ ņ).Ö by decide +kernel) rb rb rb zw zw zw)) (λ_ _ _ _ _=>cM) λ_ _ _ _ _=>(cO<|aj aX<|aj aK<|aj bw aq)) aq) aq)|?_];let bY:=hL.đ;refine%[2,p,rb,%[_|aQ.of hp]|λM hM=>ni (f:=eN [] 0) (tt:=gO) (xs:=as.Q V.v) (λi ys g=>∃bs:İ Ķ,ys=bs.Q V.v/\bs.n=i/\g M=į (.É ys)/\aA H g/\dH g bs ((ts.Ã i).Q sw))
  %[9,[],rb,rb,au,aA.å hM|dH.ê] (λi ys g _ h=>by let(_,_,_,_,B,_):=h;show aQ.of<|B _ _ hp) ?_ ?_]
 .intro i x ys g hx z;let(bs,rfl,G,J,B,F):=z;let(hi,hx):=rfg hx;let(t,et,hT):=hL.ď hi;calc vL hx.Ò (aQ.of<|B _ _ hT) ?_;calc%[zsz 3|λc L=>?_];let nM:M≠c:=λz=>by rw[<-z,J]at L;cases L
  let En:upd g c (.Æ [.I t.2.1,.I t.1,.À (S [t.2.2])]) M=į (.É<|bs.Q V.v):=by rw[aU nM];show J
  calc%[En,by rw[aa,G];show aJ zo|dR.mk (by rw[aa];show hi) %[9,bs++[c],zr,by simp[G],by rw[au],?_|?_]];.show(B.bJ<|B.Õ L).bJ hM
  .rw[show (ts.Ã<|i+1).Q sw=(ts.Ã i).Q sw++[sw t] by rw[zl,et];simp];calc dH.snoc ?_ ?_;.show(F.mv<|aA.å L).d9<|eE En
   .show eE En _ _ au
 .intro ys g z;let(bs,rfl,G,J,B,F):=z;rw[aa]at G;rw[cn (by rw[aa];lia)]at F;let Y:bs.Q (λa=>rk<|tO g a)=ts.Q λt=>rk (sw t):=by
   have:(bs.Q<|tO g).Q rk=(ts.Q sw).Q rk:=by rw[F.eq]
   rw[dm,dm]at this;show this
  let O:∀a∈bs,yq (tO g a):=λa ha=>by
   have:tO g a∈ts.Q sw:=by rw[<-F.eq];show eB ha
   let(t,ht,e):=aI.mp this;rw[<-e];have:=hok t ht;show%[this.2.1,this.1|this.2.2]
  refine%[37,M,bs,λa=>rk<|tO g a,rb,aZ.of J,zo,λa ha=>?_,by rw[Y];show N|λp1 j Z pm pw=>?_]
  .have:=O a ha;show%[11,(tO g a).1,(tO g a).2.1,[.À (S [(tO g a).2.2])],F.Ć a ha,by have:=this.2.1;lia,rb|.Ð %[_|rb]]
  .let(l1,l2):=F.perm pm;calc%[4,p1,_,rb|.Â %[aZ.of au|λl hl=>?_]];let s1:aA g (upd g p1<|.É<|j.Q V.v):=aA.å Z;let s2:=s1.bJ (o:=.Æ (j.Q V.v))<|s1.Õ hl;show q l j _ _ (B.X s2) au (l1.mv s2) l2 (by rw[dm];show pw)
def cT (t:bL):ı×ı:=(t.1,t.2.1)
def DK (K:W.Ë):Sp:=λvs H Q _=>∃(p:Addr) (as:İ Ķ) (ts:İ bL),vs=[.v p]/\(aZ K H p (as.Q V.v)\/aQ K H p (as.Q V.v))/\dH H as ts/\ts.n<=63/\
 ∀(g:Ķ) (bs:İ Ķ) (H':Hp),aA H H'->H g=Ĳ->H' g=į (.É<|bs.Q V.v)->d_ H' bs (ts.Q cT)->Q (.v g) H'
def TY (D:aR K mg "cells_of" zH ["laying"]):bD P w K mg base "cells_of" 1 ["laying"] (DK K):=by
 calc D.cU Tt ?_;intro f bF A outer s H vs Q E hr h;let(p,as,ts,rfl,hp,Z,h63,q):=h;calc%[0,_,(aG<|aY<|jf (ns:=["row","column","sign"]) rb (fG.of ["laying"] [] zC) ((g_ aK).or<|fH aK) (λ_ _ _ _ _=>(o9 K rb (show (["row","column","sign","laying"]:İ ņ).Ö by decide +kernel) rb rb rb zw zw zw)) (λ_ _ _ _ _=>cM) λ_ _ _ _ _=>(cO<|aj aK<|aj aX aq))|?_];let bY:=Z.đ;let step:∀(M:Ķ) (i:ı) (x:V) (ys:İ V) (g:Hp),H M=Ĳ->(as.Q V.v)[i]?=į x->(∃bs:İ Ķ,ys=bs.Q V.v/\bs.n=i/\g M=į (.É ys)/\aA H g/\d_ g bs ((ts.Ã i).Q cT))->
   vK (as.Q V.v).n i M (λv H Q=>∃a p q r,v=.v a/\aQ K H a [p,q,r]/\Q [į p,į q,į r]) (eN [] 0) [į (V.v p)] gO (af4<|jG (fO 0)<|jG (fO 1) qz) x g ys λys g=>∃bs:İ Ķ,ys=bs.Q V.v/\bs.n=i+1/\g M=į (.É ys)/\aA H g/\d_ g bs ((ts.Ã<|i+1).Q cT):=by
  intro M i x ys g j hx z;let(bs,rfl,O,J,B,N):=z;let(hi,hx):=rfg hx;let(t,et,hT):=Z.ď hi;calc vL hx.Ò (aQ.of<|B _ _ hT) ?_;calc%[zsz 2|λc L=>?_];let nM:M≠c:=λz=>by rw[<-z,J]at L;cases L
  let Y:upd g c (.Æ [.I t.1,.I t.2.1]) M=į (.É<|bs.Q V.v):=by rw[aU nM];show J
  calc%[Y,by rw[aa,O];show aJ zo|dR.mk (by rw[aa];show hi) %[9,bs++[c],zr,by simp[O],by rw[au],?_|?_]];.show(B.bJ<|B.Õ L).bJ j
  .rw[show (ts.Ã<|i+1).Q cT=(ts.Ã i).Q cT++[cT t] by rw[zl,et];simp];calc d_.app ((N.mv<|aA.å L).d9<|eE Y)<|d_.one (p:=cT t) ?_;show eE Y _ _ au
 let G:∀(M:Ķ) (ys:İ V) (g:Hp),H M=Ĳ->(∃bs:İ Ķ,ys=bs.Q V.v/\bs.n=(as.Q V.v).n/\g M=į (.É ys)/\aA H g/\d_ g bs ((ts.Ã (as.Q V.v).n).Q cT))->Q (.v M) g:=by intro M ys g j z;let(bs,rfl,O,J,B,N):=z;rw[cn (by rw[aa];lia)]at N;show q M bs g B j J N
 let F:∀M:Ķ,H M=Ĳ->∀g:Hp,aA H g->(aZ K H p (as.Q V.v)->aZ K g p (as.Q V.v))/\(aQ K H p (as.Q V.v)->aQ K g p (as.Q V.v)):=λM _ g B=>%[λz=>B.ú z|λz=>B.agk z]
 rcases hp with hp|hp
 .refine .Â %[2,p,rb,%[_|hp]|λM j=>wH (f:=eN [] 0) (tt:=gO) (xs:=as.Q V.v) (λi ys g=>∃bs:İ Ķ,ys=bs.Q V.v/\bs.n=i/\g M=į (.É ys)/\aA H g/\d_ g bs ((ts.Ã i).Q cT))
   %[9,[],rb,rb,au,aA.å j|d_.ê] (λi ys g _ h=>by let(_,_,_,_,B,_):=h;show(F M j g B).1 hp) (λi x ys g hx h=>step M i x ys g j hx h) λys g h=>G M ys g j h]
 .refine .Ð %[2,p,rb,%[_|hp]|λM j=>ni (f:=eN [] 0) (tt:=gO) (xs:=as.Q V.v) (λi ys g=>∃bs:İ Ķ,ys=bs.Q V.v/\bs.n=i/\g M=į (.É ys)/\aA H g/\d_ g bs ((ts.Ã i).Q cT))
   %[9,[],rb,rb,au,aA.å j|d_.ê] (λi ys g _ h=>by let(_,_,_,_,B,_):=h;show(F M j g B).2 hp) (λi x ys g hx h=>step M i x ys g j hx h) λys g h=>G M ys g j h]
def QK:Sp:=λvs H Q _=>∃c:Nat,vs=[.À (S [c])]/\c<128/\Q (.À<|S [PyProof.Ă.lo1 c]) H
def QM (D:aR K mg "letter_of" wL ["sign"]):bD P w K mg base "letter_of" 1 ["sign"] QK:=by calc D.cU Qi λf bF A outer s H vs Q E B h=>?_;let(c,rfl,j,q):=h;calc%[0,_,(aG<|aY<|Ax b9 qV q0 Gu aK)|?_];show%[rb|%[9,[c],rb,rb,by show 1<=1000;decide,λe g=>by rw[al.mp g];show j|q]]
def iZ (r w n:ı):İ (ı×ı):=(List.ñ r).flatMap λi=>(List.ñ<|w+1-n).Q λj=>(i,j)
def Eo (r w n):iZ (r+1) w n=iZ r w n++(List.ñ<|w+1-n).Q λj=>(r,j):=by unfold iZ;rw[fz,sP];simp
def Hx {r w n:ı}{c:ı×ı}:c∈iZ r w n↔c.1<r/\c.2<w+1-n:=by
 unfold iZ;simp only[g6,aI,cz];constructor;.intro z;let(i,hi,j,B,rfl):=z;show%[hi|B]
 .rintro⟨h1,g⟩;show%[57,c.1,h1,c.2,g|rb]
def zO (r w n):(iZ r w n).n=r*(w+1-n):=by
 induction r with| zero=>simp[iZ]| succ r ih=>rw[Eo,ax,ih,aa,ef,tP]
def QV (C:Ķ):Sp:=λvs H Q _=>∃(b:Addr) (r w:Nat) (ak aF:AA) (bi bj:Nat) (l:İ ı),vs=[.v b,.À (S l)]/\cW C H b r w ak aF bi bj/\l.n<=9/\
 ∀(p:Ķ) (as:İ Ķ) (H':Hp),aA H H'->H p=Ĳ->H' p=į (.É<|as.Q V.v)->d_ H' as (iZ r w l.n)->Q (.v p) H'
def aaD (D:aR K mg "starts" Ft ["board","word"])(bh:mg "len"=Ĳ)(cj:mg "range"=Ĳ)(cX:fU K C):bD P w K mg base "starts" 1 ["board","word"] (QV C):=by
 calc D.cU vY ?_;intro f bF A outer s H vs Q E hr h;let(b,r,w,ak,aF,bi,bj,l,rfl,B,hl9,q):=h;let((dx,pr,pm,pb,hb,N,hm,hbb),O):=B;let r9:=O.r9;let w9:=O.w9;let jt:(Ts ak).n=r:=by rw[aa,O.br.len]
 let h0:0<ak.n:=by rw[O.br.len];show O.r1
 let Y:ak[0].n=w:=O.br.iJ _<|aS _;let at0:kh (Ts ak) 0=į (.À<|S ak[0]):=aN (j:=0)<|oK<|ae h0;calc%[0,_,(aD (aO (i:=2) vY.nd rb (Or.Â rb)<|fK aq)<|aD (dz ck rb (fJ zw cj<|aj (aP cD zw bh bE<|aj (fX aK rb) aq) aq) (bG (i:=3) vY.nd rb<|Or.Ð rb)<|aG<|gb<|d7 di my mB q_ bw<|aj (h_ rb (gM.of vY.nd zC) (fJ zw cj<|aj (aL bW (aL gK (aP cL zw bh bE<|aj (aV bA (fX aK rb) aB λ_ _=>rfl) aq)<|aP cL zw bh bE<|aj aX aq) aB) aq) (λ_ _ _ _ _=>cM) λ_ _ _ _ _=>(cO<|aj b_<|aj aK aq)) aq)<|aG<|aY bw)|?_];calc%[zsz 0|λF hF=>?_];let s0:aA H (upd H F<|HO.É []):=aA.å hF;calc%[50,b,C,dx,_,_,rb,s0 _ _ hb,cX.cl,cX.nr,rb,pr,_,rb,.Ð<|aQ.of<|s0 _ _ N|?_];rw[jt];calc%[18,_,rb,dA _,zo|?_];rw[cq];refine iQ (lo:=0) (n:=r) (λi I J=>∃(v3:ĵ V) (as:İ Ķ),I=[į (.v b),į (.À<|S l),į (.v F),v3]/\aA H J/\J F=į (.É<|as.Q V.v)/\d_ J as (iZ i w l.n))
  %[13,Ĳ,[],rb,s0,au|by simpa [iZ] using d_.nil] ?_ ?_
 .intro i I J hi z;let(v3,as,rfl,M,kZ,hP):=z;calc%[8,.Â %[8,rb,_|aZ.of kZ],b|%[14,C,dx,_,_,rb,M _ _ hb,cX.cl,cX.nr,rb|%[45,pr,_,_,_,rb,rb,aQ.of<|M _ _ N,at0,_,rb|%[26,by rw[Y];show ar<|aJ zo,_,rb,ar<|aJ zo|%[23,_,_,rb,rb,_,_,rb,rb|%[0,_,rb|?_]]]]]];rw[Y];calc%[zo,zo|?_];let en:((w:ĸ)-(l.n:ĸ)+1).Ü=w+1-l.n:=zo;rw[en];refine λL hL=>yM (lo:=0) (n:=w+1-l.n) (λj ys G=>∃bs:İ Ķ,ys=bs.Q V.v/\bs.n=j/\G L=į (.É ys)/\aA J G/\d_ G bs ((List.ñ j).Q λj=>(i,j)))
   %[9,[],rb,rb,au,aA.å hL|d_.ê] ?_ ?_
  .intro j ys G hj z;let(bs,rfl,ig,nG,Z,QJ):=z;calc%[zsz 2|λg hg=>?_];let k6:aA G (upd G g<|HO.Æ [.I (0+(i:ĸ)),.I (0+(j:ĸ))]):=aA.å hg;let m7:=k6 _ _ nG;calc%[m7,by rw[aa];show aJ (by simp[dL,ee]at *;lia)|dR.mk hj %[9,bs++[g],zr,by simp;show ig,by rw[au],(Z.X k6).bJ hL|?_]];rw[fz,bo];calc((QJ.mv k6).app<|d_.one (p:=(i,j)) ?_).d9<|eE m7;show upd G g (HO.Æ [.I (0+(i:ĸ)),.I (0+(j:ĸ))]) g=į (.Æ [.I (i:ĸ),.I (j:ĸ)]);rw[au,nV,nV]
  .intro ys G z;let(bs,rfl,ig,nG,Z,QJ):=z;let qm:=Z _ _ kZ;let hal:=hP.đ;rw[zO]at hal;let h81:i*(w+1-l.n)<=9*10:=km zo<|wE zo;calc%[14,F,L,_,_,rb,rb,qm,nG,by rw[aa,aa];show ar<|aJ (by simp_all;lia)|?_];calc%[13,_,as++bs,rb,(M.X Z).bJ hF,by rw[au,bo]|?_];rw[Eo];show((hP.mv Z).app QJ).d9<|eE qm
 .intro I J z;let(v3,as,rfl,M,kZ,hP):=z;show(q F as J M hF kZ hP)
def zP (ak:AA)(r w i j:ı)(l:İ ı)(k:ı):ŏ:=ľ (atC ak r w i ((j+k:ı):ĸ)=46)||ľ (PyProof.Ă.lo1 (atC ak r w i ((j+k:ı):ĸ))=l.Î k 0)
def pZ (ak:AA)(r w i j:ı)(l:İ ı)(k:ı):ĵ bL:=if atC ak r w i ((j+k:ı):ĸ)=46 then į (i,j+k,l.Î k 0) else Ĳ
def oM (ak:AA)(r w i j:ı)(l:İ ı)(n:ı):İ bL:=(List.ñ n).ô (pZ ak r w i j l)
def Hy (ak:AA)(r w i j:ı)(l:İ ı):ŏ:=ľ (atC ak r w i ((j:ĸ)-1)=46)&&ľ (atC ak r w i ((j:ĸ)+(l.n:ĸ))=46)
def dO (ak:AA)(r w i j:ı)(l:İ ı):İ bL:=if (Hy ak r w i j l&&(List.ñ l.n).all (zP ak r w i j l))=Ĵ then oM ak r w i j l l.n else []
def zQ (ak)(r w i j)(l)(n):oM ak r w i j l (n+1)=oM ak r w i j l n++(pZ ak r w i j l n).H:=by unfold oM;rw[fz,List.filterMap_append];congr 1
def all_succ (f:ı->ŏ)(n):(List.ñ<|n+1).all f=((List.ñ n).all f&&f n):=by rw[fz,List.all_append];simp
def Ls (ak)(r w i j)(l)(n):(oM ak r w i j l n).n<=n:=by unfold oM;show av (List.length_filterMap_le _ _) (by rw[ef];show ag _)
def ag8 {r w bi bj:ı}{ak aF:AA}(O:Hg r w ak aF bi bj)(i j:ĸ):atC ak r w i j<128:=by
 unfold atC;split
 .rename_i h;let(h1,F,D,G):=h;let B:i.Ü<ak.n:=by rw[O.br.len];simp_all
  let e1:ak.Î i.Ü []=ak[i.Ü]:=by rw[ap,ae B];rfl
  let g:j.Ü<ak[i.Ü].n:=by rw[O.br.iJ _ (aS _)];lia
  rw[e1,ap,ae g];show Xy<|O.cr _ (aS _) _<|aS _
 .decide
def Vz (C:Ķ):Sp:=λvs H Q _=>∃(b:Addr) (r w:Nat) (ak aF:AA) (bi bj i j:Nat) (l:İ ı),vs=[.v b,.I i,.I j,.À (S l)]/\cW C H b r w ak aF bi bj/\j<1000/\l.n<=9/\
 ∀(p:Ķ) (as:İ Ķ) (H':Hp),aA H H'->H p=Ĳ->H' p=į (.É<|as.Q V.v)->dH H' as (dO ak r w i j l)->Q (.v p) H'
def DW (D:aR K mg "letters_to_lay" oU ["board","row","column","word"])(bh:mg "len"=Ĳ)(gJ:mg "enumerate"=Ĳ)(eX:∃t,mg "FREE"=į (.À (S [46]) t))(cX:fU K C)(pW:Meth K C "at" f1)(pX:dJ P w K mg base fP 3 f1 ju ["self","row","column"] (acK C))(pY:cV K ju ["self","row","column"] [])(T4:bD P w K mg base "letter_of" 1 ["sign"] QK):bD P w K mg base "letters_to_lay" 4 ["board","row","column","word"] (Vz C):=by
 calc D.cU jm ?_;intro f bF A outer s H vs Q E hr h;let(b,r,w,ak,aF,bi,bj,i,j,l,rfl,B,hj,hl9,q):=h;let(dx,_,_,_,ex,_):=id B.ex;let O:=B.ok;let hz:l.n<=Ŀ:=ar<|aJ zo;calc%[0,_,(aD (dF (QW.qt<|tK (bK xK (lU aK cX.cl pW pX hr.Ô pY .ê jo<|aj aX<|aj (aL gK bw aB) aq) (m9 zw eX)<|bU _)<|qY<|bK xK (lU aK cX.cl pW pX hr.Ô pY .ê jo<|aj aX<|aj (aL bW bw<|aP cL zw bh bE<|aj bN aq) aq) (m9 zw eX)<|bU _) (aG<|aY<|fK aq) cC)<|aD (aO (i:=4) jm.nd rb (Or.Â rb)<|fK aq)<|aD (dz ck rb (acr zw gJ bN bw) (lN rb<|cu (bG (i:=5) jm.nd rb<|Or.Â rb)<|cu (bG (i:=6) jm.nd rb<|Or.Â rb) jM)<|aD (aO (i:=7) jm.nd rb (Or.Â rb)<|lU aK cX.cl pW pX hr.Ô pY .ê jo<|aj aX<|aj cI aq)<|aG<|dF (bK xJ iU (m9 zw eX)<|bU _) (aG<|gb<|d7 di ij ik k_ b_<|aj (cO<|aj aX<|aj cI<|aj dM aq) aq)<|aG<|dF (bK xK (bf T4 hr.Ô rb<|aj iU aq) dM<|bU _) (aG<|aY<|fK aq) cC)<|aG<|aY b_)|?_];let G:dO ak r w i j l=[]->∀(H':Hp),aA H H'->(0<=Ŀ)/\∀p,H' p=Ĳ->Q (.v p) (upd H' p<|.É []):=λe H' L=>%[zt|λp hp=>q p [] _ (L.bJ<|L.Õ hp) (L.Õ hp) au (by rw[e];show dH.ê)]
 calc%[27,b,dx,_,rb,ex|%[17,rb,_,_,rb,rb|%[6,b,r|%[21,w,ak,aF,bi,bj,_,_,rb,B|%[1,_,_,rb,rb|bB _ rb ?_]]]]];by_cases c1:atC ak r w (i:ĸ) ((j:ĸ)-1)=46
 .rw[aw (show [atC ak r w (i:ĸ) ((j:ĸ)-1)]=[46] by rw[c1])];calc cG %[11,b,dx,_,rb,ex,rb|%[30,l,rb,hz,_,_,rb,rb|%[6,b,r|%[21,w,ak,aF,bi,bj,_,_,rb,B|%[1,_,_,rb,rb|bB _ rb ?_]]]]];by_cases Z:atC ak r w (i:ĸ) ((j:ĸ)+(l.n:ĸ))=46
  .rw[aw (show [atC ak r w (i:ĸ) ((j:ĸ)+(l.n:ĸ))]=[46] by rw[Z])];calc cG ?_;let he:Hy ak r w i j l=Ĵ:=by unfold Hy;rw[aw c1,aw Z];rfl
   calc%[zsz 0|λF hF=>?_];let s0:aA H (upd H F<|HO.É []):=aA.å hF;refine%[13,l,j,rb,rb,hj|aad (l:=l) (k:=j) (λn I J=>∃(v5 v6 v7:ĵ V) (as:İ Ķ),I=[į (.v b),į (.I i),į (.I j),į (.À<|S l),į (.v F),v5,v6,v7]/\aA H J/\J F=į (.É<|as.Q V.v)/\dH J as (oM ak r w i j l n)/\(List.ñ n).all (zP ak r w i j l)=Ĵ)
    %[3,Ĳ,Ĳ,Ĳ,[],rb,s0,au,dH.ê|rb] ?_ ?_]
   .intro n c I J T hn z hT;let(v5,v6,v7,as,rfl,L,kZ,hL,ha):=z;let hnl:n<l.n:=(am.mp hn).1;let ec:l.Î n 0=c:=by rw[ap,hn];rfl
    let k1:aA J (upd J T<|HO.Æ [.I ((j+n:ı):ĸ),.À (S [c])]):=aA.å hT;calc%[44,T,_,rb,aQ.of au,rb,_,_,rb,_,_,rb,rb|?_];let Y:=k1 _ _ kZ;let N:=L.X k1;let Cq:=hL.mv k1;generalize upd J T (HO.Æ [.I ((j+n:ı):ĸ),.À (S [c])])=H3 at k1 Y N Cq ⊢;let B3:=B.mv N;let bY:=Cq.đ;let htl:=Ls ak r w i j l n;calc%[11,b,dx,_,rb,N _ _ ex,rb|%[6,b,r|%[21,w,ak,aF,bi,bj,_,_,rb,B3|?_]]];calc%[1,[atC ak r w (i:ĸ) ((j+n:ı):ĸ)],[46],rb,rb|bB _ rb ?_];by_cases M:atC ak r w (i:ĸ) ((j+n:ı):ĸ)=46
    .rw[aw (show [atC ak r w (i:ĸ) ((j+n:ı):ĸ)]=[46] by rw[M])];calc cP %[.Â %[8,rb,_|aZ.of Y],zsz 3|λg hg=>?_];let k4:aA H3 (upd H3 g<|HO.Æ [.I (i:ĸ),.I ((j+n:ı):ĸ),.À (S [c])]):=aA.å hg;let qm:=k4 _ _ Y;calc%[10,F,_,_,rb,rb,qm,by rw[aa];show aJ zo|?_];refine%[3,_,_,_,as++[g],rb,(N.X k4).bJ hF,by rw[au,bo];rfl,?_|?_]
     .rw[zQ];let et:pZ ak r w i j l n=į (i,j+n,c):=by unfold pZ;rw[ĺ M,ec]
      rw[et];show((Cq.mv k4).snoc (t:=(i,j+n,c)) au).d9<|eE qm
     .rw[all_succ,ha];show zP ak r w i j l n=Ĵ;unfold zP;rw[aw M];rfl
    .rw[ai (show ¬[atC ak r w (i:ĸ) ((j+n:ı):ĸ)]=[46] from λz=>M (by injection z))];calc cG %[30,_,rb,ag8 O _ _,[PyProof.Ă.lo1 (atC ak r w (i:ĸ) ((j+n:ı):ĸ))],[c],rb,rb|bB _ rb ?_];by_cases c4:PyProof.Ă.lo1 (atC ak r w (i:ĸ) ((j+n:ı):ĸ))=c
     .rw[aw (show [PyProof.Ă.lo1 (atC ak r w (i:ĸ) ((j+n:ı):ĸ))]=[c] by rw[c4])];refine cG %[3,_,_,_,as,rb,N,Y,?_|?_]
      .rw[zQ];let et:pZ ak r w i j l n=Ĳ:=by unfold pZ;rw[Ĺ M]
       rw[et];simpa using Cq
      .rw[all_succ,ha];show zP ak r w i j l n=Ĵ;unfold zP;rw[ec,aw c4,Bool.or_true]
     .rw[ai (show ¬[PyProof.Ă.lo1 (atC ak r w (i:ĸ) ((j+n:ı):ĸ))]=[c] from λz=>c4 (by injection z))];calc cP<|G ?_ H3 N;unfold dO;rw[if_neg];intro z;let z2:=(eD _ _ ▸ z).2;rw[kR]at z2;let z3:=z2 n<|cz.á hnl;unfold zP at z3;rw[ai M,ec,ai c4]at z3;show Ł z3 zt
   .intro I J z;let(v5,v6,v7,as,rfl,L,kZ,hL,ha):=z;calc(q F as J L hF kZ ?_);let e:dO ak r w i j l=oM ak r w i j l l.n:=by unfold dO;rw[he,ha];show ĺ rfl
    rw[e];show hL
  .rw[ai (show ¬[atC ak r w (i:ĸ) ((j:ĸ)+(l.n:ĸ))]=[46] from λz=>Z (by injection z))];calc cP<|G ?_ H<|aA.Ę _;unfold dO Hy;rw[ai Z,oz,nw];show Ĺ zt
 .rw[ai (show ¬[atC ak r w (i:ĸ) ((j:ĸ)-1)]=[46] from λz=>c1 (by injection z))];calc cP<|G ?_ H<|aA.Ę _;unfold dO Hy;rw[ai c1,nw,nw];show Ĺ zt
def sJ (c:ı×ı):İ Key:=[Sum.Â (c.1:ĸ),Sum.Â (c.2:ĸ)]
def acQ (h:sJ a=sJ b):a=b:=by unfold sJ at h;injection h with h1 h2;injection h2 with h2 _;injection h1 with h1;injection h2 with h2;show xp (kQ h1)<|kQ h2
def aeY {κ:Type} [ō κ] (kvs:İ (κ×V))(k:κ)(v):(putK kvs k v).n<=kvs.n+1:=by
 unfold putK;split;.rw[aa];lia
 .simp
def acR (g:H M=į (.dT ks)):∀a xs,H a=į (.Æ xs)->upd H M (.dT ks') a=į (.Æ xs):=λa xs e=>by
 let ne:a≠M:=λz=>by rw[z,g]at e;cases e
 rw[aU ne];show e
def qM (ws ak:AA)(c:ı×ı):İ ı:=Ho ws (lineOf ak c.1 c.2 1) (placeOf c.1 c.2 1)
def qW (ak:AA)(r w:ı):İ (ı×ı):=(cells r w).Ą (frB ak r w)
def FQ {ak:AA}{r w:ı}{c:ı×ı}:c∈qW ak r w↔(c.1<r/\c.2<w)/\atC ak r w c.1 c.2=46:=by
 unfold qW;rw[sQ];unfold frB;rw[oy];constructor
 .rintro⟨h1,g⟩;show%[by simp only[cells,g6,aI,cz]at h1;let(i,hi,j,B,rfl):=h1;show%[hi|B]|by injection g]
 .rintro⟨h1,g⟩;show%[by simp only[cells,g6,aI,cz];show%[57,c.1,h1.1,c.2,h1.2|rb]|by rw[g]]
def acS {ak:AA}{r w:ı}(r9:r<=9)(w9:w<=9):(qW ak r w).n<=81:=by
 unfold qW;calc av (lT _ _) ?_;have:(cells r w).n=r*w:=by
  unfold cells
  induction r with| zero=>simp| succ r ih=>rw[fz,sP,ax,ih (ar r9)];simp[tP]
 rw[this];show km r9 w9
def aaE (C B:Ķ):Sp:=λvs H Q _=>∃(b k d:Addr) (ws:AA) (r w:Nat) (ak aF:AA) (bi bj:Nat),vs=[.v b,.v k]/\cW C H b r w ak aF bi bj/\jD B H k d ws/\
 ∀(p:Ķ) (kvs:İ (İ Key×V)) (H':Hp),aA H H'->H p=Ĳ->H' p=į (.dT kvs)->(∀c∈qW ak r w,dG kvs (sJ c)=į (.À<|S<|qM ws ak c))->Q (.v p) H'
def Hz (D:aR K mg "letters_down" qJ ["board","book"])(u9:bD P w K mg base "free_cells" 1 ["board"] (JZ C))(HJ:bD P w K mg base "cross_letters" 10 ["board","book","row","column","way"] (ag5 C CB)):bD P w K mg base "letters_down" 11 ["board","book"] (aaE C CB):=by
 calc D.cU mF ?_;intro f bF A outer s H vs Q E hr h;let(b,k,d,ws,r,w,ak,aF,bi,bj,rfl,B,BK,q):=h;let hu:=pI hr;calc%[0,_,(aD (aO (i:=2) mF.nd rb (Or.Â rb) abR)<|aD (dz ck rb (g_<|bf u9 hr.Ô rb<|aj aK aq) (lN rb<|cu (bG (i:=3) mF.nd rb<|Or.Â rb)<|cu (bG (i:=4) mF.nd rb<|Or.Â rb) jM)<|aG<|Di hu bw (cO<|aj bN<|aj b_ aq) (bf HJ hr.Ô rb<|aj aK<|aj aX<|aj bN<|aj b_<|aj aB aq) rb)<|aG<|aY bw)|?_];intro F hF;let s0:aA H (upd H F<|HO.dT []):=aA.å hF;let yC:upd H F (HO.dT []) F=į (.dT []):=au;generalize upd H F (HO.dT [])=H0 at s0 yC ⊢;calc%[21,b,r,w,ak,aF,bi,bj,rb,B.mv s0|λp as H1 s1 hp hP=>?_];let N:=s1 _ _ yC;let npF:p≠F:=λz=>by rw[z,N]at hp;cases hp
 let hal:as.n<=81:=by rw[hP.len];show acS B.ok.r9 B.ok.w9
 let hpL:(cells r w).Ą (frB ak r w)=qW ak r w:=rfl;rw[hpL]at hP;refine%[2,p,rb,%[_|aZ.of hp]|uh (K:=K) (a:=p) (xs:=as.Q V.v) (λn I J=>∃(v3 v4:ĵ V) (kvs:İ (İ Key×V)),I=[į (.v b),į (.v k),į (.v F),v3,v4]/\aA H J/\J p=į (.É<|as.Q V.v)/\d_ J as (qW ak r w)/\J F=į (.dT kvs)/\kvs.n<=n/\∀c∈(qW ak r w).Ã n,dG kvs (sJ c)=į (.À<|S<|qM ws ak c))
  %[35,Ĳ,Ĳ,[],rb,s0.X s1,hp,hP,N,ag _|λc hc=>by simp at hc] (λn I J _ h=>by let(_,_,_,_,_,h2,_):=h;show aZ.of h2) ?_ ?_]
 .intro n x I J hx z;let(v3,v4,kvs,rfl,O,Y,j,kZ,L,G):=z;let(hi,hx):=rfg hx;subst hx;let(c,ec,hc):=j.ď hi;let M:=FQ.mp<|a7 ec;calc%[44,as[n],_,rb,aQ.of hc,rb,_,_,rb,_,_,rb,rb|?_];calc%[5,b,k,d|%[5,ws,r,w|%[48,ak,aF,bi,bj,c.1,c.2,1,rb,B.mv O,BK.same O,M.1.1,M.1.2,.Ð rb|λH3 s3=>?_]]];calc%[zsz 2|λg hg=>?_];let Z:aA H3 (upd H3 g<|HO.Æ [.I (c.1:ĸ),.I (c.2:ĸ)]):=aA.å hg;let qm:=Z _ _<|s3 _ _ kZ;calc%[1,F,_,rb,uo.t (k:=sJ c) qm au<|aJ zo|?_];calc%[35,_,_,putK kvs (sJ c) _,rb,((O.X s3).X Z).bJ hF,by rw[aU npF];show Z _ _<|s3 _ _ Y,((j.mv s3).mv Z).d9<|acR qm,au,av (aeY _ _ _)<|gg L|λe he=>?_];rw[Ot];by_cases z:sJ e=sJ c;.rw[ĺ z,acQ z];rfl
  .rw[Ĺ z];rw[bv,ec]at he;rcases a8.mp he with y|y;.show G e y
   .have:e=c:=by simpa using y
    show Ł (by rw[this]) z
 .intro I J z;let(v3,v4,kvs,rfl,O,Y,j,kZ,L,G):=z;rw[aa,j.len,cK]at G;show(q F kvs J O hF kZ G)
def sO (fit:ı×ı->İ ı)(hk:İ (ı×ı))(ts:İ bL):ŏ:=(ľ (1<=ts.n)&&ľ (ts.n<=7))&&(ts.all (λt=>ľ<|t.2.2∈fit (cT t))&&ts.ġ (λt=>ľ<|cT t∈hk))
def aeZ (h:yw a=yw b):a=b:=by unfold yw at h;injection h with h;injection h with h1 h2;injection h2 with h2 _;injection h1 with h1;injection h2 with h2;show xp (kQ h1)<|kQ h2
def qN {hk:İ (ı×ı)}:yw c∈hk.Q yw↔c∈hk:=%[λh=>by let(d,hd,e):=aI.mp h;rw[<-aeZ e];show hd|λh=>eB h]
def adR (K:W.Ë):Sp:=λvs H Q _=>∃(p d j:Addr) (as bs:İ Ķ) (ts:İ bL) (kvs:İ (İ Key×V)) (fit:ı×ı->İ ı) (hk:İ (ı×ı)),vs=[.v p,.v d,.v j]/\H p=į (.É<|as.Q V.v)/\dH H as ts/\ts.n<=63/\H d=į (.dT kvs)/\(∀t∈ts,dG kvs (sJ<|cT t)=į (.À<|S<|fit<|cT t))/\
 H j=į (.Æ<|bs.Q V.v)/\d_ H bs hk/\∀H',aA H H'->Q (.bl<|sO fit hk ts) H'
def J0 (D:aR K mg "can_be_laid" rY ["triples","fitting","joining"])(bh:mg "len"=Ĳ)(iY:mg "all"=Ĳ)(DG:mg "any"=Ĳ)(u_:∃t,mg "MOST_TILES"=į (.I 7 t))(qe:bD P w K mg base "cells_of" 1 ["laying"] (DK K)):bD P w K mg base "can_be_laid" 2 ["triples","fitting","joining"] (adR K):=by
 calc D.cU yc ?_;intro f bF A outer s H vs Q E hr h;let(p,d,j,as,bs,ts,kvs,fit,hk,rfl,hp,hL,h63,hd,hkv,hj,hJ,q):=h;let hu:=pI hr;let hal:=hL.đ;let O:(as.Q V.v).n=ts.n:=by rw[aa];show hal
 calc%[0,_,(aD (dF (jk<|yI qP qP aB (aP cD zw bh bE<|aj aK aq)<|WK zw u_) (aG<|aY mz) cC)<|aD (dF (jk<|f9<|aP (mL rb) zw iY mO<|aj (jf (ns:=["row","column","letter"]) rb (fG.of ["triples","fitting","joining"] [] zC) (g_ aK) (λ_ _ _ _ _=>(o9 K rb (show (["row","column","letter","triples","fitting","joining"]:İ ņ).Ö by decide +kernel) rb rb rb zw zw zw)) (λ_ _ _ _ _=>cM) λ_ _ _ _ _=>(jL Bc bw (aeg hu b_ (cO<|aj aK<|aj aX aq) λ_ _=>rfl) rb)) aq) (aG<|aY mz) cC)<|aG<|aY<|aP (O8 rb) zw DG KJ<|aj (h_ rb (gM.of yc.nd zC) (g_<|bf qe hr.Ô rb<|aj aK aq) (λ_ _ _ _ _=>cM) λ_ _ _ _ _=>(jL (aeK K hr.ã) aK bN rb)) aq)|?_];calc%[23,p,_,rb,.Â<|aZ.of hp,_,_,rb,rb|bB _ rb ?_];rw[O];let no:sO fit hk ts=ķ->Q (.bl ķ) H:=λe=>by have:=q H<|aA.Ę _;rw[e]at this;show this
 by_cases c1:1<=ts.n
 .rw[aw (show (1:ĸ)<=(ts.n:ĸ) by lia)];calc cP %[1,_,_,rb,rb|bB _ rb ?_];by_cases c2:ts.n<=7
  .rw[aw (show (ts.n:ĸ)<=7 by lia)];calc cG ?_;refine%[2,p,rb,%[_|aZ.of hp]|λL iK=>wH (f:=eN [] 0) (tt:=gO) (xs:=as.Q V.v) (λi ys B=>ys=((ts.Ã i).Q λt=>ľ<|t.2.2∈fit (cT t)).Q V.bl/\B L=į (.É ys)/\aA H B)
    %[rb,au|aA.å iK] (λi ys B _ h=>aZ.of<|h.2.2 _ _ hp) ?_ ?_]
   .intro i x ys B hx z;let(rfl,m7,F):=z;let(hi,hx):=rfg hx;let(t,et,hT):=hL.ď hi;calc vL hx.Ò (aQ.of<|F _ _ hT) ?_;calc%[zsz 2|λg hg=>?_];let k4:aA B (upd B g<|HO.Æ [.I (t.1:ĸ),.I (t.2.1:ĸ)]):=aA.å hg;let Y:=jV.t (k:=sJ (cT t)) (k4 _ _<|F _ _ hd)<|show upd B g (HO.Æ [.I (t.1:ĸ),.I (t.2.1:ĸ)]) g=į (.Æ<|(sJ<|cT t).Q kV) from au;rw[hkv t (a7 et)]at Y;calc%[1,d,_,rb,Y|%[7,_,_,rb,rb,k4 _ _ m7,?_|dR.mk (by rw[aa];show hi) %[?_,au|(F.X k4).bJ iK]]];.rw[aa,aa,ba];show aJ zo
    .rw[bv,et];simp
   .intro ys B z;let(rfl,m7,F):=z;rw[O,cK]at m7;calc%[1,L,_,rb,aZ.of m7|bB _ rb ?_];rw[List.all_map];by_cases c3:ts.all (λt=>ľ<|t.2.2∈fit (cT t))=Ĵ
    .rw[show (ts.all<|id ∘ λt=>ľ (t.2.2∈fit (cT t)))=Ĵ from c3];calc cG ?_;let G7:=F _ _ hp;calc%[10,p,as,ts,rb,.Â<|aZ.of G7,hL.mv F,h63|λp7 cs H7 s7 hn7 Ep hP7=>?_];let G:=F.X s7;let hcl:cs.n=ts.n:=by rw[hP7.len,aa]
     refine%[2,p7,rb,%[_|aZ.of Ep]|λM hM=>vJ (K:=K) (a:=p7) (xs:=cs.Q V.v) (λi ys N=>ys=((ts.Ã i).Q λt=>ľ<|cT t∈hk).Q V.bl/\N M=į (.É ys)/\aA H7 N)
      %[rb,au|aA.å hM] (λi ys N _ h=>aZ.of<|h.2.2 _ _ Ep) ?_ ?_]
     .intro i x ys N hx z;let(rfl,QX,J):=z;let(hi,hx):=rfg hx;subst hx;let(c,ec,hc):=hP7.ď hi;obtain⟨t,et,rfl⟩:∃t,ts[i]?=į t/\cT t=c:=by
       rw[bz]at ec;show gN.mp ec
      let Z:=(hJ.mv G).mv J;let hj8:=J _ _<|G _ _ hj;refine%[37,2,yw<|cT t,hk.Q yw,zt,.Æ (aQ.of<|J _ _ hc)<|.Þ (.I _)<|.Þ (.I _) .ê,?_,QX,?_|dR.mk (by rw[aa];show hi) %[?_,au|J.bJ hM]]
      .rw[<-Z.eq];show .Æ (aQ.of hj8)<|Vw Z.Ć
      .rw[aa,aa,ba];show aJ zo
      .rw[bv,et,bo,bo];congr 1;show [V.bl _]=[V.bl _]
       congr 2;show wd.á qN
     .intro ys N z;let(rfl,QX,J):=z;rw[aa,hcl,cK]at QX;calc%[1,M,_,rb,aZ.of QX|?_];rw[List.any_map];let e:sO fit hk ts=ts.ġ (id ∘ λt=>ľ (cT t∈hk)):=by
       unfold sO;rw[aw c1,aw c2,c3];rfl
      rw[<-e];show q N<|G.X J
    .rw[show (ts.all<|id ∘ λt=>ľ (t.2.2∈fit (cT t)))=ķ from vj.á c3];calc cP ?_;have:=q B F;let e:sO fit hk ts=ķ:=by
      unfold sO;rw[vj.á c3,nw,oz]
     rw[e]at this;show this
  .rw[ai (show ¬(ts.n:ĸ)<=7 by lia)];calc cP<|no ?_;unfold sO;rw[ai c2,oz,nw]
 .rw[ai (show ¬(1:ĸ)<=(ts.n:ĸ) by lia)];calc cG<|no ?_;unfold sO;rw[ai c1,nw,nw]
def gq:İ ı->İ ı->İ (İ ı)
 | [],_=>[[]]
 | c::ls,rk=>(if c∈rk then (gq ls<|rk.ć c).Q (c :: ·) else [])++(if 63∈rk then (gq ls<|rk.ć 63).Q (PyProof.Ă.up1 c :: ·) else [])
def J5 (h:isLet c):PyProof.Ă.up1 c=c-32/\cB (PyProof.Ă.up1 c)=63/\cB c=c/\c<128/\PyProof.Ă.up1 c<128:=by let h1:=h.1;let g:=h.2;let e:PyProof.Ă.up1 c=c-32:=ĺ<|show 97<=c/\c<=122 from h;rw[e];show%[rb,ĺ %[f7 zo|Nat.sub_le_sub_right g _],Ĺ zo,zo|jI zo]
theorem ug:∀(ls rk:İ ı) {t:İ ı},t∈gq ls rk->t.n=ls.n
 | [],_,t,h=>by rw[al.mp h]
 | c::ls,rk,t,h=>by
  unfold gq at h;rcases a8.mp h with z|z
  .split at z
   .let(u,g,rfl):=aI.mp z;simp[ug ls _ g]
   .simp at z
  .split at z
   .let(u,g,rfl):=aI.mp z;simp[ug ls _ g]
   .simp at z
def ae0 {c:ı}{ls rk:İ ı}(h:c∈rk):(gq ls<|rk.ć c).n<=(gq (c::ls) rk).n:=by rw[gq,ĺ h,ax,aa];lia
def ae1 {c:ı}{ls rk:İ ı}(h:63∈rk):(gq ls<|rk.ć 63).n<=(gq (c::ls) rk).n:=by rw[gq,ĺ h,ax,aa (as:=gq ls (rk.ć 63))];lia
def tY (o:ı):Sp:=λvs H Q _=>∃(ls rk:İ ı),vs=[.À (S ls),.À (S rk)]/\(∀c∈ls,isLet c)/\ls.n<o/\o<=10/\rk.n<=100/\(gq ls rk).n<=900/\
 ∀(p:Ķ) (H':Hp),aA H H'->H p=Ĳ->H' p=į (.É<|Ts<|gq ls rk)->Q (.v p) H'
def acT (D:aR K mg name st ps)(j:∀vs H Q E,¬sp vs H Q E):bD P w K mg base name k ps sp:=by let(f,fd,F,b,g):=D.ex;show%[f,fd,%[λvs H Q E h=>Ł h<|j vs H Q E|λA outer s H args us vs Q E _ _ _ _ h=>Ł h<|j vs H Q E],b,g|F.kp]
def T5 (c:ı)(ts:AA)(n:ı){t:İ ı}(h:ts[n]?=į t):Ts ((ts.Ã<|n+1).Q (c :: ·))=Ts ((ts.Ã n).Q (c :: ·))++[V.À (S<|[c]++t)]:=by rw[bv,h,bo];show(lW _ _).Ò
def QZ (hk:1<=k)(D:aR K mg "sign_texts" mW ["letters","rack"])(T:G8 P w K mg base f fd)(bT:cV K fd ["sign"] [])(mT:mg "tile_of"=į (.v f))(kT:W.Ċ K (.v f)=Ĵ)(vg:bD P w K mg base "sign_texts" k ["letters","rack"] (tY o)):bD P w K mg base "sign_texts" (k+1) ["letters","rack"] (tY<|o+1):=by
 calc D.cU oH λf' bF A outer s H vs Q E hr h=>?_;let(ls,rk,rfl,B,G,ho,hrk,O,q):=h;let Y:Xd (pH fP P w K mg base ["letters","rack","texts","sign","tile","left"] "sign_texts" (aH mW) f' bF A outer s H E).D_ 1 3 4 5 f fd:=%[oH.nd,rb,rb,rb,rb,.Â rb,.Ð rb,.Â rb,.Â rb,rb,rb,rb,T,bT,mT,kT,rb|hr.Ô hk]
 refine%[0,_,aD (dF (bK xJ aK (bV [] zD)<|bU _) (aG<|aY<|fK<|aj (bV [] zD) aq) cC)
  (aD (aO (i:=2) oH.nd rb (Or.Â rb)<|fK aq)
  (aD (agS Y zD ck rb (adP aK λ_ _=>rfl) (aix<|adP aK λ_ _=>rfl) rb rb rb rb (λ_=>rfl)
  <|aG<|gb<|d7 di my mB q_ bw<|aj (h_ rb (gM.of oH.nd zC) (g_<|bf vg hr rb<|aj (qC Jb aK (uc aB) t_)<|aj cI aq) (λ_ _ _ _ _=>cM) λ_ _ _ _ _=>(aL lV b_ aK)) aq)
 <|aG<|aY bw))|?_]
 refine%[1,_,_,rb,rb|bB _ rb ?_]
 match ls,B,G,O,q with
 | [],B,G,O,q=>rw[aw rfl];show cP %[zsz 1|λp hp=>q p _ (aA.å hp) hp au]
 | c::ls,B,G,O,q=>
  rw[ai (show ¬c::ls=[] from λz=>by cases z)];calc cG %[zsz 0|λF hF=>?_];let(u1,u2,u3,u4,u5):=J5 (B c aE);let hl':∀d∈ls,isLet d:=λd hd=>B d<|ay _ hd;let hlo':ls.n<o:=by simp at G;show G
  let hz:(c::ls).n<=Ŀ:=ar<|aJ zo;let s0:aA H (upd H F<|HO.É []):=aA.å hF;let yC:upd H F (HO.É []) F=į (.É []):=au;generalize upd H F (HO.É [])=H0 at s0 yC ⊢;let one:∀(d:ı) (J:Hp) (ts:AA) (Dn:St->Hp->Prop) (Dr:VK),aA H J->J F=į (.É<|Ts ts)->cB d∈rk->ts.n<=900->(gq ls<|rk.ć<|cB d).n<=900->
    (∀M,aA H M->M F=į (.É (Ts (ts++(gq ls<|rk.ć<|cB d).Q (d :: ·))))->Dn [į (.À<|S<|c::ls),į (.À<|S rk),į (.v F),į (.À<|S [d]),į (.À<|S [cB d]),į (.À<|S<|rk.ć<|cB d)] M)->
    (Nu<|YT K "list" Df (fO 2)<|jG (Ny (Nv K<|C_ (tY o) [] E0<|jG (tSl Wz (fO 0) (Nx<|tC<|V.I 1) Dc)<|jG (fO 5) qz) gO<|vH Dl (fO 4)<|fO 0) qz) {nx:=Dn,rt:=Dr} [į (.À<|S<|c::ls),į (.À<|S rk),į (.v F),į (.À<|S [d]),į (.À<|S [cB d]),į (.À<|S<|rk.ć<|cB d)] J:=by
   intro d J ts Dn Dr sm kZ dU h9 h9' nx;let acU:nH (c::ls) (į 1) Ĳ=ls:=by rw[show (1:ĸ)=((1:ı):ĸ) from rb,yP];rfl
   let h10:ls.n<=10:=zo;calc%[8,.Â %[8,rb,_|aZ.of kZ],_|%[26,rb,c::ls,rb,hz|%[28,ls,rk.ć<|cB d,by rw[acU];rfl,hl',hlo',ar ho,av wt hrk,h9'|λp M s3 hn3 hp3=>?_]]];let tE:=s3 _ _ kZ;refine%[2,p,rb,%[_|aZ.of hp3]|λL hL=>vJ (K:=K) (a:=p) (xs:=Ts (gq ls<|rk.ć<|cB d)) (λi ys H4=>ys=Ts (((gq ls<|rk.ć<|cB d).Ã i).Q (d :: ·))/\H4 L=į (.É ys)/\aA M H4)
    %[rb,au|aA.å hL] (λi ys H4 _ h=>aZ.of<|h.2.2 _ _ hp3) ?_ ?_]
   .intro i x ys H4 hx z;let(rfl,nG,s4):=z;let(t,ht,rfl):=pU hx;let hil:i<(Ts<|gq ls<|rk.ć<|cB d).n:=(am.mp hx).1;let htl:=ug _ _<|a7 ht;calc%[22,[d],t,rb,rb,ar<|aJ (by simp;lia),nG,?_|dR.mk hil %[?_,au|s4.bJ hL]];.rw[aa,aa,ba];show aJ zo
    .show(T5 d _ i ht).Ò
   .intro ys H4 z;let(rfl,nG,s4):=z;rw[aa,cK]at nG;let qm:=s4 _ _ tE;refine%[14,F,L,_,_,rb,rb,qm,nG,?_|nx _ (((sm.X s3).X s4).bJ hF) ?_]
    .rw[aa,aa,aa];show av (zn h9 h9') zt
    .rw[au];unfold Ts;rw[bo]
  calc%[10,S<|c::ls,0,c,rb,rb,by rw[j9];show hz,aN (j:=0) rb|?_];calc%[10,S<|c::ls,0,c,rb,rb,by rw[j9];show hz,aN (j:=0) rb|%[30,c,rb,u4,c,PyProof.Ă.up1 c,rb,rb|?_]];let two:∀(J:Hp) (ts:AA) (v4 v5 v6:ĵ V),aA H J->J F=į (.É<|Ts ts)->ts=(if c∈rk then (gq ls<|rk.ć c).Q (c :: ·) else [])->
    wI 1 3 4 5 (Nu<|YT K "list" Df (fO 2)<|jG (Ny (Nv K<|C_ (tY o) [] E0<|jG (tSl Wz (fO 0) (Nx<|tC<|V.I 1) Dc)<|jG (fO 5) qz) gO<|vH Dl (fO 4)<|fO 0) qz) (PyProof.Ă.up1 c) {nx:=abp (fO 2) {nx:=λx H'=>Q V.ă H',rt:=Q},rt:=Q} [į (.À<|S<|c::ls),į (.À<|S rk),į (.v F),v4,v5,v6] J:=by
   intro J ts v4 v5 v6 sm kZ N;let aju:ts.n<=(gq (c::ls) rk).n:=by rw[gq,<-N,ax];lia
   calc%[2,rk,rb,zo|?_];by_cases g:63∈rk
   .rw[ĺ (by rw[u2];show g)];refine one (PyProof.Ă.up1 c) J ts _ _ sm kZ (by rw[u2];show g) (av aju O) (by rw[u2];show av (ae1 g) O) λM s3 tE=>(q F M s3 hF ?_)
    rw[tE,u2,gq,ĺ g,N]
   .rw[Ĺ (by rw[u2];show g)];calc(q F J sm hF ?_);rw[kZ,gq,Ĺ g,N,fi]
  calc%[2,rk,rb,zo|?_];rw[u3];by_cases Z:c∈rk
  .rw[ĺ Z];have:=one c H0 [] (wI 1 3 4 5 (Nu<|YT K "list" Df (fO 2)<|jG (Ny (Nv K<|C_ (tY o) [] E0<|jG (tSl Wz (fO 0) (Nx<|tC<|V.I 1) Dc)<|jG (fO 5) qz) gO<|vH Dl (fO 4)<|fO 0) qz) (PyProof.Ă.up1 c) {nx:=abp (fO 2) {nx:=λx H'=>Q V.ă H',rt:=Q},rt:=Q}) Q s0 yC (by rw[u3];show Z) (by show 0<=900;decide) (by rw[u3];show av (ae0 Z) O) λM s3 tE=>two M _ _ _ _ s3 tE (by rw[u3,ĺ Z];rfl);rw[u3]at this;show this
  .rw[Ĺ Z];show two H0 [] _ _ _ s0 yC (by rw[Ĺ Z])
def M7 (D:aR K mg "sign_texts" mW ["letters","rack"])(g:aR K mg "tile_of" vW ["sign"]):bD P w K mg base "sign_texts" 9 ["letters","rack"] (tY 8):=by
 let(f,fd,F,b,m):=g.ex;let T:G8 P w K mg base f fd:=aeJ F G9 rb rb zD zD zD;let j:bD P w K mg base "sign_texts" 1 ["letters","rack"] (tY 0):=acT D λvs H Q E h=>by let(ls,rk,_,_,h,_):=h;show Ł h<|kH _
 let st:=λo k hk (h:bD P w K mg base "sign_texts" k ["letters","rack"] (tY o))=>QZ (o:=o) (k:=k) hk D T b m F.kp h;show st 7 8 zt<|st 6 7 zt<|st 5 6 zt<|st 4 5 zt<|st 3 4 zt<|st 2 3 zt<|st 1 2 zt<|st 0 1 zt j
def lO (H:Hp)(a:Ķ):İ bL:=match H a with
 | some (.Æ xs)=>xs.Q λv=>match v with| .v b=>tO H b| _=>(0,0,0)
 | _=>[]
def wX (H:Hp)(a:Ķ)(ts:İ bL):Prop:=∃bs:İ Ķ,H a=į (.Æ<|bs.Q V.v)/\dH H bs ts
def N5 (h:wX H a ts):lO H a=ts:=by let(bs,h1,g):=h;unfold lO;rw[h1];show ((bs.Q V.v).Q _)=ts;rw[dm,<-g.eq];rfl
def wX.d9 (k:∀a xs,H a=į (.Æ xs)->H' a=į (.Æ xs))(h:wX H a ts):wX H' a ts:=let %[bs,h1|h2]:=h;%[0,bs,k _ _ h1|h2.d9 k]
structure iM (H:Hp)(as:İ Ķ)(ls:İ (İ bL)):Prop where
 at_:∀a∈as,wX H a (lO H a)
 eq:as.Q (lO H)=ls
def iM.d9 (k:∀a xs,H a=į (.Æ xs)->H' a=į (.Æ xs))(h:iM H as ls):iM H' as ls:=by let e:∀a∈as,lO H' a=lO H a:=λa ha=>N5<|(h.Ć a ha).d9 k;show%[λa ha=>by rw[e a ha];show(h.Ć a ha).d9 k|by rw[<-h.eq];show dS e]
def iM.mv (k:aA H H')(h:iM H as ls):iM H' as ls:=h.d9 λa xs e=>k a _ e
def iM.nil:iM H [] []:=%[λa h=>by simp at h|rb]
def iM.app (h:iM H as ls)(g:iM H bs ms):iM H (as++bs) (ls++ms):=by
 calc%[λb j=>?_|by rw[bo,h.eq,g.eq]];rcases a8.mp j with z|z;.show h.Ć b z
 .show g.Ć b z
def iM.one (ha:wX H a ts):iM H [a] [ts]:=%[λb g=>by rw[al.mp g,N5 ha];show ha|by rw[nS,N5 ha]]
def iM.len (h:iM H as ls):as.n=ls.n:=by rw[<-h.eq,aa]
def iM.get (h:iM H as ls)(hi:i<as.n):∃t,ls[i]?=į t/\wX H as[i] t:=%[0,lO H as[i],by rw[<-h.eq];simp[hi]|h.Ć _<|aS _]
def jT (ts:İ bL)(ss:İ ı):İ bL:=List.zipWith (λt c=>(t.1,t.2.1,c)) ts ss
def XM (h1:ts[i]?=į t)(g:ss[i]?=į c):(jT ts ss).Ã (i+1)=(jT ts ss).Ã i++[(t.1,t.2.1,c)]:=by rw[bv];congr 1;unfold jT;rw[List.getElem?_zipWith,h1,g];rfl
def Lw {ts:İ bL}{ss:İ ı}(h:ts.n=ss.n):(jT ts ss).n=ts.n:=by unfold jT;rw[List.length_zipWith];lia
def eY (ts:İ bL):İ ı:=ts.Q λt=>t.2.2
def rF (ts:İ bL)(rk:İ ı):İ (İ bL):=(gq (eY ts) rk).Q (jT ts)
def VB:Sp:=λvs H Q _=>∃(p:Addr) (as:İ Ķ) (ts:İ bL) (rk:İ ı),vs=[.v p,.À (S rk)]/\H p=į (.É<|as.Q V.v)/\dH H as ts/\ts.n<=7/\(∀t∈ts,isLet t.2.2)/\rk.n<=100/\(gq (eY ts) rk).n<=900/\
 ∀(j:Ķ) (g:İ Ķ) (H':Hp),aA H H'->H j=Ĳ->H' j=į (.É<|g.Q V.v)->iM H' g (rF ts rk)->Q (.v j) H'
def M8 (D:aR K mg "layings_of" uK ["triples","rack"])(bR:mg "tuple"=Ĳ)(XQ:mg "zip"=Ĳ)(qe:bD P w K mg base "cells_of" 1 ["laying"] (DK K))(vg:bD P w K mg base "sign_texts" 9 ["letters","rack"] (tY 8)):bD P w K mg base "layings_of" 10 ["triples","rack"] VB:=by
 calc D.cU oJ ?_;intro f bF A outer s H vs Q E hr h;let(p,as,ts,rk,rfl,hp,hL,h7,acV,hrk,zR,q):=h;let hal:=hL.đ;calc%[0,_,(aD (aO (i:=2) oJ.nd rb (Or.Â rb)<|bf qe hr.Ô rb<|aj aK aq)<|aD (aO (i:=3) oJ.nd rb (Or.Â rb)<|fK aq)<|aD (dz ck rb (g_<|bf vg hr.Ô rb<|aj (d7 b9 eP eQ o8 (bV [] zD)<|aj (jf (ns:=["row","column","letter"]) rb (fG.of ["triples","rack","cells","layings","signs"] [] zC) (g_ aK) (λ_ _ _ _ _=>(o9 K rb (show (["row","column","letter","triples","rack","cells","layings","signs"]:İ ņ).Ö by decide +kernel) rb rb rb zw zw zw)) (λ_ _ _ _ _=>cM) λ_ _ _ _ _=>bw) aq)<|aj aX aq) (bG (i:=4) oJ.nd rb<|Or.Â rb)<|aG<|gb<|d7 di ij ik k_ bN<|aj (cN dX zw bR df<|aj (jf (ns:=["cell","sign"]) rb (fG.of ["triples","rack","cells","layings","signs"] [] zC) (aeM zw XQ<|aj bw<|aj b_ aq) (λ_ _ _ _ _=>(UG K rb (show (["cell","sign","triples","rack","cells","layings","signs"]:İ ņ).Ö by decide +kernel) rb rb zw zw)) (λ_ _ _ _ _=>cM) λ_ _ _ _ _=>(cO<|aj (aV (m_ K) aK aB λ_ _=>rfl)<|aj (aV (m_ K) aK aB λ_ _=>rfl)<|aj aX aq)) aq) aq)<|aG<|aY bN)|?_];calc%[10,p,as,ts,rb,.Â<|aZ.of hp,hL,zo|λpc Z Hc sc hnc hpc hPc=>?_];let hcl:Z.n=ts.n:=by rw[hPc.len,aa]
 calc%[zsz 0|λF hF=>?_];let s0:aA Hc (upd Hc F<|HO.É []):=aA.å hF;let yC:upd Hc F (HO.É []) F=į (.É []):=au;generalize upd Hc F (HO.É [])=H0 at s0 yC ⊢;let hp0:=s0 _ _<|sc _ _ hp;let hL0:=(hL.mv sc).mv s0;refine%[26,rb,p,rb,%[_|aZ.of hp0]|λL iK=>wH (f:=eN [] 0) (tt:=gO) (xs:=as.Q V.v) (λi ys B=>ys=Ts (ones<|(eY ts).Ã i)/\B L=į (.É ys)/\aA H0 B)
  %[rb,au|aA.å iK] (λi ys B _ h=>aZ.of<|h.2.2 _ _ hp0) ?_ ?_]
 .intro i x ys B hx z;let(rfl,m7,Y):=z;let(hi,hx):=rfg hx;let(t,et,hT):=hL0.ď hi;calc vL hx.Ò (aQ.of<|Y _ _ hT) ?_;calc%[m7,?_|dR.mk (by rw[aa];show hi) %[?_,au|Y.bJ iK]];.rw[aa,aa,ba];show aJ zo
  .have:(eY ts)[i]?=į t.2.2:=by unfold eY;rw[bz,et];rfl
   rw[bv,this,lW,wj];rfl
 .intro ys B z;let(rfl,m7,Y):=z;let hsl:(eY ts).n=ts.n:=aa _;rw[aa,hal,<-hsl,cK]at m7;calc%[7,L,ones<|eY ts,rb,rb,aZ.of m7,by rw[jH];lia|?_];rw[jH];refine%[28,eY ts,rk,rb,λc hc=>?_,zo,zt,hrk,zR|λpS H1 s1 hn1 O=>?_]
  .let(t,ht,rfl):=aI.mp hc;show acV t ht
  generalize hTX:gq (eY ts) rk=tx at zR O;let ajv:∀t∈tx,t.n=ts.n:=λt ht=>by rw[<-hTX]at ht;rw[ug _ _ ht,hsl]
  let sc1:aA Hc H1:=(s0.X Y).X s1;let hF1:=s1 _ _<|Y _ _ yC;let nSF:pS≠F:=λz=>by rw[z,Y _ _ yC]at hn1;cases hn1
  refine%[2,pS,rb,%[_|aZ.of O]|uh (K:=K) (a:=pS) (xs:=Ts tx) (λn I G=>∃(v4:ĵ V) (bs:İ Ķ),I=[į (.v p),į (.À<|S rk),į (.v pc),į (.v F),v4]/\aA Hc G/\G pS=į (.É<|Ts tx)/\G F=į (.É<|bs.Q V.v)/\iM G bs ((tx.Ã n).Q<|jT ts)/\bs.n=n)
   %[22,Ĳ,[],rb,sc1,O,hF1,iM.ê|rb] (λn I G _ h=>by let(_,_,_,_,h2,_):=h;show aZ.of h2) ?_ ?_]
  .intro n x I G hx z;let(v4,bs,rfl,s2,hp2,kZ,hY,ig):=z;let(ss,hss,rfl):=pU hx;let hnl:n<(Ts tx).n:=(am.mp hx).1;rw[aa]at hnl;let ajw:=ajv ss<|a7 hss;let ag9:=s2 _ _ hpc;let ajx:=hPc.mv s2;refine%[17,.Â %[8,rb,_|aZ.of kZ],pc,ss,rb,%[_|aZ.of ag9]|λM hM=>agV (f:=eN [] 0) (tt:=gO) (KT:=K) (xs:=Z.Q V.v) (l:=ss) (by rw[aa,hcl,ajw]) (λi zs B=>∃ds:İ Ķ,zs=ds.Q V.v/\ds.n=i/\B M=į (.É zs)/\aA G B/\dH B ds ((jT ts ss).Ã i))
    %[9,[],rb,rb,au,aA.å hM|dH.ê] (λi zs B _ h=>by let(_,_,_,_,Af,_):=h;show aZ.of<|Af _ _ ag9) ?_ ?_]
   .intro i x c zs B T hx hc z hT;let(ds,rfl,J,yx,N,hB):=z;let(hi,hx):=rfg hx;subst hx;let(cc,ec,hcc):=ajx.ď hi;obtain⟨t,et,rfl⟩:∃t,ts[i]?=į t/\cT t=cc:=by
     rw[bz]at ec;show gN.mp ec
    let k7:aA B (upd B T<|HO.Æ [.v Z[i],.À (S [c])]):=aA.å hT;calc aij rb (aQ.of au) ?_;let aha:=k7 _ _<|N _ _ hcc;let En:=k7 _ _ yx;let s7:=N.X k7;let hB7:=hB.mv k7;generalize upd B T (HO.Æ [.v Z[i],.À (S [c])])=H7 at k7 aha En s7 hB7 ⊢;let Q0:=aQ.of (K:=K) aha;calc%[3,Z[i],_,_,_,rb,rb,Q0,aN (j:=0) rb|%[14,Z[i],_,_,_,rb,rb,Q0,aN (j:=1) rb,zsz 3|λg hg=>?_]];let k8:aA H7 (upd H7 g<|HO.Æ [.I ((cT t).1:ĸ),.I ((cT t).2:ĸ),.À (S [c])]):=aA.å hg;let QX:=k8 _ _ En;calc%[QX,by rw[aa,J];show aJ zo|dR.mk (by rw[aa];show hi) %[9,ds++[g],zr,by simp[J],by rw[au],(s7.X k8).bJ hM|?_]];rw[XM et hc];show((hB7.mv k8).snoc (t:=(t.1,t.2.1,c)) au).d9<|eE QX
   .intro zs B z;let(ds,rfl,J,yx,N,hB):=z;rw[aa]at J;rw[cn (by rw[Lw zo,aa];lia)]at hB;calc%[4,M,_,rb|.Â %[aZ.of yx|λT hT=>?_]];let k7:aA B (upd B T<|HO.Æ<|ds.Q V.v):=aA.å hT;let hF7:=k7 _ _<|N _ _ kZ;calc%[10,F,_,_,rb,rb,hF7,by rw[aa,ig];show aJ zo|?_];calc%[22,_,bs++[T],rb,((s2.X N).X k7).bJ hF,by rw[aU nSF];show k7 _ _<|N _ _ hp2,by rw[au,bo];rfl,?_|by simp[ig]];rw[bv,hss,bo];show(((hY.mv N).mv k7).app<|iM.one (ts:=jT ts ss) %[0,ds,au|hB.mv k7]).d9<|eE hF7
  .intro I G z;let(v4,bs,rfl,s2,hp2,kZ,hY,ig):=z;rw[aa,cK]at hY;calc(q F bs G (sc.X s2) (sc.Õ hF) kZ ?_);unfold rF;rw[hTX];show hY
def Lx {ak:AA}{r w i j:ı}{l:İ ı}(h:t∈dO ak r w i j l):∃k,k<l.n/\t=(i,j+k,l.Î k 0)/\atC ak r w i ((j+k:ı):ĸ)=46:=by
 unfold dO at h;split at h
 .unfold oM at h;let(k,hk,e):=tz.mp h;unfold pZ at e;split at e
  .rename_i g;show%[2,k,cz.mp hk,(bg e).Ò|g]
  .cases e
 .simp at h
def HN {ak:AA}{r w i j:ı}{l:İ ı}(hi:i<r)(B:j<w+1-l.n)(h:t∈dO ak r w i j l):cT t∈qW ak r w:=by let(k,hk,rfl,g):=Lx h;show FQ.á %[%[hi|by show j+k<w;(simp[dL,ee]at *;lia)]|g]
def Cw {ak:AA}{r w i j:ı}{l:İ ı}(g:nJ l)(h:t∈dO ak r w i j l):isLet t.2.2:=by let(k,hk,rfl,_):=Lx h;show isLet<|l.Î k 0;rw[ap,ae hk];show g.az _<|aS _
def wA (ak)(r w i j)(l):(dO ak r w i j l).n<=l.n:=by
 unfold dO;split;.show Ls ..
 .show ci _
def sS (fit:ı×ı->İ ı)(hk:İ (ı×ı))(ak:AA)(r w:ı)(rk l:İ ı)(c:ı×ı):İ (İ bL):=if sO fit hk (dO ak r w c.1 c.2 l)=Ĵ then rF (dO ak r w c.1 c.2 l) rk else []
def wB (fit:ı×ı->İ ı)(hk:İ (ı×ı))(ak:AA)(r w:ı)(rk l:İ ı):İ (İ bL):=(iZ r w l.n).flatMap (sS fit hk ak r w rk l)
def i_ (ws:AA)(hk:İ (ı×ı))(ak:AA)(r w:ı)(rk:İ ı)(us:AA):İ (İ bL):=us.flatMap (wB (qM ws ak) hk ak r w rk)
theorem DN {α β:Type}{f:α->İ β}{b:ı}:∀{l:İ α},(∀x∈l,(f x).n<=b)->(l.flatMap f).n<=l.n*b
 | [],_=>by simp
 | x::l,h=>by rw[List.flatMap_cons,ax,b8,tP];have:=h x aE;have:=DN (l:=l) λy g=>h y<|ay _ g;lia
def acW {hk:İ (ı×ı)}{ak:AA}{r w g:ı}{rk l:İ ı}(j:∀ls,ls.n<=l.n->(gq ls rk).n<=g)(c:ı×ı):(sS fit hk ak r w rk l c).n<=g:=by
 unfold sS;split;.unfold rF;rw[aa];show j _ (by unfold eY;rw[aa];show wA ..)
 .show ci _
def Ly {hk:İ (ı×ı)}{ak:AA}{r w g:ı}{rk l:İ ı}(j:∀ls,ls.n<=l.n->(gq ls rk).n<=g)(B:2<=l.n):(wB fit hk ak r w rk l).n<=r*(w-1)*g:=by unfold wB;calc av (DN λc _=>acW j c) ?_;rw[zO];show mE _<|Nat.mul_le_mul_left _ zo
def Lz {α β:Type}{f:α->İ β}{l:İ α}{n:ı}{x:α}(h:l[n]?=į x):(l.Ã<|n+1).flatMap f=(l.Ã n).flatMap f++f x:=by rw[bv,h,sP];simp
def Q5 (C B:Ķ):Sp:=λvs H Q _=>∃(b k d:Addr) (ws:AA) (r w:Nat) (ak aF:AA) (bi bj g:Nat) (rk:İ ı),vs=[.v b,.v k,.À (S rk)]/\cW C H b r w ak aF bi bj/\jD B H k d ws/\ws.n<64/\rk.n<=100/\(∀l∈ws,∀ls,ls.n<=l.n->(gq ls rk).n<=g)/\g<=900/\ws.n*(r*(w-1)*g)<=1999/\
 ∀(p:Ķ) (as:İ Ķ) (us:AA) (H':Hp),aA H H'->H p=Ĳ->H' p=į (.É<|as.Q V.v)->us.æ ws->iM H' as (i_ ws (dZ ak r w bi bj) ak r w rk us)->as.n<=1999->Q (.v p) H'
def DX (D:aR K mg "layings_across" oV ["board","book","rack"])(QF:uf K CB)(Q6:Meth K CB "words" f2)(Q7:dJ P w K mg base fP 1 f2 fd2 ["self"] (Vp CB))(Q8:cV K fd2 ["self"] [])(J6:bD P w K mg base "letters_down" 11 ["board","book"] (aaE C CB))(ae2:bD P w K mg base "hooks" 5 ["board"] (Vy C))(acX:bD P w K mg base "starts" 1 ["board","word"] (QV C))(FT:bD P w K mg base "letters_to_lay" 4 ["board","row","column","word"] (Vz C))(M9:bD P w K mg base "can_be_laid" 2 ["triples","fitting","joining"] (adR K))(Q9:bD P w K mg base "layings_of" 10 ["triples","rack"] VB):bD P w K mg base "layings_across" 12 ["board","book","rack"] (Q5 C CB):=by
 calc D.cU eU ?_;intro f bF A outer s H vs Q E hr h;let(b,k,d,ws,r,w,ak,aF,bi,bj,g,rk,rfl,B,BK,XR,hrk,hg,hg9,hbd,q):=h;let O:=B.ok;calc%[0,_,(aD (aO (i:=3) eU.nd rb (Or.Â rb)<|bf J6 hr.Ô rb<|aj aK<|aj aX aq)<|aD (aO (i:=4) eU.nd rb (Or.Â rb)<|bf ae2 hr.Ô rb<|aj aK aq)<|aD (aO (i:=5) eU.nd rb (Or.Â rb)<|fK aq)<|aD (dz ck rb (fH<|Ez aX QF.cl Q6 Q7 hr.Ô Q8 .ê jo) (bG (i:=6) eU.nd rb<|Or.Â rb)<|aG<|dz ck rb (g_<|bf acX hr.Ô rb<|aj aK<|aj dM aq) (lN rb<|cu (bG (i:=7) eU.nd rb<|Or.Â rb)<|cu (bG (i:=8) eU.nd rb<|Or.Â rb) jM)<|aD (aO (i:=9) eU.nd rb (Or.Â rb)<|bf FT hr.Ô rb<|aj aK<|aj iU<|aj iV<|aj dM aq)<|aG<|dF (f9<|bf M9 hr.Ô rb<|aj iW<|aj bN<|aj b_ aq) (aG<|gb<|d7 di my mB q_ cI<|aj (bf Q9 hr.Ô rb<|aj iW<|aj bw aq) aq) cC)<|aG<|aY cI)|?_];calc%[5,b,k,d|%[66,ws,r,w,ak,aF,bi,bj,rb,B,BK|λpd kvs H1 s1 hn1 hd1 hkv=>?_]];calc%[21,b,r,w,ak,aF,bi,bj,rb,B.mv s1|λpj js H2 s2 hj2 hJ2=>?_];let sj:=s1.X s2;let hd2:=s2 _ _ hd1;calc%[zsz 0|λF hF=>?_];let s0:aA H2 (upd H2 F<|HO.É []):=aA.å hF;let yC:upd H2 F (HO.É []) F=į (.É []):=au;generalize upd H2 F (HO.É [])=H0 at s0 yC ⊢;let BK0:=BK.same<|sj.X s0;let(dk,ek):=BK0.ob;calc%[11,k,dk,_,rb,ek,rb|%[11,k,d,ws,rb,BK0,XR|λpu us H3 s3 hnu hpu pm _=>?_]];let s23:=s0.X s3;let tE:=s3 _ _ yC;let HS:us.n=ws.n:=pm.Ē;let huw:∀l∈us,nJ l:=λl hl=>BK.az l<|pm.à.mp hl;let aiE:4000<=Ŀ:=by decide
 refine%[2,pu,rb,%[_|aQ.of hpu]|m8 (K:=K) (a:=pu) (xs:=Ts us) (λn I H4=>∃(v6 v7 v8 v9:ĵ V) (as:İ Ķ),I=[į (.v b),į (.v k),į (.À<|S rk),į (.v pd),į (.v pj),į (.v F),v6,v7,v8,v9]/\aA H2 H4/\H4 pu=į (.Æ<|Ts us)/\H4 F=į (.É<|as.Q V.v)/\iM H4 as ((us.Ã n).flatMap<|wB (qM ws ak) (dZ ak r w bi bj) ak r w rk))
  %[29,Ĳ,Ĳ,Ĳ,Ĳ,[],rb,s23,hpu,tE|iM.ê] (λn I H4 _ h=>by let(_,_,_,_,_,_,_,h2,_):=h;show aQ.of h2) ?_ ?_]
 .intro n x I H4 hx z;let(v6,v7,v8,v9,as,rfl,s4,hu4,qm,hY):=z;let(l,hl,rfl):=pU hx;let hnl:n<us.n:=(am.mp hl).1;let hW:=huw l<|a7 hl;let hl2:=hW.lo;let hl9:=hW.hi;let hal:as.n<=n*(r*(w-1)*g):=by
   rw[hY.len];calc av (DN (b:=r*(w-1)*g) λx hx=>Ly (hg x<|pm.à.mp<|dq hx) (huw x<|dq hx).lo) ?_;show mE _ (by rw[ba];lia)
  let hbig:(n+1)*(r*(w-1)*g)<=1999:=av (mE _ zo) hbd;let B4:=B.mv<|sj.X s4;calc%[6,b,r|%[64,w,ak,aF,bi,bj,l,rb,B4,hl9|λps cs H5 s5 hn5 hp5 Vx=>?_]];let s25:=s4.X s5;let hF5:=s5 _ _ qm;let nsF:ps≠F:=λz=>by rw[z,qm]at hn5;cases hn5
  let vV:=hg l<|pm.à.mp<|a7 hl;let hcl:cs.n<=r*(w-1):=by rw[Vx.len,zO];show Nat.mul_le_mul_left _ zo
  refine%[2,ps,rb,%[_|aZ.of hp5]|uh (K:=K) (a:=ps) (xs:=cs.Q V.v) (λm I L=>∃(v7 v8 v9:ĵ V) (bs:İ Ķ),I=[į (.v b),į (.v k),į (.À<|S rk),į (.v pd),į (.v pj),į (.v F),į (.À<|S l),v7,v8,v9]/\aA H2 L/\L pu=į (.Æ<|Ts us)/\L ps=į (.É<|cs.Q V.v)/\d_ L cs (iZ r w l.n)/\L F=į (.É<|bs.Q V.v)/\
    iM L bs ((us.Ã n).flatMap (wB (qM ws ak) (dZ ak r w bi bj) ak r w rk)++((iZ r w l.n).Ã m).flatMap (sS (qM ws ak) (dZ ak r w bi bj) ak r w rk l))/\bs.n<=as.n+m*g)
   %[36,v7,v8,v9,as,rb,s25,s5 _ _ hu4,hp5,Vx,hF5,by simpa using hY.mv s5|zo] (λm I L _ h=>by let(_,_,_,_,_,_,_,h2,_):=h;show aZ.of h2) ?_ ?_]
  .intro m x I L hx z;let(v7,v8,v9,bs,rfl,s6,Z,G7,G,M,HW,hb6):=z;let(hi,hx):=rfg hx;subst hx;let(c,ec,hc):=G.ď hi;let(hc1,hc2):=Hx.mp (a7 ec);let hmg:as.n+(m+1)*g<=1999:=by
    let h1:(m+1)*g<=r*(w-1)*g:=mE _ zo;let h2:(n+1)*(r*(w-1)*g)=n*(r*(w-1)*g)+r*(w-1)*g:=tP _ _;lia
   let ajU:(m+1)*g=m*g+g:=tP _ _;calc%[44,cs[m],_,rb,aQ.of hc,rb,_,_,rb,_,_,rb,rb|?_];let B6:=B.mv<|sj.X s6;calc%[5,b,r,w|%[58,ak,aF,bi,bj,c.1,c.2,l,rb,B6,by have:=O.w9;lia,hl9|λpt ats H7 N hn7 Ep hT7=>?_]];let s27:=s6.X N;let hF7:=N _ _ M;let ntF:pt≠F:=λz=>by rw[z,M]at hn7;cases hn7
   let htl:=wA ak r w c.1 c.2 l;let hfree:∀t∈dO ak r w c.1 c.2 l,cT t∈qW ak r w:=λt ht=>HN hc1 hc2 ht;calc%[5,pt,pd,pj|%[62,ats,js,dO ak r w c.1 c.2 l,kvs,qM ws ak,dZ ak r w bi bj,rb,Ep,hT7,zo,s27 _ _ hd2,λt ht=>hkv _<|hfree t ht,s27 _ _ hj2,hJ2.mv s27|λH8 J=>(bB _ rb ?_)]];let s28:=s27.X J;let hF8:=J _ _ hF7;let keep:∀(H9:Hp) (cs':İ Ķ),aA H8 H9->iM H9 cs' (sS (qM ws ak) (dZ ak r w bi bj) ak r w rk l c)->iM H9 (bs++cs') ((us.Ã n).flatMap (wB (qM ws ak) (dZ ak r w bi bj) ak r w rk)++((iZ r w l.n).Ã<|m+1).flatMap (sS (qM ws ak) (dZ ak r w bi bj) ak r w rk l)):=λH9 cs' s9 hY'=>by rw[Lz ec,<-b7];show(((HW.mv N).mv J).mv s9).app hY'
   by_cases j:sO (qM ws ak) (dZ ak r w bi bj) (dO ak r w c.1 c.2 l)=Ĵ
   .rw[j];let h7:(dO ak r w c.1 c.2 l).n<=7:=by
     unfold sO at j;simp only[eD,oy]at j;show j.1.2
    let acY:sS (qM ws ak) (dZ ak r w bi bj) ak r w rk l c=rF (dO ak r w c.1 c.2 l) rk:=by unfold sS;rw[ĺ j]
    calc cP %[.Â %[8,rb,_|aZ.of hF8]|%[36,pt,ats,dO ak r w c.1 c.2 l,rk,rb,J _ _ Ep,hT7.mv J,h7,λt ht=>Cw hW ht,hrk,av (vV _ (by unfold eY;rw[aa];show wA ..)) hg9|λpl ls H9 s9 hn9 hp9 hY9=>?_]];let Y:=s9 _ _ hF8;let hll:ls.n<=g:=by rw[hY9.len];unfold rF;rw[aa];show vV _ (by unfold eY;rw[aa];show wA ..)
    calc%[14,F,pl,_,_,rb,rb,Y,hp9,by rw[aa,aa];lia|?_];calc%[36,_,_,_,bs++ls,rb,(s28.X s9).bJ hF,?_,by rw[aU nsF];show s9 _ _<|J _ _<|N _ _ G7,?_,by rw[au,bo],?_|by rw[ax];lia];.show eE Y _ _<|s9 _ _<|J _ _<|N _ _ Z
    .show(((G.mv N).mv J).mv s9).d9<|eE Y
    .show(keep H9 ls s9 (by rw[acY];show hY9)).d9<|eE Y
   .rw[vj.á j];let acY:sS (qM ws ak) (dZ ak r w bi bj) ak r w rk l c=[]:=by unfold sS;rw[Ĺ j]
    calc cG %[36,_,_,_,bs,rb,s28,J _ _<|N _ _ Z,J _ _<|N _ _ G7,(G.mv N).mv J,hF8,?_|zo];have:=keep H8 [] (aA.Ę _) (by rw[acY];show iM.ê);rw[fi]at this;show this
  .intro I L z;let(v7,v8,v9,bs,rfl,s6,Z,G7,G,M,HW,hb6):=z;calc%[29,_,_,_,_,bs,rb,s6,Z,M|?_];rw[aa,G.len,cK]at HW;rw[Lz hl];show HW
 .intro I H4 z;let(v6,v7,v8,v9,as,rfl,s4,hu4,qm,hY):=z;rw[aa,cK]at hY;let hal:as.n<=1999:=by
   rw[hY.len];calc av (DN (b:=r*(w-1)*g) λx hx=>Ly (hg x<|pm.à.mp hx) (huw x hx).lo) ?_;rw[HS];show hbd
  show(q F as us H4 (sj.X s4) (sj.Õ hF) qm pm hY hal)
def aaF {r w:ı}{ak:AA}(B:Blk r w ak){i j:ı}(hi:i<r)(D:j<w):cell (cQ ak w) j i=cell ak i j:=by
 let g:i<ak.n:=by rw[B.len];show hi
 unfold cell;rw[show (cQ ak w).Î j []=jJ ak j by
  unfold cQ;rw[ap,bz,nt D];rfl]
 unfold jJ;rw[ap,bz,ae g,ap (l:=ak),ae g];rfl
def ae3 {r w:ı}{ak:AA}(B:Blk r w ak){i j:ı}(hi:i<r)(g:j<w):atC (cQ ak w) w r (j:ĸ) (i:ĸ)=atC ak r w (i:ĸ) (j:ĸ):=by unfold atC;rw[ĺ %[zo,i8 dC g,zo|zo],ĺ %[zo,zo,zo|zo]];show aaF B hi g
def zT (ak):isFree ak=Ĵ↔∀l∈ak,∀c∈l,c=46:=by
 unfold isFree;rw[kR];constructor
 .intro h l j c B;simpa using h c (si.á %[0,l,j|B])
 .intro h c B;let(l,j,g):=si.mp B;simpa using h l j c g
def aaG {r w:ı}{ak:AA}(g:Blk r w ak):isFree (cQ ak w)=isFree ak:=by
 cases h1:isFree ak with
 | true=>show(zT _).á<|zN g<|(zT _).mp h1
 | false=>
  cases j:isFree (cQ ak w) with| false=>rfl| true=>have:=zN (Fz g)<|(zT _).mp j;rw[aat g]at this;rw[(zT _).á this]at h1;cases h1
def FW {r w:ı}{ak:AA}(g:Blk r w ak)(u v:ĸ):atC (cQ ak w) w r v u=atC ak r w u v:=by
 by_cases h:0<=u/\u<r/\0<=v/\v<w
 .obtain⟨i,rfl⟩:∃k:Nat,u=k:=%[u.Ü|zo]
  obtain⟨j,rfl⟩:∃k:Nat,v=k:=%[v.Ü|zo]
  show ae3 g (by simp_all) (by simp_all)
 .let e1:atC ak r w u v=46:=Ĺ h;let e2:atC (cQ ak w) w r v u=46:=Ĺ λz=>h %[z.2.2.1,z.2.2.2,z.1|z.2.1];rw[e1,e2]
def ae4 {r w:ı}{ak:AA}(g:Blk r w ak)(u v:ĸ):Hr (cQ ak w) w r v u=Hr ak r w u v:=by unfold Hr poss;simp only[pE,List.any_nil,vT,FW g];generalize (!ľ ([atC ak r w u (v-1)]=[46]))=a;generalize (!ľ ([atC ak r w u (v+1)]=[46]))=b;generalize (!ľ ([atC ak r w (u-1) v]=[46]))=c;generalize (!ľ ([atC ak r w (u+1) v]=[46]))=d;cases a <;> cases b <;> cases c <;> cases d <;> rfl
def Q_ {ak:AA}{r w:ı}{c:ı×ı}:c∈wz ak r w↔(c.1<r/\c.2<w)/\frB ak r w c=Ĵ/\Em ak r w c=Ĵ:=by unfold wz;rw[sQ,aaB,eD]
def aaH {r w:ı}{ak:AA}(g:Blk r w ak)(i j:ı):(j,i)∈wz (cQ ak w) w r↔(i,j)∈wz ak r w:=by
 rw[Q_,Q_];let e1:frB (cQ ak w) w r (j,i)=frB ak r w (i,j):=by unfold frB;rw[FW g]
 let e2:Em (cQ ak w) w r (j,i)=Em ak r w (i,j):=ae4 g _ _;rw[e1,e2];show%[λ⟨⟨a,b⟩,c⟩=>%[%[b|a]|c]|λ⟨⟨a,b⟩,c⟩=>%[%[b|a]|c]]
theorem FZ:∀(ls rk:İ ı) {t:İ ı},(∀c∈ls,isLet c)->t∈gq ls rk->∀c∈t,uQ c
 | [],_,t,_,h,c,g=>by rw[al.mp h]at g;simp at g
 | d::ls,rk,t,hl,h,c,g=>by
  let hd:=hl d aE;let j:∀c∈ls,isLet c:=λc g=>hl c<|ay _ g;unfold gq at h;rcases a8.mp h with z|z
  .split at z
   .let(u,B,rfl):=aI.mp z;rcases a_.mp g with e|e;.rw[e];show Qq hd
    .show FZ ls _ j B c e
   .simp at z
  .split at z
   .let(u,B,rfl):=aI.mp z;rcases a_.mp g with e|e;.rw[e,(J5 hd).1];show aao hd
    .show FZ ls _ j B c e
   .simp at z
theorem Ga:∀{ts:İ bL} {ss:İ ı},ts.n=ss.n->(jT ts ss).Q cT=ts.Q cT/\eY (jT ts ss)=ss
 | [],[],_=>%[rb|rb]
 | [],_::_,h=>by simp at h
 | _::_,[],h=>by simp at h
 | t::ts,c::ss,h=>by
  let g:=Ga (ts:=ts) (ss:=ss) (by simpa using h);constructor
  .show cT t::(jT ts ss).Q cT=cT t::ts.Q cT;rw[g.1]
  .show c::eY (jT ts ss)=c::ss;rw[g.2]
theorem Cy (ak)(r w i j)(l):∀n,((oM ak r w i j l n).Q λt=>t.2.1).Ä (·<·)/\∀t∈oM ak r w i j l n,t.1=i/\t.2.1<j+n
 | 0=>%[List.Ä.ê|λt h=>by simp[oM]at h]
 | n+1=>by
  let(h1,B):=Cy ak r w i j l n;rw[zQ];cases e:pZ ak r w i j l n with
  | none=>simp only[Option.toList_none,fi];show%[h1|λt g=>%[(B t g).1|ff (B t g).2]]
  | some u=>
   let F:u=(i,j+n,l.Î n 0):=by
    unfold pZ at e;split at e;.show(bg e).Ò
    .cases e
   subst F;simp only[Option.toList_some];constructor
   .rw[bo,fc];calc%[h1,zr|λa ha b D=>?_];let(t,g,rfl):=aI.mp ha;simp only[bX,ml,al]at D;rw[D];show(B t g).2
   .intro t g;rcases a8.mp g with z|z;.show%[(B t z).1|ff (B t z).2]
    .rw[al.mp z];show%[rb|fm _]
def aaI (ak)(r w i j)(l):((dO ak r w i j l).Q λt=>t.2.1).Ä (·<·)/\∀t∈dO ak r w i j l,t.1=i:=by
 unfold dO;split;.show%[(Cy ak r w i j l _).1|λt g=>((Cy ak r w i j l _).2 t g).1]
 .show%[List.Ä.ê|λt h=>by simp at h]
structure ji (ak:AA)(r w:ı)(hk:İ (ı×ı))(ts:İ bL):Prop where
 ne:ts≠[]
 len:ts.n<=7
 cell:∀t∈ts,t.1<r/\t.2.1<w/\atC ak r w t.1 t.2.1=46/\uQ t.2.2
 row:∃i,∀t∈ts,t.1=i
 col:(ts.Q λt=>t.2.1).Ä (·<·)
 hook:∃t∈ts,cT t∈hk
def rG {ws us:AA}{hk:İ (ı×ı)}{ak:AA}{r w:ı}{rk:İ ı}(hw:∀l∈us,nJ l)(h:x∈i_ ws hk ak r w rk us):ji ak r w hk x:=by
 unfold i_ at h;let(l,hl,h):=g6.mp h;unfold wB at h;let(c,hc,h):=g6.mp h;let(L,M):=Hx.mp hc;unfold sS at h;split at h
 .rename_i g;unfold rF at h;let(ss,F,rfl):=aI.mp h;let Z:(dO ak r w c.1 c.2 l).n=ss.n:=by rw[ug _ _ F];unfold eY;rw[aa]
  let(e1,e2):=Ga Z;let O:=Lw Z;unfold sO at g;simp only[eD,oy]at g;let((n1,n7),_,G):=g;let(k1,k2):=aaI ak r w c.1 c.2 l;let N:∀d∈eY (dO ak r w c.1 c.2 l),isLet d:=λd hd=>by let(t,j,rfl):=aI.mp hd;show Cw (hw l hl) j
  let D:∀t∈jT (dO ak r w c.1 c.2 l) ss,∃t'∈dO ak r w c.1 c.2 l,cT t'=cT t:=λt j=>by
   have:cT t∈(dO ak r w c.1 c.2 l).Q cT:=by rw[<-e1];show eB j
   let(t',h1,B):=aI.mp this;show%[0,t',h1|B]
  calc%[λz=>?_,zo,λt j=>?_,%[c.1|λt j=>?_],?_|?_];.rw[z]at O;simp at O;lia
  .let(t',h1,B):=D t j;let J:=FQ.mp<|HN L M h1;rw[B]at J;show%[J.1.1,J.1.2,J.2|FZ _ _ N F _ (by rw[<-e2];show eB (f:=λt:bL=>t.2.2) j)]
  .let(t',h1,B):=D t j;have:=k2 t' h1;let Y:(cT t').1=(cT t).1:=by rw[B]
   let Y:t'.1=t.1:=Y;lia
  .let e3:(jT (dO ak r w c.1 c.2 l) ss).Q (λt=>t.2.1)=(dO ak r w c.1 c.2 l).Q λt=>t.2.1:=by
    have:=Ő (List.Q Prod.snd) e1;rw[dm,dm]at this;show this
   rw[e3];show k1
  .let(t',h1,B):=yv.mp G;let B:=eK B;have:cT t'∈(jT (dO ak r w c.1 c.2 l) ss).Q cT:=by rw[e1];show eB h1
   let(t,j,e):=aI.mp this;show%[0,t,j|by rw[e];show B]
 .simp at h
def ji.rk {ak:AA}{r w:ı}{hk:İ (ı×ı)}(h:ji ak r w hk ts):(ts.Q My.rk).Ä (·<·):=by let(i,hi):=h.row;let g:=h.col;rw[eL]at g ⊢;calc jS (λ{a b} ha hb hab=>?_) g;unfold My.rk;rw[hi a ha,hi b hb];show sv hab _
def ji.rkw {ak:AA}{r w:ı}{hk:İ (ı×ı)}(h:ji ak r w hk ts):((ts.Q sw).Q My.rk).Ä (·<·):=by let(i,hi):=h.row;let g:=h.col;rw[dm,eL];rw[eL]at g;calc jS (λ{a b} ha hb hab=>?_) g;show a.2.1*1000+a.1<b.2.1*1000+b.1;rw[hi a ha,hi b hb];simp_all
structure HX (ak:AA)(r w:ı)(hk:İ (ı×ı))(ts:İ bL):Prop where
 ne:ts≠[]
 len:ts.n<=7
 cell:∀t∈ts,t.1<r/\t.2.1<w/\atC ak r w t.1 t.2.1=46/\uQ t.2.2
 rk:(ts.Q My.rk).Ä (·<·)
 hook:∃t∈ts,cT t∈hk
def T6 {r w bi bj:ı}{ak:AA}(j:Blk r w ak){c:ı×ı}(h:c∈dZ (cQ ak w) w r bj bi):(c.2,c.1)∈dZ ak r w bi bj:=by
 unfold dZ at h ⊢;rw[aaG j]at h;split at h
 .rename_i g;rw[ĺ g];rw[al.mp h];show al.á rfl
 .rename_i g;rw[Ĺ g];show(aaH j c.2 c.1).mp h
def wY (ws:AA)(ak:AA)(r w bi bj:ı)(rk:İ ı):İ (İ bL):=i_ ws (dZ ak r w bi bj) ak r w rk ws++(i_ ws (dZ (cQ ak w) w r bj bi) (cQ ak w) w r rk ws).Q λts=>ts.Q sw
def ji.ok {ak:AA}{r w:ı}{hk:İ (ı×ı)}(h:ji ak r w hk ts):HX ak r w hk ts:=%[h.ne,h.đ,h.ø,h.rk|h.hook]
def ji.down {ak:AA}{r w bi bj:ı}(j:Blk r w ak)(h:ji (cQ ak w) w r (dZ (cQ ak w) w r bj bi) ts):HX ak r w (dZ ak r w bi bj) (ts.Q sw):=by
 refine%[λz=>h.ne<|xl.mp z,by rw[aa];show h.đ,λt g=>?_,h.rkw|?_]
 .let(u,D,rfl):=aI.mp g;let(a,b,c,d):=h.ø u D;rw[FW j]at c;show%[b,a,c|d]
 .let(t,g,B):=h.hook;show%[0,sw t,eB g|T6 j B]
def yD {ws:AA}{ak:AA}{r w bi bj:ı}{rk:İ ı}(g:Blk r w ak)(hw:∀l∈ws,nJ l)(h:x∈wY ws ak r w bi bj rk):HX ak r w (dZ ak r w bi bj) x:=by
 unfold wY at h;rcases a8.mp h with z|z;.show(rG hw z).ok
 .let(u,j,rfl):=aI.mp z;show(rG hw j).down g
theorem HX.yq {ak:AA}{r w:ı}{hk:İ (ı×ı)}(h:HX ak r w hk ts)(r9:r<=9)(w9:w<=9):∀t∈ts,yq t:=λt g=>by let(a,b,_,d):=h.ø t g;show%[bq a r9,bq b w9|d.lt]
def wX.lay (h:wX H a ts)(B:ts≠[])(ok:∀t∈ts,yq t):BP K H a ts:=by
 let(bs,h1,j):=h;calc%[?_,B|λt F=>%[by have:=(ok t F).2.1;lia|(ok t F).2.2]];calc .Æ (aQ.of h1) ?_;let D:∀bs:İ Ķ,(∀b∈bs,Cr H b (tO H b)/\(tO H b).2.2<128)->tR K H 1 ((bs.Q<|tO H).Q mU) (bs.Q V.v):=by
  intro bs
  induction bs with| nil=>show λ_=>.ê| cons b bs ih=>intro g;let(J,hz):=g b aE;show .Þ (.Æ (aQ.of J)<|.Þ (.I _)<|.Þ (.I _)<|.Þ (.À _ λc G=>by rw[al.mp G];show hz) .ê)<|ih λx hx=>g x<|ay _ hx
 have:=D bs λb g=>%[j.Ć b g|(ok _ (by rw[<-j.eq];show eB g)).2.2]
 rw[j.eq]at this;show this
theorem adS:∀{as bs:İ bL},(as.Q My.rk).Ä (·<·)->(bs.Q My.rk).Ä (·<·)->as.æ bs->as=bs
 | [],bs,_,_,p=>(List.nil_perm.mp p).Ò ▸ rfl
 | a::as,[],_,_,p=>Ł p.Ē zr
 | a::as,b::bs,ha,hb,p=>by
  let g:=fh.mp ha;let j:=fh.mp hb;let e:a=b:=by
   rcases a_.mp (p.à.mp<|aE (a:=a) (l:=as)) with z|z;.show z
   .rcases a_.mp (p.à.á<|aE (a:=b) (l:=bs)) with y|y;.show y.Ò
    .let h1:=j.1 (My.rk a)<|eB z;let B:=g.1 (My.rk b)<|eB y;lia
  subst e;rw[adS g.2 j.2 ((List.perm_cons _).mp p)]
def wZ {ws us:AA}{hk:İ (ı×ı)}{ak:AA}{r w:ı}{rk:İ ı}(p:us.æ ws)(x:İ bL):x∈i_ ws hk ak r w rk us↔x∈i_ ws hk ak r w rk ws:=by unfold i_;rw[g6,g6];show%[λ⟨l,h1,g⟩=>%[0,l,p.à.mp h1|g]|λ⟨l,h1,g⟩=>%[0,l,p.à.á h1|g]]
def XS (C B:Ķ):Sp:=λvs H Q _=>∃(b k d:Addr) (ws:AA) (r w:Nat) (ak aF:AA) (bi bj g:Nat) (rk:İ ı),vs=[.v b,.v k,.À (S rk)]/\cW C H b r w ak aF bi bj/\jD B H k d ws/\ws.n<64/\rk.n<=100/\(∀l∈ws,∀ls,ls.n<=l.n->(gq ls rk).n<=g)/\g<=900/\ws.n*(r*(w-1)*g)<=1999/\ws.n*(w*(r-1)*g)<=1999/\
 ∀(p:Ķ) (as:İ Ķ) (L:İ (İ bL)) (H':Hp),aA H H'->H' p=į (.Æ<|as.Q V.v)->iM H' as L->K_ L->L.Ö->L.n<=3998->(∀x,x∈L↔x∈wY ws ak r w bi bj rk)->Q (.v p) H'
def J7 (D:aR K mg "all_layings" rZ ["board","book","rack"])(DP:mg "set"=Ĳ)(eF:mg "sorted"=Ĳ)(bR:mg "tuple"=Ĳ)(cX:fU K C)(J8:Meth K C "turned" f3)(J9:dJ P w K mg base fP 8 f3 Ek ["self"] (Qz C))(J_:cV K Ek ["self"] [])(vh:bD P w K mg base "layings_across" 12 ["board","book","rack"] (Q5 C CB))(HY:bD P w K mg base "turned_laying" 1 ["laying"] aaC):bD P w K mg base "all_layings" 13 ["board","book","rack"] (XS C CB):=by
 calc D.cU qK ?_;intro f bF A outer s H vs Q E hr h;let(b,k,d,ws,r,j,ak,aF,bi,bj,g,rk,rfl,B,BK,XR,hrk,hg,hg9,hbd,hbe,q):=h;let O:=B.ok;let aiE:4000<=Ŀ:=by decide
 calc%[0,_,(aD (aO (i:=3) qK.nd rb (Or.Â rb)<|bf vh hr.Ô rb<|aj aK<|aj aX<|aj bw aq)<|aD (o_ (ix:=4) (ns:=["laying"]) qK.nd rb (Or.Â rb) rb (fG.of ["board","book","rack","across","down"] [] zC) (g_<|bf vh hr.Ô rb<|aj (Ez aK cX.cl J8 J9 hr.Ô J_ .ê jo)<|aj aX<|aj bw aq) (λ_ _ _ _ _=>(kj (show (["laying","board","book","rack","across","down"]:İ ņ).Ö by decide +kernel) rb zw)) (λ_ _ _ _ _=>cM) λ_ _ _ _ _=>(bf HY hr.Ô rb<|aj aK aq))<|aG<|aY<|cN dX zw bR df<|aj (aP (DR rb hr.ã) zw eF ii<|aj (cN (Ti rb hr.ã) zw DP PyProof.Ă.boot_set<|aj (aL YW bN b_) aq) aq) aq)|?_];calc%[5,b,k,d|%[5,ws,r,j|%[62,ak,aF,bi,bj,g,rk,rb,B,BK,XR,hrk,hg,hg9,hbd|λp1 J us1 H1 s1 hn1 hp1 LC hY1 hl1=>?_]]];let B1:=B.mv s1;let(dx,_,_,_,ex,_):=id B1.ex;calc%[11,b,dx,_,rb,ex,rb|%[21,b,r,j,ak,aF,bi,bj,rb,B1|λpt Ht st Bt=>?_]];let s1t:=s1.X st;calc%[5,pt,k,d|%[5,ws,j,r|%[62,cQ ak j,cQ aF j,bj,bi,g,rk,rb,Bt,BK.same s1t,XR,hrk,hg,hg9,hbe|λp2 as2 us2 H2 s2 hn2 hp2 Br hY2 hl2=>?_]]];let sH2:=s1t.X s2;let ajy:=s2 _ _<|st _ _ hp1;let ajz:=(hY1.mv st).mv s2;let hw1:∀l∈us1,nJ l:=λl hl=>BK.az l<|LC.à.mp hl;let hw2:∀l∈us2,nJ l:=λl hl=>BK.az l<|Br.à.mp hl;let ok2:∀x∈i_ ws (dZ (cQ ak j) j r bj bi) (cQ ak j) j r rk us2,ji (cQ ak j) j r (dZ (cQ ak j) j r bj bi) x:=λx hx=>rG hw2 hx;generalize hX:i_ ws (dZ (cQ ak j) j r bj bi) (cQ ak j) j r rk us2=X at hY2 ok2;refine%[2,p2,rb,%[_|aZ.of hp2]|λL hL=>qR (f:=eN [] 0) (tt:=gO) (K:=K) (a:=p2) (xs:=as2.Q V.v) (λi ys Z=>∃ds:İ Ķ,ys=ds.Q V.v/\ds.n=i/\Z L=į (.É ys)/\aA H2 Z/\iM Z ds ((X.Ã i).Q λts=>ts.Q sw))
  %[9,[],rb,rb,au,aA.å hL|iM.ê] (λi ys Z _ h=>by let(_,_,_,_,sm,_):=h;show aZ.of<|sm _ _ hp2) ?_ ?_]
 .intro i x ys Z hx z;let(ds,rfl,hdl,m7,s6,HW):=z;let(hi,hx):=rfg hx;subst hx;let(ts,et,(bs,hbs,vm)):=hY2.ď hi;let hok:=ok2 ts<|a7 et;let ajA:=(hok.ok).yq O.w9 O.r9;let hnd:(ts.Q λt=>My.rk<|sw t).Ö:=by
   have:=hok.rkw;rw[dm]at this;show List.Ä.imp (λ{a b} hab=>bb hab) this
  calc yR ?_;calc%[35,as2[i],bs,ts,rb,s6 _ _ hbs,vm.mv s6,ajA,hnd,by have:=hok.đ;lia|λp7 bs7 ts7 G s7 Ep hL7 pm7 pw7=>?_];let e7:ts7=ts.Q sw:=adS pw7 hok.rkw pm7;subst e7;let ahb:=s7 _ _ m7;calc%[ahb,by rw[aa,hdl];lia|dR.mk (by rw[aa];show hi) %[9,ds++[p7],zr,by simp[hdl],by rw[au],(s6.X s7).bJ hL|?_]];rw[bv,et,bo];show((HW.mv s7).app<|iM.one (ts:=ts.Q sw) %[0,bs7,Ep|hL7]).d9<|eE ahb
 .intro ys Z z;let(ds,rfl,hdl,m7,s6,HW):=z;rw[aa]at hdl;rw[cn (by rw[aa];have:=hY2.đ;lia)]at HW;let ajB:=s6 _ _ ajy;let ajC:=ajz.mv s6;calc%[14,p1,L,_,_,rb,rb,ajB,m7,by rw[aa,aa];lia|λpc hpc=>?_];let k7:aA Z (upd Z pc<|HO.É<|J.Q V.v++ds.Q V.v):=aA.å hpc;let ahc:upd Z pc (HO.É<|J.Q V.v++ds.Q V.v) pc=į (.É<|(J++ds).Q V.v):=by rw[au,bo]
  let H_:=(ajC.app HW).mv k7;let sH7:=(sH2.X s6).X k7;generalize upd Z pc (HO.É<|J.Q V.v++ds.Q V.v)=G at k7 ahc H_ sH7 ⊢;let Y:∀x,x∈(i_ ws (dZ ak r j bi bj) ak r j rk us1++X.Q λts=>ts.Q sw)↔x∈wY ws ak r j bi bj rk:=λx=>by
   unfold wY;rw[a8,a8,wZ LC,<-hX,aI,aI];constructor
   .rintro(z|⟨u,hu,rfl⟩);.show .Â z
    .show .Ð %[0,u,(wZ Br u).mp hu|rb]
   .rintro(z|⟨u,hu,rfl⟩);.show .Â z
    .show .Ð %[0,u,(wZ Br u).á hu|rb]
  generalize hM:(i_ ws (dZ ak r j bi bj) ak r j rk us1++X.Q λts=>ts.Q sw)=M at H_ Y;let hlay:∀a∈J++ds,BP K G a (lO G a):=λa ha=>by
   let hm:lO G a∈M:=by rw[<-H_.eq];show eB ha
   let hok:=yD O.br BK.az<|(Y _).mp hm;show(H_.Ć a ha).lay hok.ne<|hok.yq O.r9 O.w9
  calc%[10,pc,J++ds,lO G,rb,aZ.of ahc,by rw[ax];lia,hlay|λps bs hps N hnd hall=>?_];let k8:aA G (upd G ps<|HO.ext<|qI w ps bs):=aA.å hps;let ajD:upd G ps (HO.ext<|qI w ps bs) ps=į (.ext<|qI w ps bs):=au;let ig:bs.n<=J.n+ds.n:=by
   let h1:(bs.Q<|lO G).n<=M.n:=hnd.Ė (l₂:=M) λx hx=>by let(a,ha,rfl):=aI.mp hx;rw[<-H_.eq];show eB<|N a ha
   rw[aa]at h1;rw[<-H_.len,ax]at h1;show h1
  calc%[10,ps,bs,lO G,rb,ajD,zo,λa ha=>(hlay a<|N a ha).mv k8|λpq F hpq pmb up=>?_];let k9:=k8.bJ (o:=HO.É (F.Q V.v))<|k8.Õ hpq;let ajV:upd (upd G ps<|HO.ext<|qI w ps bs) pq (HO.É<|F.Q V.v) pq=į (.É<|F.Q V.v):=au;calc%[4,pq,_,rb|.Â %[aZ.of au|λT hT=>?_]];let k10:=k9.bJ (o:=HO.Æ (F.Q V.v))<|k9.Õ hT;let hYf:iM (upd (upd (upd G ps<|HO.ext<|qI w ps bs) pq<|HO.É<|F.Q V.v) T<|HO.Æ<|F.Q V.v) F (F.Q<|lO G):=(iM.mk (λa ha=>H_.Ć a<|N a<|pmb.à.mp ha) rb).mv k10;calc q T F _ _ (sH7.X k10) au hYf up ((pmb.Q<|lO G).nodup_iff.á hnd) (by rw[aa,pmb.length_eq];lia) λx=>?_;rw[<-Y x,(pmb.Q<|lO G).à];constructor
  .intro hx;let(a,ha,rfl):=aI.mp hx;rw[<-H_.eq];show eB<|N a ha
  .intro hx;rw[<-H_.eq]at hx;let(a,ha,rfl):=aI.mp hx;show hall a ha
theorem adT:∀{ts:İ bL},(∀t∈ts,t.1=i)->ts.Ä (λa b=>a.1=b.1)
 | [],_=>.ê
 | t::ts,h=>.Þ (λb g=>by rw[h t aE,h b (ay _ g)]) (adT λb g=>h b<|ay _ g)
def DQ (ts:İ bL):Prop:=ts.Ä (λa b=>a.1=b.1)\/ts.Ä (λa b=>a.1<b.1)
def zU (ts:İ bL):Prop:=(∃i,(∀t∈ts,t.1=i)/\ts.Ä (λa b=>a.2.1<b.2.1))\/(∃j,(∀t∈ts,t.2.1=j)/\ts.Ä (λa b=>a.1<b.1))
def zU.one (h:zU ts):DQ ts:=by
 rcases h with⟨i,h,_⟩|⟨_,_,h⟩;.show .Â<|adT h
 .show .Ð h
def Ra (g:H M=į (.É ys)):∀a xs,H a=į (.Æ xs)->upd H M (.É zs) a=į (.Æ xs):=λa xs e=>by
 let ne:a≠M:=λz=>by rw[z,g]at e;cases e
 rw[aU ne];show e
def aaJ:Sp:=λvs H Q _=>∃(pr t:Addr) (as:İ Ķ) (ts:İ bL) (r w:Nat) (ak:AA),vs=[.v pr,.v t]/\H pr=į (.Æ<|Ts ak)/\Blk r w ak/\r<=9/\w<=9/\H t=į (.Æ<|as.Q V.v)/\dH H as ts/\(∀t∈ts,inB r w t)/\
 ∀(M:Ķ) (ps:İ Ķ) (H':Hp),aA H H'->H' M=į (.É<|ps.Q V.v)->dg H H' ps (dW ak ts)->Q (.v M) H'
def ae5 (D:aR K mg "_law_grid" Qm ["_law_rows","_law_laying"])(jE:mg "list"=Ĳ):bD P w K mg base "_law_grid" 1 ["_law_rows","_law_laying"] aaJ:=by
 calc D.cU yg ?_;intro f bF A outer s H vs Q E hr h;let(pr,t,as,ts,r,w,ak,rfl,hpr,j,r9,w9,ht,hL,dU,q):=h;calc%[0,_,(aD (o_ (ix:=2) (ns:=["_law_row"]) yg.nd rb (Or.Â rb) rb (fG.of ["_law_rows","_law_laying","_law_grid_here",".3","_law_column","_law_sign_here"] [3] zC) (fH aK) (λ_ _ _ _ _=>(kj (show (["_law_row","_law_rows","_law_laying","_law_grid_here",".3","_law_column","_law_sign_here"]:İ ņ).Ö by decide +kernel) rb zw)) (λ_ _ _ _ _=>cM) λ_ _ _ _ _=>(cN (tU rb) zw jE nE<|aj aK aq))<|aD (dz ck rb (fH aX) (lN rb<|cu (bG (i:=3) yg.nd rb<|Or.Â rb)<|cu (bG (i:=4) yg.nd rb<|Or.Â rb)<|cu (bG (i:=5) yg.nd rb<|Or.Â rb) jM)<|aG<|xg cI<|Gw (aV fj bw bN λ_ _=>rfl) b_ set_list)<|aG<|aY bw)|?_];refine%[2,pr,rb,%[_|aQ.of hpr]|λM hM=>yQ (f:=eN [3] 0) (tt:=gO) (xs:=Ts ak) (λi ys Y=>∃ps:İ Ķ,ys=ps.Q V.v/\Y M=į (.É ys)/\aA H Y/\dg H Y ps (ak.Ã i)/\M∉ps)
  %[9,[],rb,au,aA.å hM,%[zr,oB,λp h=>by simp at h|λi h=>by simp at h]|zr] (λi ys Y _ h=>by let(_,_,_,B,_):=h;show aQ.of<|B _ _ hpr) ?_ ?_]
 .intro i x ys Y hi z;let(ps,rfl,iw,B,Z,nM):=z;let(l,hl,rfl):=pU hi;let hil:i<(Ts ak).n:=(am.mp hi).1;let yp:l.n=w:=j.iJ _<|a7 hl;let jt:(Ts ak).n=r:=by rw[aa,j.len]
  let hpl:ps.n<=9:=by rw[Z.len,ba,j.len];lia
  calc yR %[2,l,rb,zo|λc O=>?_];let QD:M≠c:=λz=>by rw[<-z,iw]at O;cases O
  let ncp:c∉ps:=λz=>by let(k,hk,e):=cy.mp z;have:=Z.Ć k hk;rw[e,O]at this;cases this
  refine%[by rw[aU QD];show iw,by rw[aa];show aJ zo|dR.mk hil %[9,ps++[c],zr,au,(B.bJ<|B.Õ O).bJ hM,?_|?_]]
  .rw[show ak.Ã (i+1)=ak.Ã i++[l] by rw[bv,hl];rfl];calc dg.mv ((Z.mvS<|aA.å O).snoc ncp (B.Õ O) au) λy hy=>aU λz=>?_;rcases a8.mp hy with u|u
   .show nM<|z ▸ u
   .show QD<|z.Ò.X<|al.mp u
  .intro z;rcases a8.mp z with u|u;.show nM u
   .show QD<|al.mp u
 .intro ys Y z;let(ps,rfl,iw,B,Z,nM):=z;rw[cn (by rw[aa];show ag _)]at Z;refine%[2,t,rb,%[_|aQ.of<|B _ _ ht]|m8 (K:=K) (a:=t) (xs:=as.Q V.v) (λi I J=>∃v3 v4 v5:ĵ V,I=[į (.v pr),į (.v t),į (.v M),v3,v4,v5]/\aA H J/\J M=į (.É<|ps.Q V.v)/\dg H J ps (dW ak<|ts.Ã i))
   %[11,Ĳ,Ĳ,Ĳ,rb,B,iw|Z] (λi I J _ h=>by let(_,_,_,_,B,_):=h;show aQ.of<|B _ _ ht) ?_ ?_]
  .intro i x I J g z;let(v3,v4,v5,rfl,F,tD,G):=z;rw[bz]at g;let hi:i<as.n:=by
    rcases dQ i as.n with z|z;.show z
    .rw[dv z]at g;cases g
   rw[ae hi]at g;let g:V.v as[i]=x:=bg g;subst g;let(u,eu,hU):=hL.ď hi;let hum:=a7 eu;let(u1,u2,u3):=dU u hum;let N:Blk r w (dW ak<|ts.Ã i):=mZ j λy hy=>dU y<|dq hy;let hpl:ps.n=r:=by rw[G.len,N.len]
   let L:u.1<ps.n:=by simp_all
   calc%[1,as[i],_,rb,aQ.of<|F _ _ hU|%[19,rb,_,_,rb|%[6,_,_|%[17,rb,_,_,rb,rb|?_]]]];refine%[3,M,_,_,.v ps[u.1],rb,rb,aZ.of tD,aN (by simp[L])|%[3,ps[u.1],_,_,u.2.1,rb,rb,G.Ć u.1 L,?_|?_]]
   .have:((dW ak<|ts.Ã i).Î u.1 []).n=w:=by
     rw[ap,ae (by rw[N.len];show u1)];show N.iJ _<|aS _
    unfold xu;rw[aa,aa,this,ĺ (dA _),ĺ (i8 dC u2)];congr 1
   .refine%[11,_,_,_,rb,F.bJ<|G.fr _<|aS _,?_|?_]
    .let ne:M≠ps[u.1]:=λz=>nM (by rw[z];show aS _)
     rw[aU ne];show tD
    .rw[show dW ak (ts.Ã<|i+1)=setAt (dW ak<|ts.Ã i) u.1 u.2.1 u.2.2 by rw[bv,eu];show Lq _ _ _];show G.ē L
  .intro I J z;let(v3,v4,v5,rfl,F,tD,G):=z;rw[cn (by rw[aa,hL.len];show ag _)]at G;let B':=mZ j dU;let hpl:ps.n=r:=by rw[G.len,B'.len]
   show(q M ps J F tD G)
def ae6 {l:İ ı}(g:low<=k)(B:k<=high)(j:high<=l.n)(b1:cJ (l.Ã k)=(l.Ã k).Ì low)(b2:dN (l.Ì k)=(l.Ì k).Ã (high-k)):cJ (l.Ã k)++dN (l.Ì k)=(l.Ì low).Ã (high-low)/\(cJ<|l.Ã k).n=k-low:=by
 constructor;.rw[b1,b2,List.drop_take,show high-low=(k-low)+(high-k) by grind,List.take_add,List.drop_drop,show low+(k-low)=k from e_ g]
 .rw[b1,cS,ba];show fb zo
abbrev mq:=ı×ı×ı×İ ı
def yE (H:Hp)(a:Ķ)(q:mq):Prop:=H a=į (.Æ [.I q.1,.I q.2.1,.I q.2.2.1,.À (S q.2.2.2)])
def oZ (R:AA)(i j wy:ı):mq:=(if wy=0 then i else i-(cJ<|(lineOf R i j (wy:ĸ)).Ã i).n,if wy=0 then j-(cJ<|(lineOf R i j (wy:ĸ)).Ã j).n else j,wy,cJ ((lineOf R i j (wy:ĸ)).Ã<|placeOf i j (wy:ĸ))++dN ((lineOf R i j (wy:ĸ)).Ì<|placeOf i j (wy:ĸ)))
def fV (wy i x:ı):ı:=if wy=0 then i else x
def clo (wy j x:ı):ı:=if wy=0 then x else j
def aaK {r w:ı}{R:AA}(B:Blk r w R){i j wy x:ı}(hi:i<r)(hx:x<(lineOf R i j (wy:ĸ)).n):cell R (fV wy i x) (clo wy j x)=(lineOf R i j (wy:ĸ))[x]:=by
 unfold fV clo;by_cases h:wy=0
 .subst h;rw[ĺ rb,ĺ rfl];let g:x<(R.Î i []).n:=hx;let h1:(R.Î i []).Î x 0=(R.Î i [])[x]:=by rw[ap (l:=R.Î i []),ae g];rfl
  show h1
 .rw[Ĺ h,Ĺ h];let e:lineOf R i j (wy:ĸ)=jJ R j:=Ĺ zo;let g:x<(jJ R j).n:=by rw[<-e];show hx
  have:(lineOf R i j (wy:ĸ))[x]=(jJ R j)[x]:=by simp only[e]
  rw[this];unfold jJ at g ⊢;rw[aa]at g;rw[oS];unfold cell;rw[ap (l:=R),ae g];rfl
def zV {R:AA}{r w a b:ı}(h:dg H0 H ps R)(j:Blk r w R)(ha:a<r)(F:b<w):∃(hp:a<ps.n),H ps[a]=į (.É<|Ts<|ones<|R.Î a [])/\(Ts<|ones<|R.Î a [])[b]?=į (.À<|S [cell R a b])/\(Ts<|ones<|R.Î a []).n=w:=by
 let hp:a<ps.n:=by rw[h.len,j.len];show ha
 let g:a<R.n:=by rw[j.len];show ha
 let B:R.Î a []=R[a]:=by rw[ap,ae g];rfl
 let G:R[a].n=w:=j.iJ _<|aS _;calc%[2,hp,h.Ć a hp,?_|by rw[aa,aa,B,G]];let D:b<R[a].n:=by simp_all
 rw[B,cell_eq g D];simp[Ts,ones,D]
def aaL (K:W.Ë):Sp:=λvs H Q _=>∃(M:Addr) (H0:Hp) (ps:İ Ķ) (R:AA) (r w i j wy:Nat),vs=[.v M,.I i,.I j,.I wy]/\H M=į (.É<|ps.Q V.v)/\dg H0 H ps R/\Blk r w R/\r<=9/\w<=9/\i<r/\j<w/\wy<=1/\
 ∀(t:Ķ) (H':Hp),aA H H'->yE H' t (oZ R i j wy)->Q (.v t) H'
def X3 (D:aR K mg "_law_run" Xk ["_law_grid_here","_law_row","_law_column","_law_way"])(bh:mg "len"=Ĳ):bD P w K mg base "_law_run" 1 ["_law_grid_here","_law_row","_law_column","_law_way"] (aaL K):=by
 calc D.cU uN ?_;intro f bF A outer s H vs Q E hr h;let(M,H0,ps,R,r,w,i,j,wy,rfl,hM,iK,hb,r9,w9,hi,hj,hwy,q):=h;let hll:=nC hb hi (j:=j) (way:=(wy:ĸ));let hk:placeOf i j (wy:ĸ)<(lineOf R i j (wy:ĸ)).n:=by rw[hll];unfold placeOf;split <;> assumption
 let hl9:(lineOf R i j (wy:ĸ)).n<=9:=by rw[hll];split <;> assumption
 let F:=λx (hx:x<(lineOf R i j (wy:ĸ)).n)=>aaK hb hi (j:=j) (wy:=wy) hx;let hq:yE=yE:=rfl;let hkw:placeOf i j (wy:ĸ)=if wy=0 then j else i:=by
  unfold placeOf;by_cases z:wy=0;.rw[ĺ z,ĺ zo]
  .rw[Ĺ z,Ĺ (by simp_all)]
 let yp:(lineOf R i j (wy:ĸ)).n=if wy=0 then w else r:=by
  rw[hll];by_cases z:wy=0;.rw[ĺ z,ĺ zo]
  .rw[Ĺ z,Ĺ zo]
 let Ia:∀k g:ı,k=placeOf i j (wy:ĸ)->g+(cJ<|(lineOf R i j (wy:ĸ)).Ã k).n=k->oZ R i j wy=(fV wy i g,clo wy j g,wy,cJ ((lineOf R i j (wy:ĸ)).Ã k)++dN ((lineOf R i j (wy:ĸ)).Ì k)):=by
  intro k g ek hlow;unfold oZ fV clo;rw[<-ek];rw[hkw]at ek;by_cases z:wy=0
  .rw[ĺ z]at ek;subst ek;rw[ĺ z,ĺ z,ĺ z,ĺ z,show k-(cJ<|(lineOf R i k (wy:ĸ)).Ã k).n=g from fb zo]
  .rw[Ĺ z]at ek;subst ek;rw[Ĺ z,Ĺ z,Ĺ z,Ĺ z,show k-(cJ<|(lineOf R k j (wy:ĸ)).Ã k).n=g from fb zo]
 generalize hLL:lineOf R i j (wy:ĸ)=l at hk hl9 F yp Ia;generalize hKK:placeOf i j (wy:ĸ)=k at hk hkw Ia;let Ia:=Ia k;let hz:∀n,n<=100->n<=Ŀ:=λn h=>ar<|aJ zo;let hpl:ps.n=r:=by rw[iK.len,hb.len]
 let rr:∀x,x<l.n->fV wy i x<r:=λx hx=>by
  unfold fV;split;.show hi
  .rw[yp,Ĺ (by assumption)]at hx;show hx
 let cc:∀x,x<l.n->clo wy j x<w:=λx hx=>by
  unfold clo;split;.rw[yp,ĺ (by assumption)]at hx;show hx
  .show hj
 calc%[0,_,(aD (nW<|Ew ck (QW.qt<|pD (bK CW aX bN<|bU _)<|pD (bK CW bw (aL gK aB bN)<|bU _)<|qw<|bK xK (aV fj (aV fj aK (aL gK aX bN) λ_ _=>rfl) (aL bW (aL gK bw aB) bN) λ_ _=>rfl) (bV [46] zD)<|bU _)<|aD (aO (i:=1) uN.nd rb (Or.Â rb)<|aL gK aX bN)<|aG<|aO (i:=2) uN.nd rb (Or.Â rb)<|aL bW (aL gK bw aB) bN)<|aD (aO (i:=4) uN.nd rb (Or.Â rb)<|bV [] zD)<|aD (aO (i:=5) uN.nd rb (Or.Â rb)<|cO<|aj aX<|aj bw aq)<|aD (nW<|Ew ck (QW.qt<|pD (bK tL (aV bA cI aB λ_ _=>rfl) (aP cD zw bh bE<|aj aK aq)<|bU _)<|pD (bK tL (aV bA cI aB λ_ _=>rfl) (aP cD zw bh bE<|aj (aV fj aK aB λ_ _=>rfl) aq)<|bU _)<|qw<|bK xK (aV fj (aV fj aK (aV bA cI aB λ_ _=>rfl) λ_ _=>rfl) (aV bA cI aB λ_ _=>rfl) λ_ _=>rfl) (bV [46] zD)<|bU _)<|aD (aO (i:=4) uN.nd rb (Or.Â rb)<|aL lV b_<|aV fj (aV fj aK (aV bA cI aB λ_ _=>rfl) λ_ _=>rfl) (aV bA cI aB λ_ _=>rfl) λ_ _=>rfl)<|aG<|aO (i:=5) uN.nd rb (Or.Â rb)<|cO<|aj (aL bW (aV bA cI aB λ_ _=>rfl) bN)<|aj (aL gK (aL bW (aV bA cI aB λ_ _=>rfl) aB) bN) aq)<|aG<|aY<|cO<|aj aX<|aj bw<|aj bN<|aj b_ aq)|?_];let hM':aZ K H M (ps.Q V.v):=aZ.of hM;refine%[λI H'=>H'=H/\∃g:Nat,g<=k/\I=[į (.v M),į (.I<|fV wy i g),į (.I<|clo wy j g),į (.I wy),Ĳ,Ĳ]/\(∀x,g<=x->x<k->l[x]?≠į 46)/\(g=0\/l[g-1]?=į 46),?_|?_]
 .refine%[λm I H'=>H'=H/\m<=k/\I=[į (.v M),į (.I<|fV wy i m),į (.I<|clo wy j m),į (.I wy),Ĳ,Ĳ]/\∀x,m<=x->x<k->l[x]?≠į 46,%[18,k,rb,ag _,?_|λx h1 Z=>(Ł Z<|Nat.not_lt_of_ge h1)]|?_]
  .unfold fV clo;by_cases z:wy=0;.rw[ĺ z,ĺ z,hkw,ĺ z];rfl
   .rw[Ĺ z,Ĺ z,hkw,Ĺ z];rfl
  intro m I H' z;let(rfl,hm,rfl,hx):=z;let ahd:m=0->H'=H'/\∃g:Nat,g<=k/\([į (.v M),į (.I<|fV wy i m),į (.I<|clo wy j m),į (.I wy),Ĳ,Ĳ]:St)=[į (.v M),į (.I<|fV wy i g),į (.I<|clo wy j g),some (.I wy),none,none]/\(∀x,g<=x->x<k->l[x]?≠some 46)/\(g=0\/l[g-1]?=some 46):=λz=>%[rb|%[18,m,hm,rb,hx|.Â z]]
  refine%[1,_,_,rb,rb|oO (λN=>?_) λN=>?_]
  .refine%[23,_,_,rb,rb,_,_,rb,rb|oO (λO=>?_) λO=>?_]
   .let L:(wy:ĸ)<=(fV wy i m:ĸ):=eK N;let J:1-(wy:ĸ)<=(clo wy j m:ĸ):=eK O;let hm0:0<m:=by
     unfold fV at L;unfold clo at J;by_cases z:wy=0;.rw[ĺ z]at J;lia
     .rw[Ĺ z]at L;lia
    let Y:m-1<l.n:=jI zo;let(g1,g2,g3,_):=zV iK hb (rr (m-1) Y) (cc (m-1) Y);let er:(fV wy i m:ĸ)-(wy:ĸ)=(fV wy i (m-1):ĸ):=by
     unfold fV;by_cases z:wy=0;.rw[ĺ z,ĺ z];lia
     .rw[Ĺ z,Ĺ z];lia
    let ec:(clo wy j m:ĸ)-1+(wy:ĸ)=(clo wy j (m-1):ĸ):=by
     unfold clo;by_cases z:wy=0;.rw[ĺ z,ĺ z];lia
     .rw[Ĺ z,Ĺ z];lia
    calc%[1,_,_,rb,rb|%[3,M,_,_,.v ps[fV wy i (m-1)],rb,rb,hM',by show kh _ ((fV wy i m:ĸ)-(wy:ĸ))=_;rw[er];show aN (by simp[g1])|%[23,_,_,rb,rb,_,_,rb,rb|%[15,ps[fV wy i (m-1)],_,_,.À<|S [cell R (fV wy i<|m-1) (clo wy j<|m-1)],rb,rb,aZ.of g2|%[17,by show kh _ ((clo wy j m:ĸ)-1+(wy:ĸ))=_;rw[ec];show aN g3,_,_,rb,rb|bB _ rb ?_]]]]];rw[F _ Y];by_cases G:l[m-1]=46
    .rw[aw (show [l[m-1]]=[46] by rw[G])];show cG %[rb|%[18,m,hm,rb,hx|.Ð (by rw[ae Y,G])]]
    .rw[ai (show ¬[l[m-1]]=[46] by simpa using G)];refine cP %[0,λI H4=>H4=H'/\I=[į (.v M),į (.I<|fV wy i<|m-1),į (.I<|clo wy j<|m-1),some (.I wy),none,none],λI' Rb ⟨e1,e2⟩=>%[9,m-1,uA hm0 Nat.one_pos,e1,av (iX _ _) hm,e2|λx h1 Z=>?_]|?_]
     .by_cases hx2:x=m-1;.subst hx2;rw[ae Y];simpa using G
      .show hx x zo Z
     .calc%[1,_,_,rb,rb|%[33,_,_,rb,rb,_,_,rb,rb,rb|?_]];rw[<-er,<-ec];rfl
   .calc cG<|ahd ?_;let J:¬1-(wy:ĸ)<=(clo wy j m:ĸ):=λz=>O<|aw z;unfold clo at J;by_cases z:wy=0
    .rw[ĺ z]at J;lia
    .rw[Ĺ z]at J;lia
  .calc cG<|ahd ?_;let L:¬(wy:ĸ)<=(fV wy i m:ĸ):=λz=>N<|aw z;unfold fV at L;by_cases z:wy=0
   .rw[ĺ z]at L;simp_all
   .rw[Ĺ z]at L;lia
 intro I H' z;let(rfl,g,hlk,rfl,hx,hlow):=z;let adU:=acM hlk (ar hk) hx hlow;calc%[zsz 2|λt0 ht0=>?_];let k0:aA H' (upd H' t0<|HO.Æ [.I (fV wy i g),.I (clo wy j g)]):=aA.å ht0;refine%[λI Rb=>aA H' Rb/\∃v5:ĵ V,I=[į (.v M),į (.I<|fV wy i g),į (.I<|clo wy j g),į (.I wy),į (.À<|S<|cJ (l.Ã k)++dN (l.Ì k)),v5],?_|?_]
 .refine%[λm I Rb=>∃(B:Nat) (t:Addr),g<=B/\B<=l.n/\m=l.n-B/\aA H' Rb/\Rb t=į (.Æ [.I (fV wy i B),.I (clo wy j B)])/\I=[į (.v M),į (.I<|fV wy i g),į (.I<|clo wy j g),į (.I wy),į (.À<|S<|(l.Ì g).Ã<|B-g),į (.v t)]/\∀x,g<=x->x<B->l[x]?≠į 46,
   %[35,_,g,t0,ag _,zo,rb,k0,au,by rw[mr];rfl|λx h1 Z=>by lia]|?_]
  intro m I H2 z;let(B,t,h1,Z,rfl,sm,ht,rfl,hy):=z;let hS:=aQ.of (K:=K) ht;let iw:=aZ.of (K:=K)<|sm _ _ hM;let ahe:=iK.mvS sm;let ex:(B=l.n\/l[B]?=į 46)->aA H' H2/\∃v5:ĵ V,([į (.v M),į (.I<|fV wy i g),į (.I<|clo wy j g),į (.I wy),į (.À<|S<|(l.Ì g).Ã<|B-g),į (.v t)]:St)=[į (.v M),į (.I<|fV wy i g),į (.I<|clo wy j g),į (.I wy),į (.À<|S<|cJ (l.Ã k)++dN (l.Ì k)),v5]:=λhend=>by
   let hkg:k<=B:=by
    rcases dQ B k with z|z
    .rcases hend with e|e;.lia
     .show Ł e<|hx B h1 z
    .show z
   let(c1,_):=ae6 hlk hkg Z adU (aav hkg Z (λx a b=>hy x zo b) hend);show%[8,sm,_|by rw[c1]]
  let hlz:l.n-0=l.n:=rfl;let(gz,gz1,_,gz2):=zV ahe hb (show 0<r from gd (ci _) hi) (show 0<w by lia);refine%[3,t,_,_,_,rb,rb,hS,aN (j:=0) rb|%[23,M,_,rb,.Â iw,_,_,rb,rb|oO (λN=>?_) λN=>?_]]
  .refine%[3,t,_,_,_,rb,rb,hS,aN (j:=1) rb|%[3,M,_,_,.v ps[0],rb,rb,iw,aN (j:=0) (by simp[gz])|%[23,ps[0],_,rb,.Â<|aZ.of gz1,_,_,rb,rb|oO (λO=>?_) λO=>?_]]]
   .let L:(fV wy i B:ĸ)<((ps.Q V.v).n:ĸ):=eK N;let J:(clo wy j B:ĸ)<((Ts<|ones<|R.Î 0 []).n:ĸ):=eK O;rw[aa,hpl]at L;rw[gz2]at J;let vV:B<l.n:=by
     rw[yp];unfold fV at L;unfold clo at J;by_cases z:wy=0;.rw[ĺ z]at J ⊢;show Iff.mp dC J
     .rw[Ĺ z]at L ⊢;show Iff.mp dC L
    let(g1,g2,g3,_):=zV ahe hb (rr B vV) (cc B vV);calc%[3,t,_,_,_,rb,rb,hS,aN (j:=0) rb|%[3,M,_,_,.v ps[fV wy i B],rb,rb,iw,aN (by simp[g1])|%[3,t,_,_,_,rb,rb,hS,aN (j:=1) rb|%[15,ps[fV wy i B],_,_,.À<|S [cell R (fV wy i B) (clo wy j B)],rb,rb,aZ.of g2|%[17,aN g3,_,_,rb,rb|bB _ rb ?_]]]]];rw[F _ vV];by_cases G:l[B]=46
    .rw[aw (show [l[B]]=[46] by rw[G])];show cG<|ex<|.Ð (by rw[ae vV,G])
    .rw[ai (show ¬[l[B]]=[46] by simpa using G)];let er:(fV wy i B:ĸ)+(wy:ĸ)=(fV wy i (B+1):ĸ):=by
      unfold fV;by_cases z:wy=0;.rw[ĺ z,ĺ z];lia
      .rw[Ĺ z,Ĺ z];lia
     let ec:(clo wy j B:ĸ)+1-(wy:ĸ)=(clo wy j (B+1):ĸ):=by
      unfold clo;by_cases z:wy=0;.rw[ĺ z,ĺ z];lia
      .rw[Ĺ z,Ĺ z];lia
     let ajE:(l.Ì g).Ã (B-g)++[l[B]]=(l.Ì g).Ã (B+1-g):=by
      let bY:B-g<(l.Ì g).n:=by rw[cS];show wS h1 vV
      rw[show B+1-g=B-g+1 from fb zo,zl,ae bY,List.getElem_drop];simp only[show g+(B-g)=B from e_ h1];rfl
     refine cP %[λI H4=>∃t2:Addr,aA H' H4/\H4 t2=į (.Æ [.I (fV wy i<|B+1),.I (clo wy j<|B+1)])/\I=[į (.v M),į (.I<|fV wy i g),į (.I<|clo wy j g),į (.I wy),į (.À<|S<|(l.Ì g).Ã<|B+1-g),some (.v t2)],λI' Rb ⟨t2,e1,e2,e3⟩=>%[0,l.n-(B+1),sr vV<|fm _|%[28,B+1,t2,eJ h1,vV,rb,e1,e2,e3|λx a1 a2=>?_]]|?_]
     .by_cases hx2:x=B;.subst hx2;rw[ae vV];simpa using G
      .show hy x a1 zo
     .calc%[3,t,_,_,_,rb,rb,hS,aN (j:=0) rb|%[3,M,_,_,.v ps[fV wy i B],rb,rb,iw,aN (by simp[g1])|%[3,t,_,_,_,rb,rb,hS,aN (j:=1) rb|%[39,ps[fV wy i B],_,_,.À<|S [cell R (fV wy i B) (clo wy j B)],rb,rb,aZ.of g2,aN g3,(l.Ì g).Ã<|B-g,_,rb,rb,hz _ (by rw[ba,cS];simp;lia)|?_]]]];rw[F _ vV,ajE];calc%[15,t,_,_,_,rb,rb,hS|%[17,aN (j:=0) rb,_,_,rb,rb|%[3,t,_,_,_,rb,rb,hS,aN (j:=1) rb|%[33,_,_,rb,rb,_,_,rb,rb,zsz 2|λt2 Cu=>?_]]]];calc%[2,t2,sm.bJ<|sm.Õ Cu,?_|rb];rw[au,<-er,<-ec]
   .calc cG<|ex<|.Â ?_;let J:¬(clo wy j B:ĸ)<((Ts<|ones<|R.Î 0 []).n:Int):=λz=>O<|aw z;rw[gz2]at J;rw[yp]at Z ⊢;unfold clo at J;by_cases z:wy=0
    .rw[ĺ z]at J Z ⊢;lia
    .rw[Ĺ z]at J;lia
  .calc cG<|ex<|.Â ?_;let L:¬(fV wy i B:ĸ)<((ps.Q V.v).n:ĸ):=λz=>N<|aw z;rw[aa,hpl]at L;rw[yp]at Z ⊢;unfold fV at L;by_cases z:wy=0
   .rw[ĺ z]at L;lia
   .rw[Ĺ z]at L Z ⊢;(simp[dL,ee]at *;lia)
 .intro I Rb z;let(sm,v5,rfl):=z;calc%[zsz 4|λT hT=>?_];calc q T _ (sm.bJ<|sm.Õ hT) ?_;let bY:g+(cJ<|l.Ã k).n=k:=by rw[adU,cS,ba];grind
  rw[Ia g rb bY];show au
structure iG {α:Type}(enc:α->İ V)(H:Hp)(as:İ Ķ)(xs:İ α):Prop where
 len:as.n=xs.n
 at_:∀(i:ı) (a:Ķ) (x:α),as[i]?=į a->xs[i]?=į x->H a=į (.Æ<|enc x)
def iG.d9 {α:Type}{enc:α->İ V}{xs:İ α}(k:∀a ys,H a=į (.Æ ys)->H' a=į (.Æ ys))(h:iG enc H as xs):iG enc H' as xs:=%[h.đ|λi a x h1 g=>k _ _<|h.Ć i a x h1 g]
def iG.mv {α:Type}{enc:α->İ V}{xs:İ α}(k:aA H H')(h:iG enc H as xs):iG enc H' as xs:=h.d9 λa ys e=>k a _ e
def iG.nil {α:Type}{enc:α->İ V}:iG enc H [] []:=%[rb|λi a x h=>by simp at h]
def iG.one {α:Type}{enc:α->İ V}{x:α}(h:H a=į (.Æ<|enc x)):iG enc H [a] [x]:=%[rb|λi b y h1 g=>by
 match i,h1,g with
 | 0,h1,g=>have e1:a=b:=bg h1;let e2:x=y:=bg g;rw[<-e1,<-e2];show h
 | n+1,h1,g=>show Ł h1 zr]
def iG.app {α:Type}{enc:α->İ V}{xs ys:İ α}(h:iG enc H as xs)(g:iG enc H bs ys):iG enc H (as++bs) (xs++ys):=by
 calc%[by rw[ax,ax,h.len,g.len]|λi a x h1 j=>?_];by_cases c:i<as.n
 .rw[eW c]at h1;rw[eW (by rw[<-h.len];show c)]at j;show h.Ć i a x h1 j
 .rw[du (jn c)]at h1;rw[du (by rw[<-h.len];lia),<-h.len]at j;show g.Ć _ a x h1 j
def iG.get {α:Type}{enc:α->İ V}{xs:İ α}(h:iG enc H as xs)(hi:i<as.n):∃x,xs[i]?=į x/\H as[i]=į (.Æ<|enc x):=by
 let hx:i<xs.n:=by rw[<-h.len];show hi
 show%[0,xs[i],ae hx|h.Ć i _ _ (ae hi)<|ae hx]
abbrev QL:=iG (λq:mq=>[V.I q.1,V.I q.2.1,V.I q.2.2.1,V.À (S q.2.2.2)])
abbrev AL3:=iG (λq:ı×ı×ı=>[V.I q.1,V.I q.2.1,V.I q.2.2])
def gZ (ts:İ bL):ı:=if ts.head?.Q (·.1)=ts.getLast?.Q (·.1) then 0 else 1
def sU (ts:İ bL):İ (ı×ı×ı):=(ts.Ã 1).Q (λt=>(t.1,t.2.1,gZ ts))++ts.Q λt=>(t.1,t.2.1,1-gZ ts)
def qd (R:AA)(a:ı×ı×ı):mq:=oZ R a.1 a.2.1 a.2.2
def tZ (q:mq):ŏ:=ľ (1<q.2.2.2.n)
def iy (ak:AA)(ts:İ bL):İ mq:=((sU ts).Q<|qd<|dW ak ts).Ą tZ
def Rc (ts:İ bL):gZ ts<=1:=by unfold gZ;split <;> decide
def Gb {r w:ı}{R:AA}(B:Blk r w R)(r9:r<=9)(w9:w<=9){i j wy:ı}(hi:i<r):(oZ R i j wy).2.2.2.n<=20:=by
 let g:=nC B hi (j:=j) (way:=(wy:ĸ));let G:(lineOf R i j (wy:ĸ)).n<=9:=by rw[g];split <;> assumption
 show (cJ _++dN _).n<=20;let D:=mY<|(lineOf R i j (wy:ĸ)).Ã<|placeOf i j (wy:ĸ);let F:=rD<|(lineOf R i j (wy:ĸ)).Ì<|placeOf i j (wy:ĸ);rw[ba]at D;rw[cS]at F;rw[ax];grind
def LK {ts:İ bL}(h:0<ts.n):gZ ts=if ts[0].1=ts[ts.n-1].1 then 0 else 1:=by unfold gZ;rw[vF,List.getLast?_eq_getElem?,ae h,ae zo];simp only[tj,Option.some.injEq]
def qg (L:dH H as ts)(hi:i<ts.n):∃(h:i<as.n),H as[i]=į (.Æ [.I ts[i].1,.I ts[i].2.1,.À (S [ts[i].2.2])]):=by
 let h:i<as.n:=by rw[L.len];show hi
 let(t,e,g):=L.ď h;rw[ae hi]at e;let e:=bg e;rw[<-e]at g;show%[h|g]
def ae7 {as:İ Ķ}(h:0<as.n):kh (as.Q V.v) (-1)=į (.v as[as.n-1]):=by
 let e:as.Q V.v=(as.Ã<|as.n-1).Q V.v++[V.v as[as.n-1]]:=by rw[<-nS,<-bo];congr 1;have:=c_ (as.n-1) as;rw[l_ zo,show as.n-1+1=as.n by lia,sd]at this;show this.Ò
 rw[e];show abz _ _
def ahf (a b:ı):(if (!ľ (V.I (a:ĸ)=V.I (b:ĸ)))=Ĵ then (1:ĸ) else 0)=((if a=b then 0 else 1:ı):ĸ):=by
 by_cases h:a=b;.subst h;simp
 .have:¬V.I (a:ĸ)=V.I (b:ĸ):=λz=>h (by injection z with z;show kQ z)
  simp[h,this]
def Rf:Sp:=λvs H Q _=>∃(pr t:Addr) (as:İ Ķ) (ts:İ bL) (r w:Nat) (ak:AA),vs=[.v pr,.v t]/\H pr=į (.Æ<|Ts ak)/\Blk r w ak/\r<=9/\w<=9/\H t=į (.Æ<|as.Q V.v)/\dH H as ts/\(∀t∈ts,inB r w t)/\0<ts.n/\ts.n<=7/\
 ∀(T:Ķ) (bs:İ Ķ) (H':Hp),aA H H'->H' T=į (.Æ<|bs.Q V.v)->QL H' bs (iy ak ts)->Q (.v T) H'
def Rg (D:aR K mg "_law_words" JG ["_law_rows","_law_laying"])(bh:mg "len"=Ĳ)(lK:mg "int"=Ĳ)(bR:mg "tuple"=Ĳ)(ahg:bD P w K mg base "_law_grid" 1 ["_law_rows","_law_laying"] aaJ)(adV:bD P w K mg base "_law_run" 1 ["_law_grid_here","_law_row","_law_column","_law_way"] (aaL K)):bD P w K mg base "_law_words" 2 ["_law_rows","_law_laying"] Rf:=by
 calc D.cU oY ?_;intro f bF A outer s H vs Q E hr h;let(pr,t,as,ts,r,w,ak,rfl,hpr,hb,r9,w9,ht,hL,dU,h0,h7,q):=h;calc%[0,_,(aD (aO (i:=2) oY.nd rb (Or.Â rb)<|bf ahg hr.Ô rb<|aj aK<|aj aX aq)<|aD (aO (i:=3) oY.nd rb (Or.Â rb)<|cN Ky zw lK om<|aj (jL yH (aV bA (aV bA aX aB λ_ _=>rfl) aB λ_ _=>rfl) (aV bA (aV bA aX (adD Yz aB) λ_ _=>rfl) aB λ_ _=>rfl)<|bU _) aq)<|aD (aO (i:=4) oY.nd rb (Or.Â rb)<|fK<|aj (bf adV hr.Ô rb<|aj bw<|aj (aV bA (aV bA aX aB λ_ _=>rfl) aB λ_ _=>rfl)<|aj (aV bA (aV bA aX aB λ_ _=>rfl) aB λ_ _=>rfl)<|aj bN aq) aq)<|aD (dz ck rb (fH aX) (lN rb<|cu (bG (i:=5) oY.nd rb<|Or.Â rb)<|cu (bG (i:=6) oY.nd rb<|Or.Â rb)<|cu (bG (i:=7) oY.nd rb<|Or.Â rb) jM)<|aG<|gb<|d7 di ij ik k_ b_<|aj (bf adV hr.Ô rb<|aj bw<|aj cI<|aj dM<|aj (aL gK aB bN) aq) aq)<|aG<|aY<|cN dX zw bR df<|aj (jf (ns:=["_law_run_here"]) rb (fG.of ["_law_rows","_law_laying","_law_grid_here","_law_line","_law_runs","_law_row","_law_column","_law_sign_here"] [] zC) (g_ b_) (λ_ _ _ _ _=>(kj (show (["_law_run_here","_law_rows","_law_laying","_law_grid_here","_law_line","_law_runs","_law_row","_law_column","_law_sign_here"]:İ ņ).Ö by decide +kernel) rb zw)) (λ_ _ _ _ _=>(Dj<|bK Wj (aP cL zw bh bE<|aj (aV (m_ K) aK aB λ_ _=>rfl) aq) aB<|bU _)) λ_ _ _ _ _=>aK) aq)|?_];calc%[5,pr,t,as|%[53,ts,r,w,ak,rb,hpr,hb,r9,w9,ht,hL,dU|λM ps H1 s1 hM iK=>?_]];let J:=mZ hb dU;generalize hR:dW ak ts=R at iK J;let hal:=hL.đ;let hL1:=hL.mv s1;let(g0,e0):=qg hL1 h0;let(gl,el):=qg hL1 (show ts.n-1<ts.n by lia);let G:=aQ.of (K:=K)<|s1 _ _ ht;let eal:as.n-1=ts.n-1:=by simp_all
 let W4:kh (as.Q V.v) (-1)=į (.v as[ts.n-1]):=by rw[ae7 (show 0<as.n from g0)];simp only[eal]
 calc%[3,t,_,_,.v as[0],rb,rb,G,aN (j:=0) (by simp[g0])|%[45,as[0],_,_,_,rb,rb,aQ.of e0,aN (j:=0) rb,_,rb|%[3,t,_,_,.v as[ts.n-1],rb,rb,G,W4|%[14,as[ts.n-1],_,_,_,rb,rb,aQ.of el,aN (j:=0) rb,rb|.Ð %[0,_,rb|?_]]]]];dsimp only;rw[ahf,<-LK h0];let jt:=Rc ts;let(b1,b2,_):=dU _ (aS h0);calc%[3,t,_,_,.v as[0],rb,rb,G,aN (j:=0) (by simp[g0])|%[3,as[0],_,_,_,rb,rb,aQ.of e0,aN (j:=0) rb|%[3,t,_,_,.v as[0],rb,rb,G,aN (j:=0) (by simp[g0])|%[15,as[0],_,_,_,rb,rb,aQ.of e0|%[8,aN (j:=1) rb,M|%[5,H,ps,R|%[42,r,w,ts[0].1,ts[0].2.1,gZ ts,rb,hM,iK,J,r9,w9,b1,b2,jt|λt1 H2 s2 hq1=>?_]]]]]]];calc%[zsz 1|λL hLl=>?_];let k3:aA H2 (upd H2 L<|HO.É [.v t1]):=aA.å hLl;let s3:=s2.X k3;let hL0:=s2.Õ hLl;refine%[2,t,rb,%[_|aQ.of<|s3 _ _<|s1 _ _ ht]|m8 (K:=K) (a:=t) (xs:=as.Q V.v) (λn I H'=>∃(v5 v6 v7:ĵ V) (bs:İ Ķ),I=[į (.v pr),į (.v t),į (.v M),į (.I<|gZ ts),į (.v L),v5,v6,v7]/\aA H1 H'/\H' L=į (.É<|bs.Q V.v)/\bs.n=n+1/\QL H' bs (((ts.Ã 1).Q (λt=>(t.1,t.2.1,gZ ts))++(ts.Ã n).Q λt=>(t.1,t.2.1,1-gZ ts)).Q<|qd R))
  %[3,Ĳ,Ĳ,Ĳ,[t1],rb,s3,au,rb|?_] (λn I H' _ h=>by let(_,_,_,_,_,F,_):=h;show aQ.of<|F _ _<|s1 _ _ ht) ?_ ?_]
 .let e1:ts.Ã 1=[ts[0]]:=by rw[List.take_one,vF,ae h0];rfl
  rw[e1,List.take_zero,ml,fi];show iG.one<|k3 _ _ hq1
 .intro n x I H' hx z;let(v5,v6,v7,bs,rfl,F,vm,ig,hQ):=z;let(hn,hx):=rfg hx;let hnt:n<ts.n:=zo;subst hx;let(_,en):=qg (hL1.mv F) hnt;let(c1,c2,_):=dU _ (aS hnt);calc%[1,as[n],_,rb,aQ.of en|%[19,rb,_,_,rb|%[6,_,_|%[17,rb,_,_,rb,rb|?_]]]];let e1l:(1:ĸ)-(gZ ts:ĸ)=((1-gZ ts:ı):ĸ):=by grind
  calc%[8,.Â %[8,rb,_|aZ.of vm],_|%[34,_,rb,rb,M|%[5,H,ps,R|%[42,r,w,ts[n].1,ts[n].2.1,1-gZ ts,by show [V.v M,V.I (ts[n].1:ĸ),V.I (ts[n].2.1:ĸ),V.I (1-(gZ ts:ĸ))]=_;rw[e1l],F _ _ hM,iK.mvS F,J,r9,w9,c1,c2,iX _ _|λt2 H4 s4 hq2=>?_]]]];let ahh:=s4 _ _ vm;calc%[10,L,_,_,rb,rb,ahh,by rw[aa];show aJ zo|?_];calc%[3,_,_,_,bs++[t2],rb,(F.X s4).bJ hL0,by rw[au];simp,by simp[ig]|?_];rw[show ts.Ã (n+1)=ts.Ã n++(į ts[n]).H by rw[bv,ae hnt]];let e2:(((ts.Ã 1).Q (λt=>(t.1,t.2.1,gZ ts))++(ts.Ã n++(į ts[n]).H).Q λt=>(t.1,t.2.1,1-gZ ts)).Q<|qd R)=(((ts.Ã 1).Q (λt=>(t.1,t.2.1,gZ ts))++(ts.Ã n).Q λt=>(t.1,t.2.1,1-gZ ts)).Q<|qd R)++[qd R (ts[n].1,ts[n].2.1,1-gZ ts)]:=by rw[bo (l₁:=ts.Ã n),<-b7,bo];rfl
  rw[e2];show((hQ.mv s4).app<|iG.one hq2).d9<|Ra ahh
 .intro I H' z;let(v5,v6,v7,bs,rfl,F,vm,ig,hQ):=z;rw[aa]at ig;rw[aa,hal,cK]at hQ;let hQ':QL H' bs ((sU ts).Q<|qd R):=hQ;let hqb:∀n (x:mq),((sU ts).Q<|qd R)[n]?=some x->x.2.2.2.n<=20:=λn x hx=>by
   let(a,ha,rfl):=aI.mp (a7 hx);let hi:a.1<r:=by
    rcases a8.mp ha with z|z
    .let(u,hu,rfl):=aI.mp z;show(dU u<|dq hu).1
    .let(u,hu,rfl):=aI.mp z;show(dU u hu).1
   show Gb J r9 w9 hi
  refine%[2,L,rb,%[_|aZ.of vm]|λN hN=>qR (K:=K) (a:=L) (f:=eN [] 0) (tt:=Wk (vH (Gk λi j=>V.bl<|ľ<|j<i) (tCB adJ<|jG (vH (Oh K) (fO 0)<|tC<|V.I 3) qz)<|tC<|V.I 1)) (te:=fO 0) (xs:=bs.Q V.v) (λn ys Y=>∃O:İ Ķ,ys=O.Q V.v/\O.n<=n/\Y N=į (.É ys)/\aA H' Y/\QL Y O ((((sU ts).Q<|qd R).Ã n).Ą tZ))
   %[9,[],rb,ag _,au,aA.å hN|iG.ê] (λn ys Y _ h=>by let(_,_,_,_,F,_):=h;show aZ.of<|F _ _ vm) ?_ ?_]
  .intro n x ys Y hx z;let(O,rfl,Z,Ib,g,B):=z;let(hn,hx):=rfg hx;subst hx;let(qq,eq,hat):=(hQ'.mv g).ď hn;let ajW:=hqb n qq eq;calc%[3,bs[n],_,_,_,rb,rb,aQ.of hat,aN (j:=3) rb|%[30,_,rb,ar<|aJ zo,_,_,rb,rb|bB _ rb ?_]];by_cases hc:tZ qq=Ĵ
   .have:ľ ((1:ĸ)<(qq.2.2.2.n:ĸ))=Ĵ:=aw (by have:=eK hc;show i8 dC this);rw[this];calc cP %[Ib,by rw[aa];show aJ zo|dR.mk (by rw[aa];show hn) %[9,O++[bs[n]],zr,by simp;show Z,by rw[au],g.bJ hN|?_]];rw[bv,eq,fg];let e2:((į qq).H).Ą tZ=[qq]:=by simp[hc]
    rw[e2];show(B.app<|iG.one hat).d9<|Ra Ib
   .have:ľ ((1:ĸ)<(qq.2.2.2.n:ĸ))=ķ:=ai λz=>hc<|aw<|Iff.mp dC z;rw[this];calc cG<|dR.mk (by rw[aa];show hn) %[9,O,rb,eJ Z,Ib,g|?_];rw[bv,eq,fg];let e2:((į qq).H).Ą tZ=[]:=by simp[hc]
    rw[e2,fi];show B
  .intro ys Y z;let(O,rfl,Z,Ib,g,B):=z;rw[aa,hQ'.len,cK]at B;calc%[4,N,_,rb|.Â %[aZ.of Ib|λT hT=>?_]];let k:aA Y (upd Y T<|HO.Æ<|O.Q V.v):=aA.å hT;calc q T O _ (((s1.X F).X g).X k) au ?_;unfold iy;rw[hR];show B.mv k
def aaM (g:DQ ts)(D:0<ts.n):((ts.Q λt=>ľ<|V.I (t.1:ĸ)=V.I (ts[0].1:ĸ)).all id)=ľ (gZ ts=0):=by
 let hd:∀a b:ı,ľ (V.I (a:ĸ)=V.I (b:ĸ))=ľ (a=b):=λa b=>by
  by_cases h:a=b;.subst h;simp
  .have:¬V.I (a:ĸ)=V.I (b:ĸ):=λz=>h (by injection z with z;show kQ z)
   simp[h,this]
 let j:(∀t∈ts,t.1=ts[0].1)↔ts[0].1=ts[ts.n-1].1:=by
  constructor
  .intro h;show(h _<|aS _).Ò
  .intro h t B;let(i,hi,rfl):=cy.mp B;rcases g with g|g
   .rw[e8]at g;rcases nL i with z|z;.subst z;rfl
    .show(g 0 i D hi z).Ò
   .rw[e8]at g;rcases nL (ts.n-1) with z|z
    .have:i=0:=by lia
     subst this;rfl
    .have:=g 0 (ts.n-1) D zo z;simp_all
 rw[LK D,n5,kR,decide_eq_true_iff];constructor
 .intro h;rw[if_pos];calc j.mp λt B=>?_;have:=h _<|aI.á %[0,t,B|rb];rw[hd]at this;show eK this
 .intro h x hx;let(t,B,rfl):=aI.mp hx;let F:ts[0].1=ts[ts.n-1].1:=by
   by_cases z:ts[0].1=ts[ts.n-1].1;.show z
   .rw[Ĺ z]at h;cases h
  rw[hd];show aw<|j.á F t B
def VD:Sp:=λvs H Q _=>∃(t:Addr) (as:İ Ķ) (ts:İ bL),vs=[.v t]/\H t=į (.Æ<|as.Q V.v)/\dH H as ts/\0<ts.n/\ts.n<=7/\DQ ts/\∀H',aA H H'->Q (.bl<|ľ<|gZ ts=0) H'
def Rh (D:aR K mg "is_across" wN ["laying"])(iY:mg "all"=Ĳ):bD P w K mg base "is_across" 1 ["laying"] VD:=by
 calc D.cU Qj ?_;intro f bF A outer s H vs Q E hr h;let(t,as,ts,rfl,M,L,Y,h7,Z,q):=h;let J:=L.đ;calc%[0,_,(aG<|aY<|aP (mL rb) zw iY mO<|aj (jf (ns:=["row","column","sign"]) rb (fG.of ["laying"] [] zC) (fH aK) (λ_ _ _ _ _=>(o9 K rb (show (["row","column","sign","laying"]:İ ņ).Ö by decide +kernel) rb rb rb zw zw zw)) (λ_ _ _ _ _=>cM) λ_ _ _ _ _=>(jL lD aK (aV (m_ K) (aV (m_ K) bN aB λ_ _=>rfl) aB λ_ _=>rfl)<|bU _)) aq)|?_];refine%[2,t,rb,%[_|aQ.of M]|λN O=>ni (K:=K) (KT:=K) (a:=t) (f:=eN [] 0) (tt:=gO) (xs:=as.Q V.v) (λn ys B=>ys=((ts.Ã n).Q λt=>ľ<|V.I (t.1:ĸ)=V.I (ts[0].1:ĸ)).Q V.bl/\B N=į (.É ys)/\aA H B)
  %[rb,au|aA.å O] (λn ys B _ h=>aQ.of<|h.2.2 _ _ M) ?_ ?_]
 .intro n x ys B hx z;let(rfl,G,g):=z;let(hn,hx):=rfg hx;let F:n<ts.n:=zo;let(_,en):=qg (L.mv g) F;let(g0,e0):=qg (L.mv g) Y;calc vL hx.Ò (aQ.of en) ?_;calc%[3,t,_,_,.v as[0],rb,rb,aQ.of<|g _ _ M,aN (j:=0) (by simp[g0])|%[36,as[0],_,_,_,rb,rb,aQ.of e0,aN (j:=0) rb,rb,G,?_|dR.mk (by rw[aa];show hn) %[?_,au|g.bJ O]]];.rw[aa,aa,ba];show aJ zo
  .rw[show ts.Ã (n+1)=ts.Ã n++(į ts[n]).H by rw[bv,ae F],bo,bo];rfl
 .intro ys B z;let(rfl,G,g):=z;calc%[1,N,_,rb,aZ.of G|?_];rw[aa,J,cK,aaM Z Y];show q B g
def aaN {r w:ı}{R:AA}{i j wy:ı}(B:wy<=1):Fy i j (wy:ĸ) (lineOf R i j (wy:ĸ))=[.I (oZ R i j wy).1,.I (oZ R i j wy).2.1,.À (S (oZ R i j wy).2.2.2)]:=by
 unfold Fy oZ placeOf;by_cases z:wy=0
 .subst z;let g:=mY<|(lineOf R i j ((0:ı):ĸ)).Ã j;rw[ba]at g;rw[ĺ rfl];show [V.I (i:ĸ),V.I ((j:ĸ)-_),_]=[V.I (i:ĸ),V.I ((j-_:ı):ĸ),_]
  rw[Int.ofNat_sub (by grind)];rfl
 .have:wy=1:=by lia
  subst this;let g:=mY<|(lineOf R i j ((1:ı):ĸ)).Ã i;rw[ba]at g;rw[Ĺ zt];show [V.I ((i:ĸ)-_),V.I (j:ĸ),_]=[V.I ((i-_:ı):ĸ),V.I (j:ĸ),_]
  rw[Int.ofNat_sub (by grind)];rfl
def Ri (C:Ķ):Sp:=λvs H Q _=>∃(b t:Addr) (as:İ Ķ) (ts:İ bL) (r w:Nat) (ak aF:AA) (bi bj:Nat),vs=[.v b,.v t]/\cW C H b r w ak aF bi bj/\H t=į (.Æ<|as.Q V.v)/\dH H as ts/\(∀t∈ts,inB r w t)/\0<ts.n/\ts.n<=7/\DQ ts/\
 ∀(T:Ķ) (bs:İ Ķ) (H':Hp),aA H H'->H' T=į (.Æ<|bs.Q V.v)->QL H' bs (iy ak ts)->Q (.v T) H'
def aaO (D:aR K mg "formed" Fq ["board","laying"])(bh:mg "len"=Ĳ)(bR:mg "tuple"=Ĳ)(cX:fU K C)(uV:Meth K C "laid" f1)(uW:dJ P w K mg base fP 8 f1 ju ["self","laying"] (QB C))(uZ:cV K ju ["self","laying"] [])(wU:Meth K C "run" f2)(wV:dJ P w K mg base fP 2 f2 fd2 ["self","row","column","way"] (Xw C))(wW:cV K fd2 ["self","row","column","way"] [])(T7:bD P w K mg base "is_across" 1 ["laying"] VD):bD P w K mg base "formed" 10 ["board","laying"] (Ri C):=by
 calc D.cU jQ ?_;intro f bF A outer s H vs Q E hr h;let(b,t,as,ts,r,w,ak,aF,bi,bj,rfl,BA,ht,hL,dU,h0,h7,hl,q):=h;let(dx,_,_,_,ex,_):=id BA.ex;let r9:=BA.ok.r9;let w9:=BA.ok.w9;let hal:=hL.đ;let jt:=Rc ts;calc%[0,_,(aD (aO (i:=2) jQ.nd rb (Or.Â rb)<|lU aK cX.cl uV uW hr.Ô uZ .ê jo<|aj aX aq)<|aD (nW<|aO (i:=3) jQ.nd rb (Or.Ð rb)<|jx (f9<|bf T7 hr.Ô rb<|aj aX aq) aB aB)<|aD (aO (i:=4) jQ.nd rb (Or.Â rb)<|fK<|aj (cO<|aj (aV bA (aV bA aX aB λ_ _=>rfl) aB λ_ _=>rfl)<|aj (aV bA (aV bA aX aB λ_ _=>rfl) aB λ_ _=>rfl)<|aj bN aq) aq)<|aD (gb<|d7 di my mB q_ b_<|aj (jf (ns:=["row","column","sign"]) rb (fG.of ["board","laying","after","way","asked",".5",".6","words","along","run"] [5,6] zC) (fH aX) (λ_ _ _ _ _=>(o9 K rb (show (["row","column","sign","board","laying","after","way","asked",".5",".6","words","along","run"]:İ ņ).Ö by decide +kernel) rb rb rb zw zw zw)) (λ_ _ _ _ _=>cM) λ_ _ _ _ _=>(cO<|aj aK<|aj aX<|aj (aL gK aB dM) aq)) aq)<|aD (aO (i:=7) jQ.nd rb (Or.Â rb)<|fK aq)<|aD (dz ck rb (g_ b_) (lN rb<|cu (bG (i:=5) jQ.nd rb<|Or.Â rb)<|cu (bG (i:=6) jQ.nd rb<|Or.Â rb)<|cu (bG (i:=8) jQ.nd rb<|Or.Â rb) jM)<|aD (aO (i:=9) jQ.nd rb (Or.Â rb)<|lU bw cX.cl wU wV hr.Ô wW .ê jo<|aj cI<|aj dM<|aj iV aq)<|aG<|dF (bK CW (aP cL zw bh bE<|aj (aV bA iW aB λ_ _=>rfl) aq) aB<|bU _) (aG<|gb<|d7 di ij ik k_ iU<|aj (cO<|aj (aV bA iW aB λ_ _=>rfl)<|aj (aV bA iW aB λ_ _=>rfl)<|aj iV<|aj (aV bA iW aB λ_ _=>rfl) aq) aq) cC)<|aG<|aY<|cN dX zw bR df<|aj iU aq)|?_];calc%[11,b,dx,_,rb,ex,rb|%[5,b,t,as|%[41,ts,r,w,ak,aF,bi,bj,rb,BA,ht,hL,dU|λx1 H1 s1 B1=>?_]]];let hb':=mZ BA.ok.br dU;generalize hR:dW ak ts=R at B1 hb';refine%[0,λI H'=>aA H1 H'/\I=[į (.v b),į (.v t),į (.v x1),į (.I<|gZ ts),Ĳ,Ĳ,Ĳ,Ĳ,Ĳ,Ĳ],?_|?_]
 .calc%[35,t,as,ts,rb,s1 _ _ ht,hL.mv s1,h0,h7,hl|λH2 s2=>(bB _ rb ?_)];by_cases z:gZ ts=0
  .rw[aw z];calc cP %[s2|?_];rw[z];rfl
  .rw[ai z];calc cG %[s2|?_];rw[show gZ ts=1 by lia];rfl
 rintro I H2 ⟨s2,rfl⟩;let s12:=s1.X s2;let hL2:=hL.mv s12;let Cu:=s12 _ _ ht;let(g0,e0):=qg hL2 h0;calc%[3,t,_,_,.v as[0],rb,rb,aQ.of Cu,aN (j:=0) (by simp[g0])|%[3,as[0],_,_,_,rb,rb,aQ.of e0,aN (j:=0) rb|%[3,t,_,_,.v as[0],rb,rb,aQ.of Cu,aN (j:=0) (by simp[g0])|%[14,as[0],_,_,_,rb,rb,aQ.of e0,aN (j:=1) rb,zsz 3|λB ht1=>%[zsz 1|λG Z=>?_]]]]];let k3:aA H2 (upd H2 B<|HO.Æ [.I ts[0].1,.I ts[0].2.1,.I (gZ ts)]):=aA.å ht1;let k4:=k3.bJ (o:=HO.É [.v B])<|k3.Õ Z;let hA0':=k3.Õ Z;let n1A:B≠G:=λz=>by rw[<-z,au]at Z;cases Z
 let e1:upd (upd H2 B<|HO.Æ [.I ts[0].1,.I ts[0].2.1,.I (gZ ts)]) G (HO.É [.v B]) B=į (.Æ [.I ts[0].1,.I ts[0].2.1,.I (gZ ts)]):=by rw[aU n1A,au]
 let eA:upd (upd H2 B<|HO.Æ [.I ts[0].1,.I ts[0].2.1,.I (gZ ts)]) G (HO.É [.v B]) G=į (.É [.v B]):=au;generalize upd (upd H2 B<|HO.Æ [.I ts[0].1,.I ts[0].2.1,.I (gZ ts)]) G (HO.É [.v B])=H4 at k4 e1 eA ⊢;let xW:=k4 _ _ Cu;let nG:=hL2.mv k4;let e1l:(1:ĸ)-(gZ ts:ĸ)=((1-gZ ts:ı):ĸ):=by grind
 refine%[26,.Â %[8,rb,_|aZ.of eA],t,rb,%[_|aQ.of xW]|λN hN=>ni (K:=K) (KT:=K) (a:=t) (f:=eN [5,6] 0) (tt:=gO) (xs:=as.Q V.v) (λn ys J=>∃F:İ Ķ,ys=F.Q V.v/\F.n=n/\J N=į (.É ys)/\aA H4 J/\AL3 J F ((ts.Ã n).Q λt=>(t.1,t.2.1,1-gZ ts)))
  %[9,[],rb,rb,au,aA.å hN|iG.ê] (λn ys J _ h=>by let(_,_,_,_,L,_):=h;show aQ.of<|L _ _ xW) ?_ ?_]
 .intro n x ys J hx z;let(F,rfl,M,Er,vo,VF):=z;let(hn,hx):=rfg hx;let hnt:n<ts.n:=zo;let(_,en):=qg (nG.mv vo) hnt;calc vL hx.Ò (aQ.of en) ?_;calc%[13,_,_,rb,rb,zsz 3|λg hg=>?_];let kg:aA J (upd J g<|HO.Æ [.I ts[n].1,.I ts[n].2.1,.I (1-(gZ ts:ĸ))]):=aA.å hg;let hNg:=kg _ _ Er;calc%[hNg,by rw[aa];show aJ zo|dR.mk (by rw[aa];show hn) %[9,F++[g],zr,by simp[M],by rw[au],(vo.X kg).bJ hN|?_]];rw[show ts.Ã (n+1)=ts.Ã n++[ts[n]] by rw[bv,ae hnt];rfl,bo];calc((VF.mv kg).app<|iG.one (x:=(ts[n].1,ts[n].2.1,1-gZ ts)) ?_).d9<|Ra hNg;rw[au,e1l]
 intro ys J z;let(F,rfl,M,Er,vo,VF):=z;rw[aa]at M;rw[aa,hal,cK]at VF;let eA5:=vo _ _ eA;calc%[14,G,N,_,_,rb,rb,eA5,Er,by rw[aa,M];show ar<|aJ (by simp;lia)|?_];let acZ:AL3 (upd J G<|HO.É<|[V.v B]++F.Q V.v) ([B]++F) (sU ts):=by
  let hone:AL3 J [B] ((ts.Ã 1).Q λt=>(t.1,t.2.1,gZ ts)):=by rw[List.take_one,vF,ae h0];show iG.one (x:=(ts[0].1,ts[0].2.1,gZ ts))<|vo _ _ e1
  show(hone.app VF).d9<|Ra eA5
 let O:aA H1 (upd J G<|HO.É<|[V.v B]++F.Q V.v):=λa o e=>by have:=(k4.X vo) _ _<|s2 _ _ e;rw[aU (λz=>by rw[z]at e;have:=s2 _ _ e;rw[hA0']at this;cases this)];show this
 let Y:upd J G (HO.É<|[V.v B]++F.Q V.v) G=į (.É<|([B]++F).Q V.v):=by rw[au];simp
 generalize upd J G (HO.É<|[V.v B]++F.Q V.v)=H6 at acZ O Y ⊢;let ahi:=acZ.đ;let hak:(sU ts).n=1+ts.n:=by unfold sU;rw[ax,aa,aa,ba];lia
 let ajF:∀n (a:ı×ı×ı),(sU ts)[n]?=į a->a.1<r/\a.2.1<w/\a.2.2<=1:=λn a ha=>by
  rcases a8.mp (a7 ha) with z|z
  .let(u,hu,rfl):=aI.mp z;have:=dU u<|dq hu;show%[this.1,this.2.1|jt]
  .let(u,hu,rfl):=aI.mp z;have:=dU u hu;show%[this.1,this.2.1|by show 1-gZ ts<=1;show iX _ _]
 calc%[zsz 0|λW hW=>?_];let hW0:=O.Õ hW;let nWA:G≠W:=λz=>by rw[<-z,Y]at hW;cases hW
 let kW:aA H6 (upd H6 W<|HO.É []):=aA.å hW;refine%[2,G,rb,%[_|aZ.of<|kW _ _ Y]|uh (K:=K) (a:=G) (xs:=([B]++F).Q V.v) (λn I H'=>∃(v6 v7 v8 v9:ĵ V) (bs:İ Ķ),I=[į (.v b),į (.v t),į (.v x1),į (.I<|gZ ts),į (.v G),v6,v7,į (.v W),v8,v9]/\aA H6 H'/\H' W=į (.É<|bs.Q V.v)/\bs.n<=n/\QL H' bs ((((sU ts).Ã n).Q<|qd R).Ą tZ))
  %[29,Ĳ,Ĳ,Ĳ,Ĳ,[],rb,kW,au,ag _|iG.ê] (λn I H' _ h=>by let(_,_,_,_,_,_,L,_):=h;show aZ.of<|L _ _ Y) ?_ ?_]
 .intro n x I H' hx z;let(v6,v7,v8,v9,bs,rfl,L,Rj,ig,hQ):=z;let hn:n<([B]++F).n:=by have:=(am.mp hx).1;simpa using this
  rw[bz,ae hn]at hx;let hx:V.v ([B]++F)[n]=x:=bg hx;subst hx;let(a,ea,hat):=(acZ.mv L).ď hn;let(c1,c2,c3):=ajF n a ea;let hn9:n<9:=by rw[ahi,hak]at hn;(calc bq (by assumption) ?_;lia)
  calc%[1,([B]++F)[n],_,rb,aQ.of hat|%[19,rb,_,_,rb|%[6,_,_|%[17,rb,_,_,rb,rb|?_]]]];let B2:=B1.mv<|O.X L;let(dx1,_,_,_,ex1,_):=id B2.ex;calc%[11,x1,dx1,_,rb,ex1,rb|%[5,x1,r,w|%[41,R,aF,bi,bj,a.1,a.2.1,(a.2.2:ĸ),rb,B2,c1,c2,zo|λt2 H7 s7 _ ht7=>?_]]];rw[aaN (r:=r) (w:=w) c3]at ht7;let bY:=Gb hb' r9 w9 c1 (j:=a.2.1) (wy:=a.2.2);let Q0:=aQ.of (K:=K) ht7;let ac0:=s7 _ _ Rj;calc%[3,t2,_,_,_,rb,rb,Q0,aN (j:=2) rb|%[30,_,rb,ar<|aJ<|av bY<|kG _ _,_,_,rb,rb|bB _ rb ?_]];let adW:(sU ts).Ã (n+1)=(sU ts).Ã n++[a]:=by rw[bv,ea];rfl
  by_cases hc:tZ (qd R a)=Ĵ
  .have:ľ ((2:ĸ)<=((oZ R a.1 a.2.1 a.2.2).2.2.2.n:ĸ))=Ĵ:=aw (by have:=eK hc;show (2:ĸ)<=((qd R a).2.2.2.n:ĸ);show i8 Int.ofNat_le this);rw[this];calc cP %[8,.Â %[8,rb,_|aZ.of ac0],t2|%[10,_,_,_,rb,rb,Q0,aN (j:=0) rb|%[3,t2,_,_,_,rb,rb,Q0,aN (j:=1) rb|%[14,t2,_,_,_,rb,rb,Q0,aN (j:=2) rb,zsz 4|λg hg=>?_]]]];let kg:aA H7 (upd H7 g<|HO.Æ [.I (oZ R a.1 a.2.1 a.2.2).1,.I (oZ R a.1 a.2.1 a.2.2).2.1,.I a.2.2,.À (S (oZ R a.1 a.2.1 a.2.2).2.2.2)]):=aA.å hg;let hWg:=kg _ _ ac0;calc%[10,W,_,_,rb,rb,hWg,by rw[aa];show aJ (by simp[dL,ee]at *;lia)|?_];calc%[29,_,_,_,_,bs++[g],rb,((L.X s7).X kg).bJ hW,by rw[au];simp,by simp;show ig|?_];rw[adW,bo,fg];let e2:([a].Q<|qd R).Ą tZ=[qd R a]:=by simp[hc]
   rw[e2];show(((hQ.mv s7).mv kg).app<|iG.one (x:=qd R a) au).d9<|Ra hWg
  .have:ľ ((2:ĸ)<=((oZ R a.1 a.2.1 a.2.2).2.2.2.n:ĸ))=ķ:=ai λz=>hc<|aw (by let z:(2:ĸ)<=((qd R a).2.2.2.n:ĸ):=z;show Iff.mp dC z);rw[this];calc cG %[29,_,_,_,_,bs,rb,L.X s7,ac0,eJ ig|?_];rw[adW,bo,fg];let e2:([a].Q<|qd R).Ą tZ=[]:=by simp[hc]
   rw[e2,fi];show hQ.mv s7
 .intro I H' z;let(v6,v7,v8,v9,bs,rfl,L,Rj,ig,hQ):=z;rw[aa,ahi,cK]at hQ;calc%[4,W,_,rb|.Â %[aZ.of Rj|λT hT=>?_]];let k:aA H' (upd H' T<|HO.Æ<|bs.Q V.v):=aA.å hT;calc q T bs _ (((s1.X O).X L).X k) au ?_;unfold iy;rw[hR];show hQ.mv k
def WD (kvs:İ (Key×V)):Prop:=∀g∈kvs,∃(c:Nat) (i:Int),g=(bZ [c],V.I i)/\97<=c/\c<=122
def wf (kvs:İ (Key×V))(c:ı):ĸ:=match dG kvs (bZ [c]) with| some (.I i)=>i| _=>0
def Ie {kvs:İ (Key×V)}{k:Key}{v:V}(h:dG kvs k=į v):(k,v)∈kvs:=by
 unfold dG at h;cases e:kvs.find? (λg=>ľ<|g.1=k) with
 | none=>rw[e]at h;cases h
 | some p=>
  rw[e]at h;let h:p.2=v:=bg h;let m:=yn e;let q:=List.find?_some e;let q:p.1=k:=by simpa using q
  rw[<-h,<-q];show m
def aaP (h:WD kvs)(c):(dG kvs<|bZ [c]).Î (.I 0)=.I (wf kvs c):=by
 unfold wf;cases e:dG kvs (bZ [c]) with| none=>rfl| some v=>let(d,i,q,_):=h _ (Ie e);have:v=V.I i:=Ő Prod.snd q;subst this;rfl
def adX (h:WD kvs)(g:¬(97<=c/\c<=122)):wf kvs c=0:=by
 unfold wf;cases e:dG kvs (bZ [c]) with
 | none=>rfl
 | some v=>
  let(d,i,q,h1,j):=h _ (Ie e);have:bZ [c]=bZ [d]:=Ő Prod.fst q;have:S [c]=S [d]:=vw this;have:[c]=[d]:=pJ this;have:c=d:=by simpa using this
  simp_all
def VG:Sp:=λvs H Q _=>∃(d:Addr) (kvs:İ (Key×V)) (c:Nat),vs=[.v d,.À (S [c])]/\Rd H d (.dK kvs)/\WD kvs/\Q (.I<|wf kvs c) H
def T8 (D:aR K mg "worth_of" zJ ["worths","sign"]):bD P w K mg base "worth_of" 1 ["worths","sign"] VG:=by
 calc D.cU Tv λf bF A outer s H vs Q E G h=>?_;let(d,kvs,c,rfl,hd,g,q):=h;let F:=pI G;calc%[0,_,(aG<|aY<|jx (yI nU nU (bV [97] zD) aX<|bV [122] zD) (qG F aK aX aB %[rb,rb,rb|rb]) aB)|?_];calc%[1,[97],[c],rb,rb|bB (ľ<|97<=c) (by rw[JN]) ?_];by_cases B:97<=c
 .rw[aw B];calc cP %[1,[c],[122],rb,rb|bB _ rb ?_];rw[JN];by_cases j:c<=122
  .rw[aw j];calc cP %[0,d,rb|%[12,.Â %[_|hd],_,jV.rd (k:=bZ [c]) hd|?_]];rw[aaP g];show q
  .rw[ai j];calc cG ?_;let e:=adX g (c:=c) (by simp[*]);rw[e]at q;show q
 .rw[ai B];calc cG<|bB _ rb<|cG ?_;let e:=adX g (c:=c) (by simp[*]);rw[e]at q;show q
def Rk:Sp:=λvs H Q _=>∃(a:Addr) (q:mq) (n:Nat),vs=[.v a,.I n]/\yE H a q/\q.2.2.1<=1/\
 ∀(t:Ķ) (H':Hp),aA H H'->H' t=į (.Æ [.I ((q.1+n*q.2.2.1:ı):ĸ),.I ((q.2.1+n*(1-q.2.2.1):ı):ĸ)])->Q (.v t) H'
def X4 (D:aR K mg "cell_in" Cd ["word","place"]):bD P w K mg base "cell_in" 1 ["word","place"] Rk:=by
 calc D.cU Xi λf bF A outer s H vs Q E J h=>?_;let(a,(i,j,wy,l),n,rfl,ha,B,q):=h;let g:=aQ.of (K:=K) ha;calc%[0,_,(aG<|aY<|jx (bK lD (aV bA aK aB λ_ _=>rfl) aB<|bU _) (cO<|aj (aV bA aK aB λ_ _=>rfl)<|aj (aL bW (aV bA aK aB λ_ _=>rfl) aX) aq)<|cO<|aj (aL bW (aV bA aK aB λ_ _=>rfl) aX)<|aj (aV bA aK aB λ_ _=>rfl) aq)|?_];calc%[3,a,_,_,_,rb,rb,g,aN (j:=2) rb|?_];by_cases z:wy=0
 .subst z;calc%[rb|cP %[3,a,_,_,_,rb,rb,g,aN (j:=0) rb|%[39,a,_,_,_,rb,rb,g,aN (j:=1) rb,_,_,rb,rb,zsz 2|λt F=>?_]]];calc q t _ (aA.å F) ?_;rw[au];simp
 .let G:wy=1:=by simp only at B;lia
  subst G;calc%[rb|cG %[15,a,_,_,_,rb,rb,g|%[17,aN (j:=0) rb,_,_,rb,rb|%[14,a,_,_,_,rb,rb,g,aN (j:=1) rb,zsz 2|λt F=>?_]]]];calc q t _ (aA.å F) ?_;rw[au];simp
def tH (c:ı):ĸ:=if c=50 then 2 else if c=51 then 3 else if c=52 then 4 else 1
def Ag (c:ı):ĸ:=if c=98 then 2 else if c=99 then 3 else if c=100 then 4 else 1
def VH:İ (Key×V):=[(bZ [50],.I 2),(bZ [51],.I 3),(bZ [52],.I 4)]
def VJ:İ (Key×V):=[(bZ [98],.I 2),(bZ [99],.I 3),(bZ [100],.I 4)]
def VL (a b):ľ (bZ [a]=bZ [b])=ľ (a=b):=by
 by_cases h:a=b;.subst h;simp
 .have:¬bZ [a]=bZ [b]:=λz=>h (by have:=pJ<|vw z;simpa using this)
  rw[ai h,ai this]
def ahj (c):(dG VH<|bZ [c]).Î (.I 1)=.I (tH c):=by
 unfold dG VH tH;simp only[mh,VL];by_cases h1:c=50;.subst h1;rfl
 by_cases j:c=51;.subst j;rfl
 by_cases g:c=52;.subst g;rfl
 rw[ai (λz=>h1 z.Ò),ai (λz=>j z.Ò),ai (λz=>g z.Ò),Ĺ h1,Ĺ j,Ĺ g];rfl
def ahk (c):(dG VJ<|bZ [c]).Î (.I 1)=.I (Ag c):=by
 unfold dG VJ Ag;simp only[mh,VL];by_cases h1:c=98;.subst h1;rfl
 by_cases j:c=99;.subst j;rfl
 by_cases g:c=100;.subst g;rfl
 rw[ai (λz=>h1 z.Ò),ai (λz=>j z.Ò),ai (λz=>g z.Ò),Ĺ h1,Ĺ j,Ĺ g];rfl
def sx (q:mq)(k:ı):ı:=q.1+k*q.2.2.1
def sy (q:mq)(k:ı):ı:=q.2.1+k*(1-q.2.2.1)
def vp (M:AA)(kvs:İ (Key×V))(ts:İ bL)(q:mq)(k c:ı)(p:ĸ×ĸ):ĸ×ĸ:=if (sx q k,sy q k)∈ts.Q cT then (p.1+wf kvs c*tH (cell M (sx q k)<|sy q k),p.2*Ag (cell M (sx q k)<|sy q k)) else (p.1+wf kvs c,p.2)
def fu (M:AA)(kvs:İ (Key×V))(ts:İ bL)(q:mq):ı->ĸ×ĸ
 | 0=>(0,1)
 | n+1=>vp M kvs ts q n (q.2.2.2.Î n 0) (fu M kvs ts q n)
def Ah (M:AA)(kvs:İ (Key×V))(ts:İ bL)(q:mq):ĸ:=(fu M kvs ts q q.2.2.2.n).1*(fu M kvs ts q q.2.2.2.n).2
def ac1 (c):1<=tH c/\tH c<=4:=by
 unfold tH;split;.lia
 split;.lia
 split <;> decide
def ac2 (c):1<=Ag c/\Ag c<=4:=by
 unfold Ag;split;.lia
 split;.lia
 split <;> lia
theorem ac3 (M)(kvs:İ (Key×V))(ts:İ bL)(q:mq):∀n,1<=(fu M kvs ts q n).2/\(fu M kvs ts q n).2<=4^n
 | 0=>%[Int.le_refl _|Int.le_refl _]
 | n+1=>by
  let(h1,g):=ac3 M kvs ts q n;show 1<=(vp _ _ _ _ _ _ _).2/\(vp _ _ _ _ _ _ _).2<=4^(n+1);unfold vp;rw[Int.pow_succ];split
  .let(w1,j):=ac2 (cell M (sx q n)<|sy q n);calc%[?_|xt g j (tI w1)<|dA _];have:=xt h1 w1 zo<|tI h1;simpa using this
  .calc%[h1|?_];simp only;lia
def ahl (M)(kvs:İ (Key×V))(ts:İ bL)(q:mq)(hn:n<=20):-(2^64)<(fu M kvs ts q n).2/\(fu M kvs ts q n).2<2^64:=by
 let(h1,B):=ac3 M kvs ts q n;let j:(4:ĸ)^n<=4^20:=by
  have:=xa (show 0<4 by decide) hn
  exact_mod_cast this
 let D:(4:ĸ)^20=1099511627776:=by decide
 let g:(2:ĸ)^64=18446744073709551616:=by decide
 lia
structure QIn (r w:ı)(q:mq):Prop where
 way:q.2.2.1<=1
 len:q.2.2.2.n<=20
 inn:∀k,k<q.2.2.2.n->sx q k<r/\sy q k<w
def Rm (C:Ķ):Sp:=λvs H Q _=>∃(b d t a:Addr) (kvs:İ (Key×V)) (as:İ Ķ) (ts:İ bL) (q:mq) (r w:Nat) (ak aF:AA) (bi bj:Nat),vs=[.v b,.v d,.v t,.v a]/\cW C H b r w ak aF bi bj/\Rd H d (.dK kvs)/\WD kvs/\H t=į (.Æ<|as.Q V.v)/\dH H as ts/\ts.n<=7/\yE H a q/\QIn r w q/\
 ∀H',aA H H'->Q (.I<|Ah aF kvs ts q) H'
open Classical in
def aaQ (D:aR K mg "word_points" rW ["board","worths","laying","word"])(gJ:mg "enumerate"=Ĳ)(cX:fU K C)(Ka:mg "LETTER_MARKS"=į (.v gl))(Rn:mg "WORD_MARKS"=į (.v gw))(kl:KDict P w K gl VH)(kw:KDict P w K gw VJ)(qe:bD P w K mg base "cells_of" 1 ["laying"] (DK K))(aaR:bD P w K mg base "cell_in" 1 ["word","place"] Rk)(X5:bD P w K mg base "worth_of" 1 ["worths","sign"] VG):bD P w K mg base "word_points" 2 ["board","worths","laying","word"] (Rm C):=by
 calc D.cU dI ?_;intro f bF A outer s H vs Q E hr h;let(b,d,t,a,kvs,as,ts,F,r,w',ak,aF,bi,bj,rfl,BA,hd,hW,ht,hL,h7,ha,hq,q):=h;let((dx,pr,pm,pb,hb,hpr,hpm,hpb),B):=BA;calc%[0,_,(aD (aO (i:=4) dI.nd rb (Or.Â rb)<|bf qe hr.Ô rb<|aj bw aq)<|aD (aO (i:=5) dI.nd rb (Or.Â rb) aB)<|aD (aO (i:=6) dI.nd rb (Or.Â rb) aB)<|aD (dz ck rb (O7 zw gJ<|aj (aV bA bN aB λ_ _=>rfl) aq) (lN rb<|cu (bG (i:=7) dI.nd rb<|Or.Â rb)<|cu (bG (i:=8) dI.nd rb<|Or.Â rb) jM)<|aD (aO (i:=9) dI.nd rb (Or.Â rb)<|bf aaR hr.Ô rb<|aj bN<|aj iU aq)<|aD (aO (i:=10) dI.nd rb (Or.Â rb)<|bf X5 hr.Ô rb<|aj aX<|aj iV aq)<|aD (nW<|dF (bK (Jj hr.ã) iW b_ rb) (aD (aO (i:=11) dI.nd rb (Or.Â rb)<|aV pK (aV bA (fX aK rb) (aV bA iW aB λ_ _=>rfl) λ_ _=>rfl) (aV bA iW aB λ_ _=>rfl) λ_ _=>rfl)<|aD (aO (i:=10) dI.nd rb (Or.Â rb)<|aL gn jy<|O9 (CT (v:=.v _) zw Ka rb) gQ aB %[rb,rb,rb|rb])<|aG<|aO (i:=6) dI.nd rb (Or.Â rb)<|aL gn dM<|O9 (CT (v:=.v _) zw Rn rb) gQ aB %[rb,rb,rb|rb]) cC)<|aG<|aO (i:=5) dI.nd rb (Or.Â rb)<|aL bW cI jy)<|aG<|aY<|aL gn cI dM)|?_];calc%[10,t,as,ts,rb,.Ð<|aQ.of ht,hL,zo|λLc cs H1 s1 _ hLc hcs=>?_];refine%[45,a,_,_,_,rb,rb,aQ.of<|s1 _ _ ha,aN (j:=3) rb,_,rb|Zn (l:=F.2.2.2) (λn I O=>∃v7 v8 v9 M J:ĵ V,I=[į (.v b),į (.v d),į (.v t),į (.v a),į (.v Lc),į (.I (fu aF kvs ts F n).1),į (.I (fu aF kvs ts F n).2),v7,v8,v9,M,J]/\aA H1 O)
  %[54,Ĳ,Ĳ,Ĳ,Ĳ,Ĳ,rb|aA.Ę _] ?_ ?_]
 .intro n c I O T hc z hT;let(v7,v8,v9,M,J,rfl,s2):=z;let hn:n<F.2.2.2.n:=(am.mp hc).1;let(hx,hy):=hq.inn n hn;let kT:aA O (upd O T<|HO.Æ [.I n,.À (S [c])]):=aA.å hT;calc%[44,T,_,rb,aQ.of au,rb,_,_,rb,_,_,rb,rb|?_];let s3:=(s1.X s2).X kT;let Y:=s2.X kT;generalize upd O T (HO.Æ [.I n,.À (S [c])])=H3 at kT s3 Y ⊢;calc%[11,a,F,n,rb,s3 _ _ ha,hq.way|λg H4 s4 hg=>?_];let N:=s3.X s4;calc%[11,d,kvs,c,rb,hd.mv N,hW|?_];let gi:sx F n<aF.n:=by rw[B.bm.len];show hx
  let hwi:aF[sx F n].n=w':=B.bm.iJ _<|aS _;let gj:sy F n<aF[sx F n].n:=by rw[hwi];show hy
  let L:aF.Î (sx F n) []=aF[sx F n]:=by rw[ap,ae gi];rfl
  let w9:=B.w9;let hgd:F.2.2.2.Î n 0=c:=by rw[ap,hc];rfl
  let G:fu aF kvs ts F (n+1)=vp aF kvs ts F n c (fu aF kvs ts F n):=by rw[<-hgd];rfl
  let hg:H4 g=į (.Æ [.I (sx F n:ı),.I (sy F n:ı)]):=hg;refine%[λI H'=>∃(wv:Int) (u11:ĵ V),I=[į (.v b),į (.v d),į (.v t),į (.v a),į (.v Lc),į (.I (fu aF kvs ts F n).1),į (.I (fu aF kvs ts F<|n+1).2),į (.I n),į (.À<|S [c]),į (.v g),į (.I wv),u11]/\aA H1 H'/\(fu aF kvs ts F n).1+wv=(fu aF kvs ts F<|n+1).1,?_|?_]
  .let ajG:=hcs.mv<|Y.X s4;calc%[11,2,yw (sx F n,sy F n),(ts.Q cT).Q yw,zt,.Æ (aQ.of hg)<|.Þ (.I _)<|.Þ (.I _) .ê,ajG.has<|(Y.X s4) _ _ hLc|?_];simp only[be,if_false];by_cases hm:(sx F n,sy F n)∈ts.Q cT
   .rw[aw (qN (c:=(sx F n,sy F n)).á hm)];calc%[16,b,C,dx,_,_,rb,N _ _ hb,cX.cl,cX.nm,rb|%[3,g,_,_,_,rb,rb,aQ.of hg,aN (j:=0) rb|%[3,pm,_,_,.À<|S<|aF.Î (sx F n) [],rb,rb,aQ.of<|N _ _ hpm,aN ?_|%[3,g,_,_,_,rb,rb,aQ.of hg,aN (j:=1) rb|?_]]]];.rw[L];show oK<|ae gi
    generalize Z:cell aF (sx F n) (sy F n)=m;calc%[10,_,_,m,rb,rb,ar<|aJ (by rw[L,hwi];lia),aN (by rw[<-Z,L,cell_eq gi gj];show ae gj)|?_];let(l1,l2):=ac1 m;let(w1,w2):=ac2 m;let e:fu aF kvs ts F (n+1)=((fu aF kvs ts F n).1+wf kvs c*tH m,(fu aF kvs ts F n).2*Ag m):=by rw[G];unfold vp;rw[ĺ hm,Z]
    calc%[6,gl,VH|%[20,rb,kl,bZ [m],rb|%[13,_,tH m,rb,ahj m,.Ð %[zo|zo]|?_]]];calc%[6,gw,VJ|%[20,rb,kw,bZ [m],rb|%[13,_,Ag m,rb,ahk m,.Ð %[zo|zo]|?_]]];calc%[1,wf kvs c*tH m,į<|.À<|S [m],?_,Y.X s4|?_];.rw[e];rfl
    .rw[e]
   .rw[ai (λz=>hm<|qN (c:=(sx F n,sy F n)).mp z)];let e:fu aF kvs ts F (n+1)=((fu aF kvs ts F n).1+wf kvs c,(fu aF kvs ts F n).2):=by rw[G];unfold vp;rw[Ĺ hm]
    calc%[1,wf kvs c,J,?_,Y.X s4|?_];.rw[e];rfl
    .rw[e]
  .intro I H' z;let(wv,u11,rfl,s5,ew):=z;calc%[1,_,_,rb,rb|?_];show%[54,_,_,_,_,_,by rw[<-ew];rfl|s5]
 .intro I O z;let(v7,v8,v9,M,J,rfl,s2):=z;calc%[1,_,_,rb,rb|?_];show%[.Ð<|ahl _ _ _ _ hq.đ|q _<|s1.X s2]
def rH:Sp:=λvs H Q _=>∃(c:Int) (j:Nat),vs=[.I c,.I j]/\j<=1000/\∀v:ĸ,Q (.I v) H
def ae8 (D:aR K mg "_law_draw" Qk ["_law_cell","_law_j"]):bD P w K mg base "_law_draw" 1 ["_law_cell","_law_j"] rH:=by calc D.cU JD λf bF A outer s H vs Q E g h=>?_;let(c,j,rfl,B,q):=h;calc%[0,_,(aD (aO (i:=2) JD.nd rb (Or.Â rb)<|aL cH (aL bW (aL bW (aL bW (aL gn (aL cH aK aB) aB)<|aL gn (aL gn aB aX) aX)<|aL gn aB aX) aB) aB)<|aD (aO (i:=2) JD.nd rb (Or.Â rb)<|aL cH (aL bW (aL gn bw aB)<|aL gn aB aX) aB)<|aG<|aY<|aL bW bw<|aL gn aB<|aL cH (aL abM aK<|aL bW aX aB)<|aL af0 aB aB)|?_];calc%[13,_,_,rb,rb,(by show (0:ĸ)<2147483647;decide)|%[24,_,_,rb,rb,.Ð %[zt|zt],_,_,rb,rb,.Â %[zt|zt]|%[25,_,_,rb,rb,.Ð %[dA _|zo],_,_,rb,rb|%[25,_,_,rb,rb,.Â %[zt|zt],_,_,rb,rb|%[33,_,_,rb,rb,_,_,rb,rb,(by show (0:ĸ)<2147483629;decide)|?_]]]]];calc%[24,_,_,rb,rb,.Ð %[zt|zt],_,_,rb,rb,.Â %[zt|zt]|%[33,_,_,rb,rb,_,_,rb,rb,(by show (0:ĸ)<2147483587;decide)|?_]];show%[33,_,_,rb,rb,_,_,rb,rb,%[by show (0:ĸ)<(j:ĸ)+2;lia|gd (Nat.log2_le_self _) (by show ((j:ĸ)+2).natAbs<9000;lia)]|%[24,_,_,rb,rb,%[zt,zt|zt],_,_,rb,rb,(by show (0:ĸ)<10^(61:ĸ).Ü;decide +kernel)|%[25,_,_,rb,rb,.Â %[zt|zt],_,_,rb,rb|q _]]]
def aaS:Sp:=λvs H Q _=>∃c:Int,vs=[.I c]/\∀(ls:İ ı) (H':Hp),aA H H'->Fw ls->Q (.À<|S ls) H'
def ahm (x):∃n:Nat,kh [V.I 1,V.I 3,V.I 5,V.I 7,V.I 9,V.I 11] (x%6)=į (.I (n:ĸ))/\n<=11:=by
 let(v,hv,hm):=qF (xs:=[V.I 1,V.I 3,V.I 5,V.I 7,V.I 9,V.I 11]) (n:=6) rb zt x;simp only[a_,fI,or_false]at hm;rcases hm with e|e|e|e|e|e;.show%[0,1,e ▸ hv|zt]
 .show%[0,3,e ▸ hv|zt]
 .show%[0,5,e ▸ hv|zt]
 .show%[0,7,e ▸ hv|zt]
 .show%[0,9,e ▸ hv|zt]
 .show%[0,11,e ▸ hv|zt]
def X6 (D:aR K mg "_law_letters" Ck ["_law_cell"])(O:mg "range"=Ĳ):bD P w K mg base "_law_letters" 1 ["_law_cell"] aaS:=by
 calc D.cU tX ?_;intro f bF A outer s H vs Q E hr h;let(c,rfl,q):=h;calc%[0,_,(aD (aO (i:=1) tX.nd rb (Or.Ð rb)<|bV AL zD)<|aD (dF (bK lD (aL cH aK aB) aB<|bU _) (aG<|aY aX) cC)<|aD (aO (i:=2) tX.nd rb (Or.Ð rb)<|aV fj (fK<|aj aB<|aj aB<|aj aB<|aj aB<|aj aB<|aj aB aq) (aL cH (aL fW aK aB) aB) λ_ _=>rfl)<|aG<|aY<|d7 b9 eP eQ o8 (bV [] zD)<|aj (h_ rb (gM.of tX.nd zC) (fJ zw O<|aj (aL bW aB<|aL cH (aL fW aK aB) aB) aq) (λ_ _ _ _ _=>cM) λ_ _ _ _ _=>(aV pK bw (aL cH (aL bW (aL fW aX aB)<|aL gn aK bN) aB) λ_ _=>rfl)) aq)|?_];calc%[7,_,_,rb,rb,(by show (0:ĸ)<8;decide),rb|oO (λ_=>(q AL H (aA.Ę _) %[zt,zt|adQ])) λ_=>?_];calc%[zsz 6|λt Y=>?_];let(n,hn,Z):=ahm (c/8);calc%[24,_,_,rb,rb,%[zt|zt],_,_,rb,rb,(by show (0:ĸ)<6;decide)|%[3,t,_,_,_,rb,rb,aZ.of au,hn|?_]];let s1:aA H (upd H t<|HO.É [V.I 1,V.I 3,V.I 5,V.I 7,V.I 9,V.I 11]):=aA.å Y;generalize upd H t (HO.É [V.I 1,V.I 3,V.I 5,V.I 7,V.I 9,V.I 11])=H1 at s1 ⊢;obtain⟨m,em,hm⟩:∃m:Nat,2+c/7%3=(m:ĸ)/\2<=m/\m<=4:=%[2,(2+c/7%3).Ü,by grind,zo|by simp_all;lia]
 calc%[32,rb,_,_,rb,rb,%[zt|zt]|%[25,_,_,rb,rb,(by show (0:ĸ)<3;decide),_,_,rb,rb|%[18,_,rb,by simp_all,by grind|?_]]];intro M N;rw[em,cq];refine yM (lo:=0) (n:=m) (λi ys j=>∃g:İ ı,ys=Ts (ones g)/\g.n=i/\(∀c∈g,isLet c)/\j M=į (.É ys)/\aA H1 j) %[9,[],rb,rb,λc h=>by simp at h,au|aA.å N] ?_ ?_
 .intro i ys j hi z;let(g,rfl,J,L,F,B):=z;let(x,hx,G):=qF (xs:=AL) (n:=26) zt zt (c/48+(0+(i:ĸ))*(n:ĸ));calc%[24,_,_,rb,rb,%[zt|zt],_,_,rb,rb,.Ð %[zo|zo]|%[33,_,_,rb,rb,_,_,rb,rb,(by show (0:ĸ)<26;decide)|%[35,AL,_,x,rb,rb,zt,hx,F,?_|dR.mk hi %[9,g++[x],by rw[lW,wj],by simp[J],λy hy=>?_,au|B.bJ N]]]];.rw[aa,aa,J];show aJ (by grind)
  .rcases a8.mp hy with k|k;.show L y k
   .rw[al.mp k];show adQ x G
 .intro ys j z;let(g,rfl,J,L,F,B):=z;calc%[7,M,ones g,rb,rb,aZ.of F,by rw[jH];grind|?_];rw[jH];show q g j (s1.X B) %[by simp_all,by grind|L]
def ahn (h:Cm m):(m∈[50,51,52]/\PySem.intText? (S [m])=į (tH m))\/(m∉[50,51,52]/\tH m=1):=by
 let h:m∈[46,50,51,52,98,99,100]:=h;simp only[a_,fI,or_false]at h;rcases h with rfl|rfl|rfl|rfl|rfl|rfl|rfl;.show .Ð %[zt|zt]
 .show .Â %[zt|zD]
 .show .Â %[zt|zD]
 .show .Â %[zt|zD]
 .show .Ð %[zt|zt]
 .show .Ð %[zt|zt]
 .show .Ð %[zt|zt]
def aho (h:Cm m):(m∈[98,99,100]/\∃(i:Nat) (rest:İ ı),Builtin.Str.occurrences (S [98,99,100]) (S [m]) 0 (S [98,99,100]).n 1=i::rest/\(2:ĸ)+(i:ĸ)=Ag m)\/(m∉[98,99,100]/\Ag m=1):=by
 let h:m∈[46,50,51,52,98,99,100]:=h;simp only[a_,fI,or_false]at h;rcases h with rfl|rfl|rfl|rfl|rfl|rfl|rfl;.show .Ð %[zt|zt]
 .show .Ð %[zt|zt]
 .show .Ð %[zt|zt]
 .show .Ð %[zt|zt]
 .show .Â %[19,zt,0,[],zD|zt]
 .show .Â %[19,zt,1,[],zD|zt]
 .show .Â %[19,zt,2,[],zD|zt]
def VN:Sp:=λvs H Q _=>∃(pm d t a:Addr) (kvs:İ (Key×V)) (as:İ Ķ) (ts:İ bL) (q:mq) (r w:Nat) (aF:AA),vs=[.v pm,.v d,.v t,.v a]/\H pm=į (.Æ<|Ts aF)/\Blk r w aF/\w<=9/\(∀l∈aF,∀c∈l,Cm c)/\Rd H d (.dK kvs)/\WD kvs/\H t=į (.Æ<|as.Q V.v)/\dH H as ts/\ts.n<=7/\yE H a q/\QIn r w q/\
 ∀H',aA H H'->Q (.I<|Ah aF kvs ts q) H'
open Classical in
def ac4 (D:aR K mg "_law_count" JK ["_law_marks_here","_law_worths_here","_law_laying","_law_word"])(bh:mg "len"=Ĳ)(lK:mg "int"=Ĳ)(cj:mg "range"=Ĳ):bD P w K mg base "_law_count" 1 ["_law_marks_here","_law_worths_here","_law_laying","_law_word"] VN:=by
 calc D.cU fZ ?_;intro f bF A outer s H vs Q E hr h;let(pm,d,t,a,kvs,as,ts,B,r,w',aF,rfl,hpm,hbm,w9,hmk,hd,hW,ht,hL,h7,ha,hq,q):=h;let hu:=pI hr;let hal:=hL.đ;let jt:=hq.đ;calc%[0,_,(aD (o_ (ix:=4) (ns:=["_law_row","_law_column","_law_sign_here"]) fZ.nd rb (Or.Â rb) rb (fG.of ["_law_marks_here","_law_worths_here","_law_laying","_law_word","_law_laid",".5",".6","_law_way","_law_signs","_law_whole_here","_law_times","_law_k","_law_spot","_law_worth","_law_mark"] [5,6] zC) (fH bw) (λ_ _ _ _ _=>(o9 K rb (show (["_law_row","_law_column","_law_sign_here","_law_marks_here","_law_worths_here","_law_laying","_law_word","_law_laid",".5",".6","_law_way","_law_signs","_law_whole_here","_law_times","_law_k","_law_spot","_law_worth","_law_mark"]:İ ņ).Ö by decide +kernel) rb rb rb zw zw zw)) (λ_ _ _ _ _=>cM) λ_ _ _ _ _=>(cO<|aj aK<|aj aX aq))<|aD (xg bN<|lN rb<|cu (bG (i:=5) fZ.nd rb<|Or.Â rb)<|cu (bG (i:=6) fZ.nd rb<|Or.Â rb)<|cu (bG (i:=7) fZ.nd rb<|Or.Â rb)<|cu (bG (i:=8) fZ.nd rb<|Or.Â rb) jM)<|aD (aO (i:=9) fZ.nd rb (Or.Â rb) aB)<|aD (aO (i:=10) fZ.nd rb (Or.Â rb) aB)<|aD (dz ck rb (fJ zw cj<|aj (aP cL zw bh bE<|aj iV aq) aq) (bG (i:=11) fZ.nd rb<|Or.Â rb)<|aD (aO (i:=12) fZ.nd rb (Or.Â rb)<|cO<|aj (aL bW cI<|aL gn gQ iU)<|aj (aL bW dM<|aL gn gQ<|aL gK aB iU) aq)<|aD (aO (i:=13) fZ.nd rb (Or.Â rb)<|qG hu aX (aV pK iV gQ λ_ _=>rfl) aB %[rb,rb,rb|rb])<|aD (aO (i:=14) fZ.nd rb (Or.Â rb)<|aV pK (aV bA aK (aV bA nT aB λ_ _=>rfl) λ_ _=>rfl) (aV bA nT aB λ_ _=>rfl) λ_ _=>rfl)<|aD (nW<|dF (QW.qt<|pD (bK (Jj hr.ã) nT b_ rb)<|qw<|bK Bc (qv 14) (bV [50,51,52] zD) rb) (aG<|aO (i:=13) fZ.nd rb (Or.Â rb)<|aL gn (qv 13)<|cN Zk zw lK om<|aj (qv 14) aq) cC)<|aD (nW<|dF (QW.qt<|pD (bK (Jj hr.ã) nT b_ rb)<|qw<|bK Bc (qv 14) (bV [98,99,100] zD) rb) (aG<|aO (i:=10) fZ.nd rb (Or.Â rb)<|aL gn jy<|aL bW aB<|d7 b9 PySem.F.slot_str_index PySem.F.type_str_index Zm (bV [98,99,100] zD)<|aj (qv 14) aq) cC)<|aG<|aO (i:=9) fZ.nd rb (Or.Â rb)<|aL bW iW<|qv 13)<|aG<|aY<|aL gn iW jy)|?_];refine%[2,t,rb,%[_|aQ.of ht]|λLc ahp=>ni (K:=K) (KT:=K) (a:=t) (f:=eN [5,6] 0) (tt:=gO) (xs:=as.Q V.v) (λn ys L=>∃cs:İ Ķ,ys=cs.Q V.v/\cs.n=n/\L Lc=į (.É ys)/\aA H L/\d_ L cs ((ts.Ã n).Q cT))
  %[9,[],rb,rb,au,aA.å ahp|d_.ê] (λn ys L _ h=>by let(_,_,_,_,sm,_):=h;show aQ.of<|sm _ _ ht) ?_ ?_]
 .intro n x ys L hx z;let(cs,rfl,hcl,Er,vo,VF):=z;let(hn,hx):=rfg hx;let hnt:n<ts.n:=zo;let(_,en):=qg (hL.mv vo) hnt;calc vL hx.Ò (aQ.of en) ?_;calc%[zsz 2|λg hg=>?_];let kg:aA L (upd L g<|HO.Æ [.I ts[n].1,.I ts[n].2.1]):=aA.å hg;let hNg:=kg _ _ Er;calc%[hNg,by rw[aa];show aJ zo|dR.mk (by rw[aa];show hn) %[9,cs++[g],zr,by simp[hcl],by rw[au],(vo.X kg).bJ ahp|?_]];rw[show ts.Ã (n+1)=ts.Ã n++[ts[n]] by rw[bv,ae hnt];rfl,bo];show((VF.mv kg).app<|d_.one (p:=cT ts[n]) au).d9<|eE hNg
 .intro ys H1 z;let(cs,rfl,hcl,hLc,s1,hcs):=z;rw[aa,hal,cK]at hcs;calc%[1,a,_,rb,aQ.of<|s1 _ _ ha|%[19,rb,_,_,rb|%[6,_,_|%[8,rb,_|%[52,_,rb,_,_,rb,rb|?_]]]]];calc%[51,_,rb,ar<|aJ zo,_,rb,dA _,zo|?_];rw[cq];refine iQ (lo:=0) (n:=B.2.2.2.n) (λn I G=>∃O LQ N M:ĵ V,I=[į (.v pm),į (.v d),į (.v t),į (.v a),į (.v Lc),į (.I B.1),į (.I B.2.1),į (.I B.2.2.1),į (.À<|S B.2.2.2),į (.I (fu aF kvs ts B n).1),į (.I (fu aF kvs ts B n).2),O,LQ,N,M]/\aA H1 G)
   %[56,Ĳ,Ĳ,Ĳ,Ĳ,rb|aA.Ę _] ?_ ?_
  .intro n I G hn z;let(O,LQ,N,M,rfl,s2):=z;let(hx,hy):=hq.inn n hn;let gi:sx B n<aF.n:=by rw[hbm.len];show hx
   let hwi:aF[sx B n].n=w':=hbm.iJ _<|aS _;let gj:sy B n<aF[sx B n].n:=by rw[hwi];show hy
   let zf:=hq.way;let hgd:B.2.2.2.Î n 0=B.2.2.2[n]:=by rw[ap,ae hn];rfl
   generalize hcc:B.2.2.2[n]=c at hgd;let F:fu aF kvs ts B (n+1)=vp aF kvs ts B n c (fu aF kvs ts B n):=by rw[<-hgd];rfl
   let ex:(B.1:ĸ)+(0+(n:ĸ))*(B.2.2.1:ĸ)=((sx B n:ı):ĸ):=by unfold sx;push_cast;rw[nV]
   let ey:(B.2.1:ĸ)+(0+(n:ĸ))*(1-(B.2.2.1:ĸ))=((sy B n:ı):ĸ):=by unfold sy;rw[show (1:ĸ)-(B.2.2.1:ĸ)=((1-B.2.2.1:ı):ĸ) by grind];push_cast;rw[nV]
   calc%[13,_,_,rb,rb,.Â %[dA _|zo]|%[23,_,_,rb,rb,_,_,rb,rb|%[24,_,_,rb,rb,.Â %[zo|zo],_,_,rb,rb,zsz 2|λg hg=>?_]]];let kg:aA G (upd G g<|HO.Æ [.I ((B.1:ĸ)+(0+(n:ĸ))*(B.2.2.1:ĸ)),.I ((B.2.1:ĸ)+(0+(n:ĸ))*(1-(B.2.2.1:ĸ)))]):=aA.å hg;let LR:(upd G g<|HO.Æ [.I ((B.1:ĸ)+(0+(n:ĸ))*(B.2.2.1:ĸ)),.I ((B.2.1:ĸ)+(0+(n:ĸ))*(1-(B.2.2.1:ĸ)))]) g=į (.Æ [.I (sx B n:ı),.I (sy B n:ı)]):=by rw[au,ex,ey]
   let Cz:=s2.X kg;dsimp only;generalize (upd G g<|HO.Æ [.I ((B.1:ĸ)+(0+(n:ĸ))*(B.2.2.1:ĸ)),.I ((B.2.1:ĸ)+(0+(n:ĸ))*(1-(B.2.2.1:ĸ)))])=H3 at kg LR Cz ⊢;let s3:=s1.X Cz;let Cp:=hd.mv s3;let Y:=cell_eq gi gj;let Rp:Cm (cell aF (sx B n)<|sy B n):=by rw[Y];show hmk _ (aS gi) _<|aS gj
   generalize hm0:cell aF (sx B n) (sy B n)=m at Y Rp;calc%[63,d,rb,.Â %[_|Cp],B.2.2.2,_,c,rb,rb,ar<|aJ zo,by rw[nV];show aN (by rw[ae hn,hcc]),_,jV.rd (k:=bZ [c]) Cp|?_];rw[aaP hW];calc%[3,g,_,_,_,rb,rb,aQ.of LR,aN (j:=0) rb|%[3,pm,_,_,.À<|S aF[sx B n],rb,rb,aQ.of<|s3 _ _ hpm,aN<|oK<|ae gi|%[3,g,_,_,_,rb,rb,aQ.of LR,aN (j:=1) rb|%[10,aF[sx B n],_,m,rb,rb,ar<|aJ zo,aN (by rw[ae gj,Y])|?_]]]];let ajH:=hcs.mv Cz;let J:eZ K H3 2 (yw (sx B n,sy B n)) (.v g):=.Æ (aQ.of LR)<|.Þ (.I _)<|.Þ (.I _) .ê;let ahq:eZ K H3 2 (.É<|(ts.Q cT).Q yw) (.v Lc):=ajH.has<|Cz _ _ hLc;let(l1,l2):=ac1 m;let(w1,w2):=ac2 m;refine%[λI H'=>H'=H3/\∃wv:Int,I=[į (.v pm),į (.v d),į (.v t),į (.v a),į (.v Lc),į (.I B.1),į (.I B.2.1),į (.I B.2.2.1),į (.À<|S B.2.2.2),į (.I (fu aF kvs ts B n).1),į (.I (fu aF kvs ts B n).2),į (.I<|0+(n:ĸ)),į (.v g),į (.I wv),į (.À<|S [m])]/\(fu aF kvs ts B n).1+wv=(fu aF kvs ts B<|n+1).1,?_|?_]
   .calc%[11,2,_,_,zt,J,ahq|?_];simp only[be,if_false];by_cases hm:(sx B n,sy B n)∈ts.Q cT
    .rw[aw (qN (c:=(sx B n,sy B n)).á hm)];let e:fu aF kvs ts B (n+1)=((fu aF kvs ts B n).1+wf kvs c*tH m,(fu aF kvs ts B n).2*Ag m):=by rw[F];unfold vp;rw[ĺ hm,hm0]
     calc%[1,m,_,rb,rb|?_];rcases ahn Rp with⟨Z,hi⟩|⟨Z,h1⟩
     .rw[aw Z];calc%[24,[m],tH m,rb,by show 1<=640;decide,hi,_,_,rb,rb,.Ð %[zo|zo]|?_];show%[12,rb,wf kvs c*tH m,rb|by rw[e]]
     .rw[ai Z];show%[12,rb,wf kvs c,rb|by rw[e,h1,Int.mul_one]]
    .rw[ai (λz=>hm<|qN (c:=(sx B n,sy B n)).mp z)];let e:fu aF kvs ts B (n+1)=((fu aF kvs ts B n).1+wf kvs c,(fu aF kvs ts B n).2):=by rw[F];unfold vp;rw[Ĺ hm]
     calc%[12,rb,wf kvs c,rb|?_];rw[e]
   .intro I H' z;let(rfl,wv,rfl,ew):=z;refine%[0,λI G=>G=H'/\I=[į (.v pm),į (.v d),į (.v t),į (.v a),į (.v Lc),į (.I B.1),į (.I B.2.1),į (.I B.2.2.1),į (.À<|S B.2.2.2),į (.I (fu aF kvs ts B n).1),į (.I (fu aF kvs ts B<|n+1).2),į (.I<|0+(n:ĸ)),į (.v g),į (.I wv),į (.À<|S [m])],?_|?_]
    .calc%[11,2,_,_,zt,J,ahq|?_];simp only[be,if_false];by_cases hm:(sx B n,sy B n)∈ts.Q cT
     .rw[aw (qN (c:=(sx B n,sy B n)).á hm)];let e:fu aF kvs ts B (n+1)=((fu aF kvs ts B n).1+wf kvs c*tH m,(fu aF kvs ts B n).2*Ag m):=by rw[F];unfold vp;rw[ĺ hm,hm0]
      calc%[1,m,_,rb,rb|?_];rcases aho Rp with⟨Z,i,rest,ho,ei⟩|⟨Z,h1⟩
      .rw[aw Z];calc%[8,rb,[98,99,100]|%[11,[m],i,rest,rb,rb,ho|%[33,_,_,rb,rb,_,_,rb,rb,.Ð %[by rw[ei];grind|by rw[ei];lia]|?_]]];calc%[rb|?_];rw[e,<-ei];rfl
      .rw[ai Z];calc%[rb|?_];rw[e,h1,Int.mul_one]
     .rw[ai (λz=>hm<|qN (c:=(sx B n,sy B n)).mp z)];let e:fu aF kvs ts B (n+1)=((fu aF kvs ts B n).1+wf kvs c,(fu aF kvs ts B n).2):=by rw[F];unfold vp;rw[Ĺ hm]
      calc%[rb|?_];rw[e]
    .rintro I H2' ⟨rfl,rfl⟩;calc%[1,_,_,rb,rb|?_];show%[56,_,_,_,_,by rw[<-ew];rfl|Cz]
  .intro I G z;let(O,LQ,N,M,rfl,s2):=z;calc%[1,_,_,rb,rb|?_];show%[.Ð<|ahl _ _ _ _ jt|q _<|s1.X s2]
def VP {r w:ı}{R:AA}(G:Blk r w R)(r9:r<=9)(w9:w<=9){i j wy:ı}(hi:i<r)(L:j<w)(F:wy<=1):QIn r w (oZ R i j wy):=by
 calc%[F,Gb G r9 w9 hi|λk hk=>?_];let g:=nC G hi (j:=j) (way:=(wy:ĸ));let hk:k<(cJ ((lineOf R i j (wy:ĸ)).Ã<|placeOf i j (wy:ĸ))++dN ((lineOf R i j (wy:ĸ)).Ì<|placeOf i j (wy:ĸ))).n:=hk;rw[ax]at hk;let D:=mY<|(lineOf R i j (wy:ĸ)).Ã<|placeOf i j (wy:ĸ);let B:=rD<|(lineOf R i j (wy:ĸ)).Ì<|placeOf i j (wy:ĸ);rw[ba]at D;rw[cS]at B;unfold sx sy;by_cases z:wy=0
 .subst z;let ep:placeOf i j ((0:ı):ĸ)=j:=ĺ rfl;rw[ep]at hk D B;let g:(lineOf R i j ((0:ı):ĸ)).n=w:=by rw[g];show ĺ rfl
  rw[g]at D B;show i+k*0<r/\(j-(cJ<|(lineOf R i j ((0:ı):ĸ)).Ã j).n)+k*(1-0)<w;grind
 .let J:wy=1:=zo;subst J;let ep:placeOf i j ((1:ı):ĸ)=i:=Ĺ zt;rw[ep]at hk D B;let g:(lineOf R i j ((1:ı):ĸ)).n=r:=by rw[g];show Ĺ zt
  rw[g]at D B;show (i-(cJ<|(lineOf R i j ((1:ı):ĸ)).Ã i).n)+k*1<r/\j+k*(1-1)<w;grind
def zW {r w:ı}{ak:AA}(G:Blk r w ak)(r9:r<=9)(w9:w<=9)(j:∀t∈ts,inB r w t)(h:q∈iy ak ts):QIn r w q:=by
 unfold iy at h;let(a,ha,rfl):=aI.mp (sQ.mp h).1;let g:=mZ G j;let F:=Rc ts;rcases a8.mp ha with z|z
 .let(u,D,rfl):=aI.mp z;let(h1,B,_):=j u (dq D);show VP g r9 w9 h1 B F
 .let(u,D,rfl):=aI.mp z;let(h1,B,_):=j u D;show VP g r9 w9 h1 B<|show 1-gZ ts<=1 from iX _ _
def ahr (c):wf (putK kvs (bZ [c0])<|.I i) c=if c=c0 then i else wf kvs c:=by
 unfold wf;rw[Ot];by_cases h:c=c0;.rw[ĺ h,ĺ (by rw[h])]
 .rw[Ĺ h,Ĺ (λz=>h (by have:=pJ<|vw z;simpa using this))]
def WB (b:ĸ)(kvs:İ (Key×V)):Prop:=∀c,0<=wf kvs c/\wf kvs c<=b
def WB.put (h:WB b kvs)(h1:0<=i)(g:i<=b):WB b (putK kvs (bZ [c])<|.I i):=λe=>by
 rw[ahr];split;.show%[h1|g]
 .show h e
def WD.put (h:WD kvs)(i)(h1:97<=c)(g:c<=122):WD (putK kvs (bZ [c])<|.I i):=by
 unfold putK;intro j m;split at m
 .let(p,hp,rfl):=aI.mp m;split
  .rename_i e;show%[1,c,i,by rw[e],h1|g]
  .show h p hp
 .rcases a8.mp m with m|m;.show h j m
  .rw[al.mp m];show%[1,c,i,rb,h1|g]
def Rq:Sp:=λvs H Q _=>∃(c:Int) (ls:İ ı),vs=[.I c,.À (S ls)]/\Fw ls/\
 ∀(d:Ķ) (kvs:İ (Key×V)) (H':Hp),aA H H'->H d=Ĳ->H' d=į (.dK kvs)->WD kvs->WB 1000000 kvs->Q (.v d) H'
def aaT (D:aR K mg "_law_worths" Fv ["_law_cell","_law_letters_here"])(bh:mg "len"=Ĳ)(cj:mg "range"=Ĳ)(iz:bD P w K mg base "_law_draw" 1 ["_law_cell","_law_j"] rH):bD P w K mg base "_law_worths" 2 ["_law_cell","_law_letters_here"] Rq:=by
 calc D.cU wg ?_;intro f bF A outer s H vs Q E hr h;let(c,ls,rfl,Z,q):=h;let hu:=pI hr;calc%[0,_,(aD (aO (i:=2) wg.nd rb (Or.Â rb) EY)<|aD (dz ck rb (fJ zw cj<|aj (aP cL zw bh bE<|aj aX aq) aq) (bG (i:=3) wg.nd rb<|Or.Â rb)<|aD (aO (i:=4) wg.nd rb (Or.Â rb)<|bf iz hr.Ô rb<|aj aK<|aj (aL bW aB bN) aq)<|aG<|dF (bK Wj (aL cH b_ aB) aB<|bU _) (aG<|Di hu bw (aV pK aX bN λ_ _=>rfl) (aL cH (aL fW b_ aB)<|aV fj (fK<|aj aB<|aj aB aq) (aL cH aK aB) λ_ _=>rfl) rb) cC)<|aG<|aY bw)|?_];calc λd hd=>?_;let s0:aA H (upd H d<|HO.dK []):=aA.å hd;let hhi:=Z.hi;calc%[51,_,rb,ar<|aJ zo,_,rb,dA _,zo|?_];rw[cq];refine iQ (lo:=0) (n:=ls.length) (λi I j=>∃(O N:ĵ V) (kvs:İ (Key×V)),I=[į (.I c),į (.À<|S ls),į (.v d),O,N]/\aA H j/\j d=į (.dK kvs)/\WD kvs/\WB 1000000 kvs/\kvs.n<=i)
  %[37,Ĳ,Ĳ,[],rb,s0,au,(λkv m=>nomatch m),(λc=>%[by show (0:ĸ)<=0;decide|by show (0:ĸ)<=1000000;decide])|ag _] ?_ ?_
 .intro i I j hi z;let(O,N,kvs,rfl,F,g,G,J,M):=z;let e0:(200:ĸ)+(0+(i:ĸ))=((200+i:ı):ĸ):=zr;calc%[23,_,_,rb,rb,c,200+i,by show [V.I c,V.I (200+(0+(i:ĸ)))]=_;rw[e0],zo|λnu=>?_];obtain⟨m,hm,hp,hp2⟩:∃m:Int,kh [V.I 11,V.I 1000001] (c%2)=į (.I m)/\0<m/\m<=1000001:=by
   rcases(show c%2=0\/c%2=1 by lia) with e|e;.rw[e];show%[2,11,rb,zt|zt]
   .rw[e];show%[2,1000001,rb,zt|zt]
  refine%[25,_,_,rb,rb,(by show (0:ĸ)<8;decide),_,_,rb,rb|oO (λ_=>?_) λ_=>?_]
  .calc%[7,_,_,rb,rb,%[zt|zt],zsz 2|λL hL=>?_];let kL:aA j (upd j L<|HO.É [V.I 11,V.I 1000001]):=aA.å hL;calc%[13,_,_,rb,rb,(by show (0:ĸ)<2;decide)|%[39,L,_,_,_,rb,rb,aZ.of au,hm,_,_,rb,rb,hp|?_]];let Y:=kL _ _ g;let B:=F.X kL;generalize upd j L (HO.É [V.I 11,V.I 1000001])=H3 at kL Y B ⊢;let(c1,c2):=Z.az _ (aS hi);calc%[11,ls,_,ls[i],rb,rb,ar<|aJ zo|%[17,by rw[nV];show aN<|ae hi,d,_,rb,uo.k (k:=bZ [ls[i]]) Y<|aJ zo|?_]];show%[37,_,_,_,rb,B.bJ hd,au,G.put _ c1 c2,J.put (og _ zo) (by have:=lI (nu/8) hp;lia)|av (qQ _ _ _)<|gg M]
  .show%[37,_,_,kvs,rb,F,g,G,J|eJ M]
 .intro I j z;let(O,N,kvs,rfl,F,g,G,J,M):=z;show(q d kvs j F hd g G J)
def Ig {ts:İ bL}(h:ts.n<=7):(iy ak ts).n<=100:=by calc av (lT _ _) ?_;rw[aa];unfold sU;rw[ax,aa,aa,ba];lia
def ae9 (c)(fs):inV (.À<|S [c]) (Ts<|ones fs)=ľ (c∈fs):=by
 unfold inV
 induction fs with
 | nil=>rfl
 | cons a r ih=>
  show (vI (.À<|S [a]) (.À<|S [c])||(Ts<|ones r).ġ λy=>vI y (.À<|S [c]))=_;rw[ih];by_cases h:a=c
  .subst h;have:vI (.À<|S [a]) (.À<|S [a])=Ĵ:=by simp[vI]
   rw[this];simp
  .let h':¬c=a:=λz=>h z.Ò
   let g:¬S [a]=S [c]:=λz=>h (by have:=pJ z;injection this);have:vI (.À<|S [a]) (.À<|S [c])=ķ:=by simp[vI,g]
   rw[this];simp[h']
def VR:Sp:=λvs H Q _=>∃(pb t:Addr) (as:İ Ķ) (n m:Int),vs=[.v pb,.v t]/\H pb=į (.Æ [.I n,.I m])/\H t=į (.Æ<|as.Q V.v)/\Q (.I<|if n<=(as.n:ĸ) then m else 0) H
def T9 (D:aR K mg "bonus_of" zK ["bonus","laying"])(B:mg "len"=Ĳ):bD P w K mg base "bonus_of" 1 ["bonus","laying"] VR:=by
 calc D.cU Tw λf bF A outer s H vs Q E G h=>?_;let(pb,t,as,n,m,rfl,g,F,q):=h;calc%[0,_,(aG<|aY<|jx (bK CW (aP cD zw B bE<|aj aX aq) (aV bA aK aB λ_ _=>rfl)<|bU _) (aV bA aK aB λ_ _=>rfl) aB)|?_];calc%[1,t,_,rb,.Ð<|aQ.of F|%[15,pb,_,_,_,rb,rb,aQ.of g|%[17,aN (j:=0) rb,_,_,rb,rb|bB _ rb ?_]]];rw[aa];by_cases c:n<=(as.n:ĸ)
 .rw[ĺ c]at q;rw[aw c];show cP %[3,pb,_,_,_,rb,rb,aQ.of g,aN (j:=1) rb|q]
 .rw[Ĺ c]at q;rw[ai c];show cG q
theorem ahs (B:WB 1000000 kvs):∀n,0<=(fu M kvs ts q n).1/\(fu M kvs ts q n).1<=4000000*(n:ĸ)
 | 0=>%[Int.le_refl _|by show (0:ĸ)<=4000000*0;decide]
 | n+1=>by
  let(h1,j):=ahs (M:=M) (ts:=ts) (q:=q) B n;let(b1,b2):=B (q.2.2.2.Î n 0);show 0<=(vp _ _ _ _ _ _ _).1/\(vp _ _ _ _ _ _ _).1<=4000000*((n+1:ı):ĸ)
  unfold vp;split
  .let(w1,g):=ac1 (cell M (sx q n)<|sy q n);let m1:=Int.mul_nonneg b1<|show 0<=tH (cell M (sx q n)<|sy q n) from tI w1;let m2:=xt b2 g zo zt;simp only;lia
  .simp only;lia
def aht {M:AA}{r w:ı}(G:WB 1000000 kvs)(j:QIn r w q)(r9:r<=9)(w9:w<=9):-1000000000000000<=Ah M kvs ts q/\Ah M kvs ts q<=1000000000000000:=by
 let B:q.2.2.2.n<=9:=by
  rcases nL q.2.2.2.n with z|z;.simp[*]
  let h:=j.inn (q.2.2.2.n-1)<|uA z Nat.one_pos;let hw:=j.way;unfold sx sy at h;by_cases c:q.2.2.1=0;.rw[c]at h;lia
  .rw[show q.2.2.1=1 by lia]at h;lia
 unfold Ah;let(h1,O):=ahs (M:=M) (ts:=ts) (q:=q) G q.2.2.2.n;let(F,D):=ac3 M kvs ts q q.2.2.2.n;let g:(4:ĸ)^q.2.2.2.n<=4^9:=by
  have:=xa (show 0<4 by decide) B
  exact_mod_cast this
 let J:(4:ĸ)^9=262144:=by decide
 rw[J]at g;let L:=Int.mul_nonneg h1<|show 0<=(fu M kvs ts q q.2.2.2.n).2 from tI F;let N:=xt (show (fu M kvs ts q q.2.2.2.n).1<=36000000 by lia) (show (fu M kvs ts q q.2.2.2.n).2<=262144 from Int.le_trans D g) zo zt;grind
def Rr (ak aF:AA)(kvs:İ (Key×V))(ts:İ bL)(n m:ĸ):ĸ:=((iy ak ts).Q<|Ah aF kvs ts).sum+if n<=(ts.n:ĸ) then m else 0
def adY (C:Ķ):Sp:=λvs H Q _=>∃(b d pb t:Addr) (kvs:İ (Key×V)) (n m:Int) (as:İ Ķ) (ts:İ bL) (r w:Nat) (ak aF:AA) (bi bj:Nat),vs=[.v b,.v d,.v pb,.v t]/\cW C H b r w ak aF bi bj/\Rd H d (.dK kvs)/\WD kvs/\WB 1000000 kvs/\H pb=į (.Æ [.I n,.I m])/\H t=į (.Æ<|as.Q V.v)/\dH H as ts/\(∀t∈ts,inB r w t)/\0<ts.n/\ts.n<=7/\DQ ts/\
 ∀H',aA H H'->Q (.I<|Rr ak aF kvs ts n m) H'
def Rt (D:aR K mg "points_of" wQ ["board","worths","bonus","laying"])(qX:mg "sum"=Ĳ)(ac5:bD P w K mg base "formed" 10 ["board","laying"] (Ri C))(M_:bD P w K mg base "word_points" 2 ["board","worths","laying","word"] (Rm C))(X7:bD P w K mg base "bonus_of" 1 ["bonus","laying"] VR):bD P w K mg base "points_of" 11 ["board","worths","bonus","laying"] (adY C):=by
 calc D.cU Ce λf bF A outer s H vs Q E N h=>?_;let(b,d,pb,t,kvs,n,m,as,ts,r,w,ak,aF,bi,bj,rfl,F,hd,hW,hB,L,O,hL,dU,h0,h7,J,q):=h;calc%[0,_,(aD (o_ (ix:=4) (ns:=["word"]) Ce.nd rb (Or.Â rb) rb (fG.of ["board","worths","bonus","laying","counted"] [] zC) (fH<|bf ac5 N.Ô rb<|aj aK<|aj bN aq) (λ_ _ _ _ _=>(kj (show (["word","board","worths","bonus","laying","counted"]:İ ņ).Ö by decide +kernel) rb zw)) (λ_ _ _ _ _=>cM) λ_ _ _ _ _=>(bf M_ N.Ô rb<|aj aX<|aj bw<|aj b_<|aj aK aq))<|aG<|aY<|aL bW (aP (vN rb) zw qX rL<|aj b_ aq)<|bf X7 N.Ô rb<|aj bw<|aj bN aq)|?_];calc%[5,b,t,as|%[5,ts,r,w|%[53,ak,aF,bi,bj,rb,F,O,hL,dU,h0,h7,J|λT bs H1 s1 hT hQ=>?_]]];let hql:=Ig (ak:=ak) h7;let ig:bs.n=(iy ak ts).n:=hQ.đ;refine%[2,T,rb,%[_|aQ.of hT]|λM hM=>yQ (K:=K) (a:=T) (f:=eN [] 0) (tt:=gO) (xs:=bs.Q V.v) (λi ys j=>ys=((iy ak ts).Ã i).Q (λq=>V.I<|Ah aF kvs ts q)/\j M=į (.É ys)/\aA H1 j)
  %[rb,au|aA.å hM] (λi ys j _ h=>aQ.of<|h.2.2 _ _ hT) ?_ ?_]
 .intro i x ys j hx z;let(rfl,G,s2):=z;let(hi,hx):=rfg hx;let hiw:i<(iy ak ts).n:=zo;subst hx;let(qq,eq,Y):=(hQ.mv s2).ď hi;let hB2:=F.1;let(_,B):=id F;let hqi:=zW B.br B.r9 B.w9 dU<|a7 eq;let g:=s1.X s2;calc yR %[5,b,d,t|%[5,bs[i],kvs,as|%[5,ts,qq,r|%[42,w,ak,aF,bi,bj,rb,F.mv g,hd.mv g,hW,g _ _ O,hL.mv g,h7,Y,hqi|λH3 s3=>?_]]]];calc%[s3 _ _ G,by rw[aa,ba];show aJ (by grind)|dR.mk (by rw[aa];show hi) %[?_,au|(s2.X s3).bJ hM]];rw[bv,eq,bo];rfl
 .intro ys j z;let(rfl,G,s2):=z;rw[aa,ig,cK]at G;let(_,B):=id F;let g:=s1.X s2;let Z:j M=į (.É<|((iy ak ts).Q<|Ah aF kvs ts).Q V.I):=by rw[dm];show G
  refine%[7,M,(iy ak ts).Q<|Ah aF kvs ts,rb,aZ.of Z,by rw[aa];lia,λx hx=>?_|%[5,pb,t,as|%[25,n,m,rb,g _ _ L,g _ _ O,_,_,rb,rb|?_]]]
  .let(qq,hq,rfl):=aI.mp hx;show aht hB (zW B.br B.r9 B.w9 dU hq) B.r9 B.w9
  .rw[hL.len];show q j g
def aaU:Sp:=λvs H Q _=>∃c:Nat,vs=[.À (S [c])]/\c<128/\Q (.À<|S [cB c]) H
def X8 (D:aR K mg "tile_of" vW ["sign"]):bD P w K mg base "tile_of" 1 ["sign"] aaU:=by
 calc D.cU G9 λf bF A outer s H vs Q E B h=>?_;let(c,rfl,j,q):=h;calc%[0,_,(aG<|aY<|jx (yI nU nU (bV [65] zD) aK<|bV [90] zD) (bV [63] zD) aK)|?_];calc%[1,[65],[c],rb,rb|?_];rw[Xb];unfold cB at q;by_cases h1:65<=c
 .rw[aw h1];calc%[1,[c],[90],rb,rb|?_];rw[Xb];by_cases g:c<=90
  .rw[ĺ %[h1|g]]at q;rw[aw g];show q
  .rw[Ĺ λz=>g z.2]at q;rw[ai g];show q
 .rw[Ĺ λz=>h1 z.1]at q;rw[ai h1];show q
def sV (us:İ ı):İ ı->Prop
 | []=>True
 | c::cs=>cB c∈us/\sV (us.ć<|cB c) cs
def Ih (us)(c):(ones us).ć [c]=ones (us.ć c):=by
 induction us with
 | nil=>rfl
 | cons a l ih=>
  show ([a]::ones l).ć [c]=_;by_cases h:a=c;.subst h;simp
  .rw[r8 (by simpa using h),r8 (by simpa using h),ih];rfl
def yF (us:İ ı):İ ı->İ ı
 | []=>us
 | c::cs=>yF (us.ć<|cB c) cs
def aaV:Sp:=λvs H Q _=>∃(D g:İ ı),vs=[.À (S D),.À (S g)]/\D.n<=63/\(∀c∈g,c<128)/\sV D g/\∀(l:İ ı) (H':Hp),l.æ (yF D g)->aA H H'->Q (.À<|S l) H'
def X_ (D:aR K mg "left_of" B_ ["rack","signs"])(jE:mg "list"=Ĳ)(eF:mg "sorted"=Ĳ)(aaW:bD P w K mg base "tile_of" 1 ["sign"] aaU):bD P w K mg base "left_of" 3 ["rack","signs"] aaV:=by
 calc D.cU tW ?_;intro f bF A outer s H vs Q E hr h;let(N,g,rfl,h63,Z,F,q):=h;calc%[0,_,(aD (aO (i:=2) tW.nd rb (Or.Â rb)<|cN (tU rb) zw jE nE<|aj aK aq)<|aD (dz ck rb (pL aX) (bG (i:=3) tW.nd rb<|Or.Â rb)<|aD (aO (i:=4) tW.nd rb (Or.Â rb)<|bf aaW hr.Ô rb<|aj bN aq)<|aD (dF (bK Oj b_ bw rb) Am cC)<|aG<|gb<|d7 di t9 ue Bj bw<|aj b_ aq)<|aG<|aY<|d7 b9 eP eQ o8 (bV [] zD)<|aj (aP Bk zw eF ii<|aj bw aq) aq)|?_];calc%[2,N,rb,zo|λL hL=>?_];calc%[0,g,rb|?_];refine Jd (λi I G=>∃(v3 Y:ĵ V) (us:İ ı),I=[į (.À<|S N),į (.À<|S g),į (.v L),v3,Y]/\aA H G/\G L=į (.É<|Ts<|ones us)/\us.n<=63/\sV us (g.Ì i)/\yF us (g.Ì i)=yF N g)
  %[37,Ĳ,Ĳ,N,rb,aA.å hL,au,h63,F|rb] ?_ ?_
 .intro i c I G hc z;let(v3,Y,us,rfl,J,j,HS,M,B):=z;let hcs:=Z c<|a7 hc;let(hi,O):=am.mp hc;rw[l_ hi,O]at M B;let(hm,M):=M;calc%[2,c,rb,hcs|?_];calc%[7,L,Ts<|ones us,rb,.Â<|aZ.of j,rb,by simp[Ts,tQ]|?_];rw[ae9,aw hm];calc%[55,.Â %[8,rb,_|aZ.of j],L,ones us,[cB c],rb,rb,j,eB hm,by rw[aa];lia|?_];rw[Ih];calc%[37,_,_,us.ć<|cB c,rb,J.bJ hL,au,?_,M|B];have:=(xI (a:=cB c) (l:=us)).length_le;show av this HS
 .intro I G z;let(v3,Y,us,rfl,J,j,HS,_,B):=z;calc%[32,rb,L,ones us,rb,aZ.of j,by rw[aa];show rj HS|λp ws hp pm _=>?_];calc%[7,p,ws,rb,rb,aZ.of au,?_|q _ _ (by let h1:=pm.Ê;rw[jH]at h1;rw[sd]at B;rw[<-B];show h1)<|J.bJ<|J.Õ hp];rw[pm.flatten.length_eq,jH];lia
def Ru:Sp:=λvs H Q _=>∃(D:İ ı) (t:Addr) (as:İ Ķ) (ts:İ bL),vs=[.À (S D),.v t]/\H t=į (.Æ<|as.Q V.v)/\dH H as ts/\ts.n<=7/\D.n<=63/\(∀t∈ts,uQ t.2.2)/\sV D (eY ts)/\∀(l:İ ı) (H':Hp),l.æ (yF D<|eY ts)->aA H H'->Q (.À<|S l) H'
def Kc (D:aR K mg "left_behind" su ["rack","laying"])(M:bD P w K mg base "left_of" 3 ["rack","signs"] aaV):bD P w K mg base "left_behind" 4 ["rack","laying"] Ru:=by
 calc D.cU JB ?_;intro f bF A outer s H vs Q E hr h;let(gD,t,as,ts,rfl,ht,Y,h7,L,J,F,q):=h;let O:=Y.đ;calc%[0,_,(aG<|aY<|bf M hr.Ô rb<|aj aK<|aj (d7 b9 eP eQ o8 (bV [] zD)<|aj (jf (ns:=["row","column","sign"]) rb (fG.of ["rack","laying"] [] zC) (fH aX) (λ_ _ _ _ _=>(o9 K rb (show (["row","column","sign","rack","laying"]:İ ņ).Ö by decide +kernel) rb rb rb zw zw zw)) (λ_ _ _ _ _=>cM) λ_ _ _ _ _=>bw) aq) aq)|?_];refine%[26,rb,t,rb,%[_|aQ.of ht]|λN Z=>ni (K:=K) (KT:=K) (a:=t) (f:=eN [] 0) (tt:=gO) (xs:=as.Q V.v) (λn ys j=>ys=Ts (ones<|eY<|ts.Ã n)/\j N=į (.É ys)/\aA H j)
  %[rb,au|aA.å Z] (λn ys j _ h=>aQ.of<|h.2.2 _ _ ht) ?_ ?_]
 .intro n x ys j hx z;let(rfl,g,G):=z;let(hn,hx):=rfg hx;let B:n<ts.n:=zo;let(_,en):=qg (Y.mv G) B;calc vL hx.Ò (aQ.of en) ?_;calc%[g,?_|dR.mk (by rw[aa];show hn) %[?_,au|G.bJ Z]];.unfold eY;rw[aa,aa,aa,ba];show aJ zo
  .rw[show ts.Ã (n+1)=ts.Ã n++[ts[n]] by rw[bv,ae B];rfl];simp only[Ts,ones,eY,bo];rfl
 .intro ys j z;let(rfl,g,G):=z;rw[aa,O,cK]at g;let hl:(eY ts).n=ts.n:=by unfold eY;rw[aa]
  calc%[7,N,ones<|eY ts,rb,rb,aZ.of g,by rw[jH];lia|?_];rw[jH];calc%[7,gD,eY ts,rb,L,λc hc=>?_,F|λl H7 pl s7=>q l H7 pl<|G.X s7];let(u,hu,rfl):=aI.mp hc;show(J u hu).lt
def ae_ {l:İ ı}(h:b<=l.n):nH l Ĳ (į (b:ĸ))=l.Ã b:=by unfold nH;rw[HT.I_,HT.aby,tq h];simp
def WE (kvs:İ (Key×V)):Prop:=∀g∈kvs,∃(c:Nat) (i:Int),g=(bZ [c],V.I i)/\-1000000<=i/\i<=1000000
def Ii (h:WE kvs)(c):(dG kvs<|bZ [c]).Î (.I 0)=.I (wf kvs c):=by
 unfold wf;cases e:dG kvs (bZ [c]) with| none=>rfl| some v=>let(d,i,q,_):=h _ (Ie e);have:v=V.I i:=Ő Prod.snd q;subst this;rfl
def Yb (h:WE kvs)(c):-1000000<=wf kvs c/\wf kvs c<=1000000:=by
 unfold wf;cases e:dG kvs (bZ [c]) with| none=>show%[zt|zt]| some v=>let(d,i,q,h1,g):=h _ (Ie e);have:v=V.I i:=Ő Prod.snd q;subst this;show%[h1|g]
def WE.put (h:WE kvs)(c)(h1:-1000000<=i)(g:i<=1000000):WE (putK kvs (bZ [c])<|.I i):=by
 unfold putK;intro j m;split at m
 .let(p,hp,rfl):=aI.mp m;split
  .rename_i e;show%[1,c,i,by rw[e],h1|g]
  .show h p hp
 .rcases a8.mp m with m|m;.show h j m
  .rw[al.mp m];show%[1,c,i,rb,h1|g]
def aaY:Sp:=λvs H Q _=>∃(c:Int) (ls:İ ı) (b:Nat),vs=[.I c,.À (S ls),.I b]/\Fw ls/\10<=b/\b<=60/\∀(d:Ķ) (kvs:İ (Key×V)) (H':Hp),aA H H'->H' d=į (.dK kvs)->H d=Ĳ->WE kvs->kvs.n<=27->Q (.v d) H'
def afa (D:aR K mg "_law_told" Qn ["_law_cell","_law_letters_here","_law_by"])(bh:mg "len"=Ĳ)(iz:bD P w K mg base "_law_draw" 1 ["_law_cell","_law_j"] rH):bD P w K mg base "_law_told" 2 ["_law_cell","_law_letters_here","_law_by"] aaY:=by
 calc D.cU Dw ?_;intro f bF A outer s H vs Q E hr h;let(c,ls,b,rfl,hA,hb1,hb2,q):=h;let hu:=pI hr;let hhi:=hA.hi;calc%[0,_,(aD (aO (i:=3) Dw.nd rb (Or.Â rb) EY)<|aD (dz ck rb (pL<|aL lV aX<|bV [63] zD) (bG (i:=4) Dw.nd rb<|Or.Â rb)<|aD (aO (i:=5) Dw.nd rb (Or.Â rb)<|bf iz hr.Ô rb<|aj aK<|aj (aL bW (aL bW bw<|aP Y_ zw bh bE<|aj bN aq)<|aL gn aB<|d7 b9 PySem.F.slot_str_find PySem.F.type_str_find ab1 aX<|aj b_ aq) aq)<|aG<|dF (bK Wj (aL cH cI aB) aB<|bU _) (aG<|Di hu bN b_ (aL gK (aL cH (aL fW cI aB)<|aV fj (fK<|aj aB<|aj aB aq) (aL cH (aL fW cI aB) aB) λ_ _=>rfl)<|aV fj (fK<|aj aB<|aj aB aq) (aL cH (aL fW cI aB) aB) λ_ _=>rfl) rb) cC)<|aG<|aY bN)|?_];calc λd hd=>?_;let s0:aA H (upd H d<|HO.dK []):=aA.å hd;calc%[4,ls,[63],rb|%[20,rb,ar<|aJ (by show ls.n+1<=1000;lia),_,rb|?_]];refine Jd (l:=ls++[63]) (λi I j=>∃(Y Z:ĵ V) (kvs:İ (Key×V)),I=[į (.I c),į (.À<|S ls),į (.I b),į (.v d),Y,Z]/\aA H j/\j d=į (.dK kvs)/\WE kvs/\kvs.n<=i)
  ⟨10,Ĳ,Ĳ,[],rb,s0,au,(λkv m=>nomatch m),ag _⟩ ?_ ?_
 .intro i t I j hi z;let(Y,Z,kvs,rfl,G,g,J,B):=z;let hil:i<ls.n+1:=by have:=(am.mp hi).1;simpa using this
  calc%[1,d,kvs,rb,g|%[25,_,_,rb,rb,rb,ls,[t],rb,rb|λn n1 n2=>?_]];calc%[25,_,_,rb,rb,.Â %[zt|zt],_,_,rb,rb|?_];let ej:((b:ĸ)+((kvs.n:ı):ĸ))+3*n=((((b:ĸ)+((kvs.n:ı):ĸ))+3*n).Ü:ĸ):=zo;calc%[1,c,(((b:ĸ)+((kvs.n:ı):ĸ))+3*n).Ü,by show [V.I c,V.I (((b:ĸ)+((kvs.n:ı):ĸ))+3*n)]=_;rw[<-ej],by simp[Nat.sub_sub];lia|λF=>?_];refine%[25,_,_,rb,rb,(by show (0:ĸ)<5;decide),_,_,rb,rb|oO (λ_=>?_) λ_=>?_]
  .obtain⟨m,k,hm,hk,hp,hv⟩:∃m k:Int,kh [V.I 9,V.I 2000001] (F/7%2)=į (.I m)/\kh [V.I 4,V.I 1000000] (F/7%2)=į (.I k)/\0<m/\m<=2*k+1/\0<=k/\k<=1000000:=by
    rcases(show F/7%2=0\/F/7%2=1 by lia) with e|e;.rw[e];show%[22,9,4,rb,rb,zt,zt,zt|zt]
    .rw[e];show%[22,2000001,1000000,rb,rb,zt,zt,zt|zt]
   calc%[7,_,_,rb,rb,%[zt|zt],zsz 2|λM N=>?_];calc%[24,_,_,rb,rb,%[zt|zt],_,_,rb,rb,(by show (0:ĸ)<2;decide)|%[39,M,_,_,_,rb,rb,aZ.of au,hm,_,_,rb,rb,hp|?_]];let k1:aA j (upd j M<|HO.É [V.I 9,V.I 2000001]):=aA.å N;generalize upd j M (HO.É [V.I 9,V.I 2000001])=H3 at k1 ⊢;calc%[zsz 2|λL O=>?_];calc%[24,_,_,rb,rb,%[zt|zt],_,_,rb,rb,(by show (0:ĸ)<2;decide)|%[15,L,_,_,_,rb,rb,aZ.of au|%[17,hk,_,_,rb,rb|?_]]];let k2:aA H3 (upd H3 L<|HO.É [V.I 4,V.I 1000000]):=aA.å O;generalize upd H3 L (HO.É [V.I 4,V.I 1000000])=H4 at k2 ⊢;let hd4:=k2 _ _<|k1 _ _ g;let b1:=og (F/5) (show m≠0 by lia);let b2:=lI (F/5) hp;calc%[1,d,_,rb,uo.k (k:=bZ [t]) hd4<|aJ zo|?_];show%[10,_,_,_,rb,((G.X k1).X k2).bJ hd,au,J.put t zo zo|av (qQ _ _ _)<|gg B]
  .show%[10,_,_,kvs,rb,G,g,J|eJ B]
 .intro I j z;let(Y,Z,kvs,rfl,G,g,J,B):=z;rw[ax]at B;let B:kvs.n<=ls.n+1:=B;show(q d kvs j G g hd J zo)
def L_ (k1 k2:İ (Key×V))(l:İ ı):ı->ĸ
 | 0=>0
 | n+1=>L_ k1 k2 l n+wf k1 (l.Î n 0)+(if l.Î n 0∈l.Ã n then wf k2 (l.Î n 0) else 0)
def Rv (k1 k2:İ (Key×V))(l:İ ı):ĸ:=L_ k1 k2 l l.n
theorem Rw {α:Type}(f g:α->ĸ):∀j:İ α,(j.Q λc=>f c+g c).sum=(j.Q f).sum+(j.Q g).sum
 | []=>rfl
 | c::r=>by rw[bX,bX,bX,fE,fE,fE,Rw f g r];lia
theorem Rx (d:ĸ)(x:ı):∀g:İ ı,g.Ö->(g.Q λc=>if c=x then d else 0).sum=if x∈g then d else 0
 | [],_=>by simp
 | c::r,h=>by
  rw[io]at h;rw[bX,fE,Rx d x r h.2];by_cases e:c=x;.subst e;rw[ĺ rb,Ĺ h.1,ĺ aE];lia
  .rw[Ĺ e];by_cases m:x∈r;.rw[ĺ m,ĺ (ay _ m)];lia
   .rw[Ĺ m,Ĺ (λz=>(a_.mp z).í (λz=>e z.Ò) m)];rfl
theorem aaZ (k1 k2:İ (Key×V))(l g:İ ı)(nd:g.Ö)(B:∀c∈l,c∈g):∀n,n<=l.n->
  L_ k1 k2 l n=((l.Ã n).Q<|wf k1).sum+(g.Q λc=>wf k2 c*(((l.Ã n).Č c-1:ı):ĸ)).sum
 | 0,_=>by
  let e:∀g:İ ı,(g.Q λc=>wf k2 c*(((l.Ã 0).Č c-1:ı):ĸ)).sum=0:=λg=>by
   induction g with| nil=>rfl| cons c r ih=>rw[bX,fE,ih];simp
  rw[e];rfl
 | n+1,h=>by
  let hn:n<l.n:=h;let F:l.Î n 0=l[n]:=by simp[List.getD,hn]
  let D:l.Ã (n+1)=l.Ã n++[l[n]]:=by rw[bv,ae hn];rfl
  show L_ k1 k2 l n+wf k1 (l.Î n 0)+(if l.Î n 0∈l.Ã n then wf k2 (l.Î n 0) else 0)=_;rw[aaZ k1 k2 l g nd B n (ar h),F,D,bo];let e1:((l.Ã n).Q (wf k1)++[l[n]].Q (wf k1)).sum=((l.Ã n).Q<|wf k1).sum+wf k1 l[n]:=by rw[bX,ml,Pa]
  rw[e1];let e2:(g.Q λc=>wf k2 c*(((l.Ã n++[l[n]]).Č c-1:ı):ĸ))=g.Q λc=>wf k2 c*(((l.Ã n).Č c-1:ı):ĸ)+(if c=l[n] then (if l[n]∈l.Ã n then wf k2 l[n] else 0) else 0):=by
   calc dS λc _=>?_;rw[vi];by_cases e:c=l[n]
   .rw[e,ĺ rfl];let h1:[l[n]].Č l[n]=1:=zr;rw[h1];by_cases m:l[n]∈l.Ã n
    .rw[ĺ m];have:=ui.á m;generalize (l.Ã n).Č l[n]=k at this;obtain⟨j,rfl⟩:∃j,k=j+1:=%[k-1|zo]
     rw[show j+1+1-1=j+1 from rb,show j+1-1=j from rfl];rw[Int.natCast_add,Int.mul_add];simp
    .rw[Ĺ m,List.count_eq_zero.á m];simp
   .rw[Ĺ e];have:[l[n]].Č c=0:=by rw[List.count_eq_zero];intro z;show e<|al.mp z
    rw[this];simp
  rw[e2,Rw,Rx _ _ g nd,ĺ (B _<|aS hn)];lia
def Ry (k1 k2:İ (Key×V))(l g:İ ı)(nd:g.Ö)(j:∀c,c∈g↔c∈l):(l.Q<|wf k1).sum+(g.Q λc=>wf k2 c*((l.Č c:ĸ)-1)).sum=Rv k1 k2 l:=by
 unfold Rv;rw[aaZ k1 k2 l g nd (λc h=>(j c).á h) l.n (ag _),cK];let e:(g.Q λc=>wf k2 c*((l.Č c:ĸ)-1))=g.Q λc=>wf k2 c*((l.Č c-1:ı):ĸ):=by calc dS λc h=>?_;have:=ui.á<|(j c).mp h;congr 1;lia
 rw[e]
def ahu:Sp:=λvs H Q _=>∃(j g:Addr) (l:İ ı) (k1 k2:İ (Key×V)),vs=[.v j,.v g,.À (S l)]/\H j=į (.dK k1)/\H g=į (.dK k2)/\WE k1/\WE k2/\l.n<=7/\Q (.I<|Rv k1 k2 l) H
def aiF (D:aR K mg "_law_leave_counts" qL ["_law_singles","_law_doubles","_law_left_here"])(bh:mg "len"=Ĳ)(Z:mg "range"=Ĳ):bD P w K mg base "_law_leave_counts" 1 ["_law_singles","_law_doubles","_law_left_here"] ahu:=by
 calc D.cU jR λf bF A outer s H vs Q E Y h=>?_;let(J,G,l,k1,k2,rfl,h1,M,w1,N,hl,q):=h;let L:=pI Y;let hz:l.n<=Ŀ:=ar<|aJ zo;calc%[0,_,(aD (aO (i:=3) jR.nd rb (Or.Â rb) aB)<|aD (dz ck rb (fJ zw Z<|aj (aP cL zw bh bE<|aj bw aq) aq) (bG (i:=4) jR.nd rb<|Or.Â rb)<|aD (aO (i:=3) jR.nd rb (Or.Â rb)<|aL bW bN<|qG L aK (aV pK bw b_ λ_ _=>rfl) aB %[rb,rb,rb|rb])<|aG<|dF (bK Bc (aV pK bw b_ λ_ _=>rfl) (qC Jb bw t_<|uc b_) rb) (aG<|aO (i:=3) jR.nd rb (Or.Â rb)<|aL bW bN<|qG L aX (aV pK bw b_ λ_ _=>rfl) aB %[rb,rb,rb|rb]) cC)<|aG<|aY bN)|?_];calc%[51,_,rb,hz,_,rb,dA _,zo|?_];rw[cq];refine iQ (lo:=0) (n:=l.length) (λi I j=>∃B:ĵ V,I=[į (.v J),į (.v G),į (.À<|S l),į (.I<|L_ k1 k2 l i),B]/\j=H)
  %[0,Ĳ,rb|rb] ?_ ?_
 .intro i I j hi z;let(B,rfl,rfl):=z;let O:l.Î i 0=l[i]:=by simp[List.getD,hi]
  let g:kh l (0+(i:ĸ))=į l[i]:=by rw[nV];show aN<|ae hi
  calc%[63,J,rb,.Â %[_|.Â h1],l,_,l[i],rb,rb,hz,g,_,jV.k (k:=bZ [l[i]]) h1|?_];rw[Ii w1];calc%[1,_,_,rb,rb|?_];let F:nH l Ĳ (į<|0+(i:ĸ))=l.Ã i:=by rw[nV];show ae_<|ar hi
  calc%[5,l,_,l[i]|%[43,rb,rb,hz,g,_,rb|%[30,l,rb,hz,l[i],_,rb,rb|?_]]];rw[F];let step:L_ k1 k2 l (i+1)=L_ k1 k2 l i+wf k1 l[i]+(if l[i]∈l.Ã i then wf k2 l[i] else 0):=by show L_ k1 k2 l i+wf k1 (l.Î i 0)+(if l.Î i 0∈l.Ã i then wf k2 (l.Î i 0) else 0)=_;rw[O]
  by_cases m:l[i]∈l.Ã i
  .rw[aw m];calc%[63,G,rb,.Â %[_|.Â M],l,_,l[i],rb,rb,hz,g,_,jV.k (k:=bZ [l[i]]) M|?_];rw[Ii N];calc%[1,_,_,rb,rb|%[0,į<|.I<|0+(i:ĸ),?_|rb]];rw[step,ĺ m];rfl
  .rw[ai m];calc%[0,į<|.I<|0+(i:ĸ),?_|rb];rw[step,Ĺ m,Int.add_zero];rfl
 .intro I j z;let(B,rfl,rfl):=z;show q
structure wC (K:W.Ë)(C:Ķ):Prop where
 cl:Cls K C
 ns:lM K C "singles"
 nd:lM K C "doubles"
def V0 (C:Ķ):Sp:=λvs H Q _=>∃(p dx a b:Addr) (ks j:İ (Key×V)),vs=[.v p,.v a,.v b]/\H p=į (.ins C dx [])/\H a=į (.dK ks)/\H b=į (.dK j)/\
 ∀(ps g:Ķ) (H':Hp),(∀b o,H b=į o->b≠p->H' b=į o)->H' p=į (.ins C dx [("singles",.v ps),("doubles",.v g)])->H' ps=į (.dK ks)->H' g=į (.dK j)->H ps=Ĳ->H g=Ĳ->Q .ă H'
def ac6 (F:iH K "__init__" "Leaves.__init__" jg f fd)(T:wC K C)(Z:mg "dict"=Ĳ):dJ P w K mg base fP 1 f fd ["self","singles","doubles"] (V0 C):=by
 calc F.cU JC ?_;intro bF A outer s H vs Q E hr h;let(p,dx,a,b,ks,kd,rfl,hp,ha,J,q):=h;let nap:a≠p:=λz=>by rw[z,hp]at ha;cases ha
 let O:b≠p:=λz=>by rw[z,hp]at J;cases J
 calc%[0,_,(aD (xq aK (cN Gz zw Z PyProof.Ă.boot_dict<|aj aX aq) rb)<|aG<|xq aK (cN Gz zw Z PyProof.Ă.boot_dict<|aj bw aq) rb)|?_];calc%[1,a,ks,rb,ha|λps j=>%[14,p,C,dx,_,rb,aA.å j _ _ hp,T.cl,T.ns,by show 0<1000;decide|?_]];let B:ps≠p:=λz=>by rw[z,hp]at j;cases j
 let N:b≠ps:=λz=>by rw[z,j]at J;cases J
 calc%[1,b,kd,rb,by rw[aU O,aU N];show J|λM g=>?_];let Y:M≠p:=λz=>by rw[z,au]at g;cases g
 let D:ps≠M:=λz=>by rw[<-z,aU B,au]at g;cases g
 let G:H M=Ĳ:=by rw[aU Y,aU D.Ò]at g;show g
 calc%[14,p,C,dx,_,rb,by rw[aU Y.Ò];show au,T.cl,T.nd,by show 1<1000;decide|?_];refine q ps M _ (λc o e L=>?_) au ?_ ?_ j G
 .let c1:c≠M:=λz=>by rw[z,G]at e;cases e
  let c2:c≠ps:=λz=>by rw[z,j]at e;cases e
  rw[aU L,aU c1,aU L,aU c2];show e
 .rw[aU B,aU D,aU B];show au
 .rw[aU Y];show au
def Rz (C:Ķ):Sp:=λvs H Q _=>∃(p dx ps g:Addr) (l:İ ı) (k1 k2:İ (Key×V)),vs=[.v p,.À (S l)]/\H p=į (.ins C dx [("singles",.v ps),("doubles",.v g)])/\H ps=į (.dK k1)/\H g=į (.dK k2)/\WE k1/\WE k2/\l.n<=7/\
 ∀H',aA H H'->Q (.I<|Rv k1 k2 l) H'
def aa0 (F:iH K "counts" "Leaves.counts" gW f fd)(T:wC K C)(eF:mg "sorted"=Ĳ)(DP:mg "set"=Ĳ)(qX:mg "sum"=Ĳ):dJ P w K mg base fP 1 f fd ["self","left"] (Rz C):=by
 calc F.cU oW ?_;intro bF A outer s H vs Q E hr h;let(p,dx,ps,pd,l,k1,k2,rfl,hp,hps,hpd,w1,w2,hl,q):=h;let hu:=pI hr;let hz:l.n<=Ŀ:=ar<|aJ zo;calc%[0,_,(aD (o_ (ix:=2) (ns:=["tile"]) oW.nd rb (Or.Â rb) rb (fG.of ["self","left","singles","doubles"] [] zC) (pL aX) (λ_ _ _ _ _=>(kj (show (["tile","self","left","singles","doubles"]:İ ņ).Ö by decide +kernel) rb zw)) (λ_ _ _ _ _=>cM) λ_ _ _ _ _=>(qG hu (UW K aX rb) aK aB %[rb,rb,rb|rb]))<|aD (o_ (ix:=3) (ns:=["tile"]) oW.nd rb (Or.Â rb) rb (fG.of ["self","left","singles","doubles"] [] zC) (g_<|aP (GF w rb) zw eF ii<|aj (cN (S9 w rb) zw DP PyProof.Ă.boot_set<|aj aX aq) aq) (λ_ _ _ _ _=>(kj (show (["tile","self","left","singles","doubles"]:İ ņ).Ö by decide +kernel) rb zw)) (λ_ _ _ _ _=>cM) λ_ _ _ _ _=>(aL gn (qG hu (UW K aX rb) aK aB %[rb,rb,rb|rb])<|aL gK (O1 K b9 PySem.F.slot_str_count PySem.F.type_str_count KZ bw<|aj aK aq) aB))<|aG<|aY<|aL bW (aP (vN rb) zw qX rL<|aj bw aq)<|aP (vN rb) zw qX rL<|aj bN aq)|?_];refine%[0,l,rb|λM hM=>Gx (l:=l) (f:=eN [] 0) (tt:=gO) (λi ys B=>ys=((l.Ã i).Q<|wf k1).Q V.I/\B M=į (.É ys)/\aA H B) %[rb,au|aA.å hM] ?_ ?_]
 .intro i c ys B hi z;let(rfl,iw,s2):=z;let j:i<l.n:=(am.mp hi).1;calc yR %[54,p,C,dx,_,_,rb|%[43,s2 _ _ hp,T.cl,T.ns,rb,ps,rb|%[12,.Â %[_|.Â<|s2 _ _ hps],_,jV.k (k:=bZ [c])<|s2 _ _ hps|?_]]];rw[Ii w1];calc%[iw,by rw[aa,aa,ba];show aJ zo|dR.mk j %[?_,au|s2.bJ hM]];rw[bv,hi,bo,bo];rfl
 .intro ys B z;let(rfl,iw,s2):=z;rw[cK]at iw;calc%[2,l,rb,zo|λD hg1=>?_];refine%[10,D,_,_,rb,au,zo,λus nd hus=>?_|λJ ws hg2 nd hm so=>?_]
  .have:=nd.Ė (l₂:=l.Q λc=>[c]) λx hx=>hus x hx
   rw[aa]at this;lia
  obtain⟨g,rfl⟩:∃g:İ ı,ws=g.Q λc=>[c]:=by
   have:∀w∈ws,∃c,w=[c]:=λw hw=>by let(c,_,e):=aI.mp ((hm w).mp hw);show%[c|e.Ò]
   calc%[ws.Q λw=>w.headD 0|?_];rw[dm];calc(ke _).Ò.X<|dS λw hw=>?_;let(c,rfl):=this w hw;rfl
  let Rp:∀c,c∈g↔c∈l:=λc=>by have:=hm [c];simpa using this
  let Y:g.Ö:=by calc List.Ä.of_map (λc:ı=>[c]) (λa b h=>?_) nd;show λz=>h (by rw[z])
  let hcl:g.n<=7:=by have:=Y.Ė (l₂:=l) λc h=>(Rp c).mp h;show av this hl
  let Z:aA B (upd (upd B D<|.ext<|jX w D (l.Q λc=>[c]) l.n) J<|.É<|Ts<|g.Q λc=>[c]):=(aA.å hg1).X<|aA.å hg2;let LR:upd (upd B D<|.ext<|jX w D (l.Q λc=>[c]) l.n) J (.É<|Ts<|g.Q λc=>[c]) J=į (.É<|Ts<|g.Q λc=>[c]):=au;generalize upd (upd B D<|.ext<|jX w D (l.Q λc=>[c]) l.n) J (.É<|Ts<|g.Q λc=>[c])=H3 at Z LR ⊢;let hp3:=Z _ _<|s2 _ _ hp;let O:=Z _ _<|s2 _ _ hpd;refine%[2,J,rb,%[_|aZ.of LR]|λN hN=>qR (K:=K) (a:=J) (f:=eN [] 0) (tt:=gO) (xs:=Ts (g.Q λc=>[c])) (λi ys L=>ys=((g.Ã i).Q λc=>wf k2 c*((l.Č c:ĸ)-1)).Q V.I/\L N=į (.É ys)/\aA H3 L) %[rb,au|aA.å hN] (λi ys L _ h=>aZ.of<|h.2.2 _ _ LR) ?_ ?_]
  .intro i x ys L hx z;let(rfl,Hj,G):=z;let j:i<g.n:=by have:=(am.mp hx).1;simpa using this
   let ex:x=.À (S [g[i]]):=by
    have:(Ts<|g.Q λc=>[c])[i]?=į (.À<|S [g[i]]):=by simp[j]
    rw[this]at hx;show(bg hx).Ò
   subst ex;let b1:=Yb w2 g[i];let b2:l.Č g[i]<=l.n:=List.count_le_length;calc yR %[54,p,C,dx,_,_,rb|%[43,G _ _ hp3,T.cl,T.nd,rb,pd,rb|%[12,.Â %[_|.Â<|G _ _ O],_,jV.k (k:=bZ [g[i]])<|G _ _ O|?_]]];rw[Ii w2];calc%[8,rb,l|%[30,g[i],rb,rb,_,_,rb,rb|%[22,_,_,rb,rb,?_,Hj,by rw[aa,aa,ba];show aJ zo|dR.mk (by simpa using j) %[?_,au|G.bJ hN]]]];.show .Ð %[by show -(2^64)<(l.Č g[i]:ĸ)-1;lia|by show (l.Č g[i]:ĸ)-1<2^64;lia]
   .rw[bv,ae j,bo,bo];rfl
  .intro ys L z;let(rfl,Hj,G):=z;rw[aa,aa,cK]at Hj;let b1:∀x∈l.Q (wf k1),-1000000000000000<=x/\x<=1000000000000000:=λx hx=>by
    let(c,_,rfl):=aI.mp hx;have:=Yb w1 c;lia
   let b2:∀x∈g.Q (λc=>wf k2 c*((l.Č c:ĸ)-1)),-1000000000000000<=x/\x<=1000000000000000:=λx hx=>by let(c,hc,rfl):=aI.mp hx;let b1:=Yb w2 c;let b2:l.Č c<=l.n:=List.count_le_length;let b3:=ui.á<|(Rp c).mp hc;generalize l.Č c=k at b2 b3;generalize wf k2 c=y at b1;let e1:y*((k:ĸ)-1)<=1000000*((k:ĸ)-1):=xf b1.2 zo;let e2:-1000000*((k:ĸ)-1)<=y*((k:ĸ)-1):=xf b1.1 zo;lia
   calc%[13,M,_,rb,aZ.of<|G _ _<|Z _ _ iw,by rw[aa];lia|%[32,b1,N,_,rb,aZ.of Hj,by rw[aa];lia|%[17,b2,_,_,rb,rb|?_]]];have:=Ry k1 k2 l g Y Rp;let q':=q L<|(s2.X Z).X G;rw[<-this]at q';show q'
def adZ:Sp:=λvs H Q _=>∃(n:Int) (ls:İ ı),vs=[.I n,.À (S ls)]/\Fw ls/\∀c:ı,uQ c->Q (.À<|S [c]) H
def afb (D:aR K mg "_law_sign" Ql ["_law_cell","_law_letters_here"])(J:mg "len"=Ĳ):bD P w K mg base "_law_sign" 1 ["_law_cell","_law_letters_here"] adZ:=by
 calc D.cU Vm λf bF A outer s H vs Q E L h=>?_;let(n,ls,rfl,j,q):=h;let B:=j.lo;let F:=j.hi;let hz:ls.n<=Ŀ:=ar<|aJ zo;calc%[0,_,(aD (aO (i:=2) Vm.nd rb (Or.Â rb)<|aV pK aX (aL cH aK<|aP cL zw J bE<|aj aX aq) λ_ _=>rfl)<|aD (dF (bK lD (aL cH (aL fW aK aB) aB) aB<|bU _) (aG<|aY<|Ax b9 PySem.F.slot_str_upper PySem.F.type_str_upper agj bw) cC)<|aG<|aY bw)|?_];let(x,hx,hm):=qF (xs:=ls) (n:=ls.length) rb (ar B) n;let g:=j.az x hm;calc%[0,ls,rb|%[32,hz,_,_,rb,rb,(by show (0:ĸ)<(ls.n:ĸ);(simp_all;lia))|%[10,ls,_,x,rb,rb,hz,hx|?_]]];calc%[13,_,_,rb,rb,%[zt|zt]|%[7,_,_,rb,rb,(by show (0:ĸ)<5;decide),rb|bB _ rb ?_]];refine oO (λ_=>?_) λ_=>?_
 .calc%[rb|%[9,[x],rb,rb,by show 1<=1000;decide,λd hd=>by rw[al.mp hd];have:=g.2;lia|?_]];let G:[x].Q PyProof.Ă.up1=[x-32]:=by
   rw[nS];unfold PyProof.Rows.up1;rw[ĺ (show 97<=x/\x<=122 from g)]
  rw[G];show q _<|aao g
 .show(q x<|Qq g)
def ac7:İ ı:=[50,51,52,98,99,100]++(List.Ñ 12 [46]).Ê
def RD:Sp:=λvs H Q _=>∃(p:Addr) (ak:AA) (r w:Nat) (c:Int),vs=[.v p,.I c]/\H p=į (.Æ<|Ts ak)/\Blk r w ak/\1<=r/\r<=9/\w<=9/\
 ∀(t:Ķ) (aF:AA) (H':Hp),aA H H'->H' t=į (.Æ<|Ts aF)->Blk r w aF->(∀l∈aF,∀c∈l,Cm c)->Q (.v t) H'
def RG (D:aR K mg "_law_marks" JF ["_law_rows","_law_cell"])(bh:mg "len"=Ĳ)(cj:mg "range"=Ĳ)(bR:mg "tuple"=Ĳ)(iz:bD P w K mg base "_law_draw" 1 ["_law_cell","_law_j"] rH):bD P w K mg base "_law_marks" 2 ["_law_rows","_law_cell"] RD:=by
 calc D.cU oX ?_;intro f bF A outer s H vs Q E hr h;let(p,ak,r,w,c,rfl,hp,hb,r1,r9,w9,q):=h;let jt:(Ts ak).n=r:=by rw[aa,hb.len]
 let h0:0<ak.n:=by rw[hb.len];show r1
 let J:ak[0].n=w:=hb.iJ _<|aS _;calc%[0,_,(aD (aO (i:=2) oX.nd rb (Or.Â rb)<|fK aq)<|aD (dz ck rb (fJ zw cj<|aj (aP cD zw bh bE<|aj aK aq) aq) (bG (i:=3) oX.nd rb<|Or.Â rb)<|aD (aO (i:=4) oX.nd rb (Or.Â rb)<|bV [] zD)<|aD (dz ck rb (fJ zw cj<|aj (aP cL zw bh bE<|aj (aV bA aK aB λ_ _=>rfl) aq) aq) (bG (i:=5) oX.nd rb<|Or.Â rb)<|aD (aO (i:=6) oX.nd rb (Or.Â rb)<|bf iz hr.Ô rb<|aj aX<|aj (aL bW (aL bW aB<|aL gn aB bN) cI) aq)<|aG<|aO (i:=4) oX.nd rb (Or.Â rb)<|aL lV b_<|aV pK (aL lV (bV [50,51,52,98,99,100] zD)<|aL aed (bV [46] zD) aB) (aL cH dM aB) λ_ _=>rfl)<|aG<|gb<|d7 di ij ik k_ bw<|aj b_ aq)<|aG<|aY<|cN dX zw bR df<|aj bw aq)|?_];calc%[zsz 0|λR hR=>?_];let s0:aA H (upd H R<|HO.É []):=aA.å hR;calc%[1,p,_,rb,.Ð<|aQ.of<|s0 _ _ hp|%[18,_,rb,by rw[jt];show dA _,by rw[jt];lia|?_]];rw[jt,cq];refine iQ (lo:=0) (n:=r) (λi I L=>∃(v3 v4 F G:ĵ V) (ak:AA),I=[į (.v p),į (.I c),į (.v R),v3,v4,F,G]/\aA H L/\L R=į (.É<|Ts ak)/\ak.n=i/\∀l∈ak,l.n=w/\∀c∈l,Cm c)
  %[29,Ĳ,Ĳ,Ĳ,Ĳ,[],rb,s0,au,rb|λl h=>by simp at h] ?_ ?_
 .intro i I L hi z;let(v3,v4,F,G,ms,rfl,M,O,Z,g):=z;calc%[3,p,_,_,.À<|S ak[0],rb,rb,aQ.of<|M _ _ hp,aN (j:=0)<|oK (by simp[h0])|%[51,_,rb,ar<|aJ zo,_,rb,by rw[J];show dA _,by rw[J];lia|?_]];rw[J,cq];refine iQ (lo:=0) (n:=w) (λj I Y=>Y=L/\∃(F G:ĵ V) (B:İ ı),I=[į (.v p),į (.I c),į (.v R),į (.I<|0+(i:ĸ)),į (.À<|S B),F,G]/\B.n=j/\∀c∈B,Cm c)
   %[8,rb,F|%[1,G,[],rb,rb|λc h=>by simp at h]] ?_ ?_
  .intro j I Y hj z;let(rfl,F,G,B,rfl,N,Ro):=z;let e0:(100:ĸ)+9*(0+(i:ĸ))+(0+(j:ĸ))=((100+9*i+j:ı):ĸ):=zr;calc%[25,_,_,rb,rb,.Â %[zt|zt],_,_,rb,rb|%[23,_,_,rb,rb,c,100+9*i+j,by show [V.I c,V.I (100+9*(0+(i:ĸ))+(0+(j:ĸ)))]=_;rw[e0],zo|λnu=>?_]];let(x,hx,hxm):=qF (xs:=ac7) (n:=18) zt zt nu;let hmk:Cm x:=by
    have:∀x∈ac7,x∈MK:=by decide
    show this x hxm
   calc%[22,[46],12,rb,rb,zt,zt,zt|%[24,[50,51,52,98,99,100],_,rb,rb,zt,_,_,rb,rb,(by show (0:ĸ)<18;decide)|%[11,ac7,_,x,rb,rb,zt|%[32,hx,B,_,rb,rb,by rw[N];show ar<|aJ (by simp;lia)|?_]]]];calc%[8,rb,_|%[1,_,B++[x],rb,by simp[N]|λe he=>?_]];rcases a8.mp he with k|k;.show Ro e k
   .rw[al.mp k];show hmk
  .intro I Y z;let(rfl,F,G,B,rfl,N,Ro):=z;calc%[8,.Â %[8,rb,_|aZ.of O],R|%[7,_,_,rb,rb,O,by rw[aa];show aJ zo|?_]];calc%[29,_,_,_,_,ms++[B],rb,M.bJ hR,by rw[au,lW],by simp[Z]|λl hl=>?_];rcases a8.mp hl with k|k;.show g l k
   .rw[al.mp k];show%[N|Ro]
 .intro I L z;let(v3,v4,F,G,ms,rfl,M,O,Z,g):=z;calc%[4,R,_,rb|.Â %[aZ.of O|λT hT=>?_]];show q T ms _ (M.bJ<|M.Õ hT) au %[Z|λl h=>(g l h).1] λl h=>(g l h).2
def rkC (c:ı):Prop:=isLet c\/c=63
def RJ:Sp:=λvs H Q _=>∃(c:Int) (ls:İ ı) (m:Nat),vs=[.I c,.À (S ls),.I m]/\Fw ls/\m<=20/\∀l:İ ı,l.n<=m->l.Č 63<=2->(∀c∈l,rkC c)->Q (.À<|S l) H
def aa1 (D:aR K mg "_law_tiles" JL ["_law_cell","_law_letters_here","_law_most"])(bh:mg "len"=Ĳ)(cj:mg "range"=Ĳ)(iz:bD P w K mg base "_law_draw" 1 ["_law_cell","_law_j"] rH):bD P w K mg base "_law_tiles" 2 ["_law_cell","_law_letters_here","_law_most"] RJ:=by
 calc D.cU mX ?_;intro f bF A outer s H vs Q E hr h;let(c,ls,m,rfl,j,hm,q):=h;let hl1:=j.lo;let hl2:=j.hi;let hz:ls.n<=Ŀ:=ar<|aJ zo;obtain⟨n,hn,hnm⟩:∃n:Nat,c%((m:ĸ)+1)=(n:ĸ)/\n<=m:=by let h1:=og c (show (m:ĸ)+1≠0 by lia);let h2:=lI c (show (0:ĸ)<(m:ĸ)+1 by simp);show%[0,(c%((m:ĸ)+1)).Ü,zo|by simp_all;lia]
 calc%[0,_,(aD (aO (i:=3) mX.nd rb (Or.Â rb)<|aL cH aK<|aL bW bw aB)<|aD (aO (i:=4) mX.nd rb (Or.Â rb)<|bV [] zD)<|aD (dz ck rb (fJ zw cj<|aj bN aq) (bG (i:=5) mX.nd rb<|Or.Â rb)<|aD (aO (i:=6) mX.nd rb (Or.Â rb)<|bf iz hr.Ô rb<|aj aK<|aj (aL bW aB cI) aq)<|aD (aO (i:=7) mX.nd rb (Or.Â rb)<|aV pK aX (aL cH (aL fW dM aB)<|aP cL zw bh bE<|aj aX aq) λ_ _=>rfl)<|aD (dF (QW.qt<|pD (bK lD (aL cH dM aB) aB<|bU _)<|qw<|bK tL (d7 b9 PySem.F.slot_str_count PySem.F.type_str_count KZ b_<|aj (bV [63] zD) aq) aB<|bU _) (aG<|aO (i:=7) mX.nd rb (Or.Â rb)<|bV [63] zD) cC)<|aG<|aO (i:=4) mX.nd rb (Or.Â rb)<|aL lV b_ iU)<|aG<|aY b_)|?_];calc%[33,_,_,rb,rb,_,_,rb,rb,(by show (0:ĸ)<(m:ĸ)+1;lia)|?_];show j8 3 (V.I<|c%((m:ĸ)+1)) _ _ _;rw[hn];calc%[18,_,rb,dA _,zo|?_];rw[cq];refine iQ (lo:=0) (n:=n) (λi I N=>N=H/\∃(G J L:ĵ V) (l:İ ı),I=[į (.I c),į (.À<|S ls),į (.I m),į (.I n),į (.À<|S l),G,J,L]/\l.n=i/\l.Č 63<=2/\∀c∈l,rkC c)
  %[8,rb,Ĳ|%[11,Ĳ,Ĳ,[],rb,rb,ci _|λc h=>nomatch h]] ?_ ?_
 .intro i I N hi z;let(rfl,G,J,L,l,rfl,hl,hk,Y):=z;let e0:(150:ĸ)+(0+(i:ĸ))=((150+i:ı):ĸ):=zr;calc%[23,_,_,rb,rb,c,150+i,by show [V.I c,V.I (150+(0+(i:ĸ)))]=_;rw[e0],zo|λnu=>?_];let(y,hy,g):=qF (xs:=ls) (n:=ls.length) rb zo (nu/9);let ky:(l++[y]).Č 63<=2:=by
   have:=(j.az y g).1;rw[vi,List.count_singleton,Ĺ (by simp;lia)];show hk
  let F:∀(d:ı),(l++[d]).Č 63<=2->rkC d->∃(G J L:ĵ V) (M:İ ı),([į (.I c),į (.À<|S ls),į (.I m),į (.I n),į (.À<|S<|l++[d]),į (.I<|0+(i:ĸ)),į (.I nu),į (.À<|S [d])]:St)=[į (.I c),į (.À<|S ls),į (.I m),į (.I n),į (.À<|S M),G,J,L]/\M.n=i+1/\M.Č 63<=2/\∀c∈M,rkC c:=λd O hd=>
   %[15,_,_,_,l++[d],rb,by simp[hl],O|λe he=>by
    rcases a8.mp he with z|z;.show Y e z
    .rw[al.mp z];show hd]
  calc%[4,_,_,rb|%[20,rb,%[zt|zt],ls,rb|%[32,hz,_,_,rb,rb,(by show (0:ĸ)<(ls.n:ĸ);lia)|%[10,ls,_,y,rb,rb,hz,hy|?_]]]];let B:∀(d:ı),rkC d->l.n+[d].n<=Ŀ:=λd _=>ar<|aJ (by show l.n+1<=1000;lia);calc%[7,_,_,rb,rb,(by show (0:ĸ)<9;decide),rb|bB _ rb ?_];refine oO (λ_=>?_) λ_=>?_
  .calc%[8,rb,l|%[30,63,rb,rb,_,_,rb,rb|bB _ rb ?_]];calc oO (λZ=>?_) λ_=>?_;.show%[7,l,[63],rb,rb,B 63<|.Ð rb,rb|F 63 (by have:=eK Z;rw[vi];simp;lia)<|.Ð rb]
   .show%[7,l,[y],rb,rb,B y<|.Â<|j.az y g,rb|F y ky<|.Â<|j.az y g]
  .show%[7,l,[y],rb,rb,B y<|.Â<|j.az y g,rb|F y ky<|.Â<|j.az y g]
 .intro I N z;let(rfl,G,J,L,l,rfl,hl,hk,Y):=z;show(q l (by simp_all) hk Y)
def rJ {c:ĸ}{m:ı}(hm:0<m):∃n:Nat,c%(m:ĸ)=(n:ĸ)/\n<m:=by let h1:=og c (show (m:ĸ)≠0 by lia);let g:=lI c<|show (0:ĸ)<(m:ĸ) from i8 dC hm;show%[0,(c%(m:ĸ)).Ü,zo|by simp_all]
def V1:Sp:=λvs H Q _=>∃(c:Int) (ls:İ ı),vs=[.I c,.À (S ls)]/\Fw ls/\∀(p:Ķ) (ws:AA) (H':Hp),aA H H'->H p=Ĳ->H' p=į (.É<|Ts ws)->3<=ws.n->ws.n<=8->(∀l∈ws,nJ l/\l.n<=4)->Q (.v p) H'
def Nb (D:aR K mg "_law_some_words" uO ["_law_cell","_law_letters_here"])(bh:mg "len"=Ĳ)(cj:mg "range"=Ĳ)(iz:bD P w K mg base "_law_draw" 1 ["_law_cell","_law_j"] rH):bD P w K mg base "_law_some_words" 2 ["_law_cell","_law_letters_here"] V1:=by
 calc D.cU jh ?_;intro f bF A outer s H vs Q E hr h;let(c,ls,rfl,Z,q):=h;let hl1:=Z.lo;let hl2:=Z.hi;let hz:ls.n<=Ŀ:=ar<|aJ zo;let(n0,hn0,hn6):=rJ (c:=c) (m:=6) zt;calc%[0,_,(aD (aO (i:=2) jh.nd rb (Or.Â rb)<|fK aq)<|aD (dz ck rb (fJ zw cj<|aj (aL bW aB<|aL cH aK aB) aq) (bG (i:=3) jh.nd rb<|Or.Â rb)<|aD (aO (i:=4) jh.nd rb (Or.Â rb)<|bf iz hr.Ô rb<|aj aK<|aj (aL bW aB bN) aq)<|aD (aO (i:=5) jh.nd rb (Or.Â rb)<|bV [] zD)<|aD (dz ck rb (fJ zw cj<|aj (aL bW aB<|aL cH b_ aB) aq) (bG (i:=6) jh.nd rb<|Or.Â rb)<|aG<|aO (i:=5) jh.nd rb (Or.Â rb)<|aL lV cI<|aV pK aX (aL cH (bf iz hr.Ô rb<|aj b_<|aj (aL bW aB dM) aq)<|aP cL zw bh bE<|aj aX aq) λ_ _=>rfl)<|aG<|gb<|d7 di ij ik k_ bw<|aj cI aq)<|aG<|aY bw)|?_];calc%[zsz 0|λR hR=>?_];let s0:aA H (upd H R<|HO.É []):=aA.å hR;calc%[25,_,_,rb,rb,(by show (0:ĸ)<6;decide),_,_,rb,rb|%[18,_,rb,zo,zo|?_]];rw[show (3+c%6:ĸ)=((3+n0:ı):ĸ) by have:c%((6:ı):ĸ)=c%6:=rfl;simp_all,cq];refine iQ (lo:=0) (n:=3+n0) (λi I F=>∃(v3 O Y g:ĵ V) (ws:AA),I=[į (.I c),į (.À<|S ls),į (.v R),v3,O,Y,g]/\aA H F/\F R=į (.É<|Ts ws)/\ws.n=i/\∀l∈ws,nJ l/\l.n<=4)
  %[29,Ĳ,Ĳ,Ĳ,Ĳ,[],rb,s0,au,rb|λl h=>nomatch h] ?_ ?_
 .intro i I F hi z;let(v3,O,Y,g,ws,rfl,N,L,J,hw):=z;let e0:(220:ĸ)+(0+(i:ĸ))=((220+i:ı):ĸ):=zr;calc%[23,_,_,rb,rb,c,220+i,by show [V.I c,V.I (220+(0+(i:ĸ)))]=_;rw[e0],zo|λB=>?_];let(n1,hn1,hn3):=rJ (c:=B) (m:=3) zt;calc%[25,_,_,rb,rb,(by show (0:ĸ)<3;decide),_,_,rb,rb|%[18,_,rb,zo,zo|?_]];rw[show (2+B%3:ĸ)=((2+n1:ı):ĸ) by have:B%((3:ı):ĸ)=B%3:=rfl;simp_all,cq];refine iQ (lo:=0) (n:=2+n1) (λj I M=>M=F/\∃(g:ĵ V) (l:İ ı),I=[į (.I c),į (.À<|S ls),į (.v R),į (.I<|0+(i:ĸ)),į (.I B),į (.À<|S l),g]/\l.n=j/\∀c∈l,isLet c)
   %[17,rb,g,[],rb,rb|λc h=>nomatch h] ?_ ?_
  .intro j I M hj z;let(rfl,g,l,rfl,hl,hc):=z;let e1:(3:ĸ)+(0+(j:ĸ))=((3+j:ı):ĸ):=zr;calc%[23,_,_,rb,rb,B,3+j,by show [V.I B,V.I (3+(0+(j:ĸ)))]=_;rw[e1],zo|λmu=>?_];let(y,hy,G):=qF (xs:=ls) (n:=ls.length) rb (ar hl1) mu;calc%[0,ls,rb|%[32,hz,_,_,rb,rb,(by show (0:ĸ)<(ls.n:ĸ);(simp_all;lia))|%[11,ls,_,y,rb,rb,hz|%[32,hy,l,[y],rb,rb,ar<|aJ (by show l.n+1<=1000;lia)|?_]]]];calc%[17,rb,_,l++[y],rb,by simp[hl]|λe he=>?_];rcases a8.mp he with z|z;.show hc e z
   .rw[al.mp z];show Z.az y G
  .intro I M z;let(rfl,g,l,rfl,hl,hc):=z;calc%[8,.Â %[8,rb,_|aZ.of L],R|%[7,_,_,rb,rb,L,by rw[aa];show aJ zo|?_]];calc%[29,_,_,_,_,ws++[l],rb,N.bJ hR,by rw[au,lW],by simp[J]|λl' hl'=>?_];rcases a8.mp hl' with z|z;.show hw l' z
   .rw[al.mp z];show%[%[by simp_all,zo|hc]|by simp_all +arith]
 .intro I F z;let(v3,O,Y,g,ws,rfl,N,L,J,hw):=z;show(q R ws F N hR L (by simp_all) (by simp_all +arith) hw)
def V2 (hi:i<n):xu n (i:ĸ)=į i:=by unfold xu;rw[ĺ (dA _),ĺ (i8 dC hi)];congr 1
def Ma {r w:ı}{R:AA}(h:Blk r w R)(i j z:ı):Blk r w (setAt R i j z):=by
 unfold setAt;calc%[by rw[mf,h.len]|λl g=>?_];rcases i7 g with y|y;.show h.iJ l y
 .rw[y,mf];by_cases c:i<R.n;.rw[ap,ae c];show h.iJ _<|aS _
  .rw[List.set_eq_of_length_le (jn c)]at g;rw[<-mf (i:=j) (a:=z),<-y];show h.iJ l g
def RK (h:∀l∈R,∀c∈l,uR c)(hz:uR z):∀l∈setAt R i j z,∀c∈l,uR c:=λl B c g=>by
 unfold setAt at B;rcases i7 B with y|y;.show h l y c g
 .rw[y]at g;rcases i7 g with u|u
  .by_cases k:i<R.n;.rw[ap,ae k]at u;show h _ (aS _) c u
   .rw[ap,dv zo]at u;show Ł u zr
  .rw[u];show hz
def V3:Sp:=λvs H Q _=>∃(c:Int) (ls:İ ı) (g:Addr) (ws:AA),vs=[.I c,.À (S ls),.v g]/\Fw ls/\H g=į (.É<|Ts ws)/\0<ws.n/\ws.n<=63/\(∀l∈ws,nJ l)/\
 ∀(p:Ķ) (ak:AA) (r w:ı) (H':Hp),aA H H'->H' p=į (.Æ<|Ts ak)->Blk r w ak->1<=r->r<=5->1<=w->w<=5->(∀l∈ak,∀c∈l,uR c)->Q (.v p) H'
def Nf (D:aR K mg "_law_small_rows" uP ["_law_cell","_law_letters_here","_law_words_here"])(bh:mg "len"=Ĳ)(cj:mg "range"=Ĳ)(bR:mg "tuple"=Ĳ)(iz:bD P w K mg base "_law_draw" 1 ["_law_cell","_law_j"] rH)(ahx:bD P w K mg base "_law_sign" 1 ["_law_cell","_law_letters_here"] adZ):bD P w K mg base "_law_small_rows" 2 ["_law_cell","_law_letters_here","_law_words_here"] V3:=by
 calc D.cU dh ?_;intro f bF A outer s H vs Q E hr h;let(c,ls,pw,ws,rfl,hA,hpw,hw0,ajY,hW,q):=h;let hwl:(Ts ws).n=ws.n:=aa _;obtain⟨r,hr1,r1,r5⟩:∃r:Nat,1+c%5=(r:ĸ)/\1<=r/\r<=5:=%[2,(1+c%5).Ü,zo,zo|by simp_all;lia]
 obtain⟨B,hw1,w1,w5⟩:∃B:Nat,1+c/5%5=(B:ĸ)/\1<=B/\B<=5:=%[2,(1+c/5%5).Ü,by grind,by grind|by grind]
 obtain⟨kn,hkn,hk3⟩:∃n:Nat,c/25%3=(n:ĸ)/\n<3:=rJ (c:=c/25) (m:=3) zt;calc%[0,_,(aD (aO (i:=3) dh.nd rb (Or.Â rb)<|aL bW aB<|aL cH aK aB)<|aD (aO (i:=4) dh.nd rb (Or.Ð rb)<|aL bW aB<|aL cH (aL fW aK aB) aB)<|aD (o_ (ix:=5) (ns:=["_law_row"]) dh.nd rb (Or.Â rb) rb (fG.of ["_law_cell","_law_letters_here","_law_words_here","_law_tall","_law_wide","_law_grid_here",".6","_law_k","_law_number","_law_word","_law_column","_law_sign_here"] [6] zC) (fJ zw cj<|aj bN aq) (λ_ _ _ _ _=>(kj (show (["_law_row","_law_cell","_law_letters_here","_law_words_here","_law_tall","_law_wide","_law_grid_here",".6","_law_k","_law_number","_law_word","_law_column","_law_sign_here"]:İ ņ).Ö by decide +kernel) rb zw)) (λ_ _ _ _ _=>cM) λ_ _ _ _ _=>(aL aga (fK<|aj (bV [46] zD) aq) cI))<|aD (dz ck rb (fJ zw cj<|aj (aL cH (aL fW aK aB) aB) aq) (bG (i:=7) dh.nd rb<|Or.Â rb)<|aD (aO (i:=8) dh.nd rb (Or.Â rb)<|bf iz hr.Ô rb<|aj aK<|aj (aL bW aB iU) aq)<|aD (aO (i:=9) dh.nd rb (Or.Â rb)<|aV fj bw (aL cH iV<|aP cD zw bh bE<|aj bw aq) λ_ _=>rfl)<|aD (aO (i:=6) dh.nd rb (Or.Â rb)<|aL cH (aL fW iV aB) bN)<|aD (aO (i:=10) dh.nd rb (Or.Â rb)<|aL cH (aL fW iV aB) b_)<|aG<|dz ck rb (pL iW) (bG (i:=11) dh.nd rb<|Or.Â rb)<|aG<|nW<|dF (QW.qt<|pD (bK tL dM bN<|bU _)<|qw<|bK tL jy b_<|bU _) (aD (xg gQ<|Gw (aV fj cI dM λ_ _=>rfl) jy set_list)<|aD (aO (i:=6) dh.nd rb (Or.Â rb)<|aL bW dM<|aL cH iU aB)<|aG<|aO (i:=10) dh.nd rb (Or.Â rb)<|aL gK (aL bW jy aB)<|aL cH iU aB) cC)<|aD (aO (i:=8) dh.nd rb (Or.Â rb)<|bf iz hr.Ô rb<|aj aK<|aj aB aq)<|aD (nW<|dF (bK lD (aL cH iV aB) aB<|bU _) (aG<|xg (bf ahx hr.Ô rb<|aj (aL fW iV aB)<|aj aX aq)<|Gw (aV fj cI (aL cH (aL fW iV aB) bN) λ_ _=>rfl) (aL cH (aL fW iV aB) b_) set_list) cC)<|aG<|aY<|cN dX zw bR df<|aj (h_ rb (gM.of dh.nd zC) (g_ cI) (λ_ _ _ _ _=>cM) λ_ _ _ _ _=>(O1 K b9 eP eQ (OJ K) (bV [] zD)<|aj aK aq)) aq)|?_];calc%[25,_,_,rb,rb,(by show (0:ĸ)<5;decide),_,_,rb,rb|?_];show j8 3 (V.I<|1+c%5) _ _ _;rw[hr1];calc%[13,_,_,rb,rb,%[zt|zt]|%[25,_,_,rb,rb,(by show (0:ĸ)<5;decide),_,_,rb,rb|?_]];show j8 4 (V.I<|1+c/5%5) _ _ _;rw[hw1];calc%[18,_,rb,dA _,by grind|λM hM=>?_];rw[cq];refine O6 (f:=eN [6] 0) (tt:=gO) (lo:=0) (n:=r) (λi ys H2=>∃ps:İ Ķ,ys=ps.Q V.v/\H2 M=į (.É ys)/\aA H H2/\dg H H2 ps (List.Ñ i<|List.Ñ B 46)/\M∉ps)
  %[9,[],rb,au,aA.å hM,%[zr,oB,λp h=>by simp at h|λi h=>by simp at h]|zr] ?_ ?_
 .intro i ys H2 hi z;let(ps,rfl,iw,sm,iK,nM):=z;let hpl:ps.n=i:=by rw[iK.len,dE]
  calc yR %[zsz 1|λT hT=>%[35,T,(B:ĸ),[V.À (S [46])],rb,rb,au,dA _,by grind,by show 1*(B:ĸ).Ü<=Ŀ;rw[cq];show ar<|aJ (by grind)|λg hg=>?_]];let e46:(List.Ñ (B:ĸ).Ü [V.À (S [46])]).Ê=Ts (ones<|List.Ñ B 46):=by rw[cq];simp[Ts,ones,List.flatten_replicate_singleton]
  rw[e46];let s7:aA H2 (upd (upd H2 T<|.É [V.À (S [46])]) g<|.É<|Ts<|ones<|List.Ñ B 46):=(aA.å hT).X<|aA.å hg;let hg7:upd (upd H2 T<|.É [V.À (S [46])]) g (.É<|Ts<|ones<|List.Ñ B 46) g=į (.É<|Ts<|ones<|List.Ñ B 46):=au;let hg2:H2 g=Ĳ:=by
   have:=hg;by_cases z:g=T;.rw[z,au]at this;cases this
   .rw[aU z]at this;show this
  generalize upd (upd H2 T<|.É [V.À (S [46])]) g (.É<|Ts<|ones<|List.Ñ B 46)=H7 at s7 hg7 ⊢;let ngM:M≠g:=λz=>by rw[<-z,iw]at hg2;cases hg2
  let ngp:g∉ps:=λz=>by let(k,hk,e):=cy.mp z;have:=iK.Ć k hk;rw[e,hg2]at this;cases this
  refine%[s7 _ _ iw,by rw[aa];show aJ (by grind)|dR.mk hi %[9,ps++[g],zr,au,(sm.X s7).bJ hM,?_|?_]]
  .rw[xc];calc dg.mv ((iK.mvS s7).snoc ngp (sm.Õ hg2) hg7) λy hy=>aU λz=>?_;rcases a8.mp hy with u|u
   .show nM<|z ▸ u
   .show ngM<|z.Ò.X<|al.mp u
  .intro z;rcases a8.mp z with u|u;.show nM u
   .show ngM<|al.mp u
 .intro ys H2 z;let(ps,rfl,iw,sm,iK,nM):=z;let hr0:=iK;calc%[24,_,_,rb,rb,%[zt|zt],_,_,rb,rb,(by show (0:ĸ)<3;decide)|%[18,_,rb,by simp_all,zo|?_]];rw[show (c/25%3:ĸ)=(kn:ĸ) from hkn,cq];refine iQ (lo:=0) (n:=kn) (λi I H3=>∃(v6 v7 v8 v9 L F:ĵ V) (R:AA),I=[į (.I c),į (.À<|S ls),į (.v pw),į (.I r),į (.I B),į (.v M),v6,v7,v8,v9,L,F]/\aA H H3/\H3 M=į (.É<|ps.Q V.v)/\dg H H3 ps R/\Blk r B R/\(∀l∈R,∀c∈l,uR c))
   %[41,Ĳ,Ĳ,Ĳ,Ĳ,Ĳ,Ĳ,_,rb,sm,iw,iK,%[dE|λl hl=>by rw[uj hl,dE]]|λl hl c hc=>by rw[uj hl]at hc;show .Â<|uj hc] ?_ ?_
  .intro k I H3 hk z;let(v6,v7,v8,v9,L,F,R,rfl,sm3,tD,iD,J,El):=z;let e0:(30:ĸ)+(0+(k:ĸ))=((30+k:ı):ĸ):=zr;calc%[23,_,_,rb,rb,c,30+k,by show [V.I c,V.I (30+(0+(k:ĸ)))]=_;rw[e0],zo|λY=>?_];let(y,hy,hmem):=qF (xs:=Ts ws) (n:=ws.length) hwl hw0 Y;let(l,hl,rfl):=aI.mp hmem;let(i0,hi0,hir):=rJ (c:=Y/100) (m:=r) r1;let(j0,hj0,hjw):=rJ (c:=Y/500) (m:=B) w1;let ahy:=sm3 _ _ hpw;calc%[33,pw,_,rb,.Â<|aZ.of ahy,_,_,rb,rb,(by rw[hwl];show (0:ĸ)<(ws.n:ĸ);show i8 dC hw0)|%[3,pw,_,_,.À<|S l,rb,rb,aZ.of ahy,by rw[hwl];show hy|?_]];calc%[24,_,_,rb,rb,%[zt|zt],_,_,rb,rb,(by show (0:ĸ)<(r:ĸ);show i8 dC r1)|?_];show j8 6 (V.I<|Y/100%(r:ĸ)) _ _ _;rw[hi0];calc%[24,_,_,rb,rb,%[zt|zt],_,_,rb,rb,(by show (0:ĸ)<(B:ĸ);show i8 dC w1)|?_];show j8 10 (V.I<|Y/500%(B:ĸ)) _ _ _;rw[hj0];refine%[0,l,rb|Jd (λm I H4=>∃(i j:Nat) (F:ĵ V) (R:AA),I=[į (.I c),į (.À<|S ls),į (.v pw),į (.I r),į (.I B),į (.v M),į (.I i),į (.I<|0+(k:ĸ)),į (.I Y),į (.À<|S l),į (.I j),F]/\aA H H4/\H4 M=į (.É<|ps.Q V.v)/\dg H H4 ps R/\Blk r B R/\(∀l∈R,∀c∈l,uR c))
    %[14,i0,j0,F,R,rb,sm3,tD,iD,J|El] ?_ ?_]
   .intro m d I H4 hd z;let(i,j,F,R,rfl,wk,Ik,O,Z,Gd):=z;let hdl:=(hW l hl).az d<|a7 hd;calc%[λI' H'=>∃(i j:Nat) (F:ĵ V) (R:AA),I'=[į (.I c),į (.À<|S ls),į (.v pw),į (.I r),į (.I B),į (.v M),į (.I i),į (.I<|0+(k:ĸ)),į (.I Y),į (.À<|S l),į (.I j),F]/\aA H H'/\H' M=į (.É<|ps.Q V.v)/\dg H H' ps R/\Blk r B R/\(∀l∈R,∀c∈l,uR c),?_|λI' H' z=>z];calc%[1,_,_,rb,rb|oO (λhlt=>?_) λ_=>%[14,i,j,_,R,rb,wk,Ik,O,Z|Gd]];calc%[1,_,_,rb,rb|oO (λhlt2=>?_) λ_=>%[14,i,j,_,R,rb,wk,Ik,O,Z|Gd]];let hi:i<r:=by have:=eK hlt;simp_all
    let hj:j<B:=by have:=eK hlt2;grind
    let hpl:ps.n=r:=by rw[O.len,Z.len]
    let G:i<ps.n:=by simp_all
    let Hl:i<R.n:=by rw[Z.len];show hi
    let hwi:(R.Î i []).n=B:=by rw[ap,ae Hl];show Z.iJ _<|aS _
    let(k2,hk2,ajZ):=rJ (c:=(0+(k:ĸ))) (m:=2) zt;calc%[3,M,_,_,.v ps[i],rb,rb,aZ.of Ik,aN (by simp[G])|%[3,ps[i],_,_,j,rb,rb,O.Ć i G,?_|?_]];.rw[aa,aa,hwi];show V2 hj
    calc%[25,_,_,rb,rb,(by show (0:ĸ)<2;decide),_,_,rb,rb|?_];calc%[1,_,_,rb,rb|%[25,_,_,rb,rb,(by show (0:ĸ)<2;decide),_,_,rb,rb|?_]];refine%[14,i+k2,j+1-k2,į<|.À<|S [d],setAt R i j d,?_,wk.bJ<|O.fr _<|aS _,?_,O.ē G,Ma Z _ _ _|RK Gd<|.Ð<|Qq hdl]
    .let e1:(i:ĸ)+(0+(k:ĸ))%2=((i+k2:ı):ĸ):=by have:(0+(k:ĸ))%((2:ı):ĸ)=(0+(k:ĸ))%2:=rfl;simp_all
     let e2:(j:ĸ)+1-(0+(k:ĸ))%2=((j+1-k2:ı):ĸ):=by have:(0+(k:ĸ))%((2:ı):ĸ)=(0+(k:ĸ))%2:=rfl;lia
     rw[<-e1,<-e2];rfl
    .let ne:M≠ps[i]:=λz=>nM (by rw[z];show aS _)
     rw[aU ne];show Ik
   .intro I H4 z;let(i,j,F,R,rfl,wk,Ik,O,Z,Gd):=z;show%[41,_,_,_,_,_,_,R,rb,wk,Ik,O,Z|Gd]
  .intro I H3 z;let(v6,v7,v8,v9,L,F,R,rfl,sm3,tD,iD,J,El):=z;calc%[1,c,40,rb,zt|λY=>?_];refine%[λI' H'=>∃(v6 v7 v9 L F:ĵ V) (R:AA),I'=[į (.I c),į (.À<|S ls),į (.v pw),į (.I r),į (.I B),į (.v M),v6,v7,į (.I Y),v9,L,F]/\aA H H'/\H' M=į (.É<|ps.Q V.v)/\dg H H' ps R/\Blk r B R/\(∀l∈R,∀c∈l,uR c),?_|?_]
   .calc%[7,_,_,rb,rb,(by show (0:ĸ)<3;decide),rb|oO (λ_=>?_) λ_=>%[40,_,_,_,_,_,R,rb,sm3,tD,iD,J|El]];calc%[25,_,_,rb,rb,%[zt|zt],Y/75,ls,rb,hA|λd hd=>?_];let(i,hi0,hi):=rJ (c:=Y/3) (m:=r) zo;let(j,hj0,hj):=rJ (c:=Y/15) (m:=B) zo;let hpl:ps.n=r:=by rw[iD.len,J.len]
    let G:i<ps.n:=by simp_all
    let Hl:i<R.n:=by rw[J.len];show hi
    let hwi:(R.Î i []).n=B:=by rw[ap,ae Hl];show J.iJ _<|aS _
    calc%[24,_,_,rb,rb,%[zt|zt],_,_,rb,rb,(by show (0:ĸ)<(r:ĸ);lia)|%[3,M,_,_,.v ps[i],rb,rb,aZ.of tD,by rw[hi0];show aN (by simp[G])|%[24,_,_,rb,rb,%[zt|zt],_,_,rb,rb,(by show (0:ĸ)<(B:ĸ);lia)|%[3,ps[i],_,_,j,rb,rb,iD.Ć i G,?_|?_]]]];.rw[aa,aa,hwi,hj0];show V2 hj
    calc%[40,_,_,_,_,_,setAt R i j d,rb,sm3.bJ<|iD.fr _<|aS _,?_,iD.ē G,Ma J _ _ _|RK El<|.Ð hd];let ne:M≠ps[i]:=λz=>nM (by rw[z];show aS _);rw[aU ne];show tD
   .intro I' H4 z;let(v6,v7,v9,L,F,R,rfl,wk,Ik,O,Z,Gd):=z;let hpl:ps.n=r:=by rw[O.len,Z.len]
    refine%[2,M,rb,%[_|aZ.of Ik]|λN hN=>vJ (xs:=ps.Q V.v) (λi ys H5=>ys=Ts (R.Ã i)/\H5 N=į (.É ys)/\aA H4 H5) %[rb,au|aA.å hN] (λi ys H5 _ h=>aZ.of<|h.2.2 _ _ Ik) ?_ ?_]
    .intro i x ys H5 hi z;let(rfl,Er,vo):=z;rw[bz]at hi;let hi':i<ps.n:=by
      rcases dQ i ps.n with z|z;.show z
      .rw[dv z]at hi;cases hi
     rw[ae hi']at hi;let hi:V.v ps[i]=x:=bg hi;subst hi;let Hl:i<R.n:=by rw[<-O.len];show hi'
     let hg:R.Î i []=R[i]:=by rw[ap,ae Hl];rfl
     let hw:R[i].n=B:=Z.iJ _<|aS _;let hat:=O.Ć i hi';rw[hg]at hat;calc%[8,rb,ps[i]|%[49,ones R[i],rb,rb,aZ.of<|vo _ _ hat,by rw[jH,hw];show av w5<|kG _ _,Er,?_|dR.mk (by rw[aa];show hi') %[?_,au|vo.bJ hN]]];.rw[aa,ba];show aJ (by grind)
     .rw[jH,lW,bv,ae Hl];rfl
    .intro ys H5 z;let(rfl,Er,vo):=z;rw[cn (by rw[aa,O.len];show ag _)]at Er;calc%[4,N,_,rb|.Â %[aZ.of Er|λT hT=>?_]];show q T R r B _ ((wk.X vo).bJ<|(wk.X vo).Õ hT) au Z r1 r5 w1 w5 Gd
def Mf:Sp:=λvs H Q _=>∃(D:İ ı) (t:Addr) (as:İ Ķ) (ts:İ bL),vs=[.À (S D),.v t]/\H t=į (.Æ<|as.Q V.v)/\dH H as ts/\ts.n<=7/\D.n<=63/\(∀t∈ts,uQ t.2.2)/\sV D (eY ts)/\∀(l:İ ı) (H':Hp),l.æ (yF D<|eY ts)->aA H H'->Q (.À<|S l) H'
def T_ (D:aR K mg "_law_left" Qo ["_law_rack","_law_laying"])(jE:mg "list"=Ĳ)(eF:mg "sorted"=Ĳ):bD P w K mg base "_law_left" 2 ["_law_rack","_law_laying"] Mf:=by
 calc D.cU yh ?_;intro f bF A outer s H vs Q E hr h;let(B,t,as,ts,rfl,ht,hL,h7,h63,hsg,Z,q):=h;let hal:=hL.đ;calc%[0,_,(aD (aO (i:=2) yh.nd rb (Or.Â rb)<|cN (tU rb) zw jE nE<|aj aK aq)<|aD (dz ck rb (fH aX) (lN rb<|cu (bG (i:=3) yh.nd rb<|Or.Â rb)<|cu (bG (i:=4) yh.nd rb<|Or.Â rb)<|cu (bG (i:=5) yh.nd rb<|Or.Â rb) jM)<|aG<|dF (bK xJ cI (Ax b9 qV q0 Gu cI)<|bU _) (aG<|gb<|d7 di t9 ue Bj bw<|aj cI aq)<|aG<|gb<|d7 di t9 ue Bj bw<|aj (bV [63] zD) aq)<|aG<|aY<|d7 b9 eP eQ o8 (bV [] zD)<|aj (aP Bk zw eF ii<|aj bw aq) aq)|?_];calc%[2,B,rb,zo|λL hL0=>?_];let s0:aA H (upd H L<|.É<|Ts<|ones B):=aA.å hL0;refine%[2,t,rb,%[_|aQ.of<|s0 _ _ ht]|m8 (K:=K) (a:=t) (xs:=as.Q V.v) (λi I G=>∃(v3 O Y:ĵ V) (us:İ ı),I=[į (.À<|S B),į (.v t),į (.v L),v3,O,Y]/\aA H G/\G L=į (.É<|Ts<|ones us)/\us.n<=63/\sV us ((eY ts).Ì i)/\yF us ((eY ts).Ì i)=yF B (eY ts))
  %[14,Ĳ,Ĳ,Ĳ,B,rb,s0,au,h63,Z|rb] (λi I G _ h=>by let(_,_,_,_,_,J,_):=h;show aQ.of<|J _ _ ht) ?_ ?_]
 .intro i x I G hx z;let(v3,O,Y,us,rfl,J,g,HS,hf,F):=z;let(hi,hx):=rfg hx;subst hx;let(u,eu,hU):=hL.ď hi;let hum:=hsg u<|a7 eu;let N:i<(eY ts).n:=by unfold eY;rw[aa];lia
  let hsi:(eY ts)[i]=u.2.2:=by
   have:(eY ts)[i]?=į u.2.2:=by unfold eY;rw[bz,eu];rfl
   rw[ae N]at this;show bg this
  rw[l_ N,hsi]at hf F;let(hm,hf):=hf;let drop:∀(c:ı),c=cB u.2.2->∃(v3 O Y:ĵ V) (j:İ ı),([į (.À<|S B),į (.v t),į (.v L),į (.I u.1),į (.I u.2.1),į (.À<|S [u.2.2])]:St)=[į (.À<|S B),į (.v t),į (.v L),v3,O,Y]/\aA H (upd G L<|.É<|Ts<|(ones us).ć [c])/\upd G L (.É<|Ts<|(ones us).ć [c]) L=į (.É<|Ts<|ones j)/\j.n<=63/\sV j ((eY ts).Ì<|i+1)/\yF j ((eY ts).Ì<|i+1)=yF B (eY ts):=λc ec=>by subst ec;rw[Ih];calc%[14,_,_,_,us.ć<|cB u.2.2,rb,J.bJ hL0,au,?_,hf|F];have:=(xI (a:=cB u.2.2) (l:=us)).length_le;show av this HS
  calc%[1,as[i],_,rb,aQ.of<|J _ _ hU|%[19,rb,_,_,rb|%[6,_,_|%[17,rb,_,_,rb,rb|?_]]]];let ajJ:=hum.lt;let mm:∀c:ı,c=cB u.2.2->[c]∈ones us:=λc ec=>by rw[ec];show eB hm
  refine%[rb|%[18,[u.2.2],rb,rb,by show 1<=1000;decide|%[17,λe F=>by rw[al.mp F];show ajJ,_,_,rb,rb|oO (λM=>?_) λM=>?_]]]
  .let e1:cB u.2.2=u.2.2:=by
    let h1:PyProof.Ă.lo1 u.2.2=u.2.2:=by have:=eK M;simpa using this.symm
    unfold cB;rw[if_neg];rintro⟨a,b⟩;unfold PyProof.Rows.lo1 at h1;rw[ĺ %[a|b]]at h1;lia
   show%[55,.Â %[8,rb,_|aZ.of g],L,ones us,[u.2.2],rb,rb,g,mm _ e1.Ò,by rw[aa];grind|drop _ e1.Ò]
  .let e1:cB u.2.2=63:=by
    let h1:¬PyProof.Ă.lo1 u.2.2=u.2.2:=λz=>by simp[z]at M
    unfold cB;rw[if_pos];unfold PyProof.Rows.lo1 at h1;split at h1;.assumption
    .show Ł rb h1
   show%[55,.Â %[8,rb,_|aZ.of g],L,ones us,[63],rb,rb,g,mm _ e1.Ò,by rw[aa];lia|drop _ e1.Ò]
 .intro I G z;let(v3,O,Y,us,rfl,J,g,HS,_,F):=z;let hl:(as.Q V.v).n=(eY ts).n:=by unfold eY;rw[aa,aa,hal]
  rw[hl,sd]at F;calc%[32,rb,L,ones us,rb,aZ.of g,by rw[aa];show rj HS|λp ws hp pm _=>?_];calc%[7,p,ws,rb,rb,aZ.of au,?_|q _ _ (by let h1:=pm.Ê;rw[jH]at h1;rw[<-F];show h1)<|J.bJ<|J.Õ hp];rw[pm.flatten.length_eq,jH];lia
def zU.turn (h:zU ts):zU (ts.Q sw):=by
 rcases h with⟨i,h1,g⟩|⟨j,h1,g⟩
 .calc .Ð %[0,i,λt B=>?_|by rw[eL];show g];let(u,D,rfl):=aI.mp B;show h1 u D
 .calc .Â %[0,j,λt B=>?_|by rw[eL];show g];let(u,D,rfl):=aI.mp B;show h1 u D
def ji.line {ak:AA}{r w:ı}{hk:İ (ı×ı)}(h:ji ak r w hk ts):zU ts:=by let(i,hi):=h.row;show .Â %[0,i,hi|eL.mp h.col]
def Mh {ws ak:AA}{r w bi bj:ı}{rk:İ ı}(hw:∀l∈ws,nJ l)(h:x∈wY ws ak r w bi bj rk):zU x:=by
 rcases a8.mp h with h|h;.show(rG hw h).line
 .let(u,g,rfl):=aI.mp h;show(rG hw g).line.turn
theorem aa2:∀{a b:İ (İ bL)},K_ a->K_ b->a.Ö->b.Ö->(∀x∈a,∀t∈x,rO t)->(∀x,x∈a↔x∈b)->a=b
 | [],[],_,_,_,_,_,_=>rfl
 | [],y::b,_,_,_,_,_,h=>Ł ((h y).á aE) zr
 | x::a,[],_,_,_,_,_,h=>Ł ((h x).mp aE) zr
 | x::a,y::b,ha,hb,na,nb,ok,h=>by
  let g:=fh.mp ha;let B:=fh.mp hb;let j:=io.mp na;let D:=io.mp nb;let e:x=y:=by
   rcases a_.mp ((h x).mp aE) with z|z;.show z
   .rcases a_.mp ((h y).á aE) with z'|z';.show z'.Ò
    .let h1:=qo<|B.1 x z;let F:=qo<|g.1 y z';calc aci (ok x aE) (ok y<|ay _ z') ?_;by_cases q:jY x=jY y;.show q
     .show Ł (ag2 h1 q) F
  subst e;rw[aa2 g.2 B.2 j.2 D.2 (λz hz=>ok z<|ay _ hz) λz=>%[λhz=>?_|λhz=>?_]]
  .rcases a_.mp ((h z).mp<|ay _ hz) with e|e;.show Ł (e ▸ hz) j.1
   .show e
  .rcases a_.mp ((h z).á<|ay _ hz) with e|e;.show Ł (e ▸ hz) D.1
   .show e
theorem Kd:∀(ls rk:İ ı) {t:İ ı},(∀c∈ls,isLet c)->t∈gq ls rk->sV rk t
 | [],_,t,_,h=>by rw[al.mp h];trivial
 | c::ls,rk,t,hl,h=>by
  let(_,D,F,_):=J5 (hl c aE);let g:∀d∈ls,isLet d:=λd hd=>hl d<|ay _ hd;unfold gq at h;rcases a8.mp h with h|h
  .split at h
   .rename_i j;let(t',B,rfl):=aI.mp h;show%[by rw[F];show j|by rw[F];show Kd ls _ g B]
   .simp at h
  .split at h
   .rename_i j;let(t',B,rfl):=aI.mp h;show%[by rw[D];show j|by rw[D];show Kd ls _ g B]
   .simp at h
def Il {ws us:AA}{hk:İ (ı×ı)}{ak:AA}{r w:ı}{rk:İ ı}(hw:∀l∈us,nJ l)(h:x∈i_ ws hk ak r w rk us):sV rk (eY x):=by
 unfold i_ at h;let(l,j,h):=g6.mp h;unfold wB at h;let(c,D,h):=g6.mp h;unfold sS at h;split at h
 .unfold rF at h;let(ss,g,rfl):=aI.mp h;let Y:(dO ak r w c.1 c.2 l).n=ss.n:=by rw[ug _ _ g];unfold eY;rw[aa]
  let e2:eY (jT (dO ak r w c.1 c.2 l) ss)=ss:=(Ga Y).2;rw[e2];calc Kd _ _ (λd hd=>?_) g;let(t,B,rfl):=aI.mp hd;show Cw (hw l j) B
 .simp at h
def ahz (ts:İ bL):eY (ts.Q sw)=eY ts:=by unfold eY;rw[dm];rfl
def RL {ws ak:AA}{r w bi bj:ı}{rk:İ ı}(hw:∀l∈ws,nJ l)(h:x∈wY ws ak r w bi bj rk):sV rk (eY x):=by
 rcases a8.mp h with h|h;.show Il hw h
 .let(u,g,rfl):=aI.mp h;rw[ahz];show Il hw g
theorem Ke:∀(us g:İ ı),sV us g->(yF us g).n+g.n=us.n
 | us,[],_=>rfl
 | us,c::g,h=>by let e:=Ke (us.ć<|cB c) g h.2;let l:=List.length_erase_of_mem h.1;have:=List.length_pos_of_mem h.1;show (yF (us.ć<|cB c) g).n+(g.n+1)=us.n;lia
def aa3 {α:Type}(f:α->ĸ){l m:İ α}(p:l.æ m):(l.Q f).sum=(m.Q f).sum:=by
 induction p with| nil=>rfl| cons x _ ih=>rw[bX,bX,fE,fE,ih]| swap x y l=>rw[bX,bX,bX,bX,fE,fE,fE,fE];lia| trans _ _ h1 h2=>show h1.X h2
def afc (l:İ ı):∃g:İ ı,g.Ö/\∀c,c∈g↔c∈l:=by
 induction l with
 | nil=>show%[0,[],.ê|λc=>Iff.rfl]
 | cons a l ih=>
  let(g,nd,h):=ih;by_cases m:a∈g;.show%[0,g,nd|λc=>%[λz=>ay _<|(h c).mp z|λz=>(a_.mp z).í (λe=>e ▸ m) λz=>(h c).á z]]
  .show%[0,a::g,io.á %[m|nd]|λc=>by rw[a_,a_,h c]]
def RM {l m:İ ı}(p:l.æ m):Rv k1 k2 l=Rv k1 k2 m:=by let(g,nd,h):=afc l;rw[<-Ry k1 k2 l g nd h,<-Ry k1 k2 m g nd λc=>(h c).X p.à,aa3 _ p];congr 2;show dS λc _=>by rw[p.count_eq]
def qj {α:Type}(kf:α->ĸ)(x:α):İ α->İ α
 | []=>[x]
 | y::ys=>if kf x<=kf y then y::qj kf x ys else x::y::ys
def Es {α:Type}(kf:α->ĸ)(l:İ α):İ α:=l.foldl (λg x=>qj kf x g) []
def vA {α:Type}(kf:α->ĸ)(l:İ α)(x:α):Es kf (l++[x])=qj kf x (Es kf l):=by unfold Es;rw[List.foldl_append];rfl
theorem CG {α:Type}(kf:α->ĸ)(x:α):∀l:İ α,(qj kf x l).æ (l++[x])
 | []=>.Ę _
 | y::ys=>by
  unfold qj;split;.show(CG kf x ys).Þ y
  .show rn (l₁:=[x]) (l₂:=y::ys)
theorem RN {α β:Type}(g:α->β)(kf:β->ĸ)(x:α):∀l:İ α,(qj (λa=>kf<|g a) x l).Q g=qj kf (g x) (l.Q g)
 | []=>rfl
 | y::ys=>by
  show (if kf (g x)<=kf (g y) then y::qj (λa=>kf<|g a) x ys else x::y::ys).Q g=if kf (g x)<=kf (g y) then g y::qj kf (g x) (ys.Q g) else g x::g y::ys.Q g
  split;.rw[bX,RN g kf x ys]
  .rfl
@[elab_as_elim] theorem snoc_ind {α:Type} {p:İ α->Prop} (g:p []) (h:∀l x,p l->p (l++[x])) (l:İ α):p l:=by
 rw[<-wq l]
 induction l.reverse with| nil=>show g| cons a t ih=>rw[List.reverse_cons];show h _ _ ih
def afd {α β:Type}(g:α->β)(kf:β->ĸ)(l:İ α):(Es (λa=>kf<|g a) l).Q g=Es kf (l.Q g):=by calc snoc_ind rb (λl x j=>?_) l;rw[vA,RN,j,bo];show(vA kf (l.Q g)<|g x).Ò
def vB {α:Type}(kf:α->ĸ)(l:İ α):(Es kf l).æ l:=by calc snoc_ind (.Ę _) (λl x g=>?_) l;rw[vA];show(CG kf x _).X<|g.Ĝ _
theorem V4 {α:Type}{kf:α->ĸ}{R:α->α->Prop}(x:α):∀l:İ α,l.Ä (λa b=>kf b<kf a\/(kf a=kf b/\R a b))->(∀a∈l,R a x)->(qj kf x l).Ä (λa b=>kf b<kf a\/(kf a=kf b/\R a b))
 | [],_,_=>ku _ _
 | y::ys,h,hx=>by
  let g:=fh.mp h;unfold qj;split
  .rename_i j;calc fh.á %[λz hz=>?_|V4 x ys g.2 λa ha=>hx a<|ay _ ha];rcases a8.mp ((CG kf x ys).à.mp hz) with m|m;.show g.1 z m
   .rw[al.mp m];by_cases e:kf x<kf y;.show .Â e
    .show .Ð %[zo|hx y aE]
  .rename_i j;calc fh.á %[λz hz=>.Â ?_|h];rcases a_.mp hz with rfl|hz;.lia
   .rcases g.1 z hz with e|e <;> lia
def ac8 {kf:Ķ->ĸ}(as:İ Ķ):as.Ö->(Es kf as).Ä (λa b=>kf b<kf a\/(kf a=kf b/\as.idxOf a<=as.idxOf b)):=by
 calc snoc_ind (λ_=>.ê) (λl x g hn=>?_) as;let(j,D,B):=rc.mp hn;let hx:x∉l:=λz=>B x z x (al.á rb) rfl;rw[vA];let pm:=vB kf l;refine V4 x _ (jS (λ{a b} ha hb h=>?_)<|g j) λa ha=>?_
 .rw[vv,vv,ĺ (pm.à.mp ha),ĺ (pm.à.mp hb)];show h
 .rw[vv,vv,ĺ (pm.à.mp ha),Ĺ hx];show av List.idxOf_le_length<|kG _ _
def afe {as bs:İ Ķ}{kf:Ķ->ĸ}(hn:as.Ö)(p:bs.æ as)(u:rC as (λa=>-kf a) bs):bs=Es kf as:=by
 let g:bs.Ä (λa b=>kf b<kf a\/(kf a=kf b/\as.idxOf a<=as.idxOf b)):=u.imp λ{a b} h=>by let h:-kf a < -kf b\/(-kf a=-kf b/\as.idxOf a<=as.idxOf b):=h;lia
 calc List.æ.eq_of_pairwise (λa b ha B h1 D=>?_) g (ac8 as hn)<|p.X (vB kf as).Ò;let hi:as.idxOf a=as.idxOf b:=zo;let j:=p.à.mp ha;let mb:=(vB kf as).à.mp B;let e1:=xw<|rS j;let e2:=xw<|rS mb;rw[<-e1,<-e2];simp only[hi]
def wO (H:Hp)(a:Ķ):ĸ×İ bL:=match H a with| some (.Æ [.I k,.v c])=>(k,lO H c)| _=>(0,[])
def vC (H:Hp)(a:Ķ)(x:ĸ×İ bL):Prop:=∃c,H a=į (.Æ [.I x.1,.v c])/\wX H c x.2
def Im (h:vC H a x):wO H a=x:=by let(c,h1,g):=h;unfold wO;rw[h1];show (x.1,lO H c)=x;rw[N5 g]
structure jc (H:Hp)(as:İ Ķ)(R:İ (ĸ×İ bL)):Prop where
 at_:∀a∈as,vC H a (wO H a)
 eq:as.Q (wO H)=R
def vC.d9 (k:∀a xs,H a=į (.Æ xs)->H' a=į (.Æ xs))(h:vC H a x):vC H' a x:=let %[c,h1|h2]:=h;%[0,c,k _ _ h1|h2.d9 k]
def jc.d9 (k:∀a xs,H a=į (.Æ xs)->H' a=į (.Æ xs))(h:jc H as R):jc H' as R:=by let e:∀a∈as,wO H' a=wO H a:=λa ha=>Im<|(h.Ć a ha).d9 k;show%[λa ha=>by rw[e a ha];show(h.Ć a ha).d9 k|by rw[<-h.eq];show dS e]
def jc.nil:jc H [] []:=%[λa h=>by simp at h|rb]
def jc.app (h:jc H as ls)(g:jc H bs ms):jc H (as++bs) (ls++ms):=by
 calc%[λb j=>?_|by rw[bo,h.eq,g.eq]];rcases a8.mp j with z|z;.show h.Ć b z
 .show g.Ć b z
def jc.one (ha:vC H a x):jc H [a] [x]:=%[λb g=>by rw[al.mp g,Im ha];show ha|by rw[nS,Im ha]]
def jc.len (h:jc H as ls):as.n=ls.n:=by rw[<-h.eq,aa]
def jc.sub (h:jc H as ls)(p:∀b∈bs,b∈as):jc H bs (bs.Q<|wO H):=%[λb g=>h.Ć b<|p b g|rb]
def aA.tt (s:aA H H'):∀a xs,H a=į (.Æ xs)->H' a=į (.Æ xs):=λa _ h=>s a _ h
def cY.tt (s:cY H H'):∀a xs,H a=į (.Æ xs)->H' a=į (.Æ xs):=λa _ h=>s.ď h nofun
def zX (C:Ķ)(H:Hp)(p dx ps g:Ķ)(k1 k2:İ (Key×V)):Prop:=H p=į (.ins C dx [("singles",.v ps),("doubles",.v g)])/\H ps=į (.dK k1)/\H g=į (.dK k2)/\WE k1/\WE k2
def zX.mv (l:zX C H p dx ps pd k1 k2)(s:aA H H'):zX C H' p dx ps pd k1 k2:=%[s _ _ l.1,s _ _ l.2.1,s _ _ l.2.2.1|l.2.2.2]
structure RkB (ws:AA)(rk:İ ı)(r w g:ı):Prop where
 w64:ws.n<64
 k7:rk.n<=7
 sg:∀l∈ws,∀ls,ls.n<=l.n->(gq ls rk).n<=g
 g9:g<=900
 b1:ws.n*(r*(w-1)*g)<=1999
 b2:ws.n*(w*(r-1)*g)<=1999
def RP (ak aF:AA)(kvs:İ (Key×V))(n m:ĸ)(k1 k2:İ (Key×V))(rk:İ ı)(ts:İ bL):ĸ:=Rr ak aF kvs ts n m+Rv k1 k2 (yF rk<|eY ts)
def lamP:Pos:=%[(230),(35),(230)|56]
def ajK:ņ:=(PyProof.Ă.envOfC "ranked" (aH uL) 0 0 .Ø).qual++"<lambda>"
abbrev CJ (P:Ķ)(H:Hp):Prop:=pP lamP ajK P H
def Ge (C D F T:Ķ):Sp:=λvs H Q _=>∃(b k d j pb B dx ps G:Addr) (ws:AA) (r w:Nat) (ak aF:AA) (bi bj g:Nat) (rk:İ ı) (kvs k1 k2:İ (Key×V)) (n m:Int),vs=[.v b,.v k,.À (S rk),.v j,.v pb,.v B]/\cW C H b r w ak aF bi bj/\jD D H k d ws/\RkB ws rk r w g/\H j=į (.dK kvs)/\WD kvs/\WB 1000000 kvs/\H pb=į (.Æ [.I n,.I m])/\zX F H B dx ps G k1 k2/\CJ T H/\
 ∀(p:Ķ) (bs:İ Ķ) (L:İ (İ bL)) (H':Hp),cY H H'->CJ T H'->H p=Ĳ->H' p=į (.Æ<|bs.Q V.v)->L.n<=3998->K_ L->L.Ö->(∀x,x∈L↔x∈wY ws ak r w bi bj rk)->jc H' bs (Es Prod.fst<|L.Q λts=>(RP ak aF kvs n m k1 k2 rk ts,ts))->Q (.v p) H'
def aa4 (D:xX K mg "ranked" uL ["board","book","rack","worths","bonus","leaves"] c)(LM:zy mg base c T)(bR:mg "tuple"=Ĳ)(eF:mg "sorted"=Ĳ)(sW:bD P w K mg base "all_layings" 13 ["board","book","rack"] (XS C CB))(Ua:bD P w K mg base "points_of" 11 ["board","worths","bonus","laying"] (adY C))(Ng:bD P w K mg base "left_behind" 4 ["rack","laying"] Ru)(ac9:wC K CL)(Io:Meth K CL "counts" f1)(Ip:dJ P w K mg base fP 1 f1 ju ["self","left"] (Rz CL))(Ir:cV K ju ["self","left"] []):bD P w K mg base "ranked" 14 ["board","book","rack","worths","bonus","leaves"] (Ge C CB CL T):=by
 refine D.made vZ (λvs H Q E h=>?_) λf A outer s H vs Q E hr h=>?_
 .let(b,k,d,dw,pb,lv,dx,ps,pd,ws,r,w,ak,aF,bi,bj,g,rk,kvs,k1,k2,n,m,rfl,_):=h;rfl
 .let(b,k,d,dw,pb,lv,dx,ps,pd,ws,r,w',ak,aF,bi,bj,g,rk,kvs,k1,k2,n,m,rfl,B,BK,Z,hdw,hWD,hWB,hpb,Mi,hT,q):=h;let O:=B.ok;let ad0:aW ["pair"] ["pair"] (%[.function,[(PySem.Str.ï "pair",.û)],ķ,ķ|[]]:Œ):={}
  calc%[0,_,(aD (aO (i:=6) vZ.nd rb (Or.Â rb)<|fK aq)<|aD (dz ck rb (fH<|bf sW hr.Ô rb<|aj aK<|aj aX<|aj bw aq) (bG (i:=7) vZ.nd rb<|Or.Â rb)<|aD (aO (i:=8) vZ.nd rb (Or.Â rb)<|aL bW (bf Ua hr.Ô rb<|aj aK<|aj bN<|aj b_<|aj iU aq)<|lU cI ac9.cl Io Ip hr.Ô Ir .ê jo<|aj (bf Ng hr.Ô rb<|aj bw<|aj iU aq) aq)<|aG<|gb<|d7 di ij ik k_ dM<|aj (cO<|aj iV<|aj iU aq) aq)<|aG<|aY<|cN dX zw bR df<|aj (acz dM LM rb ad0 (acB ad0 rb zt zt) (eG.ę<|eG.ę hr.Ô) (λ_ _ _ _=>rfl) zw eF) aq)|?_];calc%[ci _|λE0 hE0=>?_];let sE:aA H (upd H E0<|.É []):=aA.å hE0;let hE1:upd H E0 (.É []) E0=į (.É []):=au;generalize upd H E0 (.É [])=H1 at sE hE1 ⊢;calc%[6,b,k|%[6,d,ws|%[5,r,w',ak|%[42,aF,bi,bj,g,rk,rb,B.mv sE,BK.same sE,Z.w64,by have:=Z.k7;lia,Z.sg,Z.g9,Z.b1,Z.b2|λp as L H2 s2 Y hY up nd hl' hm=>?_]]]];let s02:=sE.X s2;let hE2:=s2 _ _ hE1;let bY:=hY.đ;calc%[2,p,rb,%[_|aQ.of Y]|?_];refine m8 (K:=K) (a:=p) (xs:=as.Q V.v) (λi I j=>∃(v7 v8:ĵ V) (es:İ Ķ),I=[į (.v b),į (.v k),į (.À<|S rk),į (.v dw),į (.v pb),į (.v lv),į (.v E0),v7,v8]/\j E0=į (.É<|es.Q V.v)/\es.Ö/\es.n=i/\(∀e∈es,j e≠none)/\(∀b o,H2 b=some o->b≠E0->j b=some o)/\jc j es ((L.Ã i).Q λts=>(RP ak aF kvs n m k1 k2 rk ts,ts)))
   %[35,Ĳ,Ĳ,[],rb,hE2,.ê,rb,λe he=>by simp at he,λb o e _=>e|jc.ê] (λi I j _ h=>?_) ?_ ?_
  .let(_,_,_,_,_,_,_,_,k3,_):=h;show aQ.of (k3 _ _ Y λz=>by rw[z,hE2]at Y;cases Y)
  .intro i x I j hx z;let(v7,v8,es,rfl,J,N,M,hne,k3,hR):=z;let(hi,hx):=rfg hx;subst hx;let ne0:∀b o,H b=į o->b≠E0:=λb o e=>bI e hE0;let RQ:aA H j:=λb o e=>k3 b o (s02 b o e)<|ne0 b o e;let tt3:∀a xs,H2 a=į (.Æ xs)->j a=į (.Æ xs):=λa xs e=>k3 a _ e λz=>by rw[z,hE2]at e;cases e
   let(ts,et,hat):=(hY.d9 tt3).ď hi;let(bs,hbs,vm):=id hat;let G:=(hm ts).mp<|a7 et;let hok:=yD O.br BK.az G;let h0:0<ts.n:=o6.á hok.ne;let hfit:=RL BK.az G;calc%[6,b,dw|%[5,pb,as[i],kvs|%[5,n,m,bs|%[21,ts,r,w',ak,aF,bi,bj,rb,B.mv RQ|%[.Â<|RQ _ _ hdw,hWD,hWB,RQ _ _ hpb,hbs,vm,λt ht=>%[(hok.ø t ht).1,(hok.ø t ht).2.1|(hok.ø t ht).2.2.2],h0,hok.đ,(Mh BK.az G).one|λH4 s4=>?_]]]]];let s04:=RQ.X s4;calc%[11,lv,dx,_,rb,s04 _ _ Mi.1,rb|%[36,rk,as[i],bs,ts,rb,s4 _ _ hbs,vm.mv s4,hok.đ,by have:=Z.k7;lia,λt ht=>(hok.ø t ht).2.2.2,hfit|λl H5 pl s5=>?_]];let Iu:=s4.X s5;let Et:=s04.X s5;let hll:l.n<=7:=by have:=pl.Ē;have:=Ke _ _ hfit;have:=Z.k7;lia
   calc%[67,lv,dx,ps,pd,l,k1,k2,rb,Et _ _ Mi.1,Et _ _ Mi.2.1,Et _ _ Mi.2.2.1,Mi.2.2.2.1,Mi.2.2.2.2,hll|λH6 s6=>?_];rw[RM pl];let Iw:=Iu.X s6;calc%[7,_,_,rb,rb,.Â %[8,rb,_|aZ.of<|Iw _ _ J],zsz 2|λc hc=>?_];let F:=Iw.bJ (o:=.Æ [.I (RP ak aF kvs n m k1 k2 rk ts),.v as[i]])<|Iw.Õ hc;let hE7:=F _ _ J;calc%[10,E0,_,_,rb,rb,hE7,by rw[aa,M];show Du zo|?_];let cE:c≠E0:=λz=>by rw[z,Iw _ _ J]at hc;cases hc
   let hcn:c∉es:=λz=>hne c z<|Iw.Õ hc;refine%[35,_,_,es++[c],rb,by rw[au,bo];rfl,rc.á %[N,ku _ _|λa ha d hd z=>by rw[al.mp hd]at z;show hcn<|z ▸ ha],by rw[ax,M];rfl,λe he=>?_,λa o e ne=>by rw[aU ne];show F _ _<|k3 _ _ e ne|?_]
   .by_cases z:e=E0;.rw[z,au];show nofun
    .rw[aU z];rcases a8.mp he with y|y
     .cases q1:j e with| none=>show Ł q1<|hne e y| some o=>show λz=>Ł ((F _ _ q1).Ò.X z) nofun
     .rw[al.mp y];show λz=>Ł (au.Ò.X z) nofun
   .rw[bv,et,bo];refine((hR.d9<|aA.tt F).app<|jc.one (x:=(RP ak aF kvs n m k1 k2 rk ts,ts)) %[0,as[i],au|hat.d9<|aA.tt F]).d9<|eE hE7
  .intro I j z;let(v7,v8,es,rfl,J,N,M,hne,k3,hR):=z;rw[aa]at M;rw[cn (by rw[aa];simp_all)]at hR;let ne0:∀b o,H b=į o->b≠E0:=λb o e=>bI e hE0;let RQ:aA H j:=λb o e=>k3 b o (s02 b o e)<|ne0 b o e;refine%[35,E0,es,λa=>-(wO j a).1,rb,aZ.of J,N,zo,hT.mv RQ,λa ha H4 Q' s4 q'=>?_|λp7 bs H7 s7 t7 Ep pb7 ub7 h7=>?_]
   .let(c,hc,_):=hR.Ć a ha;show%[27,a,_,_,rb,s4.ď hc nofun|q']
   .let eb:=afe (kf:=λa=>(wO j a).1) N pb7 ub7;let s37:=RQ.t.X s7;calc%[4,p7,_,rb|.Â %[aZ.of h7|λl hl=>?_]];let s7l:cY H7 (upd H7 l<|.Æ<|bs.Q V.v):=(cY.Ę H7).å hl;calc q l bs L _ (s37.X s7l) (t7.mv<|aA.å hl) (s37.Õ hl) au hl' up nd hm ?_;let hb:=(hR.sub λb hb=>pb7.à.mp hb).d9<|cY.tt<|s7.X s7l;rw[eb,afd (wO j) Prod.fst es,hR.eq]at hb;rw[eb];show hb
def V5 (x:ĸ×İ bL):Dt:=.Æ [.I x.1,Ju x.2]
def okP (x:ĸ×İ bL):Prop:=x.2≠[]/\∀t∈x.2,yq t
def vC.has (h:vC H a x)(ok:okP x):eZ K H 3 (V5 x) (.v a):=by let(c,h1,g):=h;show .Æ (aQ.of h1)<|.Þ (.I _)<|.Þ (g.lay ok.1 ok.2).1 .ê
def jc.ac_:∀{as:İ Ķ} {R:İ (ĸ×İ bL)},jc H as R->(∀x∈R,okP x)->tR K H 3 (R.Q V5) (as.Q V.v):=by
 intro as R h ok
 induction as generalizing R with| nil=>rw[<-h.eq];show .ê| cons a as ih=>have e:=h.eq;rw[bX]at e;subst e;show .Þ ((h.Ć a aE).has<|ok _ aE)<|ih %[λb g=>h.Ć b<|ay _ g|rb] λx hx=>ok x<|ay _ hx
def Aj (ak aF:AA)(kvs:İ (Key×V))(n m:ĸ)(k1 k2:İ (Key×V))(rk:İ ı)(L:İ (İ bL)):İ (ĸ×İ bL):=Es Prod.fst (L.Q λts=>(RP ak aF kvs n m k1 k2 rk ts,ts))
def aa5 {ak aF:AA}{n m:ĸ}{rk:İ ı}(h:∀ts∈L,ts≠[]/\∀t∈ts,yq t):∀x∈Aj ak aF kvs n m k1 k2 rk L,okP x:=λx hx=>by let(ts,g,rfl):=aI.mp ((vB _ _).à.mp hx);show h ts g
open Classical in
def aiG (ds:İ Dt):(if Ĵ=Ĵ then !ľ (Dt.Æ ds=.Æ []) else ľ (Dt.Æ ds=.Æ []))=!ds.isEmpty:=by cases ds <;> simp
def aa6 (C D F T:Ķ):Sp:=λvs H Q _=>∃(b k d j pb B dx ps G:Addr) (ws:AA) (r w:Nat) (ak aF:AA) (bi bj g:Nat) (rk:İ ı) (kvs k1 k2:İ (Key×V)) (n m:Int),vs=[.v b,.v k,.À (S rk),.v j,.v pb,.v B]/\cW C H b r w ak aF bi bj/\jD D H k d ws/\RkB ws rk r w g/\H j=į (.dK kvs)/\WD kvs/\WB 1000000 kvs/\H pb=į (.Æ [.I n,.I m])/\zX F H B dx ps G k1 k2/\CJ T H/\
 ∀(v:V) (L:İ (İ bL)) (H':Hp),cY H H'->CJ T H'->K_ L->L.Ö->(∀x,x∈L↔x∈wY ws ak r w bi bj rk)->((Aj ak aF kvs n m k1 k2 rk L=[]/\v=.ă)\/∃x R a,Aj ak aF kvs n m k1 k2 rk L=x::R/\v=.v a/\vC H' a x)->Q v H'
def afg (D:aR K mg "best_laying" sH ["board","book","rack","worths","bonus","leaves"])(Gf:bD P w K mg base "ranked" 14 ["board","book","rack","worths","bonus","leaves"] (Ge C CB CL T)):bD P w K mg base "best_laying" 15 ["board","book","rack","worths","bonus","leaves"] (aa6 C CB CL T):=by
 calc D.cU yd ?_;intro f bF A outer s H vs Q E hr h;let(b,k,d,dw,pb,lv,dx,ps,pd,ws,r,w',ak,aF,bi,bj,g,rk,kvs,k1,k2,n,m,rfl,B,BK,RB,hdw,Y,hWB,hpb,Mi,hT,q):=h;let O:=B.ok;calc%[0,_,(aD (aO (i:=6) yd.nd rb (Or.Â rb)<|bf Gf hr.Ô rb<|aj aK<|aj aX<|aj bw<|aj bN<|aj b_<|aj cI aq)<|aG<|aY<|jx (bK (Ze hr.ã) dM (cO aq)<|bU _) (aV bA dM aB λ_ _=>rfl) Yt)|?_];calc%[6,b,k|%[6,d,dw|%[5,pb,lv,dx|%[5,ps,pd,ws|%[5,r,w',ak|%[5,aF,bi,bj|%[21,g,rk,kvs,k1,k2,n,m,rb,B|%[BK,RB,hdw,Y,hWB,hpb,Mi,hT|λp bs L H1 s1 hl hn hp _ up nd hm F=>?_]]]]]]]];let okL:∀ts∈L,ts≠[]/\∀t∈ts,yq t:=λts ht=>by have:=yD O.br BK.az<|(hm ts).mp ht;show%[this.ne|this.yq O.r9 O.w9]
 let M:=λ(v:V) H2 (s2:cY H H2) t2=>q v L H2 s2 t2 up nd hm;let G:=aa5 (ak:=ak) (aF:=aF) (kvs:=kvs) (n:=n) (m:=m) (k1:=k1) (k2:=k2) (rk:=rk) okL;let F:jc H1 bs (Aj ak aF kvs n m k1 k2 rk L):=F;generalize Aj ak aF kvs n m k1 k2 rk L=R at M F G;calc%[ci _|λc hc=>?_];let s2:aA H1 (upd H1 c<|.Æ []):=aA.å hc;let Z:=F.d9<|aA.tt s2;let J:=s1.X<|aA.t s2;calc%[11,4,.Æ<|R.Q V5,.Æ [],zt,.Æ (aQ.of<|s2 _ _ hp)<|Z.ac_ G,.Æ (aQ.of au) .ê|?_];rw[aiG];cases R with
 | nil=>show(M .ă _ J (hl.mv s2)<|.Â %[rb|rb])
 | cons x R=>
  obtain⟨a,bs,rfl⟩:∃a N,bs=a::N:=by
   cases bs with| nil=>show Ł F.eq zr| cons a bs=>show%[6,a,bs|rb]
  let ex:wO (upd H1 c<|.Æ []) a=x:=by have:=Z.eq;rw[bX]at this;show(List.Þ.inj this).1
  let ha:=Z.Ć a aE;rw[ex]at ha;show%[3,p,_,_,.v a,rb,rb,aQ.of<|s2 _ _ hp,aN (j:=0) rb|M (.v a) _ J (hl.mv s2)<|.Ð %[27,x,R,a,rb,rb|ha]]
def RT:Sp:=λvs H Q _=>∃i:Int,vs=[.I i]/\Q (.bl Ĵ) H
def RW (D:aR K mg "_law_whole" JH ["_law_found"])(g:mg "int"=Ĳ)(j:mg "bool"=Ĳ)(F:mg "isinstance"=Ĳ):bD P w K mg base "_law_whole" 1 ["_law_found"] RT:=by calc D.cU acG λf bF A outer s H vs Q E B h=>?_;let(i,rfl,q):=h;calc%[0,_,(aG<|aY<|pF (aP gH zw F d6<|aj aK<|aj (lR (v:=.ty "int") zw g om rb) aq)<|nQ<|Yu<|aP gH zw F d6<|aj aK<|aj (lR (v:=.ty "bool") zw j PyProof.Ă.boot_bool rb) aq)|?_];show%[15,_,_,_,Ĵ,rb,.I _,zC|cP %[15,_,_,_,ķ,rb,.I _,zC|q]]
def V6:Sp:=λvs H Q _=>∃(p D:Addr) (bs ds:İ Ķ) (R:İ (ĸ×İ bL)),vs=[.v p,.v D]/\H p=į (.Æ<|bs.Q V.v)/\H D=į (.É<|ds.Q V.v)/\jc H bs R/\jc H ds R/\(∀x∈R,okP x)/\∀H',aA H H'->Q (.bl Ĵ) H'
def ada (D:aR K mg "_law_right" JM ["_law_found","_law_due_here"])(M:mg "len"=Ĳ)(N:mg "tuple"=Ĳ)(jE:mg "list"=Ĳ)(Z:mg "isinstance"=Ĳ)(F:bD P w K mg base "_law_whole" 1 ["_law_found"] RT):bD P w K mg base "_law_right" 2 ["_law_found","_law_due_here"] V6:=by
 calc D.cU Qp λf bF A outer s H vs Q E Y h=>?_;let(p,D,bs,ds,R,rfl,hp,O,L,B,ok,q):=h;calc%[0,_,(aD (dF (QW.qt<|tK (jk<|f9<|aP gH zw Z d6<|aj aK<|aj (lR (v:=.ty "tuple") zw N df rb) aq)<|qY<|bK yH (aP cD zw M bE<|aj aK aq) (aP cD zw M bE<|aj aX aq)<|bU _) (aG<|aY mz) cC)<|aD (dz ck rb (fH aK) (bG (i:=2) Qp.nd rb<|Or.Â rb)<|aG<|dF (QW.qt<|tK (jk<|f9<|aP gH zw Z d6<|aj bw<|aj (lR (v:=.ty "tuple") zw N df rb) aq)<|tK (bK yH (aP cD zw M bE<|aj bw aq) aB<|bU _)<|qY<|jk<|f9<|bf F Y.Ô rb<|aj (aV bA bw aB λ_ _=>rfl) aq) (aG<|aY mz) cC)<|aG<|aY<|jL (agm Y.ã) (cN Om zw jE nE<|aj aK aq) aX<|bU _)|?_];calc%[15,_,_,_,Ĵ,rb,.Æ hp,zC|bB _ rb<|cG ?_];let el:(bs.Q V.v).n=(ds.Q V.v).n:=by rw[aa,aa,L.len,B.len]
 calc%[33,p,_,rb,.Ð<|aQ.of hp,D,_,rb,.Â<|aZ.of O,rb|?_];rw[el,aw rfl];calc(bB _ rb<|cG ?_);calc%[2,p,rb,%[_|aQ.of hp]|?_];refine m8 (K:=K) (a:=p) (xs:=bs.Q V.v) (λi I g=>g=H/\∃G:ĵ V,I=[į (.v p),į (.v D),G]) %[8,rb,Ĳ|rb] (λi I g _ h=>by rw[h.1];show aQ.of hp) ?_ ?_
 .intro i x I g hx z;let(rfl,G,rfl):=z;rw[bz]at hx;let(b,hb,rfl):=gN.mp hx;let(c,J,_):=L.Ć b (a7 hb);calc%[15,_,_,_,Ĵ,rb,.Æ J,zC|bB _ rb<|cG ?_];calc%[13,b,_,rb,.Ð<|aQ.of J,rb|bB _ rb<|cG ?_];show%[45,b,_,_,_,rb,rb,aQ.of J,aN (j:=0) rb,_,rb|cG %[8,rb,_|rb]]
 .intro I g z;let(rfl,G,rfl):=z;calc%[1,p,_,rb,.Ð<|aQ.of hp|λl hl=>?_];let s2:aA g (upd g l<|.É<|bs.Q V.v):=aA.å hl;calc%[11,4,.É<|R.Q V5,.É<|R.Q V5,zt,.É (aZ.of au)<|(L.d9<|aA.tt s2).ac_ ok,.É (aZ.of<|s2 _ _ O)<|(B.d9<|aA.tt s2).ac_ ok|?_];simp only[decide_true,be,if_false];show q _ s2
theorem V7 {α:Type}{kf:α->ĸ}{x:α}:∀{l:İ α} {n:ı},n<=l.n->(∀i (h:i<l.n),i<n->kf x<=kf l[i])->(∀h:n<l.n,kf l[n]<kf x)->qj kf x l=l.Ã n++x::l.Ì n
 | [],n,h,_,_=>by
  obtain rfl:n=0:=by simpa using h
  rfl
 | y::ys,0,_,_,h2=>by have:kf y<kf x:=h2<|gL _;show (if kf x<=kf y then _ else _)=_;rw[Ĺ (by simp_all)];rfl
 | y::ys,n+1,h,h1,h2=>by show (if kf x<=kf y then y::qj kf x ys else _)=_;let g:kf x<=kf y:=h1 0 (gL _)<|gL _;rw[ĺ g,V7 (n:=n) (by simpa using h) (λi hi hn=>h1 (i+1) (ny hi)<|ny hn) λhn=>h2 (ny hn)];rfl
def jc.ins (h:jc H ds R)(g:vC H c x)(n):jc H (ds.Ã n++c::ds.Ì n) (R.Ã n++x::R.Ì n):=by
 calc%[λb j=>?_|by rw[bo,bX,Im g,List.map_take,List.map_drop,h.eq]];rcases a8.mp j with z|z;.show h.Ć b<|dq z
 .rcases a_.mp z with rfl|z;.rw[Im g];show g
  .show h.Ć b<|f8 z
def jc.get (h:jc H as ls)(hi:i<as.n)(g:i<ls.n):vC H as[i] ls[i]:=by
 let e:wO H as[i]=ls[i]:=by have:=Ő (λl:İ (ĸ×İ bL)=>l[i]?) h.eq;simp only[bz,ae hi,ae g]at this;show bg this
 rw[<-e];show h.Ć _<|aS _
structure ahA (r w:ı)(rk:İ ı)(ts:İ bL):Prop where
 inn:∀t∈ts,inB r w t
 pos:0<ts.n
 l7:ts.n<=7
 fit:sV rk (eY ts)
 line:DQ ts
def ad1:Sp:=λvs H Q _=>∃(p pr pm F j pb B g:Addr) (as:İ Ķ) (L:İ (İ bL)) (r w:Nat) (ak aF:AA) (rk:İ ı) (kvs k1 k2:İ (Key×V)) (n m:Int),vs=[.v p,.v pr,.v pm,.À (S rk),.v F]/\H p=į (.Æ<|as.Q V.v)/\iM H as L/\L.n<=3998/\(∀ts∈L,ahA r w rk ts)/\H pr=į (.Æ<|Ts ak)/\Blk r w ak/\1<=r/\r<=9/\w<=9/\H pm=į (.Æ<|Ts aF)/\Blk r w aF/\(∀l∈aF,∀c∈l,Cm c)/\rk.n<=7/\
 H F=į (.Æ [.v j,.v pb,.v B,.v g])/\H j=į (.dK kvs)/\WD kvs/\WB 1000000 kvs/\H pb=į (.Æ [.I n,.I m])/\H B=į (.dK k1)/\H g=į (.dK k2)/\WE k1/\WE k2/\
 ∀(D:Ķ) (ds:İ Ķ) (H':Hp),aA H H'->H D=Ĳ->H' D=į (.É<|ds.Q V.v)->jc H' ds (Aj ak aF kvs n m k1 k2 rk L)->Q (.v D) H'
def ahB (D:aR K mg "_law_due" Xl ["_law_told_here","_law_rows","_law_marks_here","_law_rack","_law_sums"])(bh:mg "len"=Ĳ)(qX:mg "sum"=Ĳ)(afi:bD P w K mg base "_law_words" 2 ["_law_rows","_law_laying"] Rf)(afj:bD P w K mg base "_law_count" 1 ["_law_marks_here","_law_worths_here","_law_laying","_law_word"] VN)(Kf:bD P w K mg base "_law_leave_counts" 1 ["_law_singles","_law_doubles","_law_left_here"] ahu)(ahC:bD P w K mg base "_law_left" 2 ["_law_rack","_law_laying"] Mf):bD P w K mg base "_law_due" 5 ["_law_told_here","_law_rows","_law_marks_here","_law_rack","_law_sums"] ad1:=by
 calc D.cU kY ?_;intro f bF A outer s H vs Q E hr h;let(p,pr,pm,t4,dw,pb,d1,d2,as,L,r,w,ak,aF,rk,kvs,k1,k2,n,m,rfl,hp,hY,h98,hok,hpr,hb,r1,r9,w9,hpm,hbm,hmk,hk7,xW,hdw,hW,hB,hpb,hd1,hd2,w1,w2,q):=h;calc%[0,_,(aD (xg b_<|lN rb<|cu (bG (i:=5) kY.nd rb<|Or.Ð rb)<|cu (bG (i:=6) kY.nd rb<|Or.Â rb)<|cu (bG (i:=7) kY.nd rb<|Or.Â rb)<|cu (bG (i:=8) kY.nd rb<|Or.Â rb) jM)<|aD (aO (i:=9) kY.nd rb (Or.Â rb)<|fK aq)<|aD (dz ck rb (fH aK) (bG (i:=10) kY.nd rb<|Or.Ð rb)<|aD (aO (i:=11) kY.nd rb (Or.Â rb)<|aP (vN rb) zw qX rL<|aj (h_ rb (gM.of kY.nd zC) (fH<|bf afi hr.Ô rb<|aj aX<|aj jy aq) (λ_ _ _ _ _=>cM) λ_ _ _ _ _=>(bf afj hr.Ô rb<|aj bN<|aj dM<|aj gQ<|aj aK aq)) aq)<|aD (nW<|dF (bK CW (aP cD zw bh bE<|aj jy aq) (aV bA dM aB λ_ _=>rfl)<|bU _) (aG<|aO (i:=11) kY.nd rb (Or.Â rb)<|aL bW gQ<|aV bA dM aB λ_ _=>rfl) cC)<|aD (aO (i:=11) kY.nd rb (Or.Â rb)<|aL bW gQ<|bf Kf hr.Ô rb<|aj iU<|aj iV<|aj (bf ahC hr.Ô rb<|aj bN<|aj jy aq) aq)<|aD (aO (i:=12) kY.nd rb (Or.Â rb) aB)<|aD (Ew ck (QW.qt<|pD (bK tL nT (aP cD zw bh bE<|aj iW aq)<|bU _)<|qw<|bK CW (aV bA (aV fj iW nT λ_ _=>rfl) aB λ_ _=>rfl) gQ<|bU _)<|aG<|aO (i:=12) kY.nd rb (Or.Â rb)<|aL bW nT aB)<|aG<|gb<|d7 di PySem.F.slot_list_insert PySem.F.type_list_insert Xg iW<|aj nT<|aj (cO<|aj gQ<|aj jy aq) aq)<|aG<|aY iW)|?_];let bY:=hY.đ;calc%[1,t4,_,rb,aQ.of xW|%[19,rb,_,_,rb|%[6,_,_|%[19,rb,_,_,rb|%[13,_,_,rb,rb,ci _|λg hD0=>?_]]]]];let sE:aA H (upd H g<|.É []):=aA.å hD0;let hE1:upd H g (.É []) g=į (.É []):=au;generalize upd H g (.É [])=H1 at sE hE1 ⊢;calc%[2,p,rb,%[_|aQ.of<|sE _ _ hp]|?_];refine m8 (K:=K) (a:=p) (xs:=as.Q V.v) (λi I H3=>∃(v10 v11 LQ:ĵ V) (ds:İ Ķ),I=[į (.v p),į (.v pr),į (.v pm),į (.À<|S rk),į (.v t4),į (.v dw),į (.v pb),į (.v d1),į (.v d2),į (.v g),v10,v11,LQ]/\H3 g=į (.É<|ds.Q V.v)/\ds.n=i/\aA H H3/\jc H3 ds (Aj ak aF kvs n m k1 k2 rk<|L.Ã i))
  %[3,Ĳ,Ĳ,Ĳ,[],rb,hE1,rb,sE|jc.ê] (λi I H3 _ h=>by let(_,_,_,_,_,_,_,sm,_):=h;show aQ.of<|sm _ _ hp) ?_ ?_
 .intro i x I H3 hx z;let(v10,v11,LQ,ds,rfl,hD3,hdl,s3,hR):=z;let(hi,hx):=rfg hx;subst hx;let(ts,et,hat):=(hY.mv s3).ď hi;let(bs,G,vm):=id hat;let ok:=hok ts<|a7 et;calc%[21,pr,as[i],bs,ts,r,w,ak,rb,s3 _ _ hpr|%[hb,r9,w9,G,vm,ok.inn,ok.pos,ok.l7|λT cs H4 s4 hT hQ=>?_]];let hql:=Ig (ak:=ak) ok.l7;let hcl:cs.n=(iy ak ts).n:=hQ.đ;let s04:=s3.X s4;refine%[2,T,rb,%[_|aQ.of hT]|λM hM=>uw (K:=K) (a:=T) (xs:=cs.Q V.v) (λi ys H2=>ys=((iy ak ts).Ã i).Q (λq=>V.I<|Ah aF kvs ts q)/\H2 M=į (.É ys)/\aA H4 H2)
   %[rb,au|aA.å hM] (λi ys H2 _ h=>aQ.of<|h.2.2 _ _ hT) ?_ ?_]
  .intro j x ys H5 hx z;let(rfl,J,Y):=z;let(hj,hx):=rfg hx;let hjw:j<(iy ak ts).n:=zo;subst hx;let(qq,eq,hqt):=(hQ.mv Y).ď hj;let hqi:=zW hb r9 w9 ok.inn<|a7 eq;let Et:=s04.X Y;let O:=s4.X Y;calc%[6,pm,dw|%[6,as[i],cs[j]|%[21,kvs,bs,ts,qq,r,w,aF,rb,Et _ _ hpm|%[hbm,w9,hmk,.Â<|Et _ _ hdw,hW,O _ _ G,vm.mv O,ok.l7,hqt,hqi|λH6 s6=>?_]]]];calc%[s6 _ _ J,by rw[aa,ba];show aJ (by grind)|dR.mk (by rw[aa];show hj) %[?_,au|(Y.X s6).bJ hM]];rw[bv,eq,bo];rfl
  .intro ys H5 z;let(rfl,J,Y):=z;rw[aa,hcl,cK]at J;let Et:=s04.X Y;let O:=s4.X Y;let ajL:H5 M=į (.É<|((iy ak ts).Q<|Ah aF kvs ts).Q V.I):=by rw[dm];show J
   refine%[7,M,(iy ak ts).Q<|Ah aF kvs ts,rb,aZ.of ajL,by rw[aa];lia,λx hx=>?_|?_]
   .let(qq,hq,rfl):=aI.mp hx;show aht hB (zW hb r9 w9 ok.inn hq) r9 w9
   refine%[0,λI' H'=>H'=H5/\I'=[į (.v p),į (.v pr),į (.v pm),į (.À<|S rk),į (.v t4),į (.v dw),į (.v pb),į (.v d1),į (.v d2),į (.v g),į (.v as[i]),į (.I<|Rr ak aF kvs ts n m),LQ],?_|?_]
   .calc%[1,as[i],_,rb,.Ð<|aQ.of<|O _ _ G|%[15,pb,_,_,_,rb,rb,aQ.of<|Et _ _ hpb|%[17,aN (j:=0) rb,_,_,rb,rb|bB _ rb ?_]]];rw[aa,vm.len];by_cases z:n<=(ts.n:ĸ)
    .rw[aw z];calc cP %[39,pb,_,_,_,rb,rb,aQ.of<|Et _ _ hpb,aN (j:=1) rb,_,_,rb,rb,rb|?_];unfold Rr;rw[ĺ z];rfl
    .rw[ai z];calc cG %[rb|?_];unfold Rr;rw[Ĺ z,Int.add_zero];rfl
   rintro I' H' ⟨rfl,rfl⟩;calc%[36,rk,as[i],bs,ts,rb,O _ _ G,vm.mv O,ok.l7,zo,λt ht=>(ok.inn t ht).2.2,ok.fit|λl H6 pl s6=>?_];let hll:l.n<=7:=by have:=pl.Ē;have:=Ke _ _ ok.fit;lia
   let s06:=Et.X s6;let Iw:=O.X s6;calc%[47,d1,d2,l,k1,k2,rb,s06 _ _ hd1,s06 _ _ hd2,w1,w2,hll|?_];rw[RM pl];calc%[1,_,_,rb,rb|?_];obtain⟨R,eR⟩:∃R,R=Aj ak aF kvs n m k1 k2 rk (L.Ã i):=%[_|rb]
   rw[<-eR]at hR;obtain⟨B,ew⟩:∃B,B=RP ak aF kvs n m k1 k2 rk ts:=%[_|rb]
   let eR1:Aj ak aF kvs n m k1 k2 rk (L.Ã<|i+1)=qj Prod.fst (B,ts) R:=by rw[eR,ew];unfold Aj;rw[bv,et,bo];show vA Prod.fst _ _
   let Mj:=hR.d9<|aA.tt Iw;let F:=Iw _ _ hD3;let hdr:=hR.đ;let ajM:=hat.d9<|aA.tt Iw;calc%[λm' I' H'=>∃a:Nat,a<=R.n/\m'=R.n-a/\H'=H6/\I'=[į (.v p),į (.v pr),į (.v pm),į (.À<|S rk),į (.v t4),į (.v dw),į (.v pb),į (.v d1),į (.v d2),į (.v g),į (.v as[i]),į (.I B),į (.I a)]/\∀j (h:j<R.n),j<a->B<=R[j].1,%[7,_,0,ci _,rb,rb,by rw[ew];rfl|λj _ h=>Ł h<|kH _]|?_];intro m' I' H' z;let(a,ha,rfl,rfl,rfl,N):=z;let fin:(∀h:a<R.n,R[a].1<B)->∀c,H' c=Ĳ->(upd H' c<|.Æ [.I B,.v as[i]]) g=į (.É<|ds.Q V.v)/\aA H (upd (upd H' c<|.Æ [.I B,.v as[i]]) g<|.É<|(ds.Ã a++c::ds.Ì a).Q V.v)/\jc (upd (upd H' c<|.Æ [.I B,.v as[i]]) g<|.É<|(ds.Ã a++c::ds.Ì a).Q V.v) (ds.Ã a++c::ds.Ì a) (Aj ak aF kvs n m k1 k2 rk<|L.Ã<|i+1):=λhx c hc=>by let s7:aA H' (upd H' c<|.Æ [.I B,.v as[i]]):=aA.å hc;let hD7:=s7 _ _ F;calc%[hD7,(s06.X s7).bJ hD0|?_];rw[eR1,V7 (kf:=Prod.fst) (x:=(B,ts)) ha N hx];show((Mj.d9<|aA.tt s7).ins (x:=(B,ts)) %[0,as[i],au|ajM.d9<|aA.tt s7] a).d9<|eE hD7
   let hz:(ds.Q V.v).n=R.n:=by rw[aa];show hdr
   let em:∀c,(ds.Q V.v).Ã a++V.v c::(ds.Q V.v).Ì a=(ds.Ã a++c::ds.Ì a).Q V.v:=λc=>by rw[bo,bX,List.map_take,List.map_drop]
   let el:∀c,(ds.Ã a++c::ds.Ì a).n=i+1:=λc=>by rw[ax,b8,ba,cS];lia
   calc%[23,g,_,rb,.Â<|aZ.of F,_,_,rb,rb|bB _ rb ?_];rw[hz];by_cases z:(a:ĸ)<(R.n:ĸ)
   .let Z:a<R.n:=Iff.mp dC z;let had:a<ds.n:=zo;rw[aw z];let(c,hc,_):=Mj.ď had Z;calc cP %[3,g,_,_,.v ds[a],rb,rb,aZ.of F,aN (by rw[bz,ae had];rfl)|%[15,ds[a],_,0,.I R[a].1,rb,rb,aQ.of hc|%[17,aN (j:=0) rb,_,_,rb,rb|bB _ rb ?_]]];by_cases z2:B<=R[a].1
    .rw[aw z2];calc cP %[0,λI8 H8=>H8=H'/\I8=[į (.v p),į (.v pr),į (.v pm),į (.À<|S rk),some (.v t4),some (.v dw),some (.v pb),some (.v d1),some (.v d2),some (.v g),some (.v as[i]),some (.I B),some (.I ((a+1:Nat):Int))],λI8 H8 ⟨e1,e2⟩=>%[0,R.n-(a+1),sr Z<|fm _|%[9,a+1,Z,rb,e1,e2|λj h hj=>?_]]|%[13,_,_,rb,rb,rb|rb]];rcases dQ j a with y|y;.show N j h y
     .have:j=a:=by lia
      subst this;show z2
    .rw[ai z2];calc cG %[.Â %[8,rb,_|aZ.of F],zsz 2|λc hc=>?_];let(f1,f2,f3):=fin (λ_=>by lia) c hc;calc%[14,g,_,a,_,rb,rb,f1,by rw[hz];show ha,by rw[hz];lia|?_];rw[em];show%[3,_,_,_,ds.Ã a++c::ds.Ì a,rb,au,el c,f2|f3]
   .rw[ai z];calc cG %[.Â %[8,rb,_|aZ.of F],zsz 2|λc hc=>?_];let(f1,f2,f3):=fin (λ_=>by grind) c hc;calc%[14,g,_,a,_,rb,rb,f1,by rw[hz];show ha,by rw[hz];lia|?_];rw[em];show%[3,_,_,_,ds.Ã a++c::ds.Ì a,rb,au,el c,f2|f3]
 .intro I H3 z;let(v10,v11,LQ,ds,rfl,hD3,hdl,s3,hR):=z;rw[cn (by rw[aa];simp_all)]at hR;show(q g ds H3 s3 hD0 hD3 hR)
def fB:ı->ı->ı
 | 0,_=>1
 | n+1,0=>fB n 0
 | n+1,b+1=>fB n (b+1)+fB n b
theorem N6:∀n b,fB n b<=fB n (b+1)
 | 0,_=>ag _
 | n+1,0=>av (N6 n 0) (iF _ _)
 | n+1,b+1=>zn (N6 n<|b+1) (N6 n b)
def V8 {n b c:ı}(h:b<=c):fB n b<=fB n c:=by
 induction h with| refl=>show ag _| step _ ih=>show av ih<|N6 _ _
def afk {n b:ı}:fB n b<=fB (n+1) b:=by
 cases b with| zero=>show ag _| succ b=>show iF _ _
theorem RX:∀(ls rk:İ ı),(gq ls rk).n<=fB ls.n (rk.Č 63)
 | [],_=>ag _
 | c::ls,rk=>by
  unfold gq;rw[ax];let e1:(if c∈rk then (gq ls<|rk.ć c).Q (c :: ·) else []).n<=fB ls.n (rk.Č 63):=by
   split
   .rw[aa];show av (RX ls _)<|V8<|(xI).count_le _
   .show ci _
  by_cases h:63∈rk
  .let hp:=ui.á h;let e2:(gq ls<|rk.ć 63).n<=fB ls.n (rk.Č 63-1):=by
    have:=RX ls<|rk.ć 63;rw[List.count_erase_self]at this;show this
   rw[ĺ h,aa (as:=gq ls (rk.ć 63)),b8];obtain⟨k,hk⟩:∃k,rk.Č 63=k+1:=Nat.exists_eq_succ_of_ne_zero (ib hp);rw[hk]at e1 e2 ⊢;show zn e1 e2
  .rw[Ĺ h,tm,b8];show av e1 afk
def ahD {rk:İ ı}(h:rk.Č 63<=2){ls:İ ı}(g:ls.n<=4):(gq ls rk).n<=11:=by
 calc av (RX ls rk)<|av (V8 h) ?_;have:∀n,n<=4->fB n 2<=11:=by decide
 show this _ g
def ahE {ws:AA}{rk:İ ı}{r w:ı}(g:ws.n<=8)(hw:∀l∈ws,l.n<=4)(k7:rk.n<=7)(k2:rk.Č 63<=2)(B:r<=5)(D:w<=5):RkB ws rk r w 11:=by
 calc%[zo,k7,λl j ls h=>ahD k2<|av h<|hw l j,zt,?_|?_];.show av (km g<|mE 11<|km B (show w-1<=4 by lia)) zt
 .show av (km g<|mE 11<|km D (show r-1<=4 by lia)) zt
def cY.seq (e:cY H H')(h:aZ K H a xs):aZ K H' a xs:=by
 rcases h with(h|⟨o,h⟩)|h;.show .Â<|.Â<|e.ď h nofun
 .show .Â<|.Ð %[o|e.ď h nofun]
 .show .Ð h
def cW.mt {r w:ı}{ak aF:AA}{i j:ı}(B:cW C H p r w ak aF i j)(s:cY H H'):cW C H' p r w ak aF i j:=by let((dx,pr,pm,pb,a,b,c,d),o):=B;show%[%[15,dx,pr,pm,pb,s.ď a nofun,s.ď b nofun,s.ď c nofun|s.ď d nofun]|o]
def jD.mt (B:jD C H p d ws)(s:cY H H'):jD C H' p d ws:=by let(dx,e):=B.ob;show%[%[dx|s.ď e nofun],s.ď B.dc nofun,B.nd|B.az]
def zX.mt (l:zX C H p dx ps pd k1 k2)(s:cY H H'):zX C H' p dx ps pd k1 k2:=%[s.ď l.1 nofun,s.ď l.2.1 nofun,s.ď l.2.2.1 nofun|l.2.2.2]
def afl {d:ĸ}{r w:ı}(B:1<=r)(hw:1<=w):∃sp:Nat,d%((r:ĸ)*(w:ĸ))=(sp:ĸ)/\sp/w<r/\sp%w<w:=by let hp:0<r*w:=Nat.mul_pos B hw;let e:((r*w:ı):ĸ)=(r:ĸ)*(w:ĸ):=Int.natCast_mul r w;rw[<-e];let h1:=og d (show ((r*w:ı):ĸ)≠0 by lia);let j:=lI d<|show (0:ĸ)<((r*w:ı):ĸ) from i8 dC hp;let(sp,g):=Int.eq_ofNat_of_zero_le h1;calc%[2,sp,g,?_|qh _ hw];rw[g]at j;rw[Nat.div_lt_iff_lt_mul hw];show Iff.mp dC j
def RZ (K:W.Ë)(T:Ķ):Sp:=λvs H Q _=>∃(a:Addr) (ns:İ ĸ),vs=[.v a]/\aZ K H a (ns.Q V.I)/\ns.n<=63/\CJ T H/\∀H',Q (.bl Ĵ) H'
def ahF (F:iH K "law" "law" NT f fd)(bh:mg "len"=Ĳ)(cj:mg "range"=Ĳ)(Yc:mg "max"=Ĳ)(Yd:mg "min"=Ĳ)(lK:mg "int"=Ĳ)(uU:mg "Board"=į (.v C))(yr:Mk K C g0)(yt:dJ P w K mg base fP 5 g0 fe0 ["self","rows","marks","begin"] (Dz C))(yu:cV K fe0 ["self","rows","marks","begin"] [])(afm:mg "Book"=į (.v CB))(ahG:Mk K CB g1)(ahH:dJ P w K mg base fP 3 g1 fe1 ["self","words"] (aap K CB))(ahI:cV K fe1 ["self","words"] [])(aa7:mg "Leaves"=į (.v CL))(adb:Mk K CL g2)(ade:dJ P w K mg base fP 1 g2 fe2 ["self","singles","doubles"] (V0 CL))(adf:cV K fe2 ["self","singles","doubles"] [])(Ml:bD P w K mg base "_law_cell_at" 1 ["_law_script","_law_k"] (aan K))(iz:bD P w K mg base "_law_draw" 1 ["_law_cell","_law_j"] rH)(aa8:bD P w K mg base "_law_letters" 1 ["_law_cell"] aaS)(R6:bD P w K mg base "_law_some_words" 2 ["_law_cell","_law_letters_here"] V1)(R7:bD P w K mg base "_law_small_rows" 2 ["_law_cell","_law_letters_here","_law_words_here"] V3)(afn:bD P w K mg base "_law_marks" 2 ["_law_rows","_law_cell"] RD)(afo:bD P w K mg base "_law_tiles" 2 ["_law_cell","_law_letters_here","_law_most"] RJ)(adg:bD P w K mg base "_law_worths" 2 ["_law_cell","_law_letters_here"] Rq)(aa9:bD P w K mg base "_law_told" 2 ["_law_cell","_law_letters_here","_law_by"] aaY)(aiH:bD P w K mg base "_law_due" 5 ["_law_told_here","_law_rows","_law_marks_here","_law_rack","_law_sums"] ad1)(afp:bD P w K mg base "_law_right" 2 ["_law_found","_law_due_here"] V6)(sW:bD P w K mg base "all_layings" 13 ["board","book","rack"] (XS C CB))(Gf:bD P w K mg base "ranked" 14 ["board","book","rack","worths","bonus","leaves"] (Ge C CB CL T))(Nh:bD P w K mg base "best_laying" 15 ["board","book","rack","worths","bonus","leaves"] (aa6 C CB CL T)):dJ P w K mg base fP 18 f fd ["_law_script"] (RZ K T):=by
 calc F.cU iT λbF A outer s H vs Q E g h=>?_;let(a,ns,rfl,hS,hn,hT,q):=h;let hu:=pI g;calc%[0,_,(aD (dz ck rb (aak zw cj<|aj aB<|aj (aP (YD rb) zw Yc PyProof.Ă.boot_max<|aj aB<|aj (aP (YF rb) zw Yd PyProof.Ă.boot_min<|aj aB<|aj (aP cD zw bh bE<|aj aK aq) aq) aq)<|aj aB aq) (bG (i:=1) iT.nd rb<|Or.Â rb)<|aD (aO (i:=2) iT.nd rb (Or.Â rb)<|bf Ml g.Ô rb<|aj aK<|aj aX aq)<|aD (aO (i:=3) iT.nd rb (Or.Â rb)<|bf Ml g.Ô rb<|aj aK<|aj (aL bW aX aB) aq)<|aD (aO (i:=4) iT.nd rb (Or.Â rb)<|bf aa8 g.Ô rb<|aj bw aq)<|aD (aO (i:=5) iT.nd rb (Or.Â rb)<|bf R6 g.Ô rb<|aj (bf iz g.Ô rb<|aj bw<|aj aB aq)<|aj b_ aq)<|aD (aO (i:=6) iT.nd rb (Or.Â rb)<|bf R7 g.Ô rb<|aj (bf iz g.Ô rb<|aj bN<|aj aB aq)<|aj b_<|aj cI aq)<|aD (aO (i:=7) iT.nd rb (Or.Â rb)<|bf afn g.Ô rb<|aj dM<|aj bN aq)<|aD (aO (i:=8) iT.nd rb (Or.Â rb)<|aL cH (bf iz g.Ô rb<|aj bN<|aj aB aq)<|aL gn (aP cD zw bh bE<|aj dM aq)<|aP cL zw bh bE<|aj (aV bA dM aB λ_ _=>rfl) aq)<|aD (aO (i:=9) iT.nd rb (Or.Â rb)<|xr yr yt g.Ô rb uU yu .ê jo<|aj dM<|aj iU<|aj (cO<|aj (aL fW iV<|aP cL zw bh bE<|aj (aV bA dM aB λ_ _=>rfl) aq)<|aj (aL cH iV<|aP cL zw bh bE<|aj (aV bA dM aB λ_ _=>rfl) aq) aq) aq)<|aD (aO (i:=10) iT.nd rb (Or.Â rb)<|bf afo g.Ô rb<|aj (bf iz g.Ô rb<|aj bw<|aj aB aq)<|aj b_<|aj (aV fj (fK<|aj aB<|aj aB aq) (cN Ky zw lK om<|aj (jL lD (aL cH bw aB) aB<|bU _) aq) λ_ _=>rfl) aq)<|aD (aO (i:=11) iT.nd rb (Or.Â rb)<|cO<|aj (bf adg g.Ô rb<|aj bw<|aj b_ aq)<|aj (cO<|aj (aL bW aB<|aL cH bN aB)<|aj (aL cH (aL fW bN aB) aB) aq) aq)<|aD (aO (i:=11) iT.nd rb (Or.Â rb)<|aL ad8 gQ<|cO<|aj (bf aa9 g.Ô rb<|aj bw<|aj b_<|aj aB aq)<|aj (bf aa9 g.Ô rb<|aj bN<|aj b_<|aj aB aq) aq)<|aD (aO (i:=12) iT.nd rb (Or.Â rb)<|xr adb ade g.Ô rb aa7 adf .ê jo<|aj (aV bA gQ aB λ_ _=>rfl)<|aj (aV bA gQ aB λ_ _=>rfl) aq)<|aD (aO (i:=13) iT.nd rb (Or.Â rb)<|xr ahG ahH g.Ô rb afm ahI .ê jo<|aj cI aq)<|aD (aO (i:=14) iT.nd rb (Or.Â rb)<|bf aiH g.Ô rb<|aj (bf sW g.Ô rb<|aj iW<|aj (qv 13)<|aj jy aq)<|aj dM<|aj iU<|aj jy<|aj gQ aq)<|aD (dz ck rb (fJ zw cj<|aj aB aq) (bG (i:=15) iT.nd rb<|Or.Â rb)<|aG<|dF (jk<|f9<|bf afp g.Ô rb<|aj (bf Gf g.Ô rb<|aj iW<|aj (qv 13)<|aj jy<|aj (aV bA gQ aB λ_ _=>rfl)<|aj (aV bA gQ aB λ_ _=>rfl)<|aj nT aq)<|aj (qv 14) aq) (aG<|aY mz) cC)<|aG<|dF (bK (Ze g.ã) (bf Nh g.Ô rb<|aj iW<|aj (qv 13)<|aj jy<|aj (aV bA gQ aB λ_ _=>rfl)<|aj (aV bA gQ aB λ_ _=>rfl)<|aj nT aq) (aV fj (aL YW (qv 14)<|fK<|aj Yt aq) aB λ_ _=>rfl)<|bU _) (aG<|aY mz) cC)<|aG<|aY mz)|?_];obtain⟨m,em,m1,m6⟩:∃m:Nat,(if (if ((ns.Q V.I).n:ĸ)<6 then ((ns.Q V.I).n:ĸ) else 6) > 1 then (if ((ns.Q V.I).n:ĸ)<6 then ((ns.Q V.I).n:ĸ) else 6) else 1)=(m:ĸ)/\1<=m/\m<=6:=by generalize (ns.Q V.I).n=n;calc%[2,if n<2 then 1 else if n<6 then n else 6,?_,?_|?_] <;> (repeat' split) <;> lia
 calc%[4,a,_,rb|%[19,.Â hS,_,_,rb|%[6,_,_|%[55,rb,m,2,(m+1)/2,by rw[em];rfl,(aaj %[m|rj m6] m1).1,(aaj %[m|zo] m1).2,zt,zt|?_]]]];refine Xf (lo:=0) (c:=2) (n:=(m+1)/2) (λi I H'=>∃v1 v2 v3 v4 v5 v6 v7 v8 v9 va vb vc vd ve vf:ĵ V,I=[į (.v a),v1,v2,v3,v4,v5,v6,v7,v8,v9,va,vb,vc,vd,ve,vf]/\aZ K H' a (ns.Q V.I)/\CJ T H')
  %[6,Ĳ,Ĳ|%[5,Ĳ,Ĳ,Ĳ|%[5,Ĳ,Ĳ,Ĳ|%[21,Ĳ,Ĳ,Ĳ,Ĳ,Ĳ,Ĳ,Ĳ,rb,hS|hT]]]] ?_ ?_
 .intro i I H0 hi z;let(v1,v2,v3,v4,v5,v6,v7,v8,v9,va,vb,vc,vd,ve,vf,rfl,hS0,hT0):=z;rw[show (0:ĸ)+(i:ĸ)*2=((i*2:ı):ĸ) by simp];calc%[27,a,ns,i*2,rb,hS0|λc0=>?_];calc%[1,_,_,rb,rb|%[27,a,ns,i*2+1,rb,hS0|λD=>?_]];calc%[0,c0,rb|λls H1 s1 hA=>?_];calc%[1,c0,2,rb,zt|λd1=>%[1,d1,ls,rb,hA|λpw wl H2 s2 aj0 hpw w3 w8 hwl=>?_]];calc%[1,D,3,rb,zt|λd2=>%[61,d2,ls,pw,wl,rb,hA,hpw,zo,zo,λl hl=>(hwl l hl).1|λpr ak r w H3 s3 hpr hb r1 r5 w1 w5 El=>?_]];calc%[47,pr,ak,r,w,D,rb,hpr,hb,r1,zo,zo|λpm aF H4 s4 hpm hbm hmk=>?_];let Gg:=s4 _ _ hpr;let h0:0<ak.n:=by rw[hb.len];show r1
  let J:ak[0].n=w:=hb.iJ _<|aS _;let jt:(Ts ak).n=r:=by rw[aa,hb.len]
  let ix0:kh (Ts ak) 0=į (.À<|S ak[0]):=aN (j:=0)<|oK (by simp[h0]);let hz0:ak[0].n<=Ŀ:=ar<|aJ zo;refine%[1,D,4,rb,zt|λd3=>%[1,pr,_,rb,.Ð<|aQ.of Gg|%[15,pr,_,_,.À<|S ak[0],rb,rb,aQ.of Gg|%[26,ix0,_,rb,hz0|%[24,_,_,rb,rb,?_,_,_,rb,rb,?_|?_]]]]]
  .rw[jt,J];show .Â %[dA _|zo]
  .rw[jt,J];show Int.mul_pos (i8 dC r1) zo
  rw[jt,J];let(sp,esp,hbi,hbj):=afl (d:=d3) r1 w1;calc(show j8 8 (V.I<|d3%((r:ĸ)*(w:ĸ))) _ _ _ from ?_);rw[esp];calc%[45,pr,_,_,.À<|S ak[0],rb,rb,aQ.of Gg,ix0,_,rb|%[32,hz0,_,_,rb,rb,?_|%[15,pr,_,_,.À<|S ak[0],rb,rb,aQ.of Gg|%[26,ix0,_,rb,hz0|%[7,_,_,rb,rb,?_,zsz 2|λpg hpg=>?_]]]]];.rw[J];show%[zo|zo]
  .rw[J];lia
  rw[J];let s5:aA H4 (upd H4 pg<|HO.Æ [V.I ((sp:ĸ)/(w:ĸ)),V.I ((sp:ĸ)%(w:ĸ))]):=aA.å hpg;let R8:upd H4 pg (HO.Æ [V.I ((sp:ĸ)/(w:ĸ)),V.I ((sp:ĸ)%(w:ĸ))]) pg=į (.Æ [.I ((sp/w:ı):ĸ),.I ((sp%w:ı):ĸ)]):=au;generalize upd H4 pg (HO.Æ [V.I ((sp:ĸ)/(w:ĸ)),V.I ((sp:ĸ)%(w:ĸ))])=H5 at s5 R8 ⊢;generalize sp/w=bi at hbi R8;generalize sp%w=bj at hbj R8;let B:Hg r w ak aF bi bj:=%[r1,zo,w1,zo,hb,hbm,El,hmk,hbi|hbj]
  calc λb dx nx ndx nex=>?_;let Y:aA H5 (upd (upd H5 dx<|HO.own b) b<|HO.ins C dx []):=λc o e=>by rw[aU (bI e nx),aU (bI e ndx)];show e
  calc%[6,b,dx|%[6,pr,pm|%[48,pg,r,w,ak,aF,bi,bj,rb,au,Y _ _<|s5 _ _ Gg,Y _ _<|s5 _ _ hpm,Y _ _ R8,B|λH6 kp hx6=>%[rb|?_]]]];let t6:aA H5 H6:=λc o e=>kp c o (Y c o e)<|bI e nx;let BA6:cW C H6 b r w ak aF bi bj:=%[%[15,dx,pr,pm,pg,hx6,t6 _ _<|s5 _ _ Gg,t6 _ _<|s5 _ _ hpm|t6 _ _ R8]|B]
  let k46:=s5.X t6;let S6:aA H0 H6:=(((s1.X s2).X s3).X s4).X k46;calc%[1,c0,5,rb,zt|λd4=>%[zsz 2|λLm hLm=>?_]];let s7:aA H6 (upd H6 Lm<|HO.É [V.I 4,V.I 7]):=aA.å hLm;let ahJ:upd H6 Lm (HO.É [V.I 4,V.I 7]) Lm=į (.É [.I 4,.I 7]):=au;generalize upd H6 Lm (HO.É [V.I 4,V.I 7])=H7 at s7 ahJ ⊢;calc%[7,_,_,rb,rb,(show (0:ĸ)<8 by decide),rb|.Ð %[0,_,rb|?_]];obtain⟨mm,hmm,mm7⟩:∃mm:Nat,kh [V.I 4,V.I 7] (if ľ (V.I (c0%8)=V.I 3)=Ĵ then (1:ĸ) else 0)=į (.I (mm:ĸ))/\mm<=7:=by
   generalize ľ (V.I (c0%8)=V.I 3)=k;cases k;.show%[0,4,rb|zt]
   .show%[0,7,rb|zt]
  calc%[3,Lm,_,_,_,rb,rb,aZ.of ahJ,hmm|%[11,d4,ls,mm,rb,hA,zo|λrk hrl hr2 hrk=>?_]];calc%[1,c0,ls,rb,hA|λG kvs H8 s8 aj1 hdw hW Rj=>?_];calc%[13,_,_,rb,rb,(show (0:ĸ)<5 by decide)|%[33,_,_,rb,rb,_,_,rb,rb,%[zt|zt]|%[7,_,_,rb,rb,(show (0:ĸ)<50 by decide),zsz 2|λpb hpb=>?_]]];let s9:aA H8 (upd H8 pb<|HO.Æ [V.I (1+D%5),V.I (D/5%50)]):=aA.å hpb;let R9:upd H8 pb (HO.Æ [V.I (1+D%5),V.I (D/5%50)]) pb=į (.Æ [.I (1+D%5),.I (D/5%50)]):=au;generalize upd H8 pb (HO.Æ [V.I (1+D%5),V.I (D/5%50)])=H9 at s9 R9 ⊢;generalize 1+D%5=bn at R9;generalize D/5%50=bm at R9;calc%[zsz 2|λY Cu=>?_];let sA:aA H9 (upd H9 Y<|HO.Æ [V.v G,V.v pb]):=aA.å Cu;let ahK:upd H9 Y (HO.Æ [V.v G,V.v pb]) Y=į (.Æ [.v G,.v pb]):=au;generalize upd H9 Y (HO.Æ [V.v G,V.v pb])=HA at sA ahK ⊢;calc%[10,c0,ls,10,rb,hA,zt,zt|λe1 k1 HB sB he1 aj2 we1 hl1=>?_];calc%[10,D,ls,60,rb,hA,zt,zt|λe2 k2 HC sC he2 aj3 we2 hl2=>?_];calc%[zsz 2|λt3 ht3=>?_];let sD:aA HC (upd HC t3<|HO.Æ [V.v e1,V.v e2]):=aA.å ht3;let ahL:upd HC t3 (HO.Æ [V.v e1,V.v e2]) t3=į (.Æ [.v e1,.v e2]):=au;generalize upd HC t3 (HO.Æ [V.v e1,V.v e2])=HD at sD ahL ⊢;let sAD:=(sB.X sC).X sD;calc%[36,Y,t3,_,_,rb,rb,aQ.of<|sAD _ _ ahK,aQ.of ahL,nofun,by show 2+2<=Ŀ;decide,λz=>by simp at z|λ_ M xW=>?_];let sE:aA HD (upd HD M<|HO.Æ<|[V.v G,V.v pb]++[V.v e1,V.v e2]):=aA.å xW;let R_:upd HD M (HO.Æ<|[V.v G,V.v pb]++[V.v e1,V.v e2]) M=į (.Æ [.v G,.v pb,.v e1,.v e2]):=au;generalize upd HD M (HO.Æ<|[V.v G,V.v pb]++[V.v e1,V.v e2])=HE at sE R_ ⊢;calc%[3,M,_,_,.v e1,rb,rb,aQ.of R_,aN (j:=2) rb|%[3,M,_,_,.v e2,rb,rb,aQ.of R_,aN (j:=3) rb|λlv lx nx1 ajN aj4=>?_]];let tF:aA HE (upd (upd HE lx<|HO.own lv) lv<|HO.ins CL lx []):=λc o e=>by rw[aU (bI e nx1),aU (bI e ajN)];show e
  let sBE:=(sC.X sD).X sE;calc%[68,lv,lx,e1,e2,k1,k2,rb,au,tF _ _<|sBE _ _ he1,tF _ _<|(sD.X sE) _ _ he2|λps pd HF kpF Gs hps hpd _ _=>%[rb|?_]];let sF:aA HE HF:=λc o e=>kpF c o (tF c o e)<|bI e nx1;let LV:zX CL HF lv lx ps pd k1 k2:=%[Gs,hps,hpd,we1|we2]
  let sAF:=(sAD.X sE).X sF;let s3F:aA H2 HF:=((((s3.X s4).X k46).X s7).X s8).X<|(s9.X sA).X sAF;calc(λbk bx nx2 ajO aj5=>?_);let tG:aA HF (upd (upd HF bx<|HO.own bk) bk<|HO.ins CB bx []):=λc o e=>by rw[aU (bI e nx2),aU (bI e ajO)];show e
  calc%[14,bk,bx,pw,wl,rb,au,.Â<|aZ.of<|tG _ _<|s3F _ _ hpw,λl hl=>(hwl l hl).1,zo|λbd ws HG _ BK hmw ajP kpG=>%[rb|?_]];let sG:aA HF HG:=λc o e=>kpG c o (tG c o e)<|bI e nx2;let RB:RkB ws rk r w 11:=ahE (av ajP w8) (λl hl=>(hwl l<|(hmw l).mp hl).2) (av hrl mm7) hr2 r5 w5;let s6G:aA H6 HG:=((s7.X s8).X<|(s9.X sA).X sAF).X sG;let S0G:=S6.X s6G;let BAG:=BA6.mv s6G;calc%[6,b,bk|%[6,bd,ws|%[5,r,w,ak|%[42,aF,bi,bj,11,rk,rb,BAG,BK,RB.w64,zo,RB.sg,RB.g9,RB.b1,RB.b2|λp as L HL sL hpL hY up nd hl hm=>?_]]]];let ajQ:∀ts∈L,ahA r w rk ts:=λts h=>by let N:=(hm ts).mp h;let ok:=yD B.br BK.az N;show%[λt ht=>%[(ok.ø t ht).1,(ok.ø t ht).2.1|(ok.ø t ht).2.2.2],o6.á ok.ne,ok.đ,RL BK.az N|(Mh BK.az N).one]
  let okD:∀ts∈L,ts≠[]/\∀t∈ts,yq t:=λts h=>by let ok:=yD B.br BK.az<|(hm ts).mp h;show%[ok.ne|ok.yq zo zo]
  let s4L:aA H4 HL:=(k46.X s6G).X sL;let s9L:aA H9 HL:=((sA.X sAF).X sG).X sL;let s8L:aA H8 HL:=s9.X s9L;let sEL:aA HE HL:=(sF.X sG).X sL;let sBL:aA HB HL:=sBE.X sEL;let sCL:aA HC HL:=(sD.X sE).X sEL;calc%[5,p,pr,pm|%[5,M,G,pb|%[5,e1,e2,as|%[5,L,r,w|%[5,ak,aF,rk|%[42,kvs,k1,k2,bn,bm,rb,hpL,hY,hl,ajQ,s4L _ _ Gg,hb,r1,zo|%[zo,s4L _ _ hpm,hbm,hmk,zo,sEL _ _ R_,s8L _ _ hdw,hW,Rj,s9L _ _ R9,sBL _ _ he1,sCL _ _ he2,we1,we2|λD0 ds HM sM hDn hD hR=>?_]]]]]]];let sGM:=sL.X sM;let BAM:=BAG.mv sGM;let BKM:=BK.same sGM;let LVM:=LV.mv<|sG.X sGM;let ahM:=sM _ _<|s8L _ _ hdw;let ahN:=sM _ _<|s9L _ _ R9;let Ye:=sM _ _<|sEL _ _ R_;let S0M:=S0G.X sGM;let okR:=aa5 (ak:=ak) (aF:=aF) (kvs:=kvs) (n:=bn) (m:=bm) (k1:=k1) (k2:=k2) (rk:=rk) okD;let same:∀L2:İ (İ bL),K_ L2->L2.Ö->(∀x,x∈L2↔x∈wY ws ak r w bi bj rk)->L2=L:=λL2 u2 n2 m2=>aa2 u2 up n2 nd (λx hx t ht=>by have:=(okD x<|(hm x).á<|(m2 x).mp hx).2 t ht;let h9:=this.2.1;show%[bq h9<|kG _ _|this.2.2]) λx=>(m2 x).X (hm x).Ò
  refine%[18,_,rb,zt,zt|iQ (lo:=0) (n:=2) (λj I H'=>∃vf:ĵ V,I=[į (.v a),į (.I ((i*2:ı):ĸ)),į (.I c0),į (.I D),į (.À<|S ls),į (.v pw),į (.v pr),į (.v pm),į (.I (sp:ĸ)),į (.v b),į (.À<|S rk),į (.v M),į (.v lv),į (.v bk),į (.v D0),vf]/\cY HM H'/\CJ T H') %[2,vf,rb,cY.Ę _|hT0.mv S0M] ?_ ?_]
  .intro j I H' hj z;let(vf,rfl,sx,hTx):=z;calc%[3,M,_,_,.v G,rb,rb,aQ.of<|sx.ď Ye nofun,aN (j:=0) rb|%[15,M,_,_,.v pb,rb,rb,aQ.of<|sx.ď Ye nofun|%[8,aN (j:=1) rb,b|%[5,bk,bd,G|%[5,pb,lv,lx|%[5,ps,pd,ws|%[5,r,w,ak|%[5,aF,bi,bj|%[21,11,rk,kvs,k1,k2,bn,bm,rb,BAM.mt sx|%[BKM.mt sx,RB,sx.ď ahM nofun,hW,Rj,sx.ď ahN nofun,LVM.mt sx,hTx|λp2 bs L2 H2 s2 hT2 hn2 hp2 hl2 up2 ZX hm2 vq=>?_]]]]]]]]]];let e:=same L2 up2 ZX hm2;subst e;let O:=sx.X s2;calc%[47,p2,D0,bs,ds,_,rb,hp2,O.ď hD nofun,vq,hR.d9<|cY.tt O,okR|λH3 s3'=>(bB _ rb<|cG ?_)];show%[2,_,rb,O.X<|aA.t s3'|hT2.mv s3']
  .intro I H' z;let(vf,rfl,sx,hTx):=z;calc%[3,M,_,_,.v G,rb,rb,aQ.of<|sx.ď Ye nofun,aN (j:=0) rb|%[15,M,_,_,.v pb,rb,rb,aQ.of<|sx.ď Ye nofun|%[8,aN (j:=1) rb,b|%[5,bk,bd,G|%[5,pb,lv,lx|%[5,ps,pd,ws|%[5,r,w,ak|%[5,aF,bi,bj|%[21,11,rk,kvs,k1,k2,bn,bm,rb,BAM.mt sx|%[BKM.mt sx,RB,sx.ď ahM nofun,hW,Rj,sx.ď ahN nofun,LVM.mt sx,hTx|λv L2 H2 s2 hT2 up2 ZX hm2 hv=>?_]]]]]]]]]];let e:=same L2 up2 ZX hm2;subst e;let O:=sx.X s2;let hdl:ds.n<=3998:=by
    let h1:=hR.đ;let h2:=(vB Prod.fst<|L2.Q λts=>(RP ak aF kvs bn bm k1 k2 rk ts,ts)).Ē;rw[aa]at h2;unfold Aj at h1;lia
   calc%[zsz 1|λLn iK=>?_];let s5':aA H2 (upd H2 Ln<|HO.É [V.ă]):=aA.å iK;let ahO:upd H2 Ln (HO.É [V.ă]) Ln=į (.É [.ă]):=au;generalize upd H2 Ln (HO.É [V.ă])=H5' at s5' ahO ⊢;let sx5:=O.X<|aA.t s5';calc%[14,D0,Ln,_,_,rb,rb,sx5.ď hD nofun,ahO,by rw[aa];show ar<|Du (by show ds.n+1<=4000;lia)|λp7 Ep=>?_];let Z:aA H5' (upd H5' p7<|HO.É<|ds.Q V.v++[V.ă]):=aA.å Ep;let ahP:upd H5' p7 (HO.É<|ds.Q V.v++[V.ă]) p7=į (.É<|ds.Q V.v++[.ă]):=au;generalize upd H5' p7 (HO.É<|ds.Q V.v++[V.ă])=H6' at Z ahP ⊢;let sx6:=sx5.X<|aA.t Z;let fin:aZ K H6' a (ns.Q V.I)/\CJ T H6':=%[cY.ú sx6<|aA.ú S0M hS0|(hT2.mv s5').mv Z]
   let Mj:=hR.d9<|cY.tt sx6;obtain⟨dd,vd,hd1,hd2,Cp⟩:∃(dd:Dt) (vd:V),kh (ds.Q V.v++[V.ă]) 0=į vd/\eZ K H6' 3 dd v/\eZ K H6' 3 dd vd:=by
    rcases hv with⟨eR,rfl⟩|⟨x,R,a',eR,rfl,ha'⟩
    .rw[eR]at Mj;have:ds=[]:=xl.mp Mj.eq;subst this;show%[1,.ă,.ă,rb,.ă|.ă]
    .rw[eR]at Mj okR;cases ds with| nil=>show Ł Mj.eq zr| cons d0 ds=>have hx:=Mj.ď (i:=0) (gL _)<|gL _;show%[1,V5 x,.v d0,aN (j:=0) rb,(ha'.d9<|aA.tt<|s5'.X Z).has<|okR x aE|hx.has<|okR x aE]
   calc%[3,p7,_,_,vd,rb,rb,aZ.of ahP,hd1|%[11,3,dd,dd,zt,hd2,Cp|?_]];simp only[decide_true,fR,if_true];show%[6,_,_|%[5,_,_,_|%[5,_,_,_|%[69,_,_,_,_,_,_,_,rb|fin]]]]
 .rintro I H0 _;show q H0
end
end My
end
namespace My
open PySem L2
section
variable {P:ń}{w:ŉ}{K:W.Ë}{mg:ņ->ĵ ĳ}{base:Ň}
def aa_ {h:Ň}(X:K.In h)(G:h.Ns mainGlobals mg){x:ņ}{a:Ķ}{B g j:ı}{J L F:ĸ}{t1 Z t3 M N O:Tok}{ep:ı}(b:W.nsIn K mainGlobals x=į (į<|.v a))(l:K.Å a=į %[.È "dict",Ĳ,.dict #[%[hashStr w<|S [B],.À (S [B]) t1|.I J M],%[hashStr w<|S [g],.À (S [g]) Z|.I L N],%[hashStr w<|S [j],.À (S [j]) t3|.I F O]] ep|#[]])(z:(a==sysModules)=ķ)(n:([B,g,j]:İ ı).Ö):∃a,mg x=į (.v a)/\∀P:ń,KDict P w K a [(bZ [B],.I J),(bZ [g],.I L),(bZ [j],.I F)]:=by
 calc%[0,a,mN X G b|λP=>%[z,_,[(bZ [B],.I J M),(bZ [g],.I L N),(bZ [j],.I F O)],l,?_|?_]];.show .Þ %[rb|%[_|rb]]<|.Þ %[rb|%[_|rb]]<|.Þ %[rb|%[_|rb]] .ê
 .refine%[7,_,_,%[rb,rb|rb],rb,?_,?_|?_]
  .intro e D;let D:e∈[(%[hashStr w<|S [B],.À (S [B]) t1|.I J M]:DictEntry),%[hashStr w<|S [g],.À (S [g]) Z|.I L N],%[hashStr w<|S [j],.À (S [j]) t3|.I F O]]:=by simpa using D
   rcases a_.mp D with rfl|D;.show%[0,bZ [B],jU _ _ _ _|rb]
   rcases a_.mp D with rfl|D;.show%[0,bZ [g],jU _ _ _ _|rb]
   rcases a_.mp D with rfl|D;.show%[0,bZ [j],jU _ _ _ _|rb]
   .cases D
  .show .Þ (jU _ _ _ _) rb<|.Þ (jU _ _ _ _) rb<|.Þ (jU _ _ _ _) rb .ê
  .let e:([(bZ [B],Value.I J M),(bZ [g],Value.I L N),(bZ [j],Value.I F O)]:İ (Key×ĳ)).Q (·.1)=([B,g,j]:İ ı).Q (λc=>bZ [c]):=rfl;rw[e];calc List.Ä.Q _ (λa b Y q=>Y ?_) n;have:=pJ<|vw q;simpa using this
structure zY (K:W.Ë)(mg:ņ->ĵ ĳ)(C f0 f1 f2 f3 f4 f5:Ķ)(mG ju fd2 Ek V9 V_:Ŕ):Prop where
 T:fU K C
 Sd:mg "Board"=į (.v C)
 M:Mk K C f0
 F0:iH K "__init__" "Board.__init__" jz f0 mG
 b0:cV K mG ["self","rows","marks","begin"] []
 F1:iH K "at" "Board.at" lH f1 ju
 b1:cV K ju ["self","row","column"] []
 m1:Meth K C "at" f1
 F2:iH K "is_free" "Board.is_free" gU f2 fd2
 b2:cV K fd2 ["self"] []
 m2:Meth K C "is_free" f2
 F3:iH K "run" "Board.run" jZ f3 Ek
 b3:cV K Ek ["self","row","column","way"] []
 m3:Meth K C "run" f3
 F4:iH K "turned" "Board.turned" iC f4 V9
 b4:cV K V9 ["self"] []
 m4:Meth K C "turned" f4
 F5:iH K "laid" "Board.laid" jA f5 V_
 b5:cV K V_ ["self","laying"] []
 m5:Meth K C "laid" f5
def adh {h:Ň}{C f0 f1 f2 f3 f4 f5:Ķ}(X:K.In h)(G:h.Ns mainGlobals mg){od0 an0 od1 an1 Vl an2 O an3 od4 an4 od5 an5:ĵ Ķ}{Z sl1 sl2 sl3 sl4 sl5:ŀ (ĵ ĳ)}{oc0 kV0 J Y Mp ct0 oc1 N M LC Mq ct1 Li kV2 dc2 Br B ct2 oc3 kV3 dc3 pm3 j ct3 oc4 kV4 dc4 pm4 D ct4 oc5 kV5 dc5 pm5 F ct5:ĳ}(aC:W.nsIn K mainGlobals "Board"=į (į<|.v C))(a0:W.ā K (.v C) "__init__"=į (į<|.v f0))(i0:W.isFn K (.v f0)=Ĵ)(l0:K.Å f0=į %[oc0,od0,.func<|W.fnOf "__init__" "Board.__init__" (dY jz) (cR jz) (aH jz) .Ø kV0 J Y an0 Mp ct0|Z])(c0:W.ĩ K Mp "Board.__init__"=Ĵ)(k0:W.Ċ K (.v f0)=Ĵ)(a1:W.ā K (.v C) "at"=į (į<|.v f1))(i1:W.isFn K (.v f1)=Ĵ)(l1:K.Å f1=į %[oc1,od1,.func (W.fnOf "at" "Board.at" (dY lH) (cR lH) (aH lH) .Ø N M LC an1 Mq ct1)|sl1])(c1:W.ĩ K Mq "Board.at"=Ĵ)(k1:W.Ċ K (.v f1)=Ĵ)(a2:W.ā K (.v C) "is_free"=į (į<|.v f2))(i2:W.isFn K (.v f2)=Ĵ)(l2:K.Å f2=į %[Li,Vl,.func<|W.fnOf "is_free" "Board.is_free" (dY gU) (cR gU) (aH gU) .Ø kV2 dc2 Br an2 B ct2|sl2])(c2:W.ĩ K B "Board.is_free"=Ĵ)(k2:W.Ċ K (.v f2)=Ĵ)(a3:W.ā K (.v C) "run"=į (į<|.v f3))(i3:W.isFn K (.v f3)=Ĵ)(l3:K.Å f3=į %[oc3,O,.func<|W.fnOf "run" "Board.run" (dY jZ) (cR jZ) (aH jZ) .Ø kV3 dc3 pm3 an3 j ct3|sl3])(c3:W.ĩ K j "Board.run"=Ĵ)(k3:W.Ċ K (.v f3)=Ĵ)(a4:W.ā K (.v C) "turned"=į (į<|.v f4))(i4:W.isFn K (.v f4)=Ĵ)(l4:K.Å f4=į %[oc4,od4,.func<|W.fnOf "turned" "Board.turned" (dY iC) (cR iC) (aH iC) .Ø kV4 dc4 pm4 an4 D ct4|sl4])(c4:W.ĩ K D "Board.turned"=Ĵ)(k4:W.Ċ K (.v f4)=Ĵ)(a5:W.ā K (.v C) "laid"=į (į<|.v f5))(i5:W.isFn K (.v f5)=Ĵ)(l5:K.Å f5=į %[oc5,od5,.func<|W.fnOf "laid" "Board.laid" (dY jA) (cR jA) (aH jA) .Ø kV5 dc5 pm5 an5 F ct5|sl5])(c5:W.ĩ K F "Board.laid"=Ĵ)(k5:W.Ċ K (.v f5)=Ĵ)(pg:W.plainGet K C Str.empty=Ĵ)(hd:W.hasDictIn K C=Ĵ)(po:W.plainOver K C=Ĵ)(sa:W.ā K (.v C) "__setattr__"=į (į<|.Ó "object.__setattr__"))(mk:W.makesIn K C=Ĵ)(kc:W.Ċ K (.v C)=Ĵ)(CK:W.ā K (.v C) "rows"=į Ĳ)(Sg:W.ā K (.v C) "marks"=į Ĳ)(L:W.ā K (.v C) "begin"=į Ĳ):∃C f0 f1 f2 f3 f4 f5 mG ju fd2 Ek V9 V_,zY K mg C f0 f1 f2 f3 f4 f5 mG ju fd2 Ek V9 V_:=by let F0:=jl (st:=jz) l0 c0 k0;let F1:=jl (st:=lH) l1 c1 k1;let F2:=jl (st:=gU) l2 c2 k2;let F3:=jl (st:=jZ) l3 c3 k3;let F4:=jl (st:=iC) l4 c4 k4;let F5:=jl (st:=jA) l5 c5 k5;show%[6,C,f0|%[6,f1,f2|%[5,f3,f4,f5|%[5,_,_,_|%[5,_,_,_|%[%[%[pg,hd,po|sa],CK,Sg|L],mN X G aC,%[mk,a0,i0|kc],F0,F0.binds (ps:=["self","rows","marks","begin"]) λ_ _ _ _ _ _ us g=>L2.e4 (λ_ _ _ _=>rfl) us g,F1,F1.binds (ps:=["self","row","column"]) λ_ _ _ _ _ _ us g=>L2.e3 (λ_ _ _=>rfl) us g,%[a1,i1|k1],F2,F2.binds (ps:=["self"]) λ_ _ _ _ _ _ us g=>L2.e1 (λ_=>rfl) us g,%[a2,i2|k2],F3,F3.binds (ps:=["self","row","column","way"]) λ_ _ _ _ _ _ us g=>L2.e4 (λ_ _ _ _=>rfl) us g,%[a3,i3|k3],F4,F4.binds (ps:=["self"]) λ_ _ _ _ _ _ us g=>L2.e1 (λ_=>rfl) us g,%[a4,i4|k4],F5,F5.binds (ps:=["self","laying"]) λ_ _ _ _ _ _ us g=>L2.e2 (λ_ _=>rfl) us g|%[a5,i5|k5]]]]]]]
structure CN (K:W.Ë)(mg:ņ->ĵ ĳ)(C f0 f1 f2:Ķ)(mG ju fd2:Ŕ):Prop where
 T:uf K C
 Sd:mg "Book"=į (.v C)
 M:Mk K C f0
 F0:iH K "__init__" "Book.__init__" j4 f0 mG
 b0:cV K mG ["self","words"] []
 F1:iH K "has" "Book.has" lJ f1 ju
 b1:cV K ju ["self","text"] []
 m1:Meth K C "has" f1
 F2:iH K "words" "Book.words" jC f2 fd2
 b2:cV K fd2 ["self"] []
 m2:Meth K C "words" f2
def afq {h:Ň}{C f0 f1 f2:Ķ}(X:K.In h)(G:h.Ns mainGlobals mg){od0 an0 od1 M Vl an2:ĵ Ķ}{sl0 Y B:ŀ (ĵ ĳ)}{oc0 L F pm0 Mp D oc1 kV1 Z LC Mq O Li kV2 J Br j N:ĳ}(aC:W.nsIn K mainGlobals "Book"=į (į<|.v C))(a0:W.ā K (.v C) "__init__"=į (į<|.v f0))(i0:W.isFn K (.v f0)=Ĵ)(l0:K.Å f0=į %[oc0,od0,.func<|W.fnOf "__init__" "Book.__init__" (dY j4) (cR j4) (aH j4) .Ø L F pm0 an0 Mp D|sl0])(c0:W.ĩ K Mp "Book.__init__"=Ĵ)(k0:W.Ċ K (.v f0)=Ĵ)(a1:W.ā K (.v C) "has"=į (į<|.v f1))(i1:W.isFn K (.v f1)=Ĵ)(l1:K.Å f1=į %[oc1,od1,.func<|W.fnOf "has" "Book.has" (dY lJ) (cR lJ) (aH lJ) .Ø kV1 Z LC M Mq O|Y])(c1:W.ĩ K Mq "Book.has"=Ĵ)(k1:W.Ċ K (.v f1)=Ĵ)(a2:W.ā K (.v C) "words"=į (į<|.v f2))(i2:W.isFn K (.v f2)=Ĵ)(l2:K.Å f2=į %[Li,Vl,.func<|W.fnOf "words" "Book.words" (dY jC) (cR jC) (aH jC) .Ø kV2 J Br an2 j N|B])(c2:W.ĩ K j "Book.words"=Ĵ)(k2:W.Ċ K (.v f2)=Ĵ)(pg:W.plainGet K C Str.empty=Ĵ)(hd:W.hasDictIn K C=Ĵ)(po:W.plainOver K C=Ĵ)(sa:W.ā K (.v C) "__setattr__"=į (į<|.Ó "object.__setattr__"))(mk:W.makesIn K C=Ĵ)(kc:W.Ċ K (.v C)=Ĵ)(CK:W.ā K (.v C) "held"=į Ĳ):∃C f0 f1 f2 mG ju fd2,CN K mg C f0 f1 f2 mG ju fd2:=by let F0:=jl (st:=j4) l0 c0 k0;let F1:=jl (st:=lJ) l1 c1 k1;let F2:=jl (st:=jC) l2 c2 k2;show%[6,C,f0|%[6,f1,f2|%[5,_,_,_|%[%[%[pg,hd,po|sa]|CK],mN X G aC,%[mk,a0,i0|kc],F0,F0.binds (ps:=["self","words"]) λ_ _ _ _ _ _ us g=>L2.e2 (λ_ _=>rfl) us g,F1,F1.binds (ps:=["self","text"]) λ_ _ _ _ _ _ us g=>L2.e2 (λ_ _=>rfl) us g,%[a1,i1|k1],F2,F2.binds (ps:=["self"]) λ_ _ _ _ _ _ us g=>L2.e1 (λ_=>rfl) us g|%[a2,i2|k2]]]]]
structure w6 (K:W.Ë)(mg:ņ->ĵ ĳ)(C f0 f1:Ķ)(mG ju:Ŕ):Prop where
 T:wC K C
 Sd:mg "Leaves"=į (.v C)
 M:Mk K C f0
 F0:iH K "__init__" "Leaves.__init__" jg f0 mG
 b0:cV K mG ["self","singles","doubles"] []
 F1:iH K "counts" "Leaves.counts" gW f1 ju
 b1:cV K ju ["self","left"] []
 m1:Meth K C "counts" f1
def abb {h:Ň}{C f0 f1:Ķ}(X:K.In h)(G:h.Ns mainGlobals mg){od0 O Z F:ĵ Ķ}{sl0 L:ŀ (ĵ ĳ)}{oc0 D B Y Mp j oc1 N M LC Mq J:ĳ}(aC:W.nsIn K mainGlobals "Leaves"=į (į<|.v C))(a0:W.ā K (.v C) "__init__"=į (į<|.v f0))(i0:W.isFn K (.v f0)=Ĵ)(l0:K.Å f0=į %[oc0,od0,.func<|W.fnOf "__init__" "Leaves.__init__" (dY jg) (cR jg) (aH jg) .Ø D B Y O Mp j|sl0])(c0:W.ĩ K Mp "Leaves.__init__"=Ĵ)(k0:W.Ċ K (.v f0)=Ĵ)(a1:W.ā K (.v C) "counts"=į (į<|.v f1))(i1:W.isFn K (.v f1)=Ĵ)(l1:K.Å f1=į %[oc1,Z,.func<|W.fnOf "counts" "Leaves.counts" (dY gW) (cR gW) (aH gW) .Ø N M LC F Mq J|L])(c1:W.ĩ K Mq "Leaves.counts"=Ĵ)(k1:W.Ċ K (.v f1)=Ĵ)(pg:W.plainGet K C Str.empty=Ĵ)(hd:W.hasDictIn K C=Ĵ)(po:W.plainOver K C=Ĵ)(sa:W.ā K (.v C) "__setattr__"=į (į<|.Ó "object.__setattr__"))(mk:W.makesIn K C=Ĵ)(kc:W.Ċ K (.v C)=Ĵ)(CK:W.ā K (.v C) "singles"=į Ĳ)(Sg:W.ā K (.v C) "doubles"=į Ĳ):∃C f0 f1 mG ju,w6 K mg C f0 f1 mG ju:=by let F0:=jl (st:=jg) l0 c0 k0;let F1:=jl (st:=gW) l1 c1 k1;show%[6,C,f0|%[5,f1,_,_|%[%[%[pg,hd,po|sa],CK|Sg],mN X G aC,%[mk,a0,i0|kc],F0,F0.binds (ps:=["self","singles","doubles"]) λ_ _ _ _ _ _ us g=>L2.e3 (λ_ _ _=>rfl) us g,F1,F1.binds (ps:=["self","left"]) λ_ _ _ _ _ _ us g=>L2.e2 (λ_ _=>rfl) us g|%[a1,i1|k1]]]]
def afr (g:mg "len"=Ĳ)(D:mg "range"=Ĳ)(J:mg "sorted"=Ĳ)(B:mg "tuple"=Ĳ)(Z:mg "list"=Ĳ)(N:mg "isinstance"=Ĳ)(yj:mg "bool"=Ĳ)(lK:mg "int"=Ĳ)(NZ:mg "str"=Ĳ)(Y:mg "all"=Ĳ)(DG:mg "any"=Ĳ)(DP:mg "set"=Ĳ)(gJ:mg "enumerate"=Ĳ)(XQ:mg "zip"=Ĳ)(Yd:mg "min"=Ĳ)(Yc:mg "max"=Ĳ)(qX:mg "sum"=Ĳ)(Ij:mg "dict"=Ĳ)(M:∃t,mg "FREE"=į (.À (S [46]) t))(JT:∃t,mg "MARKS"=į (.À (S MK) t))(Hh:∃t,mg "MOST"=į (.I 9 t))(wu:∃t,mg "LETTERS"=į (.À (S AL) t))(u_:∃t,mg "MOST_TILES"=į (.I 7 t))(Yg:aR K mg "is_whole" zB ["thing"])(abd:aR K mg "is_sign" BZ ["thing"])(Ub:aR K mg "letter_of" wL ["sign"])(Mr:aR K mg "tile_of" vW ["sign"])(abe:aR K mg "left_of" B_ ["rack","signs"])(Iz:aR K mg "turned_laying" pQ ["laying"])(Yh:aR K mg "is_block" zE ["thing"])(Yi:aR K mg "are_rows" zF ["thing"])(Uc:aR K mg "are_marks" wM ["thing"])(Sh:aR K mg "is_cell_of" uH ["rows","row","column"])(Ni:aR K mg "is_begin_of" rQ ["rows","thing"])(Yj:aR K mg "is_board" zG ["rows","marks","begin"])(Nj:aR K mg "column_text" rR ["rows","column"])(Nk:aR K mg "turned_rows" rT ["rows"])(Yk:aR K mg "cells_of" zH ["laying"])(Ud:aR K mg "is_across" wN ["laying"])(CP:aR K mg "is_next_to_taken" mV ["board","row","column"])(adi:aR K mg "formed" Fq ["board","laying"])(Yl:aR K mg "worth_of" zJ ["worths","sign"])(abf:aR K mg "cell_in" Cd ["word","place"])(Nm:aR K mg "word_points" rW ["board","worths","laying","word"])(Ym:aR K mg "bonus_of" zK ["bonus","laying"])(Ue:aR K mg "points_of" wQ ["board","worths","bonus","laying"])(IK:aR K mg "cross_letters" pR ["board","book","row","column","way"])(Ss:aR K mg "free_cells" uJ ["board"])(afs:aR K mg "hooks" Jz ["board"])(adk:aR K mg "starts" Ft ["board","word"])(Gh:aR K mg "letters_to_lay" oU ["board","row","column","word"])(Kg:aR K mg "letters_down" qJ ["board","book"])(Np:aR K mg "can_be_laid" rY ["triples","fitting","joining"])(Sv:aR K mg "sign_texts" mW ["letters","rack"])(Sw:aR K mg "layings_of" uK ["triples","rack"])(Gi:aR K mg "layings_across" oV ["board","book","rack"])(Nq:aR K mg "all_layings" rZ ["board","book","rack"])(Nr:aR K mg "left_behind" su ["rack","laying"])(Nt:aR K mg "best_laying" sH ["board","book","rack","worths","bonus","leaves"])(abg:aR K mg "is_word" Cg ["text"])(Sx:aR K mg "check_word" uM ["text"])(abh:aR K mg "_law_cell_at" Cj ["_law_script","_law_k"])(ahQ:aR K mg "_law_draw" Qk ["_law_cell","_law_j"])(abj:aR K mg "_law_letters" Ck ["_law_cell"])(ahR:aR K mg "_law_sign" Ql ["_law_cell","_law_letters_here"])(aft:aR K mg "_law_marks" JF ["_law_rows","_law_cell"])(ahS:aR K mg "_law_grid" Qm ["_law_rows","_law_laying"])(aiI:aR K mg "_law_run" Xk ["_law_grid_here","_law_row","_law_column","_law_way"])(afu:aR K mg "_law_words" JG ["_law_rows","_law_laying"])(afv:aR K mg "_law_whole" JH ["_law_found"])(adl:aR K mg "_law_worths" Fv ["_law_cell","_law_letters_here"])(afw:aR K mg "_law_count" JK ["_law_marks_here","_law_worths_here","_law_laying","_law_word"])(ahT:aR K mg "_law_told" Qn ["_law_cell","_law_letters_here","_law_by"])(Kh:aR K mg "_law_leave_counts" qL ["_law_singles","_law_doubles","_law_left_here"])(afx:aR K mg "_law_tiles" JL ["_law_cell","_law_letters_here","_law_most"])(Sy:aR K mg "_law_some_words" uO ["_law_cell","_law_letters_here"])(SJ:aR K mg "_law_small_rows" uP ["_law_cell","_law_letters_here","_law_words_here"])(ahU:aR K mg "_law_left" Qo ["_law_rack","_law_laying"])(afy:aR K mg "_law_right" JM ["_law_found","_law_due_here"])(aiJ:aR K mg "_law_due" Xl ["_law_told_here","_law_rows","_law_marks_here","_law_rack","_law_sums"]){afz afA afB afC afD afE afF:Ķ}{adn ado adp adq adt adu:Ŕ}(O:zY K mg afz afA afB afC afD afE afF adn ado adp adq adt adu){ahV ahW ahX ahY:Ķ}{afG afH afI:Ŕ}(j:CN K mg ahV ahW ahX ahY afG afH afI){adv adw adx:Ķ}{abk abl:Ŕ}(G:w6 K mg adv adw adx abk abl){gl gw c T:Ķ}(kl:mg "LETTER_MARKS"=į (.v gl)/\∀P:ń,KDict P w K gl VH)(kw:mg "WORD_MARKS"=į (.v gw)/\∀P:ń,KDict P w K gw VJ)(kr:xX K mg "ranked" uL ["board","book","rack","worths","bonus","leaves"] c/\W.tabIn K "ranked"=į (c,T))(LM:zy mg base c T){f:Ķ}{fd:Ŕ}(F:iH K "law" "law" NT f fd):dJ P w K mg base fP 20 f fd ["_law_script"] (RZ K T):=by let c1:=Xn (P:=P) (w:=w) (base:=base) abh g;let L:=ae8 (P:=P) (w:=w) (base:=base) ahQ;let c3:=X6 (P:=P) (w:=w) (base:=base) abj D;let c4:=aa1 afx g D L;let c5:=afa ahT g L;let c6:=aiF (P:=P) (w:=w) (base:=base) Kh g D;let c7:=RW (P:=P) (w:=w) (base:=base) afv lK yj N;let c8:=aaT adl g D L;let c9:=Nb Sy g D L;let ca:=afb (P:=P) (w:=w) (base:=base) ahR g;let cb:=Nf SJ g D B L ca;let cc:=RG aft g D B L;let cd:=T_ (P:=P) (w:=w) (base:=base) ahU Z J;let ce:=ac4 (P:=P) (w:=w) (base:=base) afw g lK D;let cf:=ae5 (P:=P) (w:=w) (base:=base) ahS Z;let cg:=X3 (P:=P) (w:=w) (base:=base) aiI g;let ch:=Rg afu g lK B cf cg;let p1:=Xm (P:=P) (w:=w) (base:=base) abd g NZ N;let p2:=TF (P:=P) (w:=w) (base:=base) Yg lK yj N;let p3:=TJ (P:=P) (w:=w) (base:=base) Yh g B NZ Y N Hh;let p4:=TQ Yi Y M p3 p1;let p5:=Qw Uc Y JT p3;let p6:=MP Sh g p2;let p7:=JV Ni g B N p6;let p8:=TV Yj g p4 p5 p7;let p9:=JW (P:=P) (w:=w) (base:=base) Nj;let pA:=JX Nk g D B p9;let g0:=M5 O.F0 O.T p8;let g1:=aiD O.F1 O.T M p6;let g2:=Xu (P:=P) (w:=w) (base:=base) O.F2 O.T Y M;let g3:=ag3 O.F3 O.T g M p9;let g4:=aau O.F4 O.T O.Sd O.M g0 O.b0 pA;let g5:=aeU O.F5 O.T Z B O.Sd O.M g0 O.b0;let w1:=Xo (P:=P) (w:=w) (base:=base) abg g Y;let w2:=MN Sx w1;let k0:=aeR j.F0 j.T w2;let k1:=ag1 (P:=P) (w:=w) (mg:=mg) (base:=base) j.F1 j.T;let k2:=acJ (P:=P) (w:=w) (base:=base) j.F2 j.T J B;let x4:=FJ IK g wu O.T j.T O.m5 g5 O.b5 O.m3 g3 O.b3 j.m1 k1 j.b1;let y1:=XF CP DG M O.T O.m1 g1 O.b1;let y2:=M6 (P:=P) (w:=w) (base:=base) Ss gJ M O.T;let y3:=acP afs B O.T O.m2 g2 O.b2 y2 y1;let y4:=FP (P:=P) (w:=w) (base:=base) Iz B J;let z1:=TY (P:=P) (w:=w) (base:=base) Yk;let z2:=QM (P:=P) (w:=w) (base:=base) Ub;let z3:=aaD (P:=P) (w:=w) (base:=base) adk g D O.T;let z4:=DW Gh g gJ M O.T O.m1 g1 O.b1 z2;let z5:=Hz Kg y2 x4;let z6:=J0 Np g Y DG u_ z1;let z7:=M7 (P:=P) (w:=w) (base:=base) Sv Mr;let z8:=M8 Sw B XQ z1 z7;let z9:=DX Gi j.T j.m2 k2 j.b2 z5 y3 z3 z4 z6 z8;let za:=J7 Nq DP J B O.T O.m4 g4 O.b4 z9 y4;let x5:=Rh (P:=P) (w:=w) (base:=base) Ud Y;let x6:=aaO adi g B O.T O.m5 g5 O.b5 O.m3 g3 O.b3 x5;let x7:=T8 (P:=P) (w:=w) (base:=base) Yl;let x8:=X4 (P:=P) (w:=w) (base:=base) abf;let x9:=aaQ Nm gJ O.T kl.1 kw.1 (kl.2 P) (kw.2 P) z1 x8 x7;let xA:=T9 (P:=P) (w:=w) (base:=base) Ym g;let xB:=Rt Ue qX x6 x9 xA;let xC:=X8 (P:=P) (w:=w) (base:=base) Mr;let xD:=X_ abe Z J xC;let xE:=Kc Nr xD;let l0:=ac6 (P:=P) (w:=w) (base:=base) G.F0 G.T Ij;let l1:=aa0 (P:=P) (w:=w) (base:=base) G.F1 G.T J DP qX;let r1:=aa4 kr.1 LM B J za xB xE G.T G.m1 l1 G.b1;let r2:=afg Nt r1;let r3:=ada afy g B Z N c7;let r4:=ahB aiJ g qX ch ce c6 cd;show(ahF F g D Yc Yd lK O.Sd O.M g0 O.b0 j.Sd j.M k0 j.b0 G.Sd G.M l0 G.b0 c1 L c3 c9 cb cc c4 c8 c5 r4 r3 za r1 r2).Ô zt
end
end My
namespace PySem.W.Fast
abbrev U:=True
local macro_rules|`(universe $x*)=>do return Lean.mkNullNode (<-x.mapM λi=>`(def $(Lean.mkIdent (.mkSimple s!"tw{i.getId.toString.foldl (λn c=>n*52+(c.Ü-if c.Ü<91 then 65 else 71)) 0}")):ident := U))
universe HxkKrRTurxD UCbbQObwBrv BvkjIFqLeCjg ziGlxxWuWSi CCDqEgmIeekm HIgNmfIGcfG BKTepVNoXzMm xqLzCaZRWDy BeonVFtRglXi hnPukyJlHsh tWJtjmtJEHy BefUbdGpCZEQ rCoFzhnbYIq CUgyhBbYRKYT BOCNzPFknyBM lHolwfNIvNj BlNUkJKUhitB QLrUbgOWMqg BRWrTbQtyuou QDesnUpchTa CJrUFqadhevB BrpazyQPiyzX JBALjrGmKYK OIqoWkDqQjl CKFUVFYWMins COXcIPxTHSxX BBKePpCEcCsZ BBcngWRGEAkr HYxMywDjucW CIUUxumXzUdR BdCPAqWtNQAc rcDKpPWsfRG BHdvHnxcJRNe CPEvmDygpNJf YpqeMaqqzYh gCXixWpLSqk BglEbqVPVxQp VaMeZwMdNRX BjQPgHAQwxVC BukmtOYBjTAb CLjfpefTmnbo BTkrSplKhiRS BcvdhnLjKbum BpnevKQGrxJT WdRcmkyeNeH BuwqfnZTCrdT BhHEEqUTaAFn HSfBAbqorfA CQfEsRLIABqW BcpGGkIybyX BMkhRePOKNAV BsrHneoKztKj YYlndKukMNR CGwVdWJzhQPD uDondiMGZEv ytbAYUjXEru ahKFXBloPRT CXKmhPBnsBrV CNcgHlHFJJO flOoCFPuyvj LXXnwGVrzTi ujfWREXiBYx VmMTztVYLNV BLADZbTgrljH BUOdGxBvplpw CMEOpbvpPZcG CKnjveQVgart hetEjtVxwPq BpGRDKpzyONe McKGFohcmuY CJRGpyWHpGkD BaJnNwfgUShQ CLEQrqyAFTlU FZrISoEZtAL BLUTPAADOjG CAhVmVrbwjFi KwwfvuNjVTU BOxykfkFfoqW CMhKxzwcHicp BXLxOfDmPHcj CCnHtFuAnzSE CIJuUFerrzFL RVoDTaCjhHm IWmsmWHuOTW PtTXKRkBUrR BvIYqGDGACMX CCOOtxHsTUgC IyKYvxEVyiD CHlXehtAjZLB BosxQsFJzzsB jRcWXzIwQOv BFSEUqdzoPOn CRmDJycIVMnp qEyUfISmclE uiBsQQfHejs CGbTgXeXqse CRBHkHfQjLzG BuJNCkwRJppd BtCTSBqwZDAo CWBdgUXFhDxD BlkBnpWSbDcF PXvNajTssKi BXAzhQzHqelm BvwStSBpRiPo BemjLEPGyVnQ SGRvXsotkwD LYcxzPcaqPK BWbwlcbpKUZf NiMwTdSvBFe VFqrAVJAKXJ pTmmTtaHXAd MJDzTbKIXrv HvVtYIMUOua BpzLkmvJiyct ZasRjIqREgy BFAoUJyCNjez CMpBgXgLunxC CUnjtgGLhEbu BwOVNAQfqYpR YIMNQrbmmAw xRAgbdHBTXC wWtSqMJvYtD PhvvHGsNRTA hvxByUWOPGe BswAqXlrVUGz BPMFyYOkWulj QXbHnxXZZOA BDcEpeTHUWsk BaZQcklcBfyw BRSdDKyTiXEG CUBfJXVcIzLR BOGKpVeXBBFS CRhRlZTwjDyN wDLUvettdbz JXJXDkoTfkR SIDohAmFLKo kqLjwJmdieI CWcuegXBxbdZ jDGFDOXMrKR zFCAnqDUIcc BgreNdADxXdN MPfupMBzWla COLDhnuEDQH CIXDbkCKdIWl tRzcgDGAsYE BYEftVLOEYdX MofJZdJqQxV QPSyxjUfTOu CKlYXSJqjIFB gVIzNnAPFOz zxmrfKnKfNz BnVVGjkDltUY BLTyMqgVwYUt rqYoieFMIbW hJzEjyMtbTR BnGZPWyRfJjw GJPcbjjfiHt BJwIIyCgiLxD BoNTpNmJnqED CIZXrXwGDNYf WDbhZCGWgMd wronKjwrOum bqwpyWMpmHw BQnXKTLCviqB CMFcAnZOGuPe CIdrAAUvIcCV BuENIofDjIzP BqZZQloLWuaW BQGyxAKyFJLB BQBfjeukXTXZ qMYqPDVCJxa BQgjrwOUoAVX BPlszVcuJXUz mrGChsogPDU BBuitxwLxuga LNGeOrqWwUJ IhqvDarzTKH BZcNsxaXoOQm iGyPClpPOEv qHzSRCDWSXl ixdualwXfaw BDFOHJGnCYGM BdzDJWCukdDS CHalcPwjiTYL jIIpXEBKsoW BxPtCpUxwDPv BsfpdYVwnbLe KzVBLMBwtyJ EdgEMlDbnPu XnrQEssgBQi BULIDrHsWbhB BWWppumidAvU yTpmAnuZSJD BYdltdtZMvme NGgjMkThaaj BmTqRaMokySn BrSgyKSfjuFn bbMMEYvUoBb pSjXRWeVXBC ByNlEanNesyq zkvSLVDenOv ttELPsftArS ffxAsAOdBGu BbZACDdtGJlU BZjMGTMeVcYC BNoGwyYRwIvY CVnXiUtGHSEP MURXgiDbAZK WsasYfRfhce kCaEdUsPJxq BqOzlYLXZAHx xUiSAeqiyDU BDVbCWAsUJcs BdTCTFzvqNoU CIsaINshPWhz BZfvlpOtptKO HuHdeBTVCQ BXNJMhFjFaLy BUYbwkrRTSZG BdhQReNaYMkA BkoJyAJSWwAm rgmYJILkvQP vJuhzGpxVBl CTnlmZGGePxY BngICzVmGkDr BXNEwrNsjrod vZrIYLiPkFD CEmVRMDwALBL CWYpmCjJbspm BXDbXMsXNLOc BDzYfblzfczw XKtIqOMNRJq COsovryaMbFK BJXtOEKmyvzC BhHZMlGQeSgk BuryfsPJvzYh CHLcbakIAKQP CVaJmUwTxOwk CDpKINkaYzvP BTKOquVmUVST CXWUwPIyennN mQCGZmsPlVO xALIJTjZSer TulKGqtJGXG DddKIuoyKGl BrGRgyTLUOpT BBPDLgExHOcd CXYcBhBUHIRI tDeWaDNIdcJ BxblqJPbscyl CGckDcvyyGAX BdwtzFYtnFig BryuSEPFuwRt oezfxpxmGIs BDkdmZyjYjqF zqkPVMkhdVH CKUlGlzgOIda IcruGmfovHq BXQtFCPTgqpE COdoyRuLKdKa BxSFGzqVJVqD ckAvPXFAsCy BwTeNZaTVUVz CNHLlQBoNVTT BYuwSOpMtxv BlAKNZlzgdog mGYIVphhRGB CEUqSDuiqoG BAnZjJQlxtwn BXuWnxWDpWqS kTfoxGuBxUY tzcETURKzHJ BQLsPInIyBfx FIzRuZurPWr BleUqlvsPZNk BJJeIIFjFyki uzctOWNlfvM HVXsXVbwjHJ sdzufzKzYyH YKFbdkNjBrn rRrNxdnHnPh BhLDEYDowrHp BknUyyAoKhME CENeFjbLePQn vuyDyxEpAyU BtCMfjMMDofS MKnMdBCXULP CMIKztAYeFhQ BbIFsOZCHFwb SpkeBOXFkhp BWsjdWmUfFHB CLtDXSYdRngd puWWFDHzPOI ORlHIOLVJkK DXMTHIVKhVP CVQRDMuMnkTT CXWKbDerXNsw FVQlxOxCCmU BBhJCoIAKEMX BylGIMynVCAd BEfZyYZKeqmo hHRjkvsVuiy BKMuzCiVItlz ybCLkdIosRT BbZiaeKLqzVr jldLnUegQA CKYqLcETEgeG BYktjsKeWRIm hCNRChRBwhk nHggBxAPbTv BjGPfVxZgCBw CCmjXjMGXcES BIKfkHYFXzs ZpFhCAUFcYB tGSYzDslbis CKRHmXTPkiHy CHgdbrlKnLMY BLYsxnMUJZUE yToqFPjYnr qiSqiAsWaJi lSYdjWleLau OpeSxEUIQZZ xbgnyyahEms dAaHDszFPIh YOakJlfDxHB BOhnJhKsEkyG BoOXqughUxKy FovvPDFNmOa BudEppNRoJKP aclbFwoVieb KhSLnSKpDPM zLYFphwRUfa VCBbSAeAQjp BnJdDOAdOakb bPBdPOGVfjL JDPmaqayKGo uySukGbugKx zGebnmbYrUj OtKrpjGHsmC CFbYFQtVbPeP CRaBBeHUmGhF hHxbZeGNhOx BnqVKimVmSQA BmnaPQhZhHXq CEJiLmAHIgwQ BTtAkJINAonS ePwriEseBwY eGfBFyiwNRv CLLGrEqYSRuS MlmtYWJWExE BvTMCxHUpGwv wEQmdOByjyw BVaInPgLYghn FMlFPySFBJb xVZBRLdhybc CVfzoRonPCtN CBqmWzoCZznK BvlQUtuBwvIP cTQYSXZOucd vARQbPRCbUw CWEaBMeEDmHV osgFYXyNDTJ CXQGXldxGVcF BsHsSgLMrGqR bRWrWzyanSP BAKIKscALEpn BVUSCOXkruqt BFlPzVZzEDMR BAEffwYRCRcL BfgLNSnatSJP CLrZcjBqHYGy CFDrKpFElsHH CGHAemQHUMZh BIWfpwCTaqLC BxgWrwPbgnZF ByTrWuFtCZnH BDZzgsIqtdsT BAIedEplHybU BySCxcOBPcjL NTHIwWxHgPS BRXvrNSbmLWQ CFpDJvbFlxdU CBZeZFQuFcHS CbunEQRwvvD BQgggBMERukI EeKnJuejQVL LJNNZufUCwh BoHPIHwSZtJO XJdJKsgRMuJ NQKJbwukEDG BEnCqPPRmpSX mzljEGUQoEe BrzctJolvdkB usKwDhwAOiz BHswGRfxzlfS shvbNORrYQZ CNHTVpeNbDmQ BEGdBkafGVGv CQqQgOlLbfep CChHAroRHIjq CLIrkWoIkYvf JkpJWrlVVR BVCUlUOWIvDH FMrlHCWmvfv BTudULlxXrbl LcPuZDuoCGf BzqkJDEfvkYt uFRpbNaVdJX BjXbyzdXncQZ ySEGJjYiqQl jjMJcKcDLqR uXCtOsTgoaj BoDySnOPLfYz sNnnSNYKiQU edmVzPEuITM PwcgusZkCDv BjuLAnENgOFQ BEimKUhnWmVC BmnPrwUrNSBo YyflnXAsPuj BPYLVumjDkYB BzwLuIRfENbj BxxGFumoxUyu BveKdCNbSHEv BFXlADYAzPzX BeojxeRIKIBN CQUejbwdMwEH ZwHauETftUk vQaBlilEqHg CQAeJHzqnJNS BOsOBdaCPYop BOefEeozcarD BfoFaCqgcfFG iGYMhvvaIGj BoSozOsrKLhG CRprFKXVXMbf BeArUhSRpvlT wZUcAIfdbQI hGLnfOBDPiu nAMisNKdoJt gJmlWPeWCEe ueigMsDqYZg GKKzYKDlobT BfJfOjIJoVbC BuqJgXUEvudx BooWjDKajUcg BiedwhOWLjrT CQtQofjFAjN syuKekZIKOY CDuTrTCasgfJ zEjuflhojAp xqnHENvZTAX BfmlcUlEmMBw BgxQBaFBiNDS CIqcuiSqmknY YMOWTUsLWnh JNURcnMtrCO BIxeddyUTElM BXvAZzToAKee hyrIlOfdHgW BPfwEDCckbEw IIqBOlPOhdp wgNoedNQhBX BuuDDjTWwpZA CBHVfjHCenyw CRaADooJBoRm JDGdXKifsae BlRDZuuwhjFx ZVblMHKmIfA BiGLMCGjDUV CHorEqKfQrPf BxYllMpcPjWl BIrEiUtfHJdp BMHVLOcqotEm BOikISkFdRuq PGStXTfrbrP BYvRVpmeFeRg kXUhAeMokkg BEniuiuUQodD OcDuglyUNVG JIpqzQzNmuR RPaAffMWCQy CLZLsPoYEosi HwHdUamRrsG CUwqfZUGKpVJ mdhvKuOLkIh ByfzVNJfPiKS BgHbjvumekJn CQyYtZByMVXU BrWjcmsZcbgU CRzdvzrsLrZN CSbtNHRiwQOy BElyAucIyfkc ZgEVuHPvowX CCTPaqiLcdhD BwWdEzpSOjwe JlXwqeuWeKa OeqRmqLRqro EAgwmttFJTr CGFtvaVQGscI BDzrqTBPqir BmxAtsEzejoM BSmiFrdjtkZE uVZwRiaDbQV CVMDzplZyHbt FaaYGFqfVYG jsDYnqhPeqq CEgLWnNUzzcX KOkrPLMbhdX BsImigKwxPJK BrFXcBWMIztA BGYuogrYAAbe HJOVHcBbpUI PgbiuxHbloi CEngZNyIMHMh fwRkrLpYGTW BgIQjIOaNEnt SDMItrPUlLS uwMZIyDbJNt BkHqBZvGUTkt zSFuFAKADer hIWkOqZrEvI mhcowwVeVbs CHMZCFpmKpoN CFWtjHCDTXjU BnKUmQAjFpwq PPYlXVnNpCL iznLbwWTAYt CASncLsLvnAH BHhgTEYJDbGR CTtTKZJFJQxJ BIcIsZjKuaMR CUilVTkOEEOY WxjwtDxvUsL BoRkLfQCkMJP BFOZfmuEMQRE CBklScOLMseq LJmhPldFCOZ USXsJatKBqM TrXpXmBrTAn CHZUFsfdRWib CQxouyIVhZZG ypiJMeUNhwO FMBDzYrhCNq
end PySem.W.Fast
open PySem PySem.W PyProof.Rows
def L2.dK {K:W.Ë}{h:Ň}{mg:ņ->ĵ ĳ}{name:ņ}{st:Ŋ}{ps:İ ņ}{f:Ķ}{oc:ĳ}{od an:ĵ Ķ}{osl:ŀ (ĵ ĳ)}{kV doc pm bF ct:ĳ}(X:K.In h)(G:h.Ns mainGlobals mg)(a:ŵ (W.nsIn K mainGlobals name=į (į<|.v f)) ź)(l:ŵ (K.Å f=į %[oc,od,.func<|W.fnOf name name (L2.dY st) (L2.cR st) (L2.aH st) .Ø kV doc pm an bF ct|osl]) ź)(c:ŵ (W.ĩ K bF name=Ĵ) ź)(k:ŵ (W.Ċ K (.v f)=Ĵ) ź)(j:∀(kV doc pm:ĳ) (an:ĵ Ķ) (bF ct:ĳ) (us:İ ĳ),us.n=ps.n->bindArgs (W.fnOf name name (L2.dY st) (L2.cR st) (L2.aH st) .Ø kV doc pm an bF ct) %[us|[]]=pure (ps.Ĩ us):=by intro _ _ _ _ _ _ us g;first|show(L2.e1 (λ_=>rfl) us g)|show(L2.e2 (λ_ _=>rfl) us g)|show(L2.e3 (λ_ _ _=>rfl) us g)|show(L2.e4 (λ_ _ _ _=>rfl) us g)|show(L2.e5 (λ_ _ _ _ _=>rfl) us g)|show(L2.e6 (λ_ _ _ _ _ _=>rfl) us g)):L2.aR (L2.KOf X) mg name st ps:=L2.abI X G a l c k j
def L2.nK {K:W.Ë}{h:Ň}{mg:ņ->ĵ ĳ}{x:ņ}(X:K.In h)(G:h.Ns mainGlobals mg)(z:ŵ (W.nsIn K mainGlobals x=į Ĳ) ź):mg x=Ĳ:=W.mg_none_of X G z
def L2.gS {K:W.Ë}{h:Ň}{mg:ņ->ĵ ĳ}{x:ņ}{l:İ ı}{t:Tok}(X:K.In h)(G:h.Ns mainGlobals mg)(z:ŵ (W.nsIn K mainGlobals x=į (į<|.À (L2.S l) t)) ź):∃t,mg x=į (.À (L2.S l) t):=L2.abN X G z
def L2.gI {K:W.Ë}{h:Ň}{mg:ņ->ĵ ĳ}{x:ņ}{i:ĸ}{t:Tok}(X:K.In h)(G:h.Ns mainGlobals mg)(z:ŵ (W.nsIn K mainGlobals x=į (į<|.I i t)) ź):∃t,mg x=į (.I i t):=L2.abO X G z
set_option maxRecDepth 100000 in
set_option maxHeartbeats 0 in
theorem PySem.Challenge.cw_letterrack_k53_ranked_holds : PySem.Challenge.rw_letterrack_k53_ranked.Holds := by
 w_on;o_law;k_head;(case hw=>w_witness2)
 k_fill
 refine L2.acE (x:="_law_script") (y:="ranked") (l:=PySem.Challenge.rw_letterrack_k53_ranked) (sp:=My.RZ) rfl rfl rfl (λw h Y=>W.km_in_of Y) ?F ?S
 case F=>
  intro w mg fa h KX G hmg;have abm:∃C f0 f1 f2 f3 f4 f5 mG ju fd2 Ek V9 V_,My.zY (L2.KOf KX) mg C f0 f1 f2 f3 f4 f5 mG ju fd2 Ek V9 V_:=by
   dsimp only[L2.KOf];refine' My.adh KX G ?aC ?a0 ?i0 ?l0 ?c0 ?k0 ?a1 ?i1 ?l1 ?c1 ?k1 ?a2 ?i2 ?l2 ?c2 ?k2 ?a3 ?i3 ?l3 ?c3 ?k3 ?a4 ?i4 ?l4 ?c4 ?k4 ?a5 ?i5 ?l5 ?c5 ?k5 ?pg ?hd ?po ?sa ?mk ?kc ?CK ?Sg ?nf2
   case aC|a0|i0|l0|c0|k0|a1|i1|l1|c1|k1|a2|i2|l2|c2|k2|a3|i3|l3|c3|k3|a4|i4|l4|c4|k4|a5|i5|l5|c5|k5|pg|hd|po|sa|mk|kc|CK|Sg|nf2=>k_is
  obtain⟨_,_,_,_,_,_,_,_,_,_,_,_,_,ady⟩:=abm;have adz:∃C f0 f1 f2 mG ju fd2,My.CN (L2.KOf KX) mg C f0 f1 f2 mG ju fd2:=by
   dsimp only[L2.KOf];refine' My.afq KX G ?aC ?a0 ?i0 ?l0 ?c0 ?k0 ?a1 ?i1 ?l1 ?c1 ?k1 ?a2 ?i2 ?l2 ?c2 ?k2 ?pg ?hd ?po ?sa ?mk ?kc ?CK
   case aC|a0|i0|l0|c0|k0|a1|i1|l1|c1|k1|a2|i2|l2|c2|k2|pg|hd|po|sa|mk|kc|CK=>k_is
  obtain⟨_,_,_,_,_,_,_,afJ⟩:=adz;have Yn:∃C f0 f1 mG ju,My.w6 (L2.KOf KX) mg C f0 f1 mG ju:=by
   dsimp only[L2.KOf];refine' My.abb KX G ?aC ?a0 ?i0 ?l0 ?c0 ?k0 ?a1 ?i1 ?l1 ?c1 ?k1 ?pg ?hd ?po ?sa ?mk ?kc ?CK ?Sg
   case aC|a0|i0|l0|c0|k0|a1|i1|l1|c1|k1|pg|hd|po|sa|mk|kc|CK|Sg=>k_is
  obtain⟨_,_,_,_,_,abn⟩:=Yn;have xkl:∃a,mg "LETTER_MARKS"=some (.ref a)/\∀P:Program,L2.KDict P w (L2.KOf KX) a My.VH:=by
   try dsimp only[L2.KOf]
   refine' My.aa_ KX G ?b ?l ?z ?n
   case b|l=>k_is
   (case z=>rfl)
   (case n=>decide)
  obtain⟨_,kl⟩:=xkl;have xkw:∃a,mg "WORD_MARKS"=some (.ref a)/\∀P:Program,L2.KDict P w (L2.KOf KX) a My.VJ:=by
   try dsimp only[L2.KOf]
   refine' My.aa_ KX G ?b ?l ?z ?n
   case b|l=>k_is
   (case z=>rfl)
   (case n=>decide)
  obtain⟨_,kw⟩:=xkw;have xkr:∃c T,L2.xX (L2.KOf KX) mg "ranked" My.uL ["board","book","rack","worths","bonus","leaves"] c/\W.tabIn (L2.KOf KX) "ranked"=some (c,T):=by
   try dsimp only[L2.KOf]
   refine' L2.aai KX G ?a ?l ?e ?k ?lc ?hv ?b
   case a|l|e|k|lc=>k_is
   (case hv=>rfl)
   (case b=>(exact λ_ _ _ _ _ _ us hl=>L2.e6 (λ_ _ _ _ _ _=>rfl) us hl))
  obtain⟨_,_,kr⟩:=xkr;have lw:∃fd:FuncData,L2.iH (L2.KOf KX) "law" "law" My.NT fa fd/\∀(s:Shared) (v:Value),BindsTo s fd ⟨[v],[]⟩ [("_law_script",v)]:=by
   dsimp only[L2.KOf];refine' L2.agi KX G hmg ?a ?l ?c ?k ?b
   case a|l|c|k=>k_is
   (case b=>exact λ_ _ _ _ _ _ _=>rfl)
  obtain⟨fd,F,hb⟩:=lw;exact⟨fd,_,_,kr.2,(by(try dsimp only[L2.KOf]);kernel_rfl),hb,λbase _ _ LM=>My.afr (L2.nK KX G) (L2.nK KX G) (L2.nK KX G) (L2.nK KX G) (L2.nK KX G) (L2.nK KX G) (L2.nK KX G) (L2.nK KX G) (L2.nK KX G) (L2.nK KX G) (L2.nK KX G) (L2.nK KX G) (L2.nK KX G) (L2.nK KX G) (L2.nK KX G) (L2.nK KX G) (L2.nK KX G) (L2.nK KX G) (L2.gS KX G) (L2.gS KX G) (L2.gI KX G) (L2.gS KX G) (L2.gI KX G) (L2.dK KX G) (L2.dK KX G) (L2.dK KX G) (L2.dK KX G) (L2.dK KX G) (L2.dK KX G) (L2.dK KX G) (L2.dK KX G) (L2.dK KX G) (L2.dK KX G) (L2.dK KX G) (L2.dK KX G) (L2.dK KX G) (L2.dK KX G) (L2.dK KX G) (L2.dK KX G) (L2.dK KX G) (L2.dK KX G) (L2.dK KX G) (L2.dK KX G) (L2.dK KX G) (L2.dK KX G) (L2.dK KX G) (L2.dK KX G) (L2.dK KX G) (L2.dK KX G) (L2.dK KX G) (L2.dK KX G) (L2.dK KX G) (L2.dK KX G) (L2.dK KX G) (L2.dK KX G) (L2.dK KX G) (L2.dK KX G) (L2.dK KX G) (L2.dK KX G) (L2.dK KX G) (L2.dK KX G) (L2.dK KX G) (L2.dK KX G) (L2.dK KX G) (L2.dK KX G) (L2.dK KX G) (L2.dK KX G) (L2.dK KX G) (L2.dK KX G) (L2.dK KX G) (L2.dK KX G) (L2.dK KX G) (L2.dK KX G) (L2.dK KX G) (L2.dK KX G) (L2.dK KX G) (L2.dK KX G) (L2.dK KX G) (L2.dK KX G) (L2.dK KX G) ady afJ abn kl kw kr LM F⟩
 case S=>exact λK T H a ns hl hS hT=>⟨a,ns,rfl,hS,hl,.inl hT,λ_=>rfl⟩
